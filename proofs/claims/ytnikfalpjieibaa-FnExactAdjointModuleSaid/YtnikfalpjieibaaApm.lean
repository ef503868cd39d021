/-
  Lists of matrices: append as a step of a region.
-/
import Derived.Test.YtnikfalpjieibaaApl
namespace Go.Proofs.Ytnikfalpjieibaa
open Go.ChangeShapes Go.WideShapes Go.ChangeAt Go.RowKit
set_option linter.unusedVariables false
set_option linter.unusedSimpArgs false

/-- append of one matrix, as a step of a region. -/
theorem step_appendMatS {ops : Array Oper} {o : Oper} {a : Act} {w : World} {K : Act → World → Prop} {Q : Exit → Act → World → Prop} {E : Prop} (hgd : o.guard = none) (s x : Operand)
    (ho : o.op = .call { callee := .builtin .append, args := #[s, x], argTypes := #[31, 31] }) {base hi : Nat} {P : Int} {D k : Nat} {sq : Nat → Nat × List Int}
    (v : Value) (hs : a.eval s = v) (hown : MatS w base hi v P D sq k) (g c0 c b0 : Nat) (hx : a.eval x = .slice (some ⟨g, 0, none⟩) 1 c)
    (x0 : w.cell? ⟨g, 0, none⟩ = some (.int .i64 P)) (x1 : w.cell? ⟨g, 1, none⟩ = some (.int .i64 ((sq k).1 : Nat))) (x2 : w.cell? ⟨g, 2, none⟩ = some (.int .i64 D)) (x3 : w.cell? ⟨g, 3, none⟩ = some (.slice (some ⟨b0, 0, none⟩) ((sq k).1 * D) c0))
    (hrow : Own w base w.heap.size (some ⟨b0, 0, none⟩) ((sq k).1 * D) (sq k).2) (hh : hi ≤ b0) (hb : k + 1 ≤ 1048577) (hbase : base ≤ w.heap.size)
    (h : ∀ v' w', MatS w' base w.heap.size v' P D sq (k + 1) → w.grownBy w' v.ownBlock → K (a.put o.dst v') w') :
    if Region.wanted o (yielded ops a.tmps) = true then Oper.wp Try.prog o a w K Q else E := by
  obtain ⟨i0, hi0, hz0, hz1, hz2⟩ := info_parts Try.infoMat
  have hw : Region.wanted o (yielded ops a.tmps) = true := by simp [Region.wanted, hgd]
  rw [if_pos hw]
  have hb0 : b0 < w.heap.size := (hrow.blk b0 rfl).2
  obtain ⟨vs, B, h1, h2, h3, h4⟩ := hown
  refine wp_append_own w s x 31 ho base 37 i0 (.agg #[.int .i64 0, .int .i64 0, .int .i64 0, .slice none 0 0]) 4 48 Try.underlying31 hi0 hz0 hz1 hz2 rfl (by decide) v k vs hs h1 ⟨g, 0, none⟩ 1 c [.int .i64 P, .int .i64 ((sq k).1 : Nat), .int .i64 D, .slice (some ⟨b0, 0, none⟩) ((sq k).1 * D) c0] hx rfl (fun j u hu => ?_) (fun u hu => by simp at hu; rcases hu with rfl | rfl | rfl | rfl <;> rfl) (by unfold maxLen; omega) (by omega) hbase (fun v' w' g1 g2 _ => h v' w' ?_ g2)
  · have hj : j < 4 := by have := (List.getElem?_eq_some_iff.1 hu).1; simpa using this
    rcases (show j = 0 ∨ j = 1 ∨ j = 2 ∨ j = 3 by omega) with rfl | rfl | rfl | rfl
    · rw [show (⟨g, 0, none⟩ : Addr).add 0 = ⟨g, 0, none⟩ from rfl, x0]; exact hu
    · rw [show (⟨g, 0, none⟩ : Addr).add 1 = ⟨g, 1, none⟩ from rfl, x1]; exact hu
    · rw [show (⟨g, 0, none⟩ : Addr).add 2 = ⟨g, 2, none⟩ from rfl, x2]; exact hu
    · rw [show (⟨g, 0, none⟩ : Addr).add 3 = ⟨g, 3, none⟩ from rfl, x3]; exact hu
  · have hty : ∀ z, v.ownBlock = some z → ∃ cur y, w.heap[z]? = some (.cells cur 37 y) := by
      intro z hz
      rcases h1.2 with ⟨e1, _⟩ | ⟨g, cap, cur, e1, _, hg, _⟩
      · subst e1; simp [Value.ownBlock] at hz
      · subst e1
        simp [Value.ownBlock] at hz
        subst hz
        exact ⟨cur, _, hg⟩
    have hbl : ∀ i, i < k → B i < hi := fun i hi => by obtain ⟨c, x0, x1, x2, x3, h6⟩ := h3 i hi; exact (h6.blk (B i) rfl).2
    refine ⟨vs ++ [.int .i64 P, .int .i64 ((sq k).1 : Nat), .int .i64 D, .slice (some ⟨b0, 0, none⟩) ((sq k).1 * D) c0], fun i => if i = k then b0 else B i, g1, by simp [h2]; omega, fun i hi => ?_, fun i j hij hj => ?_⟩
    · by_cases e : i < k
      · obtain ⟨c', y0, y1, y2, y3, h6⟩ := h3 i e
        refine ⟨c', by rw [List.getElem?_append_left (by omega)]; exact y0, by rw [List.getElem?_append_left (by omega)]; exact y1, by rw [List.getElem?_append_left (by omega)]; exact y2, ?_, ?_⟩
        · rw [List.getElem?_append_left (by omega)]; simp only [if_neg (show ¬ i = k by omega)]; exact y3
        · simp only [if_neg (show ¬ i = k by omega)]; exact (own_otherM h6 g2 hty).mono (Nat.le_refl _) (by omega)
      · obtain rfl : i = k := by omega
        refine ⟨c0, ?_, ?_, ?_, ?_, ?_⟩
        · rw [List.getElem?_append_right (by omega)]; simp [h2]
        · rw [List.getElem?_append_right (by omega)]; simp [h2]
        · rw [List.getElem?_append_right (by omega)]; simp [h2]
        · rw [List.getElem?_append_right (by omega)]; simp [h2]
        · simp only [if_true]; exact own_otherM hrow g2 hty
    · by_cases e : j = k
      · subst e
        simp only [if_neg (show ¬ i = j by omega), if_true]
        have := hbl i hij; omega
      · simp only [if_neg e, if_neg (show ¬ i = k by omega)]
        exact h4 i j hij (by omega)
end Go.Proofs.Ytnikfalpjieibaa
