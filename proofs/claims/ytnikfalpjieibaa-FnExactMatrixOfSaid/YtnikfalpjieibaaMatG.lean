/-
  Slices of square matrices of one size: what they hold, append.
-/
import Derived.Test.YtnikfalpjieibaaBr
namespace Go.Proofs.Ytnikfalpjieibaa
open Go.ChangeShapes Go.WideShapes Go.ChangeAt Go.RowKit
set_option linter.unusedVariables false
set_option linter.unusedSimpArgs false


theorem Try.infoMat : (Try.prog.info? 37).map (fun i => (i.zero, i.size, i.bytes)) = some (some (.agg #[.int .i64 0, .int .i64 0, .int .i64 0, .slice none 0 0]), 4, 48) := by kernel_rfl
/-- A slice of the call's own of k square matrices with the numbers f i. -/
def MatG (w : World) (base : Nat) (v : Value) (P : Int) (D : Nat) (f : Nat → List Int) (k : Nat) : Prop := ∃ vs, w.ownsRow base 37 4 v k vs ∧ vs.length = k * 4 ∧
  ∀ i, i < k → ∃ a c, vs[i * 4]? = some (.int .i64 P) ∧ vs[i * 4 + 1]? = some (.int .i64 D) ∧ vs[i * 4 + 2]? = some (.int .i64 D) ∧ vs[i * 4 + 3]? = some (.slice a (D * D) c) ∧ Own w base w.heap.size a (D * D) (f i)
section
variable {w w' : World} {base : Nat} {v : Value} {P : Int} {D k : Nat} {f : Nat → List Int}
theorem MatG.blk (h : MatG w base v P D f k) : ∀ z, v.ownBlock = some z → base ≤ z ∧ z < w.heap.size := by
  obtain ⟨vs, h, _⟩ := h
  exact World.ownsRow.lt h
theorem MatG.ext (h : MatG w base v P D f k) (hE : Ext w w') : MatG w' base v P D f k := by
  obtain ⟨vs, h1, h2, h3⟩ := h
  refine ⟨vs, ?_, h2, fun i hi => ?_⟩
  · by_cases e : v.ownBlock = none
    · exact World.ownsRow.kept h1 (ext_grownBy hE none) (.inl e)
    · exact World.ownsRow.kept h1 (ext_grownBy hE none) (.inr e)
  · obtain ⟨a, c, x0, x1, x2, x3, h6⟩ := h3 i hi
    exact ⟨a, c, x0, x1, x2, x3, (h6.ext hE).mono (Nat.le_refl _) hE.le⟩
theorem MatG.shape (h : MatG w base v P D f k) : ∃ a cap, v = .slice a k cap ∧ (0 < k → ∃ g, a = some ⟨g, 0, none⟩ ∧ base ≤ g ∧ g < w.heap.size ∧ ∀ i, i < k → ∃ a c, w.cell? ⟨g, i * 4, none⟩ = some (.int .i64 P) ∧ w.cell? ⟨g, i * 4 + 1, none⟩ = some (.int .i64 D) ∧ w.cell? ⟨g, i * 4 + 2, none⟩ = some (.int .i64 D) ∧ w.cell? ⟨g, i * 4 + 3, none⟩ = some (.slice a (D * D) c) ∧ Own w base w.heap.size a (D * D) (f i)) := by
  obtain ⟨vs, h1, h2, h3⟩ := h
  rcases h1.2 with ⟨e1, e2⟩ | ⟨g, cap, cur, e1, hb, hg, hn, hc, hs, ht⟩
  · exact ⟨none, 0, by rw [e1, e2], fun h => by omega⟩
  · have hcell : ∀ q u, q < k * 4 → vs[q]? = some u → w.cell? ⟨g, q, none⟩ = some u := fun q u hq hu => by
      rw [cell_of_row w g q _ _ _ hg, ← Array.getElem?_toList]
      have : (cur.toList.take (k * 4))[q]? = vs[q]? := by rw [ht]
      rw [List.getElem?_take, if_pos hq] at this
      rw [this, hu]
    refine ⟨_, cap, e1, fun _ => ⟨g, rfl, hb, (Array.getElem?_eq_some_iff.1 hg).1, fun i hi => ?_⟩⟩
    obtain ⟨a, c, x0, x1, x2, x3, h6⟩ := h3 i hi
    exact ⟨a, c, hcell _ _ (by omega) x0, hcell _ _ (by omega) x1, hcell _ _ (by omega) x2, hcell _ _ (by omega) x3, h6⟩
end
theorem mats_lit (w : World) (base : Nat) (hb : base ≤ w.heap.size) (P : Int) (D : Nat) (f : Nat → List Int) : MatG (w.alloc (.cells #[] 37)) base (.slice (some ⟨w.heap.size, 0, none⟩) 0 0) P D f 0 :=
  ⟨[], World.ownsRow_lit w #[] 0 hb (by unfold maxLen; omega) (by simp), rfl, fun i hi => by omega⟩
theorem own_otherM {w w' : World} {lo hi : Nat} {a : Option Addr} {n : Nat} {xs : List Int} {row : Option Nat} (h : Own w lo hi a n xs) (hg : w.grownBy w' row) (hd : ∀ k, row = some k → ∃ cur z, w.heap[k]? = some (.cells cur 37 z)) : Own w' lo hi a n xs := by
  obtain ⟨h1, h2⟩ := h
  rcases h2 with h2 | ⟨b, rfl, h3, h4, r, h2, h5⟩
  · exact ⟨h1, .inl h2⟩
  · refine ⟨h1, .inr ⟨b, rfl, h3, h4, r, ?_, h5⟩⟩
    rw [hg.block b (Array.getElem?_eq_some_iff.1 h2).1 (fun e => by
      obtain ⟨cur, z, hk⟩ := hd b e.symm
      rw [h2] at hk
      simp at hk)]
    exact h2
/-- append of one matrix, as a step of a region. -/
theorem step_appendMat {ops : Array Oper} {o : Oper} {a : Act} {w : World} {K : Act → World → Prop} {Q : Exit → Act → World → Prop} {E : Prop} (hgd : o.guard = none) (s x : Operand)
    (ho : o.op = .call { callee := .builtin .append, args := #[s, x], argTypes := #[31, 31] }) {base : Nat} {P : Int} {D k : Nat} {f : Nat → List Int}
    (v : Value) (hs : a.eval s = v) (hown : MatG w base v P D f k) (g c0 c : Nat) (b0 : Option Addr) (hx : a.eval x = .slice (some ⟨g, 0, none⟩) 1 c)
    (x0 : w.cell? ⟨g, 0, none⟩ = some (.int .i64 P)) (x1 : w.cell? ⟨g, 1, none⟩ = some (.int .i64 D)) (x2 : w.cell? ⟨g, 2, none⟩ = some (.int .i64 D)) (x3 : w.cell? ⟨g, 3, none⟩ = some (.slice b0 (D * D) c0))
    (hrow : Own w base w.heap.size b0 (D * D) (f k)) (hb : k + 1 ≤ 1048577) (hbase : base ≤ w.heap.size)
    (h : ∀ v' w', MatG w' base v' P D f (k + 1) → w.grownBy w' v.ownBlock → K (a.put o.dst v') w') :
    if Region.wanted o (yielded ops a.tmps) = true then Oper.wp Try.prog o a w K Q else E := by
  obtain ⟨i0, hi, hz0, hz1, hz2⟩ := info_parts Try.infoMat
  have hw : Region.wanted o (yielded ops a.tmps) = true := by simp [Region.wanted, hgd]
  rw [if_pos hw]
  obtain ⟨vs, h1, h2, h3⟩ := hown
  refine wp_append_own w s x 31 ho base 37 i0 (.agg #[.int .i64 0, .int .i64 0, .int .i64 0, .slice none 0 0]) 4 48 Try.underlying31 hi hz0 hz1 hz2 rfl (by decide) v k vs hs h1 ⟨g, 0, none⟩ 1 c [.int .i64 P, .int .i64 D, .int .i64 D, .slice b0 (D * D) c0] hx rfl (fun j u hu => ?_) (fun u hu => by simp at hu; rcases hu with rfl | rfl | rfl | rfl <;> rfl) (by unfold maxLen; omega) (by omega) hbase (fun v' w' g1 g2 _ => h v' w' ?_ g2)
  · have hj : j < 4 := by have := (List.getElem?_eq_some_iff.1 hu).1; simpa using this
    rcases (show j = 0 ∨ j = 1 ∨ j = 2 ∨ j = 3 by omega) with rfl | rfl | rfl | rfl
    · rw [show (⟨g, 0, none⟩ : Addr).add 0 = ⟨g, 0, none⟩ from rfl, x0]; exact hu
    · rw [show (⟨g, 0, none⟩ : Addr).add 1 = ⟨g, 1, none⟩ from rfl, x1]; exact hu
    · rw [show (⟨g, 0, none⟩ : Addr).add 2 = ⟨g, 2, none⟩ from rfl, x2]; exact hu
    · rw [show (⟨g, 0, none⟩ : Addr).add 3 = ⟨g, 3, none⟩ from rfl, x3]; exact hu
  · have hty : ∀ z, v.ownBlock = some z → ∃ cur y, w.heap[z]? = some (.cells cur 37 y) := by
      intro z hz
      rcases h1.2 with ⟨e1, _⟩ | ⟨g, cap, cur, e1, _, hg, _⟩
      · subst e1; simp [Value.ownBlock] at hz
      · subst e1
        simp [Value.ownBlock] at hz
        subst hz
        exact ⟨cur, _, hg⟩
    refine ⟨vs ++ [.int .i64 P, .int .i64 D, .int .i64 D, .slice b0 (D * D) c0], g1, by simp [h2]; omega, fun i hi => ?_⟩
    by_cases e : i < k
    · obtain ⟨b', c', y0, y1, y2, y3, h6⟩ := h3 i e
      refine ⟨b', c', by rw [List.getElem?_append_left (by omega)]; exact y0, by rw [List.getElem?_append_left (by omega)]; exact y1, by rw [List.getElem?_append_left (by omega)]; exact y2, by rw [List.getElem?_append_left (by omega)]; exact y3, ?_⟩
      exact (own_otherM h6 g2 hty).mono (Nat.le_refl _) g2.size
    · obtain rfl : i = k := by omega
      refine ⟨b0, c0, ?_, ?_, ?_, ?_, (own_otherM hrow g2 hty).mono (Nat.le_refl _) g2.size⟩
      all_goals rw [List.getElem?_append_right (by omega)]; simp [h2]

end Go.Proofs.Ytnikfalpjieibaa
