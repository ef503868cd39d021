/-
  Slices of matrices with numbers of rows of their own: what they hold, append.
-/
import Derived.Test.YtnikfalpjieibaaMtR
import Derived.Test.YtnikfalpjieibaaMatG
import Derived.Test.YtnikfalpjieibaaRs
import Derived.Maps.AppendAt
namespace Go.Proofs.Ytnikfalpjieibaa
open Go.ChangeShapes Go.WideShapes Go.ChangeAt Go.RowKit
set_option linter.unusedVariables false
set_option linter.unusedSimpArgs false

/-- A slice of the call's own of k matrices, the number i has the rows of s i; their data lie in blocks one behind the other, below hi. -/
def MatS (w : World) (base hi : Nat) (v : Value) (P : Int) (D : Nat) (s : Nat → Nat × List Int) (k : Nat) : Prop := ∃ (vs : List Value) (B : Nat → Nat), w.ownsRow base 37 4 v k vs ∧ vs.length = k * 4 ∧
  (∀ i, i < k → ∃ c, vs[i * 4]? = some (.int .i64 P) ∧ vs[i * 4 + 1]? = some (.int .i64 ((s i).1 : Nat)) ∧ vs[i * 4 + 2]? = some (.int .i64 D) ∧ vs[i * 4 + 3]? = some (.slice (some ⟨B i, 0, none⟩) ((s i).1 * D) c) ∧ Own w base hi (some ⟨B i, 0, none⟩) ((s i).1 * D) (s i).2) ∧ ∀ i j, i < j → j < k → B i < B j
section
variable {w w' : World} {base hi : Nat} {v : Value} {P : Int} {D k : Nat} {s : Nat → Nat × List Int}
theorem MatS.blk (h : MatS w base hi v P D s k) : ∀ z, v.ownBlock = some z → base ≤ z ∧ z < w.heap.size := by
  obtain ⟨vs, B, h, _⟩ := h
  exact World.ownsRow.lt h
theorem MatS.ext (h : MatS w base hi v P D s k) (hE : Ext w w') : MatS w' base hi v P D s k := by
  obtain ⟨vs, B, h1, h2, h3, h4⟩ := h
  refine ⟨vs, B, ?_, h2, fun i hi => ?_, h4⟩
  · by_cases e : v.ownBlock = none
    · exact World.ownsRow.kept h1 (ext_grownBy hE none) (.inl e)
    · exact World.ownsRow.kept h1 (ext_grownBy hE none) (.inr e)
  · obtain ⟨c, x0, x1, x2, x3, h6⟩ := h3 i hi
    exact ⟨c, x0, x1, x2, x3, h6.ext hE⟩
theorem MatS.mono {hi' : Nat} (h : MatS w base hi v P D s k) (hh : hi ≤ hi') : MatS w base hi' v P D s k := by
  obtain ⟨vs, B, h1, h2, h3, h4⟩ := h
  exact ⟨vs, B, h1, h2, fun i hi => by obtain ⟨c, x0, x1, x2, x3, h6⟩ := h3 i hi; exact ⟨c, x0, x1, x2, x3, h6.mono (Nat.le_refl _) hh⟩, h4⟩
/-- One cell of another block of matrices is written. -/
theorem MatS.put (h : MatS w base hi v P D s k) {g : Nat} {cur : Array Value} {z : Nat × Nat} (hg : w.heap[g]? = some (.cells cur 37 z)) (hne : v.ownBlock ≠ some g) (j : Nat) (u : Value) : MatS (w.setCell ⟨g, j, none⟩ u) base hi v P D s k := by
  obtain ⟨vs, B, h1, h2, h3, h4⟩ := h
  have hgr := grownBy_set (p := ⟨g, j, none⟩) (grownBy_refl w (some g)) rfl u
  refine ⟨vs, B, World.ownsRow.kept h1 hgr (.inr hne), h2, fun i hi => ?_, h4⟩
  obtain ⟨c, x0, x1, x2, x3, h6⟩ := h3 i hi
  exact ⟨c, x0, x1, x2, x3, own_otherM h6 hgr (fun k hk => by simp at hk; subst hk; exact ⟨cur, z, hg⟩)⟩
theorem MatS.shape (h : MatS w base hi v P D s k) : ∃ a cap, v = .slice a k cap ∧ (0 < k → ∃ g, a = some ⟨g, 0, none⟩ ∧ base ≤ g ∧ g < w.heap.size ∧ ∀ i, i < k → w.cell? ⟨g, i * 4 + 1, none⟩ = some (.int .i64 ((s i).1 : Nat))) := by
  obtain ⟨vs, B, h1, h2, h3, _⟩ := h
  rcases h1.2 with ⟨e1, e2⟩ | ⟨g, cap, cur, e1, hb, hg, hn, hc, hs, ht⟩
  · exact ⟨none, 0, by rw [e1, e2], fun h => by omega⟩
  · refine ⟨_, cap, e1, fun _ => ⟨g, rfl, hb, (Array.getElem?_eq_some_iff.1 hg).1, fun i hi => ?_⟩⟩
    obtain ⟨c, x0, x1, x2, x3, h6⟩ := h3 i hi
    rw [cell_of_row w g _ _ _ _ hg, ← Array.getElem?_toList]
    have : (cur.toList.take (k * 4))[i * 4 + 1]? = vs[i * 4 + 1]? := by rw [ht]
    rw [List.getElem?_take, if_pos (by omega)] at this
    rw [this, x1]
/-- The list as data. -/
def serL (P : Int) (D : Nat) (s : Nat → Nat × List Int) (k : Nat) : List Mat := (List.range k).map fun i => ⟨P, (s i).1, D, (s i).2⟩
theorem serL_length (k : Nat) : (serL P D s k).length = k := by simp [serL]
theorem mt_serL {i : Nat} (hi : i < k) : mt (serL P D s k) i = ⟨P, (s i).1, D, (s i).2⟩ := by simp [mt, serL, List.getD_eq_getElem?_getD, hi]
theorem flatten_bound (m : Nat) : ∀ (L : List (List Int)), (∀ x, x ∈ L → x.length ≤ m) → L.flatten.length ≤ L.length * m
  | [], _ => by simp
  | x :: L, h => by
    have h1 := h x (by simp)
    have h2 := flatten_bound m L (fun y hy => h y (by simp [hy]))
    simp only [List.flatten_cons, List.length_append, List.length_cons, Nat.add_mul, Nat.one_mul]
    omega
theorem MatS.toR {lo hi' : Nat} (h : MatS w base hi v P D s k) (hlo : lo ≤ base) (hh : hi ≤ hi') (hsz : w.heap.size ≤ hi') (hk : k ≤ 40) (hD : D ≤ 28) (hs : ∀ i, (s i).1 ≤ D) (hl : ∀ i, (s i).2.length = (s i).1 * D) : ∃ a c, v = .slice a k c ∧ MatsR w lo hi' a k (serL P D s k) := by
  obtain ⟨vs, B, h1, h2, h3, h4⟩ := h
  have htot : (dats (serL P D s k)).flatten.length ≤ 1048576 := by
    have := flatten_bound 784 (dats (serL P D s k)) (fun x hx => by
      simp only [dats, serL, List.map_map, List.mem_map, Function.comp] at hx
      obtain ⟨i, _, rfl⟩ := hx
      show (s i).2.length ≤ 784
      rw [hl i]
      exact Nat.mul_le_mul (Nat.le_trans (hs i) hD) hD)
    rw [dats_length, serL_length] at this
    omega
  rcases h1.2 with ⟨e1, e2⟩ | ⟨g, cap, cur, e1, hb, hg, hn, hc, hcs, ht⟩
  · subst e2
    exact ⟨none, 0, e1, serL_length 0, htot, .inl rfl⟩
  · refine ⟨_, cap, e1, serL_length k, htot, .inr ⟨g, cur, fun i => some ⟨B i, 0, none⟩, fun i => ((vs[i * 4 + 3]?).map fun | .slice _ _ c => c | _ => 0).getD 0, rfl, by omega, Nat.lt_of_lt_of_le (Array.getElem?_eq_some_iff.1 hg).1 hsz, hg, fun i hi => ?_, fun i j b hi hj hne e => ?_⟩⟩
    · obtain ⟨c, x0, x1, x2, x3, h6⟩ := h3 i hi
      have hcell : ∀ q u, q < k * 4 → vs[q]? = some u → cur[q]? = some u := fun q u hq hu => by
        rw [← Array.getElem?_toList]
        have : (cur.toList.take (k * 4))[q]? = vs[q]? := by rw [ht]
        rw [List.getElem?_take, if_pos hq] at this
        rw [this, hu]
      rw [mt_serL hi]
      refine ⟨hcell _ _ (by omega) x0, hcell _ _ (by omega) x1, hcell _ _ (by omega) x2, ?_, ?_⟩
      · simp only [x3, Option.map_some, Option.getD_some]
        show cur[i * 4 + 3]? = some (.slice (some ⟨B i, 0, none⟩) (s i).2.length c)
        rw [hl i]; exact hcell _ _ (by omega) x3
      · show Own w lo hi' (some ⟨B i, 0, none⟩) (s i).2.length (s i).2
        rw [hl i]; exact h6.mono hlo hh
    · intro e9
      have e7 : B i = b := Option.some.inj e
      have e8 : B j = b := Option.some.inj e9
      rcases Nat.lt_or_gt_of_ne hne with h | h
      · have := h4 i j h hj; omega
      · have := h4 j i h hi; omega
end
theorem matS_one (w : World) (base b0 c0 : Nat) (P : Int) (D : Nat) (s : Nat → Nat × List Int) (hb : base ≤ w.heap.size) (hbb : base ≤ b0) (hh : Has w b0 (s 0).2) (hl : (s 0).2.length = (s 0).1 * D) : MatS (w.alloc (.cells #[.int .i64 P, .int .i64 ((s 0).1 : Nat), .int .i64 D, .slice (some ⟨b0, 0, none⟩) ((s 0).1 * D) c0] 37)) base w.heap.size (.slice (some ⟨w.heap.size, 0, none⟩) 1 1) P D s 1 := by
  refine ⟨_, fun _ => b0, World.ownsRow_lit w #[.int .i64 P, .int .i64 ((s 0).1 : Nat), .int .i64 D, .slice (some ⟨b0, 0, none⟩) ((s 0).1 * D) c0] 1 hb (by unfold maxLen; omega) (by simp), by simp, fun i hi => ?_, fun i j h1 h2 => by omega⟩
  obtain rfl : i = 0 := by omega
  exact ⟨c0, by simp, by simp, by simp, by simp, (hh.alloc _).own hbb hh.lt hl⟩
/-- append of one matrix. -/
theorem wpList_appendMatS {w : World} {ops : Array Oper} {rest : List Oper} {o : Oper} {a : Act} {Q : Exit → Act → World → Prop} (hgd : o.guard = none) (s x : Operand)
    (ho : o.op = .call { callee := .builtin .append, args := #[s, x], argTypes := #[31, 31] })
    (base hi : Nat) (v : Value) (P : Int) (D k : Nat) (sq : Nat → Nat × List Int) (b0 c0 c g : Nat) (hg0 : g = w.heap.size) (hs : a.eval s = v) (hx : a.eval x = .slice (some ⟨g, 0, none⟩) 1 c) (hown : MatS w base hi v P D sq k) (hrow : Own w base w.heap.size (some ⟨b0, 0, none⟩) ((sq k).1 * D) (sq k).2) (hh : hi ≤ b0) (hb : k + 1 ≤ 1048577) (hbase : base ≤ w.heap.size)
    (h : ∀ v' w', MatS w' base w.heap.size v' P D sq (k + 1) → w.grownBy w' v.ownBlock → (v'.ownBlock = v.ownBlock ∨ v'.ownBlock = some (w.heap.size + 1)) → wpList Try.prog ops Q rest (a.put o.dst v') w') : wpList Try.prog ops Q (o :: rest) a (w.alloc (.cells #[.int .i64 P, .int .i64 ((sq k).1 : Nat), .int .i64 D, .slice (some ⟨b0, 0, none⟩) ((sq k).1 * D) c0] 37)) := by
  subst hg0
  obtain ⟨i0, hi0, hz0, hz1, hz2⟩ := info_parts Try.infoMat
  have hb0 : b0 < w.heap.size := (hrow.blk b0 rfl).2
  obtain ⟨vs, B, h1, h2, h3, h4⟩ := MatS.ext hown ((Ext.refl w).alloc (.cells #[.int .i64 P, .int .i64 ((sq k).1 : Nat), .int .i64 D, .slice (some ⟨b0, 0, none⟩) ((sq k).1 * D) c0] 37))
  have hrow2 := hrow.ext ((Ext.refl w).alloc (.cells #[.int .i64 P, .int .i64 ((sq k).1 : Nat), .int .i64 D, .slice (some ⟨b0, 0, none⟩) ((sq k).1 * D) c0] 37))
  refine Go.wpList_append_own_at _ hgd s x 31 ho base 37 i0 (.agg #[.int .i64 0, .int .i64 0, .int .i64 0, .slice none 0 0]) 4 48 Try.underlying31 hi0 hz0 hz1 hz2 rfl (by decide) v k vs hs h1 ⟨w.heap.size, 0, none⟩ 1 c [.int .i64 P, .int .i64 ((sq k).1 : Nat), .int .i64 D, .slice (some ⟨b0, 0, none⟩) ((sq k).1 * D) c0] hx rfl (fun j u hu => ?_) (fun u hu => by simp at hu; rcases hu with rfl | rfl | rfl | rfl <;> rfl) (by unfold maxLen; omega) (by omega) (by simp; omega) (fun v' w' g1 g2 _ g3 => h v' w' ?_ (grownBy_alloc g2) (by simpa using g3))
  · have hj : j < 4 := by have := (List.getElem?_eq_some_iff.1 hu).1; simpa using this
    rw [show (⟨w.heap.size, 0, none⟩ : Addr).add j = ⟨w.heap.size, j, none⟩ by rw [add_plain]; simp, World.cell?_alloc_at _ _ _ _ rfl]
    rcases (show j = 0 ∨ j = 1 ∨ j = 2 ∨ j = 3 by omega) with rfl | rfl | rfl | rfl <;> exact hu
  · have hty : ∀ z, v.ownBlock = some z → ∃ cur y, (w.alloc (.cells #[.int .i64 P, .int .i64 ((sq k).1 : Nat), .int .i64 D, .slice (some ⟨b0, 0, none⟩) ((sq k).1 * D) c0] 37)).heap[z]? = some (.cells cur 37 y) := by
      intro z hz
      rcases h1.2 with ⟨e1, _⟩ | ⟨g, cap, cur, e1, _, hg, _⟩
      · subst e1; simp [Value.ownBlock] at hz
      · subst e1
        simp [Value.ownBlock] at hz
        subst hz
        exact ⟨cur, _, hg⟩
    have hbl : ∀ i, i < k → B i < hi := fun i hi => by obtain ⟨c, x0, x1, x2, x3, h6⟩ := h3 i hi; exact (h6.blk (B i) rfl).2
    refine ⟨vs ++ [.int .i64 P, .int .i64 ((sq k).1 : Nat), .int .i64 D, .slice (some ⟨b0, 0, none⟩) ((sq k).1 * D) c0], fun i => if i = k then b0 else B i, g1, by simp [h2]; omega, fun i hi => ?_, fun i j hij hj => ?_⟩
    · by_cases e : i < k
      · obtain ⟨c', y0, y1, y2, y3, h6⟩ := h3 i e
        refine ⟨c', by rw [List.getElem?_append_left (by omega)]; exact y0, by rw [List.getElem?_append_left (by omega)]; exact y1, by rw [List.getElem?_append_left (by omega)]; exact y2, ?_, ?_⟩
        · rw [List.getElem?_append_left (by omega)]; simp only [if_neg (show ¬ i = k by omega)]; exact y3
        · simp only [if_neg (show ¬ i = k by omega)]; exact (own_otherM h6 g2 hty).mono (Nat.le_refl _) (by omega)
      · obtain rfl : i = k := by omega
        refine ⟨c0, ?_, ?_, ?_, ?_, ?_⟩
        · rw [List.getElem?_append_right (by omega)]; simp [h2]
        · rw [List.getElem?_append_right (by omega)]; simp [h2]
        · rw [List.getElem?_append_right (by omega)]; simp [h2]
        · rw [List.getElem?_append_right (by omega)]; simp [h2]
        · simp only [if_true]; exact own_otherM hrow2 g2 hty
    · by_cases e : j = k
      · subst e
        simp only [if_neg (show ¬ i = j by omega), if_true]
        have := hbl i hij; omega
      · simp only [if_neg e, if_neg (show ¬ i = k by omega)]
        exact h4 i j hij (by omega)
end Go.Proofs.Ytnikfalpjieibaa
