/-
  Slices that are appended to: integers one at a time and many at once; lists of rows; the specification's matrix of some rows.
-/
import Derived.Test.YtgmipolgnpjmnaaFind
import Derived.Test.YtgmipolgnpjmnaaCopyI
import Derived.Deep.RegionLaw
import Derived.Deep.DeepCutAuto
namespace Go.Proofs.Ytgmipolgnpjmnaa
open Go.ChangeShapes Go.WideShapes Go.ChangeAt Go.RowKit
set_option linter.unusedVariables false

theorem Grows.reads2 {w : World} {base n : Nat} {v : Value} {xs : List Int} (h : Grows w base v n xs) : ∃ a cap, v = .slice a n cap ∧ (a = none → n = 0 ∧ cap = 0) ∧ Own w base w.heap.size a n xs := by
  have hl : xs.length = n := h.len
  rcases h.2 with ⟨h1, h2⟩ | ⟨g, cap, cur, h1, hb, hg, hn, hc, hs, ht⟩
  · subst h1; subst h2
    exact ⟨none, 0, rfl, fun _ => ⟨rfl, rfl⟩, ⟨hl, .inl ⟨rfl, rfl⟩⟩⟩
  · subst h1
    have hh : Has w g xs := ⟨cur, hg, by omega, by rw [hl]; simpa using ht⟩
    exact ⟨_, cap, rfl, fun h => by simp at h, ⟨hl, .inr ⟨g, rfl, hb, hh.lt, hh⟩⟩⟩
theorem grows_lit (w : World) (base : Nat) (hb : base ≤ w.heap.size) : Grows (w.alloc (.cells #[] 3)) base (.slice (some ⟨w.heap.size, 0, none⟩) 0 0) 0 [] :=
  World.ownsRow_lit w #[] 0 hb (by unfold maxLen; omega) (by simp)
theorem Grows.extAfter {w w0 w' : World} {base n : Nat} {v : Value} {xs : List Int} (h : Grows w base v n xs) (hg : w.grownBy w' v.ownBlock) (hE : Ext w0 w) (hb : w0.heap.size ≤ base) : Ext w0 w' :=
  hE.grown hg (fun k hk => Nat.le_trans hb (h.blk k hk).1)
theorem grownBy_alloc {w w' : World} {o : Obj} {row : Option Nat} (hg : (w.alloc o).grownBy w' row) : w.grownBy w' row :=
  ⟨hg.os, hg.tape, hg.output, Nat.le_trans (by simp) hg.size, fun k hk hne => (hg.block k (by simp; omega) hne).trans (((Ext.refl w).alloc _).block k hk)⟩

/-- append of one integer. -/
theorem wpList_append1 {w : World} {ops : Array Oper} {rest : List Oper} {o : Oper} {a : Act} {Q : Exit → Act → World → Prop} (hgd : o.guard = none) (s x : Operand)
    (ho : o.op = .call { callee := .builtin .append, args := #[s, x], argTypes := #[22, 22] })
    (base : Nat) (v : Value) (n : Nat) (xs : List Int) (y : Int) (c : Nat) (hs : a.eval s = v) (hx : a.eval x = .slice (some ⟨w.heap.size, 0, none⟩) 1 c) (hown : Grows w base v n xs) (hb : n + 1 ≤ 1048577) (hbase : base ≤ w.heap.size)
    (h : ∀ v' w', Grows w' base v' (n + 1) (xs ++ [y]) → w.grownBy w' v.ownBlock → wpList Try.prog ops Q rest (a.put o.dst v') w') : wpList Try.prog ops Q (o :: rest) a (w.alloc (.cells #[.int .i64 y] 3)) := by
  obtain ⟨i0, hi, hz0, hz1, hz2⟩ := info_parts Try.infoInt
  refine wpList_append_own _ hgd s x 22 ho base 3 i0 (.int .i64 0) 1 8 Try.underlying22 hi hz0 hz1 hz2 rfl (by decide) v n (xs.map (Value.int .i64)) hs (Grows.ext hown ((Ext.refl w).alloc _)) ⟨w.heap.size, 0, none⟩ 1 c [.int .i64 y] hx rfl (fun j u hu => ?_) (fun u hu => by simp at hu; subst hu; rfl) (by unfold maxLen; omega) (by omega) (by simp; omega) (fun v' w' h1 h2 _ => h v' w' (by simpa [Grows] using h1) (grownBy_alloc h2))
  obtain rfl : j = 0 := by have := (List.getElem?_eq_some_iff.1 hu).1; simp at this; omega
  simp at hu
  subst hu
  rw [show (⟨w.heap.size, 0, none⟩ : Addr).add 0 = ⟨w.heap.size, 0, none⟩ from rfl, World.cell?_alloc_at _ _ _ _ rfl]
  rfl
/-- append of a list, as a step of a region. -/
theorem step_appendG {ops : Array Oper} {o : Oper} {a : Act} {w : World} {K : Act → World → Prop} {Q : Exit → Act → World → Prop} {E : Prop} (hgd : o.guard = none) (s x : Operand)
    (ho : o.op = .call { callee := .builtin .append, args := #[s, x], argTypes := #[22, 22] }) {base : Nat}
    (v : Value) (n : Nat) (xs : List Int) (hs : a.eval s = v) (hown : Grows w base v n xs) (sp : Option Addr) (m c : Nat) (ys : List Int) (hx : a.eval x = .slice sp m c) (hy : Reads w sp m ys) (hb : n + m ≤ 1048576) (hbase : base ≤ w.heap.size)
    (h : ∀ v' w', Grows w' base v' (n + m) (xs ++ ys) → w.grownBy w' v.ownBlock → (v' = .slice none 0 0 ↔ v = .slice none 0 0 ∧ m = 0) → K (a.put o.dst v') w') (hsp : ∃ ad, sp = some ad) :
    if Region.wanted o (yielded ops a.tmps) = true then Oper.wp Try.prog o a w K Q else E := by
  obtain ⟨ad, rfl⟩ := hsp
  obtain ⟨i0, hi, hz0, hz1, hz2⟩ := info_parts Try.infoInt
  have hw : Region.wanted o (yielded ops a.tmps) = true := by simp [Region.wanted, hgd]
  rw [if_pos hw]
  refine wp_append_own w s x 22 ho base 3 i0 (.int .i64 0) 1 8 Try.underlying22 hi hz0 hz1 hz2 rfl (by decide) v n (xs.map (Value.int .i64)) hs hown ad m c (ys.map (Value.int .i64)) hx (by simpa using hy.1) (fun j u hu => ?_) (fun u hu => by obtain ⟨z, _, rfl⟩ := List.mem_map.1 hu; rfl) (by unfold maxLen; omega) (by omega) hbase (fun v' w' h1 h2 h3 => h v' w' (by rw [Grows, List.map_append]; exact h1) h2 h3)
  have hj : j < m := by have := (List.getElem?_eq_some_iff.1 hu).1; simp [hy.1] at this; omega
  rcases hy.2 with h0 | ⟨b, off, h0, hb', hc⟩
  · omega
  · simp only [Option.some.injEq] at h0
    subst h0
    rw [show (⟨b, off, none⟩ : Addr).add j = ⟨b, off + j, none⟩ from add_plain .., hc j hj]
    simp at hu
    obtain ⟨z, hz, rfl⟩ := hu
    simp [gi, List.getD_eq_getElem?_getD, hz]

/-! Lists of rows. -/
theorem Try.infoInts : (Try.prog.info? 22).map (fun i => (i.zero, i.size, i.bytes)) = some (some (.slice none 0 0), 1, 24) := by kernel_rfl
def row (rs : List (List Int)) (i : Nat) : List Int := rs.getD i []
theorem row_snoc (rs : List (List Int)) (x : List Int) (i : Nat) : row (rs ++ [x]) i = if i < rs.length then row rs i else if i = rs.length then x else [] := by
  unfold row
  simp only [List.getD_eq_getElem?_getD, List.getElem?_append]
  by_cases h : i < rs.length
  · simp [h]
  · by_cases h2 : i = rs.length
    · subst h2; simp
    · have : 1 ≤ i - rs.length := by omega
      rw [if_neg h, if_neg h, if_neg h2, List.getElem?_eq_none (by simpa using this)]; rfl
/-- The values are slices of the call's own, from lo on, that show the rows. -/
def RowVals (w : World) (lo : Nat) (vs : List Value) (rs : List (List Int)) : Prop :=
  vs.length = rs.length ∧ ∀ i, i < rs.length → ∃ b n c, vs[i]? = some (.slice (some ⟨b, 0, none⟩) n c) ∧ Own w lo w.heap.size (some ⟨b, 0, none⟩) n (row rs i)
/-- A slice of rows of the call's own. -/
def RowsG (w : World) (base : Nat) (v : Value) (rs : List (List Int)) : Prop := ∃ vs, w.ownsRow base 22 1 v rs.length vs ∧ RowVals w base vs rs
theorem own_other {w w' : World} {lo hi : Nat} {a : Option Addr} {n : Nat} {xs : List Int} {row : Option Nat} (h : Own w lo hi a n xs) (hg : w.grownBy w' row) (hd : ∀ k, row = some k → ∃ cur z, w.heap[k]? = some (.cells cur 22 z)) : Own w' lo hi a n xs := by
  obtain ⟨h1, h2⟩ := h
  rcases h2 with h2 | ⟨b, rfl, h3, h4, r, h2, h5⟩
  · exact ⟨h1, .inl h2⟩
  · refine ⟨h1, .inr ⟨b, rfl, h3, h4, r, ?_, h5⟩⟩
    rw [hg.block b (Array.getElem?_eq_some_iff.1 h2).1 (fun e => by
      obtain ⟨cur, z, hk⟩ := hd b e.symm
      rw [h2] at hk
      simp at hk)]
    exact h2
theorem RowsG.blk {w : World} {base : Nat} {v : Value} {rs : List (List Int)} (h : RowsG w base v rs) : ∀ k, v.ownBlock = some k → base ≤ k ∧ k < w.heap.size := by
  obtain ⟨vs, h, _⟩ := h
  exact World.ownsRow.lt h
theorem RowsG.ext {w w' : World} {base : Nat} {v : Value} {rs : List (List Int)} (h : RowsG w base v rs) (hE : Ext w w') : RowsG w' base v rs := by
  obtain ⟨vs, h1, h2, h3⟩ := h
  refine ⟨vs, ?_, h2, fun i hi => ?_⟩
  · by_cases e : v.ownBlock = none
    · exact World.ownsRow.kept h1 (ext_grownBy hE none) (.inl e)
    · exact World.ownsRow.kept h1 (ext_grownBy hE none) (.inr e)
  · obtain ⟨b, n, c, h4, h6⟩ := h3 i hi
    exact ⟨b, n, c, h4, (h6.ext hE).mono (Nat.le_refl _) hE.le⟩
theorem RowsG.shape {w : World} {base : Nat} {v : Value} {rs : List (List Int)} (h : RowsG w base v rs) : ∃ a cap, v = .slice a rs.length cap ∧ (0 < rs.length → ∃ g, a = some ⟨g, 0, none⟩ ∧ g < w.heap.size ∧ ∀ i, i < rs.length → ∃ b' n' c', w.cell? ⟨g, i, none⟩ = some (.slice (some ⟨b', 0, none⟩) n' c') ∧ Own w base w.heap.size (some ⟨b', 0, none⟩) n' (row rs i)) := by
  obtain ⟨vs, h1, h2, h3⟩ := h
  rcases h1.2 with ⟨e1, e2⟩ | ⟨g, cap, cur, e1, hb, hg, hn, hc, hs, ht⟩
  · refine ⟨none, 0, ?_, fun h => by omega⟩
    rw [e1, e2]
  · refine ⟨_, cap, e1, fun _ => ⟨g, rfl, (Array.getElem?_eq_some_iff.1 hg).1, fun i hi => ?_⟩⟩
    obtain ⟨b', n', c', h4, h6⟩ := h3 i hi
    refine ⟨b', n', c', ?_, h6⟩
    rw [cell_of_row w g i _ _ _ hg, ← Array.getElem?_toList]
    have : (cur.toList.take (rs.length * 1))[i]? = vs[i]? := by rw [ht]
    rw [List.getElem?_take, if_pos (by omega)] at this
    rw [this, h4]
theorem RowsG.get {w : World} {base k cap : Nat} {a : Option Addr} {rs : List (List Int)} (h : RowsG w base (.slice a k cap) rs) : k = rs.length ∧ ∀ i, i < k → ∃ g, a = some ⟨g, 0, none⟩ ∧ g < w.heap.size ∧ ∃ b' n' c', w.cell? ⟨g, i, none⟩ = some (.slice (some ⟨b', 0, none⟩) n' c') ∧ Own w base w.heap.size (some ⟨b', 0, none⟩) n' (row rs i) := by
  obtain ⟨a2, cap2, e, hs⟩ := h.shape
  injection e with e1 e2 e3
  subst e1
  refine ⟨e2, fun i hi => ?_⟩
  obtain ⟨g, h1, h2, h3⟩ := hs (by omega)
  exact ⟨g, h1, h2, h3 i (by omega)⟩
theorem rows_lit (w : World) (base : Nat) (hb : base ≤ w.heap.size) : RowsG (w.alloc (.cells #[] 22)) base (.slice (some ⟨w.heap.size, 0, none⟩) 0 0) [] :=
  ⟨[], World.ownsRow_lit w #[] 0 hb (by unfold maxLen; omega) (by simp), rfl, fun i hi => by simp at hi⟩
/-- append of one row. -/
theorem wpList_appendRow {w : World} {ops : Array Oper} {rest : List Oper} {o : Oper} {a : Act} {Q : Exit → Act → World → Prop} (hgd : o.guard = none) (s x : Operand)
    (ho : o.op = .call { callee := .builtin .append, args := #[s, x], argTypes := #[89, 89] })
    (base : Nat) (v : Value) (rs : List (List Int)) (b0 m c0 : Nat) (ys : List Int) (c : Nat) (hs : a.eval s = v) (hx : a.eval x = .slice (some ⟨w.heap.size, 0, none⟩) 1 c) (hown : RowsG w base v rs) (hrow : Own w base w.heap.size (some ⟨b0, 0, none⟩) m ys) (hb : rs.length + 1 ≤ 1048577) (hbase : base ≤ w.heap.size)
    (h : ∀ v' w', RowsG w' base v' (rs ++ [ys]) → w.grownBy w' v.ownBlock → wpList Try.prog ops Q rest (a.put o.dst v') w') : wpList Try.prog ops Q (o :: rest) a (w.alloc (.cells #[.slice (some ⟨b0, 0, none⟩) m c0] 22)) := by
  obtain ⟨i0, hi, hz0, hz1, hz2⟩ := info_parts Try.infoInts
  obtain ⟨vs, h1, h2, h3⟩ := RowsG.ext hown ((Ext.refl w).alloc (.cells #[.slice (some ⟨b0, 0, none⟩) m c0] 22))
  have hrow2 := (hrow.ext ((Ext.refl w).alloc (.cells #[.slice (some ⟨b0, 0, none⟩) m c0] 22))).mono (Nat.le_refl _) (show w.heap.size ≤ (w.alloc (.cells #[.slice (some ⟨b0, 0, none⟩) m c0] 22)).heap.size by simp)
  refine wpList_append_own _ hgd s x 89 ho base 22 i0 (.slice none 0 0) 1 24 Try.underlying89 hi hz0 hz1 hz2 rfl (by decide) v rs.length vs hs h1 ⟨w.heap.size, 0, none⟩ 1 c [.slice (some ⟨b0, 0, none⟩) m c0] hx rfl (fun j u hu => ?_) (fun u hu => by simp at hu; subst hu; rfl) (by unfold maxLen; omega) (by omega) (by simp; omega) (fun v' w' g1 g2 _ => h v' w' ?_ (grownBy_alloc g2))
  · obtain rfl : j = 0 := by have := (List.getElem?_eq_some_iff.1 hu).1; simp at this; omega
    simp at hu
    subst hu
    rw [show (⟨w.heap.size, 0, none⟩ : Addr).add 0 = ⟨w.heap.size, 0, none⟩ from rfl, World.cell?_alloc_at _ _ _ _ rfl]
    rfl
  · have hty : ∀ k, v.ownBlock = some k → ∃ cur z, (w.alloc (.cells #[.slice (some ⟨b0, 0, none⟩) m c0] 22)).heap[k]? = some (.cells cur 22 z) := by
      intro k hk
      rcases h1.2 with ⟨e1, _⟩ | ⟨g, cap, cur, e1, _, hg, _⟩
      · subst e1; simp [Value.ownBlock] at hk
      · subst e1
        simp [Value.ownBlock] at hk
        subst hk
        exact ⟨cur, _, hg⟩
    refine ⟨vs ++ [.slice (some ⟨b0, 0, none⟩) m c0], by simpa using g1, by simp [h2], fun i hi => ?_⟩
    rw [row_snoc]
    by_cases e : i < rs.length
    · obtain ⟨b', n', c', h4, h6⟩ := h3 i e
      refine ⟨b', n', c', by rw [List.getElem?_append_left (by omega)]; exact h4, ?_⟩
      rw [if_pos e]
      exact (own_other h6 g2 hty).mono (Nat.le_refl _) g2.size
    · have e2 : i = rs.length := by simp at hi; omega
      subst e2
      refine ⟨b0, m, c0, by rw [List.getElem?_append_right (by omega)]; simp [h2], ?_⟩
      rw [if_neg e, if_pos rfl]
      exact (own_other hrow2 g2 hty).mono (Nat.le_refl _) g2.size
theorem flatten_snoc (rs : List (List Int)) (i : Nat) (hi : i < rs.length) : (rs.take (i + 1)).flatten = (rs.take i).flatten ++ row rs i := by
  rw [List.take_succ_eq_append_getElem hi, List.flatten_append]
  simp [row, List.getD_eq_getElem?_getD, hi]
theorem flatten_le (rs : List (List Int)) (i : Nat) : (rs.take i).flatten.length ≤ rs.flatten.length := by
  have : rs = rs.take i ++ rs.drop i := (List.take_append_drop i rs).symm
  have h2 : rs.flatten = (rs.take i).flatten ++ (rs.drop i).flatten := by rw [← List.flatten_append, ← this]
  rw [h2, List.length_append]; omega
end Go.Proofs.Ytgmipolgnpjmnaa
