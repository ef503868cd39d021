/-
  The specification's matrix of some rows.
-/
import Derived.Test.YtgmipolgnpjmnaaGrow
import Derived.Test.YtgmipolgnpjmnaaSpanI
namespace Go.Proofs.Ytgmipolgnpjmnaa
open Go.ChangeShapes Go.WideShapes Go.ChangeAt Go.RowKit
set_option linter.unusedVariables false

/-- A box with a matrix, whole. -/
def BoxM (w : World) (B : Nat) (vs : List Value) : Prop := w.heap[B]? = some (.cells vs.toArray 36 (0, 0))
theorem BoxM.cells {w : World} {B : Nat} {vs : List Value} (h : BoxM w B vs) : Cells w B vs :=
  ⟨(Array.getElem?_eq_some_iff.1 h).1, fun j v hv => by rw [cell_of_row w B j _ _ _ h]; simpa using hv, fun j => frozen_of_row w B j _ _ h⟩
theorem BoxM.ext {w w' : World} {B : Nat} {vs : List Value} (h : BoxM w B vs) (hE : Ext w w') : BoxM w' B vs := (hE.block B (Array.getElem?_eq_some_iff.1 h).1).trans h
theorem BoxM.grown {w w' : World} {B : Nat} {vs : List Value} (h : BoxM w B vs) {row : Option Nat} (hg : w.grownBy w' row) (hne : row ≠ some B) : BoxM w' B vs := (hg.block B (Array.getElem?_eq_some_iff.1 h).1 (fun e => hne e.symm)).trans h
theorem BoxM.put {w : World} {B : Nat} {vs : List Value} (h : BoxM w B vs) (j : Nat) (v : Value) : BoxM (w.setCell ⟨B, j, none⟩ v) B (vs.set j v) := by
  have := heap_setCell_same w B j _ _ v h
  rw [BoxM, this]
  simp
theorem boxM_new (w : World) (vs : List Value) : BoxM (w.alloc (.cells vs.toArray 36)) w.heap.size vs := heap_alloc_new w _
theorem Grows.neBox {w : World} {base n B : Nat} {v : Value} {xs : List Int} {vs : List Value} (h : Grows w base v n xs) (hB : BoxM w B vs) : v.ownBlock ≠ some B := by
  rcases h.2 with ⟨h1, _⟩ | ⟨g, cap, cur, h1, _, hg, _⟩
  · subst h1; simp [Value.ownBlock]
  · subst h1
    intro e
    simp [Value.ownBlock] at e
    subst e
    rw [BoxM, hg] at hB
    simp at hB
theorem Grows.put {w : World} {base n B : Nat} {v : Value} {xs : List Int} {vs : List Value} (h : Grows w base v n xs) (hB : BoxM w B vs) (j : Nat) (u : Value) : Grows (w.setCell ⟨B, j, none⟩ u) base v n xs := by
  refine World.ownsRow.kept h (row := some B) (grownBy_set (p := ⟨B, j, none⟩) (grownBy_refl w (some B)) rfl u) (.inr (h.neBox hB))

def RowsPost (w : World) (P : Int) (C k : Nat) (l : List Int) (e : Ending) (w' : World) : Prop := ∃ a c, e = .returned (.agg #[.int .i64 P, .int .i64 k, .int .i64 C, .slice a l.length c]) ∧ (a = none → l.length = 0 ∧ c = 0) ∧ Own w' w.heap.size w'.heap.size a l.length l ∧ Ext w w'
set_option maxRecDepth 100000 in
set_option maxHeartbeats 6400000 in
theorem l1Rows_spec (P : Int) (C k base cap : Nat) (a : Option Addr) (rs : List (List Int)) (w : World) (h : RowsG w base (.slice a k cap) rs) (hkb : k ≤ 1048576) (hb : rs.flatten.length ≤ 1048576) :
    Calls Try.prog 115 #[.int .i64 P, .int .i64 C, .slice a k cap] w (RowsPost w P C k rs.flatten) := by
  have HRS := Lib.hid h
  have HK : Hid (k = rs.length) := h.get.1
  have HB := Lib.hid hb
  clear h hb
  have R0 := Lib.hid ((cells_new' w #[.int .i64 0, .int .i64 0, .int .i64 0, .slice none 0 0] 36 w.heap.size rfl).ext (((Ext.refl (w.alloc (.cells #[.int .i64 0, .int .i64 0, .int .i64 0, .slice none 0 0] 36))).alloc (.cells #[] 3)).alloc (.cells #[.int .i64 P, .int .i64 k, .int .i64 C, .slice (some ⟨w.heap.size + 1, 0, none⟩) 0 0] 36)))
  have G0 : Hid (Grows (((w.alloc (.cells #[.int .i64 0, .int .i64 0, .int .i64 0, .slice none 0 0] 36)).alloc (.cells #[] 3)).alloc (.cells #[.int .i64 P, .int .i64 k, .int .i64 C, .slice (some ⟨w.heap.size + 1, 0, none⟩) 0 0] 36)) (w.heap.size + 1) (.slice (some ⟨w.heap.size + 1, 0, none⟩) 0 0) (rs.take 0).flatten.length (rs.take 0).flatten) := by
    have := (grows_lit (w.alloc (.cells #[.int .i64 0, .int .i64 0, .int .i64 0, .slice none 0 0] 36)) (w.heap.size + 1) (by simp)).ext ((Ext.refl _).alloc (.cells #[.int .i64 P, .int .i64 k, .int .i64 C, .slice (some ⟨w.heap.size + 1, 0, none⟩) 0 0] 36))
    rw [Hid]; simpa using this
  have B0 : Hid (BoxM (((w.alloc (.cells #[.int .i64 0, .int .i64 0, .int .i64 0, .slice none 0 0] 36)).alloc (.cells #[] 3)).alloc (.cells #[.int .i64 P, .int .i64 k, .int .i64 C, .slice (some ⟨w.heap.size + 1, 0, none⟩) 0 0] 36)) (w.heap.size + 1 + 1) [.int .i64 P, .int .i64 k, .int .i64 C, .slice (some ⟨w.heap.size + 1, 0, none⟩) 0 0]) := by
    have := boxM_new ((w.alloc (.cells #[.int .i64 0, .int .i64 0, .int .i64 0, .slice none 0 0] 36)).alloc (.cells #[] 3)) [.int .i64 P, .int .i64 k, .int .i64 C, .slice (some ⟨w.heap.size + 1, 0, none⟩) 0 0]
    rw [Hid]; simpa using this
  have E0 := Lib.hid ((((Ext.refl w).alloc (.cells #[.int .i64 0, .int .i64 0, .int .i64 0, .slice none 0 0] 36)).alloc (.cells #[] 3)).alloc (.cells #[.int .i64 P, .int .i64 k, .int .i64 C, .slice (some ⟨w.heap.size + 1, 0, none⟩) 0 0] 36))
  go_enter Try.func115, Try.ntmps115
  go_wp2_with fail
  generalize (((w.alloc (.cells #[.int .i64 0, .int .i64 0, .int .i64 0, .slice none 0 0] 36)).alloc (.cells #[] 3)).alloc (.cells #[.int .i64 P, .int .i64 k, .int .i64 C, .slice (some ⟨w.heap.size + 1, 0, none⟩) 0 0] 36)) = W1 at *
  go_loopw [8] (fun z wr => ∃ (i : Nat) (v : Value), i ≤ k ∧ z = .int .i64 i ∧ Hid (Cells wr w.heap.size [.int .i64 0, .int .i64 0, .int .i64 0, .slice none 0 0]) ∧ Hid (BoxM wr (w.heap.size + 1 + 1) [.int .i64 P, .int .i64 k, .int .i64 C, v]) ∧ Hid (Grows wr (w.heap.size + 1) v (rs.take i).flatten.length (rs.take i).flatten) ∧ Hid (Ext w wr)) (fun z _ => k - (intOf z).toNat)
  case atStart => exact ⟨0, _, by omega, rfl, R0, B0, G0, E0⟩
  case round =>
    clear R0 B0 G0 E0
    obtain ⟨i, v, hi, rfl, hR, hB, hG, hE⟩ := hrel
    by_cases hlt : i < k
    · obtain ⟨g, rfl, hg, b', n', c', hc, ho⟩ := HRS.out.get.2 i hlt
      have HRow := Lib.hid (ho.reads.ext hE.out)
      have x1 := (hE.out.cells g i hg).trans hc
      have hg2 : g < wr.heap.size := Nat.lt_of_lt_of_le hg hE.out.le
      have hlen := Lib.hid ho.len
      have HF := Lib.hid (flatten_snoc rs i (by rw [← HK.out]; exact hlt))
      have hfl := flatten_le rs (i + 1)
      rw [HF.out, List.length_append, hlen.out] at hfl
      have HFL := Lib.hid (Nat.le_trans hfl HB.out)
      clear hc ho hg hfl
      have BC := hB.out.cells
      have lB := BC.1
      have q0 := BC.2 0 _ rfl
      have q1 := BC.2 1 _ rfl
      have q2 := BC.2 2 _ rfl
      have q3 := BC.2 3 _ rfl
      have tB := BC.3
      clear BC
      obtain ⟨av, cv, rfl, hv1, hv2⟩ := hG.out.reads2
      clear hv1 hv2
      generalize hxs : (rs.take i).flatten = L at *
      have HXS := Lib.hid hxs
      clear hxs
      go_wp2_with fail
      go_region_law (refine step_appendG rfl (.tmp 22) (.tmp 26) rfl (base := w.heap.size + 1) (.slice av L.length cv) L.length L rfl (hG.out.ext (Ext.refl _).drew) (some ⟨b', 0, none⟩) n' c' (row rs i) rfl (HRow.out.ext (Ext.refl _).drew) HFL.out (by have := hE.out.le; have := lB; simp; omega) ?_ ⟨_, rfl⟩; intro v2 w2 hG2 hg2 hn2; obtain ⟨a2, cap2, rfl, hv2, ho2⟩ := hG2.reads2; have HG2 := Lib.hid hG2; clear hv2 ho2 hn2 hG2; have B2 := (BoxM.ext hB.out (Ext.refl _).drew).grown hg2 (Grows.neBox (hG.out.ext (Ext.refl _).drew) (BoxM.ext hB.out (Ext.refl _).drew)); have l2 := B2.cells.1; have y3 := B2.cells.2 3 _ rfl; have f3 := B2.cells.3 3)
      all_goals
        have hob := fun z (hz : (Value.slice av L.length cv).ownBlock = some z) => hG.out.blk z hz
        have B3 := Lib.hid (B2.put 3 (.slice a2 (L.length + n') cap2))
        have G3 := Lib.hid (HG2.out.put B2 3 (.slice a2 (L.length + n') cap2))
        have R3 : Hid (Cells (w2.setCell ⟨w.heap.size + 1 + 1, 3, none⟩ (.slice a2 (L.length + n') cap2)) w.heap.size [.int .i64 0, .int .i64 0, .int .i64 0, .slice none 0 0]) :=
          ((hR.out.ext (Ext.refl _).drew).grown hg2 (fun z hz => by have := hob z hz; omega)).grown (grownBy_set (p := ⟨w.heap.size + 1 + 1, 3, none⟩) (grownBy_refl _ (some (w.heap.size + 1 + 1))) rfl _) (fun z hz => by simp at hz; omega)
        have E3 : Hid (Ext w (w2.setCell ⟨w.heap.size + 1 + 1, 3, none⟩ (.slice a2 (L.length + n') cap2))) :=
          ((hE.out.trans (Ext.refl _).drew).grown hg2 (fun z hz => by have := hob z hz; omega)).setCell (p := ⟨w.heap.size + 1 + 1, 3, none⟩) (by simp; omega) _
        have HG4 : Hid (Grows (w2.setCell ⟨w.heap.size + 1 + 1, 3, none⟩ (.slice a2 (L.length + n') cap2)) (w.heap.size + 1) (.slice a2 (L.length + n') cap2) (rs.take (i + 1)).flatten.length (rs.take (i + 1)).flatten) := by
          rw [HF.out, List.length_append, hlen.out]; exact G3.out
        clear hob hG hB hR hE hg2 HG2 B2 l2 y3 f3 lB q0 q1 q2 q3 tB G3 HRow x1
        go_wp2
        exact ⟨⟨i + 1, _, by omega, by simp, R3, B3, HG4, E3⟩, by simp [intOf]; omega⟩
    · obtain rfl : k = i := by omega
      obtain ⟨av, cv, rfl, hnv, ho⟩ := hG.out.reads2
      have hfl : (rs.take k).flatten = rs.flatten := by rw [HK.out, List.take_length]
      rw [hfl] at hB hG hnv ho
      have HNV := Lib.hid hnv
      have HO := Lib.hid ho
      clear hfl hnv ho
      have BC := hB.out.cells
      have lB := BC.1
      have q0 := BC.2 0 _ rfl
      have q1 := BC.2 1 _ rfl
      have q2 := BC.2 2 _ rfl
      have q3 := BC.2 3 _ rfl
      have f0 := hR.out.2 0 _ rfl
      have f1 := hR.out.2 1 _ rfl
      have f2 := hR.out.2 2 _ rfl
      have f3 := hR.out.2 3 _ rfl
      have t0 := hR.out.3
      clear BC
      go_wp2
      refine bodyPost_ret (v := .agg #[.int .i64 P, .int .i64 k, .int .i64 C, .slice av rs.flatten.length cv]) (by simp [results, Try.results115, go_sem, f0, f1, f2, f3]) rfl ⟨av, cv, rfl, HNV.out, ?_, ?_⟩
      · exact Own.mono (own4 HO.out (by omega) _ _ _ _) (by omega) (by simp)
      · exact ext4 hE.out (by omega) _ _ _ _
end Go.Proofs.Ytgmipolgnpjmnaa
