/-
  Lists of matrices as results: the outer slice and the data lie in blocks of the call's own, all apart; the law package's helpers.
-/
import Derived.Test.YtnikfalpjieibaaRwR
import Derived.Test.YtnikfalpjieibaaFr
import Derived.Test.YtnikfalpjieibaaMz
namespace Go.Proofs.Ytnikfalpjieibaa
open Go.ChangeShapes Go.WideShapes Go.ChangeAt Go.RowKit
set_option linter.unusedVariables false
set_option linter.unusedSimpArgs false

def mt (ms : List Mat) (i : Nat) : Mat := ms.getD i noMat
def dats (ms : List Mat) : List (List Int) := ms.map (·.d)
theorem dats_length (ms : List Mat) : (dats ms).length = ms.length := by simp [dats]
theorem row_dats (ms : List Mat) {i : Nat} (hi : i < ms.length) : row (dats ms) i = (mt ms i).d := by
  simp [row, dats, mt, List.getD_eq_getElem?_getD, hi]
theorem mt_set (ms : List Mat) (i j : Nat) (m : Mat) (hi : i < ms.length) : mt (ms.set i m) j = if j = i then m else mt ms j := by
  simp only [mt, List.getD_eq_getElem?_getD, List.getElem?_set]
  by_cases e : i = j
  · subst e; simp [hi]
  · rw [if_neg e, if_neg (Ne.symm e)]
theorem ext_mt {a b : List Mat} (hl : a.length = b.length) (h : ∀ i, i < a.length → mt a i = mt b i) : a = b := by
  refine List.ext_getElem hl (fun i h1 h2 => ?_)
  have := h i h1
  simpa [mt, List.getD_eq_getElem?_getD, h1, h2] using this
/-- A list of matrices as a result. -/
structure MatsR (w : World) (lo hi : Nat) (a : Option Addr) (k : Nat) (ms : List Mat) : Prop where
  len : ms.length = k
  tot : (dats ms).flatten.length ≤ 1048576
  get : k = 0 ∨ ∃ (g : Nat) (cur : Array Value) (A : Nat → Option Addr) (C : Nat → Nat), a = some ⟨g, 0, none⟩ ∧ lo ≤ g ∧ g < hi ∧ w.heap[g]? = some (.cells cur 37 (0, 0)) ∧ (∀ i, i < k → cur[i * 4]? = some (.int .i64 (mt ms i).p) ∧ cur[i * 4 + 1]? = some (.int .i64 (mt ms i).r) ∧ cur[i * 4 + 2]? = some (.int .i64 (mt ms i).c) ∧ cur[i * 4 + 3]? = some (.slice (A i) (mt ms i).d.length (C i)) ∧ Own w lo hi (A i) (mt ms i).d.length (mt ms i).d) ∧ ∀ i j b, i < k → j < k → i ≠ j → blk (A i) = some b → blk (A j) ≠ some b
theorem MatsR.keep {w w' : World} {lo hi : Nat} {a : Option Addr} {k : Nat} {ms : List Mat} (h : MatsR w lo hi a k ms) (hk : ∀ b, lo ≤ b → b < hi → b < w.heap.size → w'.heap[b]? = w.heap[b]?) : MatsR w' lo hi a k ms := by
  refine ⟨h.1, h.2, ?_⟩
  rcases h.3 with h3 | ⟨g, cur, A, C, e1, e2, e3, e4, e5, e6⟩
  · exact .inl h3
  · exact .inr ⟨g, cur, A, C, e1, e2, e3, by rw [hk g e2 e3 (Array.getElem?_eq_some_iff.1 e4).1]; exact e4, fun i hi => ⟨(e5 i hi).1, (e5 i hi).2.1, (e5 i hi).2.2.1, (e5 i hi).2.2.2.1, (e5 i hi).2.2.2.2.keep hk⟩, e6⟩
theorem MatsR.ext {w w' : World} {lo hi : Nat} {a : Option Addr} {k : Nat} {ms : List Mat} (h : MatsR w lo hi a k ms) (hE : Ext w w') : MatsR w' lo hi a k ms := h.keep (fun b _ _ hb => hE.block b hb)
theorem MatsR.grown {w w' : World} {lo hi : Nat} {a : Option Addr} {k : Nat} {ms : List Mat} (h : MatsR w lo hi a k ms) {row : Option Nat} (hg : w.grownBy w' row) (hd : ∀ z, row = some z → z < lo ∨ hi ≤ z) : MatsR w' lo hi a k ms :=
  h.keep (fun b h1 h2 hb => hg.block b hb (fun e => by have := hd b e.symm; omega))
theorem MatsR.touch {w w' : World} {lo hi lo' hi' : Nat} {a : Option Addr} {k : Nat} {ms : List Mat} (h : MatsR w lo hi a k ms) (ht : Touch lo' hi' w w') (hd : hi ≤ lo' ∨ hi' ≤ lo) : MatsR w' lo hi a k ms :=
  h.keep (fun b h1 h2 hb => ht.block b hb (by omega))
theorem matsR_nil (w : World) (lo hi : Nat) (a : Option Addr) : MatsR w lo hi a 0 [] := ⟨rfl, by simp [dats], .inl rfl⟩
/-- What a result of matrices is. -/
def Rmats (w w' : World) (v : Value) (ms : List Mat) : Prop := ∃ a n c, v = .slice a n c ∧ MatsR w' w.heap.size w'.heap.size a n ms ∧ n ≤ 1048576
theorem dats_set (ms : List Mat) (i : Nat) (m : Mat) : dats (ms.set i m) = (dats ms).set i m.d := by simp [dats]
theorem MatsR.typed {w : World} {lo hi : Nat} {a : Option Addr} {n : Nat} {xs : List Int} {g : Nat} {cur : Array Value} {z : Nat × Nat} (h : Own w lo hi a n xs) (hg : w.heap[g]? = some (.cells cur 37 z)) : ∀ b, blk a = some b → b ≠ g := fun b hb e => by
  subst e
  rcases h.2 with ⟨hn, _⟩ | ⟨b2, hb2, _, _, cur2, hc2, _⟩
  · rw [hn] at hb; simp [blk] at hb
  · rw [hb2] at hb
    simp [blk] at hb
    subst hb
    rw [hc2] at hg
    simp at hg
/-- One matrix: its cells, and what becomes of the list when one of its numbers, or its data alone, is written. -/
theorem MatsR.at {w : World} {lo hi : Nat} {a : Option Addr} {k : Nat} {ms : List Mat} (h : MatsR w lo hi a k ms) {i : Nat} (hi' : i < k) : ∃ g ai ci, a = some ⟨g, 0, none⟩ ∧ lo ≤ g ∧ g < hi ∧ g < w.heap.size ∧ (∀ z, w.frozen? ⟨g, z, none⟩ = false) ∧ w.cell? ⟨g, i * 4, none⟩ = some (.int .i64 (mt ms i).p) ∧ w.cell? ⟨g, i * 4 + 1, none⟩ = some (.int .i64 (mt ms i).r) ∧ w.cell? ⟨g, i * 4 + 2, none⟩ = some (.int .i64 (mt ms i).c) ∧ w.cell? ⟨g, i * 4 + 3, none⟩ = some (.slice ai (mt ms i).d.length ci) ∧ Own w lo hi ai (mt ms i).d.length (mt ms i).d ∧
    (∀ v, MatsR (w.setCell ⟨g, i * 4, none⟩ (.int .i64 v)) lo hi a k (ms.set i ⟨v, (mt ms i).r, (mt ms i).c, (mt ms i).d⟩)) ∧
    (∀ v, MatsR (w.setCell ⟨g, i * 4 + 1, none⟩ (.int .i64 v)) lo hi a k (ms.set i ⟨(mt ms i).p, v, (mt ms i).c, (mt ms i).d⟩)) ∧
    (∀ v, MatsR (w.setCell ⟨g, i * 4 + 2, none⟩ (.int .i64 v)) lo hi a k (ms.set i ⟨(mt ms i).p, (mt ms i).r, v, (mt ms i).d⟩)) ∧
    (∀ w' ys, ys.length = (mt ms i).d.length → w.grownBy w' (blk ai) → Own w' lo hi ai ys.length ys → MatsR w' lo hi a k (ms.set i ⟨(mt ms i).p, (mt ms i).r, (mt ms i).c, ys⟩)) := by
  rcases h.3 with h3 | ⟨g, cur, A, C, e1, e2, e3, e4, e5, e6⟩
  · omega
  have hml : i < ms.length := by rw [h.1]; exact hi'
  have hlt := (Array.getElem?_eq_some_iff.1 e4).1
  have tot' : ∀ ys m, m.d = ys → ys.length = (mt ms i).d.length → (dats (ms.set i m)).flatten.length ≤ 1048576 := fun ys m hm hys => by
    subst hm
    rw [dats_set]
    have hdl : i < (dats ms).length := by rw [dats_length]; exact hml
    have := flatten_len_congr ((dats ms).set i m.d) (dats ms) (by simp) (fun j hj => by
      rw [row_set _ _ _ _ hdl]
      split
      · rename_i e; subst e; rw [row_dats ms hml]; exact hys
      · rfl)
    rw [this]; exact h.2
  -- a number is written
  have put : ∀ (t : Nat) (v : Int) (m : Mat), t < 3 → m.d = (mt ms i).d → (∀ z, z < 3 → (if z = 0 then m.p else if z = 1 then m.r else m.c) = if z = t then v else (if z = 0 then (mt ms i).p else if z = 1 then (mt ms i).r else (mt ms i).c)) → MatsR (w.setCell ⟨g, i * 4 + t, none⟩ (.int .i64 v)) lo hi a k (ms.set i m) := fun t v m ht hd hz => by
    have hsz : i * 4 + t < cur.size := by
      have := (Array.getElem?_eq_some_iff.1 (e5 i hi').2.2.2.1).1
      omega
    have z0 := hz 0 (by omega)
    have z1 := hz 1 (by omega)
    have z2 := hz 2 (by omega)
    refine ⟨by rw [List.length_set]; exact h.1, tot' _ m rfl (by rw [hd]), .inr ⟨g, cur.setIfInBounds (i * 4 + t) (.int .i64 v), A, C, e1, e2, e3, heap_setCell_same w g (i * 4 + t) _ _ _ e4, fun j hj => ?_, e6⟩⟩
    have own' : Own (w.setCell ⟨g, i * 4 + t, none⟩ (.int .i64 v)) lo hi (A j) (mt ms j).d.length (mt ms j).d := by
      have hty := MatsR.typed (e5 j hj).2.2.2.2 e4
      obtain ⟨h1, h2⟩ := (e5 j hj).2.2.2.2
      rcases h2 with h2 | ⟨b, hb, h5, h6, r, h7, h8⟩
      · exact ⟨h1, .inl h2⟩
      · refine ⟨h1, .inr ⟨b, hb, h5, h6, r, ?_, h8⟩⟩
        rw [heap_setCell_other w ⟨g, i * 4 + t, none⟩ b _ (hty b (by rw [hb]; rfl))]
        exact h7
    obtain ⟨c0, c1, c2, c3, _⟩ := e5 j hj
    rw [mt_set _ _ _ _ hml]
    by_cases e : j = i
    · subst e
      rw [if_pos rfl, hd]
      refine ⟨?_, ?_, ?_, ?_, own'⟩
      · rw [Array.getElem?_setIfInBounds]
        by_cases q : t = 0
        · subst q; simp at z0; rw [if_pos (by omega), if_pos hsz, z0]
        · rw [if_neg (by omega), c0]; simp [Ne.symm q] at z0; rw [z0]
      · rw [Array.getElem?_setIfInBounds]
        by_cases q : t = 1
        · subst q; simp at z1; rw [if_pos rfl, if_pos hsz, z1]
        · rw [if_neg (by omega), c1]; simp [Ne.symm q] at z1; rw [z1]
      · rw [Array.getElem?_setIfInBounds]
        by_cases q : t = 2
        · subst q; simp at z2; rw [if_pos rfl, if_pos hsz, z2]
        · rw [if_neg (by omega), c2]; simp [Ne.symm q] at z2; rw [z2]
      · rw [Array.getElem?_setIfInBounds, if_neg (by omega), c3]
    · rw [if_neg e]
      exact ⟨by rw [Array.getElem?_setIfInBounds, if_neg (by omega), c0], by rw [Array.getElem?_setIfInBounds, if_neg (by omega), c1], by rw [Array.getElem?_setIfInBounds, if_neg (by omega), c2], by rw [Array.getElem?_setIfInBounds, if_neg (by omega), c3], own'⟩
  refine ⟨g, A i, C i, e1, e2, e3, hlt, fun z => frozen_of_row w g z _ _ e4, by rw [cell_of_row w g _ _ _ _ e4]; exact (e5 i hi').1, by rw [cell_of_row w g _ _ _ _ e4]; exact (e5 i hi').2.1, by rw [cell_of_row w g _ _ _ _ e4]; exact (e5 i hi').2.2.1, by rw [cell_of_row w g _ _ _ _ e4]; exact (e5 i hi').2.2.2.1, (e5 i hi').2.2.2.2, fun v => ?_, fun v => ?_, fun v => ?_, fun w' ys hys hg ho => ?_⟩
  · exact put 0 v ⟨v, (mt ms i).r, (mt ms i).c, (mt ms i).d⟩ (by omega) rfl (fun z hz => by
      obtain h | h | h : z = 0 ∨ z = 1 ∨ z = 2 := by omega
      all_goals subst h; simp)
  · exact put 1 v ⟨(mt ms i).p, v, (mt ms i).c, (mt ms i).d⟩ (by omega) rfl (fun z hz => by
      obtain h | h | h : z = 0 ∨ z = 1 ∨ z = 2 := by omega
      all_goals subst h; simp)
  · exact put 2 v ⟨(mt ms i).p, (mt ms i).r, v, (mt ms i).d⟩ (by omega) rfl (fun z hz => by
      obtain h | h | h : z = 0 ∨ z = 1 ∨ z = 2 := by omega
      all_goals subst h; simp)
  · have hty := MatsR.typed (e5 i hi').2.2.2.2 e4
    refine ⟨by rw [List.length_set]; exact h.1, tot' _ _ rfl hys, .inr ⟨g, cur, A, C, e1, e2, e3, ?_, fun j hj => ?_, e6⟩⟩
    · rw [hg.block g hlt (fun e => hty g e.symm rfl)]; exact e4
    · obtain ⟨c0, c1, c2, c3, c4⟩ := e5 j hj
      rw [mt_set _ _ _ _ hml]
      by_cases e : j = i
      · subst e
        rw [if_pos rfl]
        exact ⟨c0, c1, c2, by rw [hys]; exact c3, ho⟩
      · rw [if_neg e]
        refine ⟨c0, c1, c2, c3, ?_⟩
        obtain ⟨h1, h2⟩ := c4
        rcases h2 with h2 | ⟨b, hb, h5, h6, r, h7, h8⟩
        · exact ⟨h1, .inl h2⟩
        · refine ⟨h1, .inr ⟨b, hb, h5, h6, r, ?_, h8⟩⟩
          rw [hg.block b (Array.getElem?_eq_some_iff.1 h7).1 (fun e' => e6 i j b hi' hj (Ne.symm e) e'.symm (by rw [hb]; rfl))]
          exact h7
/-- The marks, matrix by matrix. -/
def offM (ms : List Mat) (i : Nat) : Nat := 3 * i + (dats (ms.take i)).flatten.length
def mkM (k : Int) (ms : List Mat) : List Mat := (List.range ms.length).map fun i => ⟨k + offM ms i, k + offM ms i + 1, k + offM ms i + 1 + 1, marks (k + offM ms i + 1 + 1 + 1) (mt ms i).d.length⟩
theorem mkM_length (k : Int) (ms : List Mat) : (mkM k ms).length = ms.length := by simp [mkM]
theorem mt_mkM (k : Int) (ms : List Mat) {i : Nat} (hi : i < ms.length) : mt (mkM k ms) i = ⟨k + offM ms i, k + offM ms i + 1, k + offM ms i + 1 + 1, marks (k + offM ms i + 1 + 1 + 1) (mt ms i).d.length⟩ := by
  simp [mt, mkM, List.getD_eq_getElem?_getD, hi]
theorem offM_eq (ms : List Mat) (i : Nat) : offM ms i = 3 * i + offR (dats ms) i := by rw [offM, offR, dats, dats, List.map_take]
theorem offM_succ (ms : List Mat) {i : Nat} (hi : i < ms.length) : offM ms (i + 1) = offM ms i + 3 + (mt ms i).d.length := by
  rw [offM_eq, offM_eq, offR_succ _ (by rw [dats_length]; exact hi), row_dats ms hi]
  omega
def totM (ms : List Mat) : Nat := offM ms ms.length
theorem offM_le (ms : List Mat) (i : Nat) : offM ms i ≤ 3 * i + (dats ms).flatten.length := by
  rw [offM_eq]; have := offR_le (dats ms) i; omega

set_option maxHeartbeats 1600000 in
theorem eqMatrixS_x (a a' : Option Addr) (lo hi lo' hi' n c c' : Nat) (ms : List Mat) (w : World) (hr : MatsR w lo hi a n ms) (hr' : MatsR w lo' hi' a' n ms) (hn : n ≤ 1048576) :
    Calls Try.prog 19 #[.slice a n c, .slice a' n c'] w fun e w' => e = .returned (.bool true) ∧ Ext w w' := by
  have HR := Lib.hid hr
  have HR' := Lib.hid hr'
  clear hr hr'
  go_enter Try.func19, Try.ntmps19
  go_wp2
  go_loopw [5] (fun i wr => ∃ (k : Nat), k ≤ n ∧ i = .int .i64 k ∧ Hid (Ext w wr)) (fun i _ => n - (intOf i).toNat)
  case atStart => exact ⟨0, by omega, rfl, Ext.refl _⟩
  case round =>
    obtain ⟨k, hk, rfl, hE⟩ := hrel
    by_cases hlt : k < n
    · obtain ⟨g, ai, ci, ha, _, _, hg, _, c0, c1, c2, c3, ho, _⟩ := HR.out.at hlt
      obtain ⟨g', ai', ci', ha', _, _, hg', _, d0, d1, d2, d3, ho', _⟩ := HR'.out.at hlt
      subst ha
      subst ha'
      have x0 := (hE.out.cells g (k * 4) hg).trans c0
      have x1 := (hE.out.cells g (k * 4 + 1) hg).trans c1
      have x2 := (hE.out.cells g (k * 4 + 2) hg).trans c2
      have x3 := (hE.out.cells g (k * 4 + 3) hg).trans c3
      have z0 := (hE.out.cells g' (k * 4) hg').trans d0
      have z1 := (hE.out.cells g' (k * 4 + 1) hg').trans d1
      have z2 := (hE.out.cells g' (k * 4 + 2) hg').trans d2
      have z3 := (hE.out.cells g' (k * 4 + 3) hg').trans d3
      have y1 : g < wr.heap.size := Nat.lt_of_lt_of_le hg hE.out.le
      have y2 : g' < wr.heap.size := Nat.lt_of_lt_of_le hg' hE.out.le
      have hml : k < ms.length := by rw [HR.out.1]; exact hlt
      have hb : (mt ms k).d.length ≤ 1048576 := by
        have := row_len_le (dats ms) k (by rw [dats_length]; exact hml)
        rw [row_dats ms hml] at this
        exact Nat.le_trans this HR.out.2
      have O1 := Lib.hid (ho.reads.ext hE.out)
      have O2 := Lib.hid (ho'.reads.ext hE.out)
      have hlt' : (k : Int) < (n : Int) := by omega
      clear c0 c1 c2 c3 d0 d1 d2 d3 ho ho' hg hg'
      go_wp2_with fail
      go_region_held3 (fun w' => Ext wr w' ∧ (∀ b o, b < wr.heap.size → w'.cell? ⟨b, o, none⟩ = wr.cell? ⟨b, o, none⟩)) (first | assumption | (with_reducible exact ext2 (Ext.trans (And.left ‹Ext wr _ ∧ _›) ‹Ext _ _›)) | (refine ext2 ?_; with_reducible repeat (first | exact Ext.refl _ | exact And.left ‹Ext wr _ ∧ _› | refine Ext.drew ?_ | refine Ext.drewN ?_ _))) (first
        | (go_at_call 23; (with_reducible refine (eqMatrix_law _ _ _ ai ai' _ ci ci' (mt ms k).d _ (O1.out.ext (And.left ‹Ext wr _ ∧ _›)) (O2.out.ext (And.left ‹Ext wr _ ∧ _›)) hb).mono ?_); rintro e w4 ⟨rfl, h4⟩))
      all_goals
        have E9 := Lib.hid (hE.out.trans (And.left ‹Ext wr w4 ∧ _›))
        go_wp2
        exact ⟨⟨k + 1, by omega, by simp, E9⟩, by simp [intOf]; omega⟩
    · go_wp2
      go_ret
      exact ⟨rfl, hE.out⟩

set_option maxHeartbeats 3200000 in
theorem markMatrixS_law (lo hi : Nat) (a : Option Addr) (n c : Nat) (ms : List Mat) (k : Int) (w : World) (hr : MatsR w lo hi a n ms) (hn : n ≤ 1048576) (hk0 : 0 ≤ k) (hk1 : k ≤ 536870912) :
    Calls Try.prog 26 #[.slice a n c, .int .i64 k] w fun e w' => e = .returned (.int .i64 (k + totM ms)) ∧ MatsR w' lo hi a n (mkM k ms) ∧ Touch lo hi w w' := by
  have HR := Lib.hid hr
  clear hr
  have h00 : k + ((offM ms 0 : Nat) : Int) = k := by simp [offM, dats]
  have HOA : Hid (offM ms n = totM ms) := by rw [← HR.out.1]; rfl
  have h01 : (Value.int .i64 k) = .int .i64 (k + ((offM ms 0 : Nat) : Int)) := by rw [h00]
  have H01 := Lib.hid h01
  clear h00 h01
  go_enter Try.func26, Try.ntmps26
  go_wp2
  go_loopw [1, 5] (fun q i wr => ∃ (j : Nat) (ys : List Mat), j ≤ n ∧ i = .int .i64 j ∧ q = .int .i64 (k + offM ms j) ∧ Hid (MatsR wr lo hi a n ys) ∧ Hid (∀ i, i < n → (mt ys i).d.length = (mt ms i).d.length ∧ (i < j → mt ys i = mt (mkM k ms) i)) ∧ Hid (Touch lo hi w wr)) (fun _ i _ => n - (intOf i).toNat)
  case atStart => exact ⟨0, ms, by omega, rfl, H01.out, HR, fun i hi => ⟨rfl, fun h => by omega⟩, Touch.refl _ _ _⟩
  case round =>
    obtain ⟨j, ys, hj, rfl, rfl, h1, h2, h3⟩ := hrel
    by_cases hlt : j < n
    · have hjr : j < ms.length := by rw [HR.out.1]; exact hlt
      have hjy : j < ys.length := by rw [h1.out.1]; exact hlt
      have hlen := (h2.out j hlt).1
      have hs := Lib.hid (offM_succ ms hjr)
      have hb0 := offM_le ms (j + 1)
      have hb1 := HR.out.2
      rw [offM_succ ms hjr] at hb0
      have hb2 : (mt ms j).d.length ≤ 1048576 := by
        have := row_len_le (dats ms) j (by rw [dats_length]; exact hjr)
        rw [row_dats ms hjr] at this
        omega
      have hb3 : (offM ms j : Int) ≤ 4194310 := by omega
      generalize hO : k + ((offM ms j : Nat) : Int) = O at *
      have HOO := Lib.hid hO
      have hO0 : 0 ≤ O := by omega
      have hO1 : O ≤ 1000000000 := by omega
      obtain ⟨g, ai, ci, ha, hg0, hg9, hg, hfz, c0, c1, c2, c3, ho, n0, _, _, _⟩ := h1.out.at hlt
      subst ha
      have M1 := Lib.hid (n0 O)
      have T1 := Lib.hid (h3.out.grown (grownBy_set (p := ⟨g, j * 4, none⟩) (grownBy_refl wr (some g)) rfl (.int .i64 O)) (fun z hz => by simp at hz; omega))
      have e1 : mt (ys.set j ⟨O, (mt ys j).r, (mt ys j).c, (mt ys j).d⟩) j = ⟨O, (mt ys j).r, (mt ys j).c, (mt ys j).d⟩ := by rw [mt_set _ _ _ _ hjy, if_pos rfl]
      obtain ⟨g1, ai1, ci1, ha1, _, _, hg1, hfz1, c01, c11, c21, c31, ho1, _, n1, _, _⟩ := M1.out.at hlt
      obtain rfl : g = g1 := by simpa using ha1
      rw [e1] at c11 n1
      have M2 := Lib.hid (n1 (O + 1))
      have T2 := Lib.hid (T1.out.grown (grownBy_set (p := ⟨g, j * 4 + 1, none⟩) (grownBy_refl _ (some g)) rfl (.int .i64 (O + 1))) (fun z hz => by simp at hz; omega))
      rw [List.set_set] at M2
      have e2 : mt (ys.set j ⟨O, O + 1, (mt ys j).c, (mt ys j).d⟩) j = ⟨O, O + 1, (mt ys j).c, (mt ys j).d⟩ := by rw [mt_set _ _ _ _ hjy, if_pos rfl]
      obtain ⟨g2, ai2, ci2, ha2, _, _, hg2, hfz2, c02, c12, c22, c32, ho2, _, _, n2, _⟩ := M2.out.at hlt
      obtain rfl : g = g2 := by simpa using ha2
      rw [e2] at c22 n2
      have M3 := Lib.hid (n2 (O + 1 + 1))
      have T3 := Lib.hid (T2.out.grown (grownBy_set (p := ⟨g, j * 4 + 2, none⟩) (grownBy_refl _ (some g)) rfl (.int .i64 (O + 1 + 1))) (fun z hz => by simp at hz; omega))
      rw [List.set_set] at M3
      have e3 : mt (ys.set j ⟨O, O + 1, O + 1 + 1, (mt ys j).d⟩) j = ⟨O, O + 1, O + 1 + 1, (mt ys j).d⟩ := by rw [mt_set _ _ _ _ hjy, if_pos rfl]
      obtain ⟨g3, ai3, ci3, ha3, _, _, hg3, hfz3, c03, c13, c23, c33, ho3, _, _, _, n3⟩ := M3.out.at hlt
      obtain rfl : g = g3 := by simpa using ha3
      rw [e3] at c33 ho3 n3
      dsimp only at c33 ho3 n3 c11 c22
      rw [hlen] at c33 ho3 n3
      have f0 := hfz (j * 4)
      have f1 := hfz1 (j * 4 + 1)
      have f2 := hfz2 (j * 4 + 2)
      have HO3 := Lib.hid ho3
      have HN3 := Lib.hid n3
      have hlt' : (j : Int) < (n : Int) := by omega
      clear hfz hfz1 hfz2 hfz3 ho ho1 ho2 ho3 n0 n1 n2 n3 c1 c2 c3 c01 c21 c31 c02 c12 c32 c03 c13 c23 ha1 ha2 ha3 e1 e2 e3 hO hb0 hb1 hlen M1 M2 T1 T2
      go_wp2_with fail
      refine (markIntS_law lo hi ai3 _ ci3 (mt ys j).d _ _ HO3.out hb2 (by omega) (by omega)).mono ?_
      rintro e w2 ⟨rfl, ho9, hg9'⟩
      have hml : (marks (O + 1 + 1 + 1) (mt ms j).d.length).length = (mt ms j).d.length := marks_length _ _
      have R9 := Lib.hid (HN3.out w2 _ hml hg9' (by rw [hml]; exact ho9))
      rw [List.set_set] at R9
      have T9 := Lib.hid (T3.out.grown hg9' (fun z hz => HO3.out.blk z hz))
      have HY : Hid (∀ i, i < n → (mt (ys.set j ⟨O, O + 1, O + 1 + 1, marks (O + 1 + 1 + 1) (mt ms j).d.length⟩) i).d.length = (mt ms i).d.length ∧ (i < j + 1 → mt (ys.set j ⟨O, O + 1, O + 1 + 1, marks (O + 1 + 1 + 1) (mt ms j).d.length⟩) i = mt (mkM k ms) i)) := fun i hi => by
        rw [mt_set _ _ _ _ hjy]
        by_cases e : i = j
        · subst e
          rw [if_pos rfl, mt_mkM k ms hjr, HOO.out]
          exact ⟨hml, fun _ => rfl⟩
        · rw [if_neg e]
          exact ⟨(h2.out i hi).1, fun h => (h2.out i hi).2 (by omega)⟩
      have HQ : Hid (Value.int .i64 (O + 1 + 1 + 1 + ((mt ms j).d.length : Int)) = .int .i64 (k + ((offM ms (j + 1) : Nat) : Int))) := by
        have := HOO.out
        rw [Hid, hs.out]; congr 1; omega
      clear hml ho9 hg9' h1 h2 h3 HO3 HN3 c0 c11 c22 c33 hg M3 T3 f0 f1 f2
      go_wp2
      exact ⟨⟨j + 1, _, by omega, by simp, HQ.out, R9, HY, T9⟩, by simp [intOf]; omega⟩
    · obtain rfl : j = n := by omega
      have hy : ys = mkM k ms := ext_mt (by rw [h1.out.1, mkM_length, HR.out.1]) (fun i hi => by
        rw [h1.out.1] at hi
        exact (h2.out i hi).2 hi)
      subst hy
      go_wp2
      go_ret
      exact ⟨congrArg (fun z : Nat => Ending.returned (.int .i64 (k + (z : Int)))) HOA.out, h1.out, h3.out⟩

set_option maxHeartbeats 3200000 in
theorem heldMatrixS_x (a : Option Addr) (lo hi n c : Nat) (ms : List Mat) (k : Int) (w : World) (hr : MatsR w lo hi a n (mkM k ms)) (hn : n ≤ 1048576) (hk0 : 0 ≤ k) (hk1 : k ≤ 536870912) :
    Calls Try.prog 32 #[.slice a n c, .int .i64 k] w fun e w' => e = .returned (.int .i64 (k + totM ms)) ∧ Ext w w' := by
  have HR := Lib.hid hr
  clear hr
  have HN : Hid (ms.length = n) := by rw [Hid, ← mkM_length k ms]; exact HR.out.1
  have hfl : (dats (mkM k ms)).flatten.length = (dats ms).flatten.length := flatten_len_congr _ _ (by rw [dats_length, dats_length, mkM_length]) (fun i hi => by
    rw [dats_length, mkM_length] at hi
    rw [row_dats _ (by rw [mkM_length]; exact hi), row_dats _ hi, mt_mkM k ms hi, marks_length])
  have HT : Hid ((dats ms).flatten.length ≤ 1048576) := by rw [Hid, ← hfl]; exact HR.out.2
  clear hfl
  have h00 : k + ((offM ms 0 : Nat) : Int) = k := by simp [offM, dats]
  have HOA : Hid (offM ms n = totM ms) := by rw [← HN.out]; rfl
  have h01 : (Value.int .i64 k) = .int .i64 (k + ((offM ms 0 : Nat) : Int)) := by rw [h00]
  have H01 := Lib.hid h01
  clear h00 h01
  go_enter Try.func32, Try.ntmps32
  go_wp2
  go_loopw [1, 5] (fun q i wr => ∃ (j : Nat), j ≤ n ∧ i = .int .i64 j ∧ q = .int .i64 (k + offM ms j) ∧ Hid (Ext w wr)) (fun _ i _ => n - (intOf i).toNat)
  case atStart => exact ⟨0, by omega, rfl, H01.out, Ext.refl _⟩
  case round =>
    obtain ⟨j, hj, rfl, rfl, hE⟩ := hrel
    by_cases hlt : j < n
    · have hjr : j < ms.length := by rw [HN.out]; exact hlt
      have hs := Lib.hid (offM_succ ms hjr)
      have hb0 := offM_le ms (j + 1)
      have hb1 := HT.out
      rw [offM_succ ms hjr] at hb0
      obtain ⟨g, ai, ci, ha, _, _, hg, _, c0, c1, c2, c3, ho, _⟩ := HR.out.at hlt
      rw [mt_mkM k ms hjr] at c0 c1 c2 c3 ho
      dsimp only at c0 c1 c2 c3 ho
      rw [marks_length] at c3 ho
      subst ha
      have hb2 : (mt ms j).d.length ≤ 1048576 := by
        have := row_len_le (dats ms) j (by rw [dats_length]; exact hjr)
        rw [row_dats ms hjr] at this
        omega
      have hb3 : (offM ms j : Int) ≤ 4194310 := by omega
      generalize hO : k + ((offM ms j : Nat) : Int) = O at *
      have HOO := Lib.hid hO
      have hO0 : 0 ≤ O := by omega
      have hO1 : O ≤ 1000000000 := by omega
      have x0 := (hE.out.cells g (j * 4) hg).trans c0
      have x1 := (hE.out.cells g (j * 4 + 1) hg).trans c1
      have x2 := (hE.out.cells g (j * 4 + 2) hg).trans c2
      have x3 := (hE.out.cells g (j * 4 + 3) hg).trans c3
      have y1 : g < wr.heap.size := Nat.lt_of_lt_of_le hg hE.out.le
      have HO := Lib.hid (ho.reads.ext hE.out)
      have hlt' : (j : Int) < (n : Int) := by omega
      have hpos : 0 ≤ O + 1 + 1 + 1 + ((mt ms j).d.length : Int) := by omega
      clear ho hg hb0 hb1 c0 c1 c2 c3 hO
      go_wp2_with fail
      refine (heldIntS_x ai _ ci _ _ HO.out hb2 (by omega) (by omega)).mono ?_
      rintro e w2 ⟨rfl, h2⟩
      have E9 := Lib.hid (hE.out.trans h2)
      have HQ : Hid (Value.int .i64 (O + 1 + 1 + 1 + ((mt ms j).d.length : Int)) = .int .i64 (k + ((offM ms (j + 1) : Nat) : Int))) := by
        have := HOO.out
        rw [Hid, hs.out]; congr 1; omega
      clear h2 HO hE x0 x1 x2 x3
      go_wp2
      exact ⟨⟨j + 1, by omega, by simp, HQ.out, E9⟩, by simp [intOf]; omega⟩
    · obtain rfl : j = n := by omega
      go_wp2
      go_ret
      exact ⟨congrArg (fun z : Nat => Ending.returned (.int .i64 (k + (z : Int)))) HOA.out, hE.out⟩
end Go.Proofs.Ytnikfalpjieibaa
