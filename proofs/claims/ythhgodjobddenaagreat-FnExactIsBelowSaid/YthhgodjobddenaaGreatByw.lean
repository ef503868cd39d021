/-
  byWord: the reflections of a word's letters, the last one first.
-/
import Derived.Test.YthhgodjobddenaaGreatBwd
import Derived.Test.YthhgodjobddenaaGreatTrd
import Derived.Test.YthhgodjobddenaaGreatRfl

namespace Go.Proofs.YthhgodjobddenaaGreat
open Go.ChangeShapes Go.WideShapes Go.ChangeAt Go.RowKit Go.Shelf
set_option linter.unusedVariables false
set_option linter.unusedSimpArgs false
attribute [local go_sem] Oper.semAt_some

theorem extKO {W W' : World} (h : Ext W W') : KeepsOthers W W' := ⟨h.size, fun k o hk ho => (h.block k (Array.getElem?_eq_some_iff.1 hk).1).trans hk⟩
/-- What the letters that came have made of a list. -/
def fedL {R : Nat} (T : Nat → List Int → List Int) (y : List Int) (pre : List (Ltr R)) : List Int := pre.foldl (fun a p => T p.1.2 a) y
theorem fedL_snoc {R : Nat} (T : Nat → List Int → List Int) (y : List Int) (pre : List (Ltr R)) (x : Ltr R) : fedL T y (pre ++ [x]) = T x.1.2 (fedL T y pre) := by simp [fedL]
theorem fedL_P {R : Nat} {T : Nat → List Int → List Int} {P : List Int → Prop} {y : List Int} (h0 : P y) (hT : ∀ u i, i < R → P u → P (T i u)) (pre : List (Ltr R)) : P (fedL T y pre) := by
  have key : ∀ (pre : List (Ltr R)) (u : List Int), P u → P (pre.foldl (fun a p => T p.1.2 a) u) := by
    intro pre
    induction pre with
    | nil => intro u h; exact h
    | cons x l ih => intro u h; exact ih _ (hT u x.1.2 x.2 h)
  exact key pre y h0
theorem fedL_all {R : Nat} (T : Nat → List Int → List Int) (y ys : List Int) (h0 : 0 < R) (h : ∀ e, e < ys.length → 0 ≤ gi ys e ∧ gi ys e < (R : Int)) : fedL T y (uptoL (ltrAt ys ys.length R h0) ys.length) = ys.foldr (fun i a => T i.toNat a) y := by
  have e : (uptoL (ltrAt ys ys.length R h0) ys.length).map (fun p => p.1.2) = (ys.map Int.toNat).reverse := by
    apply List.ext_getElem
    · simp [uptoL]
    · intro i h1 h2
      have hi : i < ys.length := by simpa [uptoL] using h1
      have hb := h (ys.length - 1 - i) (by omega)
      rw [List.getElem_reverse]
      simp only [uptoL, List.getElem_map, List.getElem_range, ltrAt, List.length_map]
      rw [Nat.mod_eq_of_lt (by omega), show gi ys (ys.length - 1 - i) = ys[ys.length - 1 - i] by simp [gi, show ys.length - 1 - i < ys.length by omega]]
  have e2 : fedL T y (uptoL (ltrAt ys ys.length R h0) ys.length) = ((uptoL (ltrAt ys ys.length R h0) ys.length).map (fun p => p.1.2)).foldl (fun a i => T i a) y := by
    rw [List.foldl_map]; rfl
  rw [e2, e, List.foldl_reverse, List.foldr_map]
/-- What byWord holds between two rounds. -/
def heldW (w0 : World) (s0 By R : Nat) (fv : Value) (l : List Int) (W : World) : Prop :=
  (W.cell? ⟨s0, 0, none⟩ = some fv ∧ ∃ b c, W.cell? ⟨By, 0, none⟩ = some (.slice (some ⟨b, 0, none⟩) R c) ∧ W.frozen? ⟨By, 0, none⟩ = false ∧ b ≠ By ∧ w0.heap.size ≤ b ∧ R ≤ c ∧ Has W b l) ∧ Below w0.heap.size w0 W
theorem heldW_own {β : Type} {B : Nat} (w0 : World) (s0 By R : Nat) (fv : Value) (f : β → List Int) (hB : w0.heap.size ≤ B) : OwnFrom B (fun (pre : β) W => heldW w0 s0 By R fv (f pre) W) := by
  refine OwnFrom.and (Own.from (fun s A C row hs hg hr => ?_) _) (ownFrom_below (Nat.le_refl _) hB)
  obtain ⟨h1, b, c, h2, h3, h4, h5, h6, h7⟩ := hs
  refine ⟨cell_kept h1 hg hr, b, c, cell_kept h2 hg hr, (frozen_kept h2 hg hr).trans h3, h4, h5, h6, h7.grownOther hg (fun k hk e => ?_)⟩
  subst e
  obtain ⟨o, ho, hc⟩ := hr k hk
  obtain ⟨r, hrr, _⟩ := h7
  rw [hrr] at ho
  injection ho with ho
  subst ho
  cases hc

set_option maxRecDepth 100000 in
set_option maxHeartbeats 6400000 in
theorem byWord_turned (B R da od n cD bw ow lw cw b1 o1 cy : Nat) (v2 v3 : Value) (xs wd y : List Int) (P : List Int → Prop) (w : World) (hB : Cells w B [.int .i64 (R : Nat), .slice (some ⟨da, od, none⟩) n cD, v2, v3]) (hr : Reads w (some ⟨da, od, none⟩) n xs) (hn : n = R * R) (hR0 : 1 ≤ R) (hR : R ≤ 4) (hxb : ∀ e, -3 ≤ gi xs e ∧ gi xs e ≤ 3) (hW : Reads w (some ⟨bw, ow, none⟩) lw wd) (hlw : lw ≤ 1048576) (hwd : ∀ e, e < wd.length → 0 ≤ gi wd e ∧ gi wd e < (R : Int)) (hy : Reads w (some ⟨b1, o1, none⟩) R y) (hP0 : P y) (hPB : ∀ u, P u → u.length = R ∧ ∀ e, -1000000 ≤ gi u e ∧ gi u e ≤ 1000000) (hPT : ∀ u i, i < R → P u → P (turnM xs R i u)) :
    Calls Tryz.prog 59 #[.slice (some ⟨bw, ow, none⟩) lw cw, .slice (some ⟨b1, o1, none⟩) R cy, .func (.func 60) #[.pointer (some ⟨B, 0, none⟩)] #[]] w fun e w' => ∃ b c9, e = .returned (.slice (some ⟨b, 0, none⟩) R c9) ∧ R ≤ c9 ∧ w.heap.size ≤ b ∧ b < w'.heap.size ∧ Has w' b (wd.foldr (fun i a => turnM xs R i.toNat a) y) ∧ P (wd.foldr (fun i a => turnM xs R i.toNat a) y) ∧ Ext w w' := by
  have HALL := Lib.hid (fedL_all (turnM xs R) y wd hR0 hwd)
  have HLEN := Lib.hid hW.len
  have HWD : Hid (∀ j, j < lw → 0 ≤ gi wd j ∧ gi wd j < (R : Int)) := fun j hj => hwd j (by rw [hW.len]; exact hj)
  have HWC : Hid (lw = 0 ∨ (bw < w.heap.size ∧ ∀ j, j < lw → w.cell? ⟨bw, ow + j, none⟩ = some (.int .i64 (gi wd j)))) := by
    rcases hW.2 with h | ⟨b2, o2, e2, hb2, hc2⟩
    · exact .inl h
    · injection e2 with e2
      injection e2 with e3 e4
      subst e3 e4
      exact .inr ⟨hb2, hc2⟩
  have HCL := Lib.hid (fun w1 (h : Ext w w1) => clone5 ⟨b1, o1, none⟩ R cy y w1 (hy.ext h) (by omega))
  have HM := Lib.hid (fun w1 (h : Ext w w1) (i b c : Nat) (u : List Int) (hi : i < R) (hu : P u) (hh : Has w1 b u) => turned_impl B R da od n cD R c i v2 v3 xs u (some ⟨b, 0, none⟩) w1 (hB.ext h) (hr.ext h) hn hR0 hR (hh.reads (hPB u hu).1) rfl hi hxb (hPB u hu).2)
  have HPT := Lib.hid hPT
  have HPB := Lib.hid hPB
  have HP0 := Lib.hid hP0
  have X0 := Lib.hid ((Ext.refl w).alloc (.cells #[.func (.func 60) #[.pointer (some ⟨B, 0, none⟩)] #[]] 56))
  clear hB hr hxb hW hwd hy hP0 hPB hPT
  refine (callsIn_wide (n := 3)).1 ?_
  refine callsIn_of_wp_marks Tryz.func59 rfl trivial ?_ rfl
  simp only [Tryz.ntmps59, List.size_toArray, List.length_cons, List.length_nil, Nat.reduceAdd, Nat.reduceSub, Array.replicate_succ, Array.replicate_zero, List.push_toArray, List.append_toArray, List.nil_append, List.cons_append]
  gi_wp2_with (first | (refine ⟨trivial, ?_⟩; gi_at_call 70; refine (callsIn_wide.2 (HCL.out _ X0.out)).mono ?_; rintro e w2 ⟨b0, c0, rfl, hb0, hh0, hE0, hc0⟩) | (refine ⟨trivial, ?_⟩; gi_at_call 98; refine (back_in Fence.wide _ trivial rfl _ _ _ _).mono ?_; rintro e w' ⟨rfl, rfl⟩))
  have hle0 := X0.out.le
  have hb0l := hh0.lt
  have hle2 := hE0.le
  have hsz1 : w.heap.size < w2.heap.size := by have h1 := hE0.le; simp at h1; omega
  obtain ⟨W0, hW0⟩ : ∃ W0, ((w2.alloc (.cells #[.slice (some ⟨b0, 0, none⟩) R c0] 22)).alloc (.cells #[.slice (some ⟨bw, ow, none⟩) lw cw] 22)) = W0 := ⟨_, rfl⟩
  have E20 : Ext w2 W0 := by rw [← hW0]; exact ((Ext.refl w2).alloc _).alloc _
  have EW0 : Ext w W0 := (X0.out.trans hE0).trans E20
  have hs9 : W0.heap.size = w2.heap.size + 2 := by rw [← hW0]; simp
  have CB : Cells W0 (w2.heap.size + 1) [.slice (some ⟨bw, ow, none⟩) lw cw] := by rw [← hW0]; exact cells_new' _ #[.slice (some ⟨bw, ow, none⟩) lw cw] _ _ (by simp)
  have CY : Cells W0 w2.heap.size [.slice (some ⟨b0, 0, none⟩) R c0] := by rw [← hW0]; exact (cells_new w2 #[.slice (some ⟨b0, 0, none⟩) R c0] _).ext ((Ext.refl _).alloc _)
  have CS : Cells W0 w.heap.size [.func (.func 60) #[.pointer (some ⟨B, 0, none⟩)] #[]] := ((cells_new w #[.func (.func 60) #[.pointer (some ⟨B, 0, none⟩)] #[]] _).ext hE0).ext E20
  have HI0 : heldW w w.heap.size w2.heap.size R (.func (.func 60) #[.pointer (some ⟨B, 0, none⟩)] #[]) y W0 := ⟨⟨CS.2 0 _ rfl, b0, c0, CY.2 0 _ rfl, CY.3 0, by omega, by omega, hc0, hh0.ext E20⟩, EW0⟩
  have HPA : ∀ pre : List (Ltr R), P (fedL (turnM xs R) y pre) := fun pre => fedL_P HP0.out HPT.out pre
  rw [hW0]
  refine wpIn_rangeFunc_ownF rfl (by omega) (gf := 129) (lb := #[.pointer (some ⟨w2.heap.size + 1, 0, none⟩)]) rfl trivial (enters_of Tryz.func129 (by kernel_rfl) rfl)
    (back_stops Fence.wide _ trivial rfl (by omega) (w2.heap.size + 1) w.heap.size bw ow lw cw R wd hR0 hlw HWD.out W0 (by omega) (CB.2 0 _ rfl) (HWC.out.imp id (fun h => ⟨h.1, Nat.lt_of_lt_of_le h.1 EW0.le, fun j hj => (EW0.cells bw _ h.1).trans (h.2 j hj)⟩))) kpB_t (kpB_b EW0.le (by omega)) (Below.refl _ _) (fun _ => rfl)
    (fun pre W => heldW w w.heap.size w2.heap.size R (.func (.func 60) #[.pointer (some ⟨B, 0, none⟩)] #[]) (fedL (turnM xs R) y pre) W)
    (fun _ _ _ => False)
    (heldW_own w w.heap.size w2.heap.size R _ (fedL (turnM xs R) y) EW0.le)
    (fun _ _ _ _ _ hs _ _ => hs)
    HI0
    (fun x => { tmps := #[.slice (some ⟨bw, ow, none⟩) lw cw, .slice (some ⟨b1, o1, none⟩) R cy, .func (.func 60) #[.pointer (some ⟨B, 0, none⟩)] #[], undef, undef, .pointer (some ⟨w.heap.size, 0, none⟩), .slice none 0 0, .pointer (some ⟨w2.heap.size, 0, none⟩), undef, .int .i64 (x.1.2 : Int), .slice (some ⟨b1, o1, none⟩) R cy, .slice (some ⟨b0, 0, none⟩) R c0, .slice (some ⟨bw, ow, none⟩) lw cw, .func (.func 129) #[] #[.pointer (some ⟨w2.heap.size + 1, 0, none⟩)], .int .i64 (x.1.1 : Int), .int .i64 (x.1.2 : Int), undef, undef, undef, undef, undef], defers := [] }) ?assign ?body ?done ?stop
  case assign =>
    intro l x W K hK
    simp only [encL]
    gi_wp2
    exact hK
  case body =>
    rintro l pre x W ⟨⟨hs0, b, c, hy1, hf1, hne, hlo, hcR, hh⟩, hBel⟩ hlen
    have hyl := World.block_lt_of_cell? _ _ hy1
    have hsl := World.block_lt_of_cell? _ _ hs0
    have hbl := hh.lt
    have HBEL := Lib.hid hBel
    have HH := Lib.hid hh
    have HC := Lib.hid (HM.out W hBel x.1.2 b c _ x.2 (HPA pre) hh)
    have HSN := Lib.hid (fedL_snoc (turnM xs R) y pre x)
    clear hh hBel HPA HI0 CB CY CS
    gi_wp2_with (refine ⟨trivial, ?_⟩; gi_at_call 60; refine (CallsIn.inRound l (callsIn_wide.2 HC.out)).mono ?_; rintro e w5 ⟨b5, c5, rfl, hc5, hb5, hb6, hh5, h5⟩; have hy5 := (h5.cells w2.heap.size 0 hyl).trans hy1; have hf5 := (h5.frees w2.heap.size 0 hyl).trans hf1; have HH5 := Lib.hid hh5; have H5 := Lib.hid h5; clear hh5 h5)
    have hne5 : w2.heap.size ≠ b5 := by omega
    refine ⟨(extKO H5.out).trans (KeepsOthers.setCell _ _ _), ⟨(Below.mono H5.out HBEL.out.size).setCell (p := ⟨w2.heap.size, 0, none⟩) (by show w.heap.size ≤ w2.heap.size; omega) _, fun hb => (Below.heap_setCell _ _ _ _ (by show w2.heap.size + 1 ≠ w2.heap.size; omega)).trans (H5.out.block _ hb)⟩, ⟨⟨?_, b5, c5, World.cell?_setCell_same' _ _ _ (by rw [hy5]; rfl), (World.frozen?_setCell _ _ _ _).trans hf5, Ne.symm hne5, ?_, hc5, ?_⟩, ?_⟩⟩
    · exact (World.cell?_of_block (a := ⟨w.heap.size, 0, none⟩) (Below.heap_setCell _ _ _ _ (by show w.heap.size ≠ w2.heap.size; omega))).trans ((H5.out.cells w.heap.size 0 hsl).trans hs0)
    · have := HBEL.out.size; omega
    · rw [HSN.out]; exact HH5.out.setOther (p := ⟨w2.heap.size, 0, none⟩) hne5 _
    · exact (HBEL.out.trans (Below.mono H5.out HBEL.out.size)).setCell (p := ⟨w2.heap.size, 0, none⟩) (by show w.heap.size ≤ w2.heap.size; omega) _
  case done =>
    rintro D ys W hD rfl ⟨⟨hs0, b, c, hy1, hf1, hne, hlo, hcR, hh⟩, hBel⟩ hK
    have HH := Lib.hid hh
    have HBEL := Lib.hid hBel
    have HPF := HPA (uptoL (ltrAt wd lw R hR0) lw)
    have HAL2 : fedL (turnM xs R) y (uptoL (ltrAt wd lw R hR0) lw) = wd.foldr (fun i a => turnM xs R i.toNat a) y := by rw [← HLEN.out]; exact HALL.out
    rw [HAL2] at HPF
    have HHF : Hid (Has (W.putObj D (.deferred none)) b (wd.foldr (fun i a => turnM xs R i.toNat a) y)) := by
      rw [← HAL2]
      exact hh.grownOther (grownBy_putObj' W D _) (fun k hk e => by
        cases hk; subst e
        obtain ⟨r, hrr, _⟩ := hh
        rw [hrr] at hK
        injection hK with hK
        cases hK)
    have HBF : Hid (Ext w (W.putObj D (.deferred none))) := hBel.trans (belowK_b (w := w) (Nat.le_refl _) W D _ _ (by omega) hK rfl rfl)
    clear hh hBel HPA HI0 HAL2 HALL HM HCL
    gi_wp2
    refine ⟨by simp, .inl ⟨_, _, rfl, run_takeDeferred hK, ?_⟩⟩
    exact ⟨_, results_tmp rfl _ _ _, b, c, rfl, hcR, hlo, HHF.out.lt, HHF.out, HPF, HBF.out⟩
  case stop =>
    rintro D c pre W _ _ h _
    exact h.elim

set_option maxRecDepth 100000 in
set_option maxHeartbeats 6400000 in
theorem byWord_reflected (B R da od n cD bw ow lw cw b1 o1 cy : Nat) (v2 v3 : Value) (xs wd y : List Int) (P : List Int → Prop) (w : World) (hB : Cells w B [.int .i64 (R : Nat), .slice (some ⟨da, od, none⟩) n cD, v2, v3]) (hr : Reads w (some ⟨da, od, none⟩) n xs) (hn : n = R * R) (hR0 : 1 ≤ R) (hR : R ≤ 4) (hxb : ∀ e, -3 ≤ gi xs e ∧ gi xs e ≤ 3) (hW : Reads w (some ⟨bw, ow, none⟩) lw wd) (hlw : lw ≤ 1048576) (hwd : ∀ e, e < wd.length → 0 ≤ gi wd e ∧ gi wd e < (R : Int)) (hy : Reads w (some ⟨b1, o1, none⟩) R y) (hP0 : P y) (hPB : ∀ u, P u → u.length = R ∧ ∀ e, -1000000 ≤ gi u e ∧ gi u e ≤ 1000000) (hPT : ∀ u i, i < R → P u → P (rfl5 xs R i u)) :
    Calls Tryz.prog 59 #[.slice (some ⟨bw, ow, none⟩) lw cw, .slice (some ⟨b1, o1, none⟩) R cy, .func (.func 63) #[.pointer (some ⟨B, 0, none⟩)] #[]] w fun e w' => ∃ b c9, e = .returned (.slice (some ⟨b, 0, none⟩) R c9) ∧ R ≤ c9 ∧ w.heap.size ≤ b ∧ b < w'.heap.size ∧ Has w' b (wd.foldr (fun i a => rfl5 xs R i.toNat a) y) ∧ P (wd.foldr (fun i a => rfl5 xs R i.toNat a) y) ∧ Ext w w' := by
  have HALL := Lib.hid (fedL_all (rfl5 xs R) y wd hR0 hwd)
  have HLEN := Lib.hid hW.len
  have HWD : Hid (∀ j, j < lw → 0 ≤ gi wd j ∧ gi wd j < (R : Int)) := fun j hj => hwd j (by rw [hW.len]; exact hj)
  have HWC : Hid (lw = 0 ∨ (bw < w.heap.size ∧ ∀ j, j < lw → w.cell? ⟨bw, ow + j, none⟩ = some (.int .i64 (gi wd j)))) := by
    rcases hW.2 with h | ⟨b2, o2, e2, hb2, hc2⟩
    · exact .inl h
    · injection e2 with e2
      injection e2 with e3 e4
      subst e3 e4
      exact .inr ⟨hb2, hc2⟩
  have HCL := Lib.hid (fun w1 (h : Ext w w1) => clone5 ⟨b1, o1, none⟩ R cy y w1 (hy.ext h) (by omega))
  have HM := Lib.hid (fun w1 (h : Ext w w1) (i b c : Nat) (u : List Int) (hi : i < R) (hu : P u) (hh : Has w1 b u) => reflected_impl B R da od n cD R c i v2 v3 xs u (some ⟨b, 0, none⟩) w1 (hB.ext h) (hr.ext h) hn hR0 hR (hh.reads (hPB u hu).1) rfl hi hxb (hPB u hu).2)
  have HPT := Lib.hid hPT
  have HPB := Lib.hid hPB
  have HP0 := Lib.hid hP0
  have X0 := Lib.hid ((Ext.refl w).alloc (.cells #[.func (.func 63) #[.pointer (some ⟨B, 0, none⟩)] #[]] 56))
  clear hB hr hxb hW hwd hy hP0 hPB hPT
  refine (callsIn_wide (n := 3)).1 ?_
  refine callsIn_of_wp_marks Tryz.func59 rfl trivial ?_ rfl
  simp only [Tryz.ntmps59, List.size_toArray, List.length_cons, List.length_nil, Nat.reduceAdd, Nat.reduceSub, Array.replicate_succ, Array.replicate_zero, List.push_toArray, List.append_toArray, List.nil_append, List.cons_append]
  gi_wp2_with (first | (refine ⟨trivial, ?_⟩; gi_at_call 70; refine (callsIn_wide.2 (HCL.out _ X0.out)).mono ?_; rintro e w2 ⟨b0, c0, rfl, hb0, hh0, hE0, hc0⟩) | (refine ⟨trivial, ?_⟩; gi_at_call 98; refine (back_in Fence.wide _ trivial rfl _ _ _ _).mono ?_; rintro e w' ⟨rfl, rfl⟩))
  have hle0 := X0.out.le
  have hb0l := hh0.lt
  have hle2 := hE0.le
  have hsz1 : w.heap.size < w2.heap.size := by have h1 := hE0.le; simp at h1; omega
  obtain ⟨W0, hW0⟩ : ∃ W0, ((w2.alloc (.cells #[.slice (some ⟨b0, 0, none⟩) R c0] 22)).alloc (.cells #[.slice (some ⟨bw, ow, none⟩) lw cw] 22)) = W0 := ⟨_, rfl⟩
  have E20 : Ext w2 W0 := by rw [← hW0]; exact ((Ext.refl w2).alloc _).alloc _
  have EW0 : Ext w W0 := (X0.out.trans hE0).trans E20
  have hs9 : W0.heap.size = w2.heap.size + 2 := by rw [← hW0]; simp
  have CB : Cells W0 (w2.heap.size + 1) [.slice (some ⟨bw, ow, none⟩) lw cw] := by rw [← hW0]; exact cells_new' _ #[.slice (some ⟨bw, ow, none⟩) lw cw] _ _ (by simp)
  have CY : Cells W0 w2.heap.size [.slice (some ⟨b0, 0, none⟩) R c0] := by rw [← hW0]; exact (cells_new w2 #[.slice (some ⟨b0, 0, none⟩) R c0] _).ext ((Ext.refl _).alloc _)
  have CS : Cells W0 w.heap.size [.func (.func 63) #[.pointer (some ⟨B, 0, none⟩)] #[]] := ((cells_new w #[.func (.func 63) #[.pointer (some ⟨B, 0, none⟩)] #[]] _).ext hE0).ext E20
  have HI0 : heldW w w.heap.size w2.heap.size R (.func (.func 63) #[.pointer (some ⟨B, 0, none⟩)] #[]) y W0 := ⟨⟨CS.2 0 _ rfl, b0, c0, CY.2 0 _ rfl, CY.3 0, by omega, by omega, hc0, hh0.ext E20⟩, EW0⟩
  have HPA : ∀ pre : List (Ltr R), P (fedL (rfl5 xs R) y pre) := fun pre => fedL_P HP0.out HPT.out pre
  rw [hW0]
  refine wpIn_rangeFunc_ownF rfl (by omega) (gf := 129) (lb := #[.pointer (some ⟨w2.heap.size + 1, 0, none⟩)]) rfl trivial (enters_of Tryz.func129 (by kernel_rfl) rfl)
    (back_stops Fence.wide _ trivial rfl (by omega) (w2.heap.size + 1) w.heap.size bw ow lw cw R wd hR0 hlw HWD.out W0 (by omega) (CB.2 0 _ rfl) (HWC.out.imp id (fun h => ⟨h.1, Nat.lt_of_lt_of_le h.1 EW0.le, fun j hj => (EW0.cells bw _ h.1).trans (h.2 j hj)⟩))) kpB_t (kpB_b EW0.le (by omega)) (Below.refl _ _) (fun _ => rfl)
    (fun pre W => heldW w w.heap.size w2.heap.size R (.func (.func 63) #[.pointer (some ⟨B, 0, none⟩)] #[]) (fedL (rfl5 xs R) y pre) W)
    (fun _ _ _ => False)
    (heldW_own w w.heap.size w2.heap.size R _ (fedL (rfl5 xs R) y) EW0.le)
    (fun _ _ _ _ _ hs _ _ => hs)
    HI0
    (fun x => { tmps := #[.slice (some ⟨bw, ow, none⟩) lw cw, .slice (some ⟨b1, o1, none⟩) R cy, .func (.func 63) #[.pointer (some ⟨B, 0, none⟩)] #[], undef, undef, .pointer (some ⟨w.heap.size, 0, none⟩), .slice none 0 0, .pointer (some ⟨w2.heap.size, 0, none⟩), undef, .int .i64 (x.1.2 : Int), .slice (some ⟨b1, o1, none⟩) R cy, .slice (some ⟨b0, 0, none⟩) R c0, .slice (some ⟨bw, ow, none⟩) lw cw, .func (.func 129) #[] #[.pointer (some ⟨w2.heap.size + 1, 0, none⟩)], .int .i64 (x.1.1 : Int), .int .i64 (x.1.2 : Int), undef, undef, undef, undef, undef], defers := [] }) ?assign ?body ?done ?stop
  case assign =>
    intro l x W K hK
    simp only [encL]
    gi_wp2
    exact hK
  case body =>
    rintro l pre x W ⟨⟨hs0, b, c, hy1, hf1, hne, hlo, hcR, hh⟩, hBel⟩ hlen
    have hyl := World.block_lt_of_cell? _ _ hy1
    have hsl := World.block_lt_of_cell? _ _ hs0
    have hbl := hh.lt
    have HBEL := Lib.hid hBel
    have HH := Lib.hid hh
    have HC := Lib.hid (HM.out W hBel x.1.2 b c _ x.2 (HPA pre) hh)
    have HSN := Lib.hid (fedL_snoc (rfl5 xs R) y pre x)
    clear hh hBel HPA HI0 CB CY CS
    gi_wp2_with (refine ⟨trivial, ?_⟩; gi_at_call 63; refine (CallsIn.inRound l (callsIn_wide.2 HC.out)).mono ?_; rintro e w5 ⟨b5, c5, rfl, hc5, hb5, hb6, hh5, h5⟩; have hy5 := (h5.cells w2.heap.size 0 hyl).trans hy1; have hf5 := (h5.frees w2.heap.size 0 hyl).trans hf1; have HH5 := Lib.hid hh5; have H5 := Lib.hid h5; clear hh5 h5)
    have hne5 : w2.heap.size ≠ b5 := by omega
    refine ⟨(extKO H5.out).trans (KeepsOthers.setCell _ _ _), ⟨(Below.mono H5.out HBEL.out.size).setCell (p := ⟨w2.heap.size, 0, none⟩) (by show w.heap.size ≤ w2.heap.size; omega) _, fun hb => (Below.heap_setCell _ _ _ _ (by show w2.heap.size + 1 ≠ w2.heap.size; omega)).trans (H5.out.block _ hb)⟩, ⟨⟨?_, b5, c5, World.cell?_setCell_same' _ _ _ (by rw [hy5]; rfl), (World.frozen?_setCell _ _ _ _).trans hf5, Ne.symm hne5, ?_, hc5, ?_⟩, ?_⟩⟩
    · exact (World.cell?_of_block (a := ⟨w.heap.size, 0, none⟩) (Below.heap_setCell _ _ _ _ (by show w.heap.size ≠ w2.heap.size; omega))).trans ((H5.out.cells w.heap.size 0 hsl).trans hs0)
    · have := HBEL.out.size; omega
    · rw [HSN.out]; exact HH5.out.setOther (p := ⟨w2.heap.size, 0, none⟩) hne5 _
    · exact (HBEL.out.trans (Below.mono H5.out HBEL.out.size)).setCell (p := ⟨w2.heap.size, 0, none⟩) (by show w.heap.size ≤ w2.heap.size; omega) _
  case done =>
    rintro D ys W hD rfl ⟨⟨hs0, b, c, hy1, hf1, hne, hlo, hcR, hh⟩, hBel⟩ hK
    have HH := Lib.hid hh
    have HBEL := Lib.hid hBel
    have HPF := HPA (uptoL (ltrAt wd lw R hR0) lw)
    have HAL2 : fedL (rfl5 xs R) y (uptoL (ltrAt wd lw R hR0) lw) = wd.foldr (fun i a => rfl5 xs R i.toNat a) y := by rw [← HLEN.out]; exact HALL.out
    rw [HAL2] at HPF
    have HHF : Hid (Has (W.putObj D (.deferred none)) b (wd.foldr (fun i a => rfl5 xs R i.toNat a) y)) := by
      rw [← HAL2]
      exact hh.grownOther (grownBy_putObj' W D _) (fun k hk e => by
        cases hk; subst e
        obtain ⟨r, hrr, _⟩ := hh
        rw [hrr] at hK
        injection hK with hK
        cases hK)
    have HBF : Hid (Ext w (W.putObj D (.deferred none))) := hBel.trans (belowK_b (w := w) (Nat.le_refl _) W D _ _ (by omega) hK rfl rfl)
    clear hh hBel HPA HI0 HAL2 HALL HM HCL
    gi_wp2
    refine ⟨by simp, .inl ⟨_, _, rfl, run_takeDeferred hK, ?_⟩⟩
    exact ⟨_, results_tmp rfl _ _ _, b, c, rfl, hcR, hlo, HHF.out.lt, HHF.out, HPF, HBF.out⟩
  case stop =>
    rintro D c pre W _ _ h _
    exact h.elim
end Go.Proofs.YthhgodjobddenaaGreat
