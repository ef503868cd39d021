/-
  PairOf, CorootOf and ReflectBy, of the program and of the specification.
-/
import Derived.Test.YtinoaldfdcddiaaGreatPc5
import Derived.Test.YtinoaldfdcddiaaGreatTr5
namespace Go.Proofs.YtinoaldfdcddiaaGreat
open Go.ChangeShapes Go.WideShapes Go.ChangeAt Go.RowKit
set_option linter.unusedVariables false
set_option linter.unusedSimpArgs false

def pairO (R : Int) (l x r : List Int) : Int := match carG R l with | some v => if irB (posR l R.toNat) r && latB R.toNat x then prM l v.2 x r R.toNat else 0 | none => 0
def corO (R : Int) (l r : List Int) : List Int := match carG R l with | some v => if irB (posR l R.toNat) r then coM l v.2 r R.toNat else [] | none => []
def refO (R : Int) (l r x : List Int) : List Int := match carG R l with | some v => if irB (posR l R.toNat) r && latB R.toNat x then ptL x (- prM l v.2 x r R.toNat) r else [] | none => []

set_option maxRecDepth 100000 in
set_option maxHeartbeats 3200000 in
theorem pairOf_spec {R : Int} {a0 oa n bx ox nx br or nr : Nat} {l x r : List Int} {w : World} {i : Int} (hT : Reads w (some ⟨a0, oa, none⟩) n l) (hm0 : n ≤ 1048576) (hx : Reads w (some ⟨bx, ox, none⟩) nx x) (hmx : nx ≤ 1048576) (hwfx : Wf5 x) (hr : Reads w (some ⟨br, or, none⟩) nr r) (hmr : nr ≤ 1048576) (hwfr : Wf5 r) (hM : pairO R l x r = i) :
    Calls Tryz.prog 28 #[.agg #[.int .i64 R, .slice (some ⟨a0, oa, none⟩) n n], .slice (some ⟨bx, ox, none⟩) nx nx, .slice (some ⟨br, or, none⟩) nr nr] w fun e w' => e = .returned (.int .i64 i) ∧ Ext w w' := by
  subst hM
  have HT := Lib.hid hT
  have Hx := Lib.hid hx
  have Hr := Lib.hid hr
  rcases hG : carG R l with _ | v
  · have HF : Hid (pairO R l x r = 0) := by rw [Hid, pairO, hG]
    have HI : isrO R l r = false := by rw [isrO, hG]
    clear hT hx hr
    go_enter Tryz.func28, Tryz.ntmps28
    go_wp2_with fail
    refine (isRootT_spec (HT.out.ext ((Ext.refl w).alloc _)) hm0 (Hr.out.ext ((Ext.refl w).alloc _)) hmr hwfr HI).mono ?_
    rintro e w2 ⟨rfl, hE⟩
    go_wp2
    go_ret
    exact ⟨ret_int HF.out.symm, ((Ext.refl w).alloc _).trans hE⟩
  · obtain ⟨K, rfl, hK1, hK4, hlK, ht⟩ := carG_some hG
    have hnK : Hid (n = K * K) := by rw [Hid, ← hT.len]; exact hlK
    have HLO := Lib.hid (lenOk_tab (by omega) hK4 ht)
    have HRO := Lib.hid (rootsOk_tab (by omega) hK4 ht)
    have HPA := Lib.hid (posR_all hK4 hK1 HRO.out)
    have HI : Hid (isrO K l r = irB (posR l K) r) := by rw [Hid, isrO, hG]; rfl
    have HF : Hid (pairO K l x r = if irB (posR l K) r && latB K x then prM l v.2 x r K else 0) := by rw [Hid, pairO, hG]; rfl
    have HRA := Lib.hid (fun h => root_all (r := r) HRO.out h)
    obtain ⟨PR, hPR⟩ : ∃ PR, posR l K = PR := ⟨_, rfl⟩
    have HPRd := Lib.hid hPR
    rw [hPR] at HPA HI HF HRA
    clear hT hPR hx hr
    rcases hir : irB PR r with _ | _
    · have HF : Hid (pairO K l x r = 0) := by rw [Hid, HF.out, hir]; rfl
      go_enter Tryz.func28, Tryz.ntmps28
      go_wp2_with fail
      refine (isRootT_spec (HT.out.ext ((Ext.refl w).alloc _)) hm0 (Hr.out.ext ((Ext.refl w).alloc _)) hmr hwfr HI.out).mono ?_
      rintro e w3 ⟨rfl, hE⟩
      rw [hir]
      have HE3 := Lib.hid (((Ext.refl w).alloc _).trans hE)
      have HB3 := Lib.hid ((cells_new w #[.int .i64 (K : Nat), .slice (some ⟨a0, oa, none⟩) n n] 28).ext hE)
      have lB := HB3.out.1
      have q0 := HB3.out.2 0 _ rfl
      have q1 := HB3.out.2 1 _ rfl
      clear hE
      go_wp2
      go_ret
      exact ⟨ret_int HF.out.symm, HE3.out⟩
    · have HRA := Lib.hid (HRA.out hir)
      rcases hL : latB K x with _ | _
      · have HF : Hid (pairO K l x r = 0) := by rw [Hid, HF.out, hir, hL]; rfl
        go_enter Tryz.func28, Tryz.ntmps28
        go_wp2_with fail
        refine (isRootT_spec (HT.out.ext ((Ext.refl w).alloc _)) hm0 (Hr.out.ext ((Ext.refl w).alloc _)) hmr hwfr HI.out).mono ?_
        rintro e w3 ⟨rfl, hE⟩
        rw [hir]
        have HE3 := Lib.hid (((Ext.refl w).alloc _).trans hE)
        have HB3 := Lib.hid ((cells_new w #[.int .i64 (K : Nat), .slice (some ⟨a0, oa, none⟩) n n] 28).ext hE)
        have lB := HB3.out.1
        have q0 := HB3.out.2 0 _ rfl
        have q1 := HB3.out.2 1 _ rfl
        clear hE
        go_wp2_with fail
        clear lB q0 q1
        refine (l5Lattice_spec K a0 oa n n bx ox nx nx x _ (Hx.out.ext HE3.out) hK4 hmx).mono ?_
        rintro e w4 ⟨rfl, h4⟩
        rw [hL]
        have HE4 := Lib.hid (HE3.out.trans h4)
        have HB4 := Lib.hid (HB3.out.ext h4)
        clear h4 HB3 HE3
        have lB := HB4.out.1
        have q0 := HB4.out.2 0 _ rfl
        have q1 := HB4.out.2 1 _ rfl
        go_wp2
        go_ret
        exact ⟨ret_int HF.out.symm, HE4.out⟩
      · have HF := Lib.hid (HF.out.trans (by rw [hir, hL]; rfl : _ = prM l v.2 x r K))
        have HLB := Lib.hid (latB_bnd hL)
        have HNR : Hid (nr = K) := by rw [Hid, ← Hr.out.len]; exact HRA.out.1
        have HNX : Hid (nx = K) := by rw [Hid, ← Hx.out.len]; exact HLB.out.1
        go_enter Tryz.func28, Tryz.ntmps28
        go_wp2_with fail
        refine (isRootT_spec (HT.out.ext ((Ext.refl w).alloc _)) hm0 (Hr.out.ext ((Ext.refl w).alloc _)) hmr hwfr HI.out).mono ?_
        rintro e w3 ⟨rfl, hE⟩
        rw [hir]
        have HE3 := Lib.hid (((Ext.refl w).alloc _).trans hE)
        have HB3 := Lib.hid ((cells_new w #[.int .i64 (K : Nat), .slice (some ⟨a0, oa, none⟩) n n] 28).ext hE)
        have lB := HB3.out.1
        have q0 := HB3.out.2 0 _ rfl
        have q1 := HB3.out.2 1 _ rfl
        clear hE
        go_wp2_with fail
        clear lB q0 q1
        refine (l5Lattice_spec K a0 oa n n bx ox nx nx x _ (Hx.out.ext HE3.out) hK4 hmx).mono ?_
        rintro e w4 ⟨rfl, h4⟩
        rw [hL]
        have HE4 := Lib.hid (HE3.out.trans h4)
        have HB4 := Lib.hid (HB3.out.ext h4)
        clear h4 HB3 HE3
        have lB := HB4.out.1
        have q0 := HB4.out.2 0 _ rfl
        have q1 := HB4.out.2 1 _ rfl
        go_wp2_with fail
        refine (l5Pair_spec K a0 oa n n nx nx nr nr l v.2 x r _ _ _ (HT.out.ext HE4.out) hnK.out hK1 hK4 HLO.out (Hx.out.ext HE4.out) HNX.out HLB.out.2 (Hr.out.ext HE4.out) HNR.out HRA.out.2.1 HRA.out.2.2.1).mono ?_
        rintro e w5 ⟨rfl, h5⟩
        go_wp2
        go_ret
        exact ⟨ret_int HF.out.symm, HE4.out.trans h5⟩

set_option maxRecDepth 100000 in
set_option maxHeartbeats 3200000 in
theorem pairOf_impl {R : Int} {a0 oa n bx ox nx br or nr : Nat} {l x r : List Int} {w : World} {i : Int} (hT : Reads w (some ⟨a0, oa, none⟩) n l) (hm0 : n ≤ 1048576) (hx : Reads w (some ⟨bx, ox, none⟩) nx x) (hmx : nx ≤ 1048576) (hwfx : Wf5 x) (hr : Reads w (some ⟨br, or, none⟩) nr r) (hmr : nr ≤ 1048576) (hwfr : Wf5 r) (hM : pairO R l x r = i) :
    Calls Tryz.prog 29 #[.agg #[.int .i64 R, .slice (some ⟨a0, oa, none⟩) n n], .slice (some ⟨bx, ox, none⟩) nx nx, .slice (some ⟨br, or, none⟩) nr nr] w fun e w' => e = .returned (.int .i64 i) ∧ Ext w w' := by
  subst hM
  have HT := Lib.hid hT
  have Hx := Lib.hid hx
  have Hr := Lib.hid hr
  rcases hG : carG R l with _ | v
  · have HF : Hid (pairO R l x r = 0) := by rw [Hid, pairO, hG]
    have HI : isrO R l r = false := by rw [isrO, hG]
    clear hT hx hr
    go_enter Tryz.func29, Tryz.ntmps29
    go_wp2_with fail
    refine (wrapRoots_no (HT.out.ext ((Ext.refl w).alloc _)) hm0 hG).mono ?_
    rintro e w2 ⟨rfl, hE⟩
    go_wp2
    go_ret
    exact ⟨ret_int HF.out.symm, ((Ext.refl w).alloc _).trans hE⟩
  · obtain ⟨K, rfl, hK1, hK4, hlK, ht⟩ := carG_some hG
    have hnK : Hid (n = K * K) := by rw [Hid, ← hT.len]; exact hlK
    have HLO := Lib.hid (lenOk_tab (by omega) hK4 ht)
    have HRO := Lib.hid (rootsOk_tab (by omega) hK4 ht)
    have HPA := Lib.hid (posR_all hK4 hK1 HRO.out)
    have HI : Hid (isrO K l r = irB (posR l K) r) := by rw [Hid, isrO, hG]; rfl
    have HF : Hid (pairO K l x r = if irB (posR l K) r && latB K x then prM l v.2 x r K else 0) := by rw [Hid, pairO, hG]; rfl
    have HRA := Lib.hid (fun h => root_all (r := r) HRO.out h)
    obtain ⟨PR, hPR⟩ : ∃ PR, posR l K = PR := ⟨_, rfl⟩
    have HPRd := Lib.hid hPR
    rw [hPR] at HPA HI HF HRA
    clear hT hPR hx hr
    rcases hir : irB PR r with _ | _
    · have HF : Hid (pairO K l x r = 0) := by rw [Hid, HF.out, hir]; rfl
      go_enter Tryz.func29, Tryz.ntmps29
      go_wp2_with fail
      refine (wrapRoots_yes (HT.out.ext ((Ext.refl w).alloc _)) hK1 hK4 ht hlK HRO.out HLO.out).mono ?_
      rw [HPRd.out]
      rintro e w2 ⟨S, B, LB, ns, g, c, rfl, hns, hS⟩
      have HS := Lib.hid (hS.low ((Ext.refl w).alloc _))
      have HE := Lib.hid HS.out.wr.ext
      have lS := hS.box.1
      have q0 := hS.box.2 0 _ rfl
      have q1 := hS.box.2 1 _ rfl
      obtain ⟨xa, xn, xc, hbox, hstr⟩ := HS.out.wr.box
      have HBX := Lib.hid hbox
      have HLX := Lib.hid HS.out.wr.len
      clear hS hns hbox hstr
      go_wp2_with fail
      refine (isRoot_impl S g c nr nr _ _ PR r _ HS.out.box HS.out.rd (by have := HPA.out.2.2.1; omega) (fun r hr => (HPA.out.1 r hr).2) HPA.out.2.2.2.2 (Hr.out.ext HE.out) hmr hwfr).mono ?_
      rintro e w3 ⟨rfl, h3⟩
      rw [hir]
      have HS3 := Lib.hid (HS.out.step h3)
      have HE3 := Lib.hid (HE.out.trans h3)
      have HBX3 := Lib.hid (HBX.out.ext h3)
      have HLX3 := Lib.hid (HLX.out.ext h3)
      clear lS q0 q1 h3 HS HE HBX HLX
      have lS := HS3.out.box.1
      have q0 := HS3.out.box.2 0 _ rfl
      go_wp2
      go_ret
      exact ⟨ret_int HF.out.symm, HE3.out⟩
    · have HRA := Lib.hid (HRA.out hir)
      rcases hL : latB K x with _ | _
      · have HF : Hid (pairO K l x r = 0) := by rw [Hid, HF.out, hir, hL]; rfl
        go_enter Tryz.func29, Tryz.ntmps29
        go_wp2_with fail
        refine (wrapRoots_yes (HT.out.ext ((Ext.refl w).alloc _)) hK1 hK4 ht hlK HRO.out HLO.out).mono ?_
        rw [HPRd.out]
        rintro e w2 ⟨S, B, LB, ns, g, c, rfl, hns, hS⟩
        have HS := Lib.hid (hS.low ((Ext.refl w).alloc _))
        have HE := Lib.hid HS.out.wr.ext
        have lS := hS.box.1
        have q0 := hS.box.2 0 _ rfl
        have q1 := hS.box.2 1 _ rfl
        obtain ⟨xa, xn, xc, hbox, hstr⟩ := HS.out.wr.box
        have HBX := Lib.hid hbox
        have HLX := Lib.hid HS.out.wr.len
        clear hS hns hbox hstr
        go_wp2_with fail
        refine (isRoot_impl S g c nr nr _ _ PR r _ HS.out.box HS.out.rd (by have := HPA.out.2.2.1; omega) (fun r hr => (HPA.out.1 r hr).2) HPA.out.2.2.2.2 (Hr.out.ext HE.out) hmr hwfr).mono ?_
        rintro e w3 ⟨rfl, h3⟩
        rw [hir]
        have HS3 := Lib.hid (HS.out.step h3)
        have HE3 := Lib.hid (HE.out.trans h3)
        have HBX3 := Lib.hid (HBX.out.ext h3)
        have HLX3 := Lib.hid (HLX.out.ext h3)
        clear lS q0 q1 h3 HS HE HBX HLX
        have lS := HS3.out.box.1
        have q0 := HS3.out.box.2 0 _ rfl
        go_wp2_with fail
        clear lS q0
        refine (hasLattice_impl B K a0 oa n n bx ox nx nx _ _ x _ HBX3.out (Hx.out.ext HE3.out) hK4 hmx).mono ?_
        rintro e w4 ⟨rfl, h4⟩
        rw [hL]
        have HE4 := Lib.hid (HE3.out.trans h4)
        have HS4 := Lib.hid (HS3.out.step h4)
        have HBX4 := Lib.hid (HBX3.out.ext h4)
        have HLX4 := Lib.hid (HLX3.out.ext h4)
        clear h4 HS3 HE3 HBX3 HLX3
        have lS := HS4.out.box.1
        have q0 := HS4.out.box.2 0 _ rfl
        go_wp2
        go_ret
        exact ⟨ret_int HF.out.symm, HE4.out⟩
      · have HF := Lib.hid (HF.out.trans (by rw [hir, hL]; rfl : _ = prM l v.2 x r K))
        have HLB := Lib.hid (latB_bnd hL)
        have HNR : Hid (nr = K) := by rw [Hid, ← Hr.out.len]; exact HRA.out.1
        have HNX : Hid (nx = K) := by rw [Hid, ← Hx.out.len]; exact HLB.out.1
        go_enter Tryz.func29, Tryz.ntmps29
        go_wp2_with fail
        refine (wrapRoots_yes (HT.out.ext ((Ext.refl w).alloc _)) hK1 hK4 ht hlK HRO.out HLO.out).mono ?_
        rw [HPRd.out]
        rintro e w2 ⟨S, B, LB, ns, g, c, rfl, hns, hS⟩
        have HS := Lib.hid (hS.low ((Ext.refl w).alloc _))
        have HE := Lib.hid HS.out.wr.ext
        have lS := hS.box.1
        have q0 := hS.box.2 0 _ rfl
        have q1 := hS.box.2 1 _ rfl
        obtain ⟨xa, xn, xc, hbox, hstr⟩ := HS.out.wr.box
        have HBX := Lib.hid hbox
        have HLX := Lib.hid HS.out.wr.len
        clear hS hns hbox hstr
        go_wp2_with fail
        refine (isRoot_impl S g c nr nr _ _ PR r _ HS.out.box HS.out.rd (by have := HPA.out.2.2.1; omega) (fun r hr => (HPA.out.1 r hr).2) HPA.out.2.2.2.2 (Hr.out.ext HE.out) hmr hwfr).mono ?_
        rintro e w3 ⟨rfl, h3⟩
        rw [hir]
        have HS3 := Lib.hid (HS.out.step h3)
        have HE3 := Lib.hid (HE.out.trans h3)
        have HBX3 := Lib.hid (HBX.out.ext h3)
        have HLX3 := Lib.hid (HLX.out.ext h3)
        clear lS q0 q1 h3 HS HE HBX HLX
        have lS := HS3.out.box.1
        have q0 := HS3.out.box.2 0 _ rfl
        go_wp2_with fail
        clear lS q0
        refine (hasLattice_impl B K a0 oa n n bx ox nx nx _ _ x _ HBX3.out (Hx.out.ext HE3.out) hK4 hmx).mono ?_
        rintro e w4 ⟨rfl, h4⟩
        rw [hL]
        have HE4 := Lib.hid (HE3.out.trans h4)
        have HS4 := Lib.hid (HS3.out.step h4)
        have HBX4 := Lib.hid (HBX3.out.ext h4)
        have HLX4 := Lib.hid (HLX3.out.ext h4)
        clear h4 HS3 HE3 HBX3 HLX3
        have lS := HS4.out.box.1
        have q0 := HS4.out.box.2 0 _ rfl
        go_wp2_with fail
        refine (pair_impl B LB K a0 oa n n nx nx nr nr _ l v.2 x r _ _ _ HBX4.out HLX4.out (HT.out.ext HE4.out) hnK.out hK1 hK4 HLO.out (Hx.out.ext HE4.out) HNX.out HLB.out.2 (Hr.out.ext HE4.out) HNR.out HRA.out.2.1 HRA.out.2.2.1).mono ?_
        rintro e w5 ⟨rfl, h5⟩
        go_wp2
        go_ret
        exact ⟨ret_int HF.out.symm, HE4.out.trans h5⟩

set_option maxRecDepth 100000 in
set_option maxHeartbeats 3200000 in
theorem corootOf_spec {R : Int} {a0 oa n br or nr : Nat} {l r : List Int} {w : World} {i : List Int} (hT : Reads w (some ⟨a0, oa, none⟩) n l) (hm0 : n ≤ 1048576) (hr : Reads w (some ⟨br, or, none⟩) nr r) (hmr : nr ≤ 1048576) (hwfr : Wf5 r) (hM : corO R l r = i) :
    Calls Tryz.prog 30 #[.agg #[.int .i64 R, .slice (some ⟨a0, oa, none⟩) n n], .slice (some ⟨br, or, none⟩) nr nr] w fun e w' => ∃ v, e = .returned v ∧ Rints5 w w' v i ∧ Ext w w' := by
  subst hM
  have HT := Lib.hid hT
  have Hr := Lib.hid hr
  rcases hG : carG R l with _ | v
  · have HF : Hid (corO R l r = []) := by rw [Hid, corO, hG]
    have HI : isrO R l r = false := by rw [isrO, hG]
    clear hT hr
    go_enter Tryz.func30, Tryz.ntmps30
    go_wp2_with fail
    refine (isRootT_spec (HT.out.ext ((Ext.refl w).alloc _)) hm0 (Hr.out.ext ((Ext.refl w).alloc _)) hmr hwfr HI).mono ?_
    rintro e w2 ⟨rfl, hE⟩
    go_wp2
    go_ret
    exact ⟨_, rfl, ⟨_, _, _, rfl, by rw [HF.out]; exact own_nil _ _ _, by omega⟩, ((Ext.refl w).alloc _).trans hE⟩
  · obtain ⟨K, rfl, hK1, hK4, hlK, ht⟩ := carG_some hG
    have hnK : Hid (n = K * K) := by rw [Hid, ← hT.len]; exact hlK
    have HLO := Lib.hid (lenOk_tab (by omega) hK4 ht)
    have HRO := Lib.hid (rootsOk_tab (by omega) hK4 ht)
    have HPA := Lib.hid (posR_all hK4 hK1 HRO.out)
    have HI : Hid (isrO K l r = irB (posR l K) r) := by rw [Hid, isrO, hG]; rfl
    have HF : Hid (corO K l r = if irB (posR l K) r then coM l v.2 r K else []) := by rw [Hid, corO, hG]; rfl
    have HRA := Lib.hid (fun h => root_all (r := r) HRO.out h)
    obtain ⟨PR, hPR⟩ : ∃ PR, posR l K = PR := ⟨_, rfl⟩
    have HPRd := Lib.hid hPR
    rw [hPR] at HPA HI HF HRA
    clear hT hPR hr
    rcases hir : irB PR r with _ | _
    · have HF : Hid (corO K l r = []) := by rw [Hid, HF.out, hir]; rfl
      go_enter Tryz.func30, Tryz.ntmps30
      go_wp2_with fail
      refine (isRootT_spec (HT.out.ext ((Ext.refl w).alloc _)) hm0 (Hr.out.ext ((Ext.refl w).alloc _)) hmr hwfr HI.out).mono ?_
      rintro e w3 ⟨rfl, hE⟩
      rw [hir]
      have HE3 := Lib.hid (((Ext.refl w).alloc _).trans hE)
      have HB3 := Lib.hid ((cells_new w #[.int .i64 (K : Nat), .slice (some ⟨a0, oa, none⟩) n n] 28).ext hE)
      have lB := HB3.out.1
      have q0 := HB3.out.2 0 _ rfl
      have q1 := HB3.out.2 1 _ rfl
      clear hE
      go_wp2
      go_ret
      exact ⟨_, rfl, ⟨_, _, _, rfl, by rw [HF.out]; exact own_nil _ _ _, by omega⟩, HE3.out⟩
    · have HRA := Lib.hid (HRA.out hir)
      have HF := Lib.hid (HF.out.trans (by rw [hir]; rfl : _ = coM l v.2 r K))
      have HNR : Hid (nr = K) := by rw [Hid, ← Hr.out.len]; exact HRA.out.1
      go_enter Tryz.func30, Tryz.ntmps30
      go_wp2_with fail
      refine (isRootT_spec (HT.out.ext ((Ext.refl w).alloc _)) hm0 (Hr.out.ext ((Ext.refl w).alloc _)) hmr hwfr HI.out).mono ?_
      rintro e w3 ⟨rfl, hE⟩
      rw [hir]
      have HE3 := Lib.hid (((Ext.refl w).alloc _).trans hE)
      have HB3 := Lib.hid ((cells_new w #[.int .i64 (K : Nat), .slice (some ⟨a0, oa, none⟩) n n] 28).ext hE)
      have lB := HB3.out.1
      have q0 := HB3.out.2 0 _ rfl
      have q1 := HB3.out.2 1 _ rfl
      clear hE
      go_wp2_with fail
      refine (l5Coroot_spec K a0 oa n n nr nr l v.2 r _ _ (HT.out.ext HE3.out) hnK.out hK1 hK4 HLO.out (Hr.out.ext HE3.out) HNR.out HRA.out.2.1 HRA.out.2.2.1).mono ?_
      rintro e w5 ⟨b9, rfl, hb9, hb92, hh9, h5⟩
      have HH := Lib.hid hh9
      have hle := HE3.out.le
      clear hh9
      go_wp2
      go_ret
      exact ⟨_, rfl, ⟨_, _, _, rfl, by rw [HF.out]; exact HH.out.own (by omega) hb92 (coM_len _ _ _ _), by omega⟩, HE3.out.trans h5⟩

set_option maxRecDepth 100000 in
set_option maxHeartbeats 3200000 in
theorem corootOf_impl {R : Int} {a0 oa n br or nr : Nat} {l r : List Int} {w : World} {i : List Int} (hT : Reads w (some ⟨a0, oa, none⟩) n l) (hm0 : n ≤ 1048576) (hr : Reads w (some ⟨br, or, none⟩) nr r) (hmr : nr ≤ 1048576) (hwfr : Wf5 r) (hM : corO R l r = i) :
    Calls Tryz.prog 31 #[.agg #[.int .i64 R, .slice (some ⟨a0, oa, none⟩) n n], .slice (some ⟨br, or, none⟩) nr nr] w fun e w' => ∃ v, e = .returned v ∧ Rints5 w w' v i ∧ Ext w w' := by
  subst hM
  have HT := Lib.hid hT
  have Hr := Lib.hid hr
  rcases hG : carG R l with _ | v
  · have HF : Hid (corO R l r = []) := by rw [Hid, corO, hG]
    have HI : isrO R l r = false := by rw [isrO, hG]
    clear hT hr
    go_enter Tryz.func31, Tryz.ntmps31
    go_wp2_with fail
    refine (wrapRoots_no (HT.out.ext ((Ext.refl w).alloc _)) hm0 hG).mono ?_
    rintro e w2 ⟨rfl, hE⟩
    go_wp2
    go_ret
    exact ⟨_, rfl, ⟨_, _, _, rfl, by rw [HF.out]; exact own_nil _ _ _, by omega⟩, ((Ext.refl w).alloc _).trans hE⟩
  · obtain ⟨K, rfl, hK1, hK4, hlK, ht⟩ := carG_some hG
    have hnK : Hid (n = K * K) := by rw [Hid, ← hT.len]; exact hlK
    have HLO := Lib.hid (lenOk_tab (by omega) hK4 ht)
    have HRO := Lib.hid (rootsOk_tab (by omega) hK4 ht)
    have HPA := Lib.hid (posR_all hK4 hK1 HRO.out)
    have HI : Hid (isrO K l r = irB (posR l K) r) := by rw [Hid, isrO, hG]; rfl
    have HF : Hid (corO K l r = if irB (posR l K) r then coM l v.2 r K else []) := by rw [Hid, corO, hG]; rfl
    have HRA := Lib.hid (fun h => root_all (r := r) HRO.out h)
    obtain ⟨PR, hPR⟩ : ∃ PR, posR l K = PR := ⟨_, rfl⟩
    have HPRd := Lib.hid hPR
    rw [hPR] at HPA HI HF HRA
    clear hT hPR hr
    rcases hir : irB PR r with _ | _
    · have HF : Hid (corO K l r = []) := by rw [Hid, HF.out, hir]; rfl
      go_enter Tryz.func31, Tryz.ntmps31
      go_wp2_with fail
      refine (wrapRoots_yes (HT.out.ext ((Ext.refl w).alloc _)) hK1 hK4 ht hlK HRO.out HLO.out).mono ?_
      rw [HPRd.out]
      rintro e w2 ⟨S, B, LB, ns, g, c, rfl, hns, hS⟩
      have HS := Lib.hid (hS.low ((Ext.refl w).alloc _))
      have HE := Lib.hid HS.out.wr.ext
      have lS := hS.box.1
      have q0 := hS.box.2 0 _ rfl
      have q1 := hS.box.2 1 _ rfl
      obtain ⟨xa, xn, xc, hbox, hstr⟩ := HS.out.wr.box
      have HBX := Lib.hid hbox
      have HLX := Lib.hid HS.out.wr.len
      clear hS hns hbox hstr
      go_wp2_with fail
      refine (isRoot_impl S g c nr nr _ _ PR r _ HS.out.box HS.out.rd (by have := HPA.out.2.2.1; omega) (fun r hr => (HPA.out.1 r hr).2) HPA.out.2.2.2.2 (Hr.out.ext HE.out) hmr hwfr).mono ?_
      rintro e w3 ⟨rfl, h3⟩
      rw [hir]
      have HS3 := Lib.hid (HS.out.step h3)
      have HE3 := Lib.hid (HE.out.trans h3)
      have HBX3 := Lib.hid (HBX.out.ext h3)
      have HLX3 := Lib.hid (HLX.out.ext h3)
      clear lS q0 q1 h3 HS HE HBX HLX
      have lS := HS3.out.box.1
      have q0 := HS3.out.box.2 0 _ rfl
      go_wp2
      go_ret
      exact ⟨_, rfl, ⟨_, _, _, rfl, by rw [HF.out]; exact own_nil _ _ _, by omega⟩, HE3.out⟩
    · have HRA := Lib.hid (HRA.out hir)
      have HF := Lib.hid (HF.out.trans (by rw [hir]; rfl : _ = coM l v.2 r K))
      have HNR : Hid (nr = K) := by rw [Hid, ← Hr.out.len]; exact HRA.out.1
      go_enter Tryz.func31, Tryz.ntmps31
      go_wp2_with fail
      refine (wrapRoots_yes (HT.out.ext ((Ext.refl w).alloc _)) hK1 hK4 ht hlK HRO.out HLO.out).mono ?_
      rw [HPRd.out]
      rintro e w2 ⟨S, B, LB, ns, g, c, rfl, hns, hS⟩
      have HS := Lib.hid (hS.low ((Ext.refl w).alloc _))
      have HE := Lib.hid HS.out.wr.ext
      have lS := hS.box.1
      have q0 := hS.box.2 0 _ rfl
      have q1 := hS.box.2 1 _ rfl
      obtain ⟨xa, xn, xc, hbox, hstr⟩ := HS.out.wr.box
      have HBX := Lib.hid hbox
      have HLX := Lib.hid HS.out.wr.len
      clear hS hns hbox hstr
      go_wp2_with fail
      refine (isRoot_impl S g c nr nr _ _ PR r _ HS.out.box HS.out.rd (by have := HPA.out.2.2.1; omega) (fun r hr => (HPA.out.1 r hr).2) HPA.out.2.2.2.2 (Hr.out.ext HE.out) hmr hwfr).mono ?_
      rintro e w3 ⟨rfl, h3⟩
      rw [hir]
      have HS3 := Lib.hid (HS.out.step h3)
      have HE3 := Lib.hid (HE.out.trans h3)
      have HBX3 := Lib.hid (HBX.out.ext h3)
      have HLX3 := Lib.hid (HLX.out.ext h3)
      clear lS q0 q1 h3 HS HE HBX HLX
      have lS := HS3.out.box.1
      have q0 := HS3.out.box.2 0 _ rfl
      go_wp2_with fail
      refine (coroot_impl B LB K a0 oa n n nr nr _ l v.2 r _ _ HBX3.out HLX3.out (HT.out.ext HE3.out) hnK.out hK1 hK4 HLO.out (Hr.out.ext HE3.out) HNR.out HRA.out.2.1 HRA.out.2.2.1).mono ?_
      rintro e w5 ⟨b9, rfl, hb9, hb92, hh9, h5⟩
      have HH := Lib.hid hh9
      have hle := HE3.out.le
      clear hh9
      go_wp2
      go_ret
      exact ⟨_, rfl, ⟨_, _, _, rfl, by rw [HF.out]; exact HH.out.own (by omega) hb92 (coM_len _ _ _ _), by omega⟩, HE3.out.trans h5⟩

set_option maxRecDepth 100000 in
set_option maxHeartbeats 3200000 in
theorem reflectBy_spec {R : Int} {a0 oa n br or nr bx ox nx : Nat} {l r x : List Int} {w : World} {i : List Int} (hT : Reads w (some ⟨a0, oa, none⟩) n l) (hm0 : n ≤ 1048576) (hr : Reads w (some ⟨br, or, none⟩) nr r) (hmr : nr ≤ 1048576) (hwfr : Wf5 r) (hx : Reads w (some ⟨bx, ox, none⟩) nx x) (hmx : nx ≤ 1048576) (hwfx : Wf5 x) (hM : refO R l r x = i) :
    Calls Tryz.prog 32 #[.agg #[.int .i64 R, .slice (some ⟨a0, oa, none⟩) n n], .slice (some ⟨br, or, none⟩) nr nr, .slice (some ⟨bx, ox, none⟩) nx nx] w fun e w' => ∃ v, e = .returned v ∧ Rints5 w w' v i ∧ Ext w w' := by
  subst hM
  have HT := Lib.hid hT
  have Hr := Lib.hid hr
  have Hx := Lib.hid hx
  rcases hG : carG R l with _ | v
  · have HF : Hid (refO R l r x = []) := by rw [Hid, refO, hG]
    have HI : isrO R l r = false := by rw [isrO, hG]
    clear hT hr hx
    go_enter Tryz.func32, Tryz.ntmps32
    go_wp2_with fail
    refine (isRootT_spec (HT.out.ext ((Ext.refl w).alloc _)) hm0 (Hr.out.ext ((Ext.refl w).alloc _)) hmr hwfr HI).mono ?_
    rintro e w2 ⟨rfl, hE⟩
    go_wp2
    go_ret
    exact ⟨_, rfl, ⟨_, _, _, rfl, by rw [HF.out]; exact own_nil _ _ _, by omega⟩, ((Ext.refl w).alloc _).trans hE⟩
  · obtain ⟨K, rfl, hK1, hK4, hlK, ht⟩ := carG_some hG
    have hnK : Hid (n = K * K) := by rw [Hid, ← hT.len]; exact hlK
    have HLO := Lib.hid (lenOk_tab (by omega) hK4 ht)
    have HRO := Lib.hid (rootsOk_tab (by omega) hK4 ht)
    have HPA := Lib.hid (posR_all hK4 hK1 HRO.out)
    have HI : Hid (isrO K l r = irB (posR l K) r) := by rw [Hid, isrO, hG]; rfl
    have HF : Hid (refO K l r x = if irB (posR l K) r && latB K x then ptL x (- prM l v.2 x r K) r else []) := by rw [Hid, refO, hG]; rfl
    have HRA := Lib.hid (fun h => root_all (r := r) HRO.out h)
    obtain ⟨PR, hPR⟩ : ∃ PR, posR l K = PR := ⟨_, rfl⟩
    have HPRd := Lib.hid hPR
    rw [hPR] at HPA HI HF HRA
    clear hT hPR hr hx
    rcases hir : irB PR r with _ | _
    · have HF : Hid (refO K l r x = []) := by rw [Hid, HF.out, hir]; rfl
      go_enter Tryz.func32, Tryz.ntmps32
      go_wp2_with fail
      refine (isRootT_spec (HT.out.ext ((Ext.refl w).alloc _)) hm0 (Hr.out.ext ((Ext.refl w).alloc _)) hmr hwfr HI.out).mono ?_
      rintro e w3 ⟨rfl, hE⟩
      rw [hir]
      have HE3 := Lib.hid (((Ext.refl w).alloc _).trans hE)
      have HB3 := Lib.hid ((cells_new w #[.int .i64 (K : Nat), .slice (some ⟨a0, oa, none⟩) n n] 28).ext hE)
      have lB := HB3.out.1
      have q0 := HB3.out.2 0 _ rfl
      have q1 := HB3.out.2 1 _ rfl
      clear hE
      go_wp2
      go_ret
      exact ⟨_, rfl, ⟨_, _, _, rfl, by rw [HF.out]; exact own_nil _ _ _, by omega⟩, HE3.out⟩
    · have HRA := Lib.hid (HRA.out hir)
      rcases hL : latB K x with _ | _
      · have HF : Hid (refO K l r x = []) := by rw [Hid, HF.out, hir, hL]; rfl
        go_enter Tryz.func32, Tryz.ntmps32
        go_wp2_with fail
        refine (isRootT_spec (HT.out.ext ((Ext.refl w).alloc _)) hm0 (Hr.out.ext ((Ext.refl w).alloc _)) hmr hwfr HI.out).mono ?_
        rintro e w3 ⟨rfl, hE⟩
        rw [hir]
        have HE3 := Lib.hid (((Ext.refl w).alloc _).trans hE)
        have HB3 := Lib.hid ((cells_new w #[.int .i64 (K : Nat), .slice (some ⟨a0, oa, none⟩) n n] 28).ext hE)
        have lB := HB3.out.1
        have q0 := HB3.out.2 0 _ rfl
        have q1 := HB3.out.2 1 _ rfl
        clear hE
        go_wp2_with fail
        clear lB q0 q1
        refine (l5Lattice_spec K a0 oa n n bx ox nx nx x _ (Hx.out.ext HE3.out) hK4 hmx).mono ?_
        rintro e w4 ⟨rfl, h4⟩
        rw [hL]
        have HE4 := Lib.hid (HE3.out.trans h4)
        have HB4 := Lib.hid (HB3.out.ext h4)
        clear h4 HB3 HE3
        have lB := HB4.out.1
        have q0 := HB4.out.2 0 _ rfl
        have q1 := HB4.out.2 1 _ rfl
        go_wp2
        go_ret
        exact ⟨_, rfl, ⟨_, _, _, rfl, by rw [HF.out]; exact own_nil _ _ _, by omega⟩, HE4.out⟩
      · have HF := Lib.hid (HF.out.trans (by rw [hir, hL]; rfl : _ = ptL x (- prM l v.2 x r K) r))
        have HLB := Lib.hid (latB_bnd hL)
        have HNR : Hid (nr = K) := by rw [Hid, ← Hr.out.len]; exact HRA.out.1
        have HNX : Hid (nx = K) := by rw [Hid, ← Hx.out.len]; exact HLB.out.1
        go_enter Tryz.func32, Tryz.ntmps32
        go_wp2_with fail
        refine (isRootT_spec (HT.out.ext ((Ext.refl w).alloc _)) hm0 (Hr.out.ext ((Ext.refl w).alloc _)) hmr hwfr HI.out).mono ?_
        rintro e w3 ⟨rfl, hE⟩
        rw [hir]
        have HE3 := Lib.hid (((Ext.refl w).alloc _).trans hE)
        have HB3 := Lib.hid ((cells_new w #[.int .i64 (K : Nat), .slice (some ⟨a0, oa, none⟩) n n] 28).ext hE)
        have lB := HB3.out.1
        have q0 := HB3.out.2 0 _ rfl
        have q1 := HB3.out.2 1 _ rfl
        clear hE
        go_wp2_with fail
        clear lB q0 q1
        refine (l5Lattice_spec K a0 oa n n bx ox nx nx x _ (Hx.out.ext HE3.out) hK4 hmx).mono ?_
        rintro e w4 ⟨rfl, h4⟩
        rw [hL]
        have HE4 := Lib.hid (HE3.out.trans h4)
        have HB4 := Lib.hid (HB3.out.ext h4)
        clear h4 HB3 HE3
        have lB := HB4.out.1
        have q0 := HB4.out.2 0 _ rfl
        have q1 := HB4.out.2 1 _ rfl
        have hpb := pair_bnd (x := x) (r := r) hK4 HLO.out HLB.out.2 HRA.out.2.1
        have hpq := tdiv_bnd HRA.out.2.2.1.1 hpb.1 hpb.2
        have HPQ : Hid (-864000 ≤ prM l v.2 x r K ∧ prM l v.2 x r K ≤ 864000) := hpq
        have hp9 := HPQ.out
        obtain ⟨pq, hpq9⟩ : ∃ pq, prM l v.2 x r K = pq := ⟨_, rfl⟩
        have HP9 := Lib.hid hpq9
        rw [hpq9] at HF hp9
        have v1 : IntKind.i64.wrap (-pq) = -pq := IntWalk.i64_in _ ⟨by omega, by omega⟩
        have v2 : IntKind.i64.wrap (0 - pq) = -pq := by rw [Int.zero_sub]; exact v1
        clear hpb hpq hpq9
        go_wp2_with fail
        refine (l5Pair_spec K a0 oa n n nx nx nr nr l v.2 x r _ _ _ (HT.out.ext HE4.out) hnK.out hK1 hK4 HLO.out (Hx.out.ext HE4.out) HNX.out HLB.out.2 (Hr.out.ext HE4.out) HNR.out HRA.out.2.1 HRA.out.2.2.1).mono ?_
        rw [HP9.out]
        rintro e w5 ⟨rfl, h5⟩
        have HE5 := Lib.hid (HE4.out.trans h5)
        have HXL : Hid ((ptL x (-pq) r).length = nx) := by rw [Hid, ptL_length]; exact Hx.out.len
        go_wp2_with fail
        refine (l5Plus_spec nx nx nr nr _ _ x r (-pq) _ (Hx.out.ext HE5.out) (by have := HNX.out; omega) (by have := HNX.out; omega) (Hr.out.ext HE5.out) (by have := HNX.out; have := HNR.out; omega) (by omega) (fun e => by have := HLB.out.2 e; omega) (fun e => by have := HRA.out.2.1 e; omega)).mono ?_
        rintro e w6 ⟨b9, c9, rfl, hb9, hb92, hh9, h6⟩
        have HH := Lib.hid hh9
        have hle := HE5.out.le
        clear hh9
        go_wp2
        go_ret
        exact ⟨_, rfl, ⟨_, _, _, rfl, by rw [HF.out]; exact HH.out.own (by omega) hb92 HXL.out, by omega⟩, HE5.out.trans h6⟩

set_option maxRecDepth 100000 in
set_option maxHeartbeats 3200000 in
theorem reflectBy_impl {R : Int} {a0 oa n br or nr bx ox nx : Nat} {l r x : List Int} {w : World} {i : List Int} (hT : Reads w (some ⟨a0, oa, none⟩) n l) (hm0 : n ≤ 1048576) (hr : Reads w (some ⟨br, or, none⟩) nr r) (hmr : nr ≤ 1048576) (hwfr : Wf5 r) (hx : Reads w (some ⟨bx, ox, none⟩) nx x) (hmx : nx ≤ 1048576) (hwfx : Wf5 x) (hM : refO R l r x = i) :
    Calls Tryz.prog 33 #[.agg #[.int .i64 R, .slice (some ⟨a0, oa, none⟩) n n], .slice (some ⟨br, or, none⟩) nr nr, .slice (some ⟨bx, ox, none⟩) nx nx] w fun e w' => ∃ v, e = .returned v ∧ Rints5 w w' v i ∧ Ext w w' := by
  subst hM
  have HT := Lib.hid hT
  have Hr := Lib.hid hr
  have Hx := Lib.hid hx
  rcases hG : carG R l with _ | v
  · have HF : Hid (refO R l r x = []) := by rw [Hid, refO, hG]
    have HI : isrO R l r = false := by rw [isrO, hG]
    clear hT hr hx
    go_enter Tryz.func33, Tryz.ntmps33
    go_wp2_with fail
    refine (wrapRoots_no (HT.out.ext ((Ext.refl w).alloc _)) hm0 hG).mono ?_
    rintro e w2 ⟨rfl, hE⟩
    go_wp2
    go_ret
    exact ⟨_, rfl, ⟨_, _, _, rfl, by rw [HF.out]; exact own_nil _ _ _, by omega⟩, ((Ext.refl w).alloc _).trans hE⟩
  · obtain ⟨K, rfl, hK1, hK4, hlK, ht⟩ := carG_some hG
    have hnK : Hid (n = K * K) := by rw [Hid, ← hT.len]; exact hlK
    have HLO := Lib.hid (lenOk_tab (by omega) hK4 ht)
    have HRO := Lib.hid (rootsOk_tab (by omega) hK4 ht)
    have HPA := Lib.hid (posR_all hK4 hK1 HRO.out)
    have HI : Hid (isrO K l r = irB (posR l K) r) := by rw [Hid, isrO, hG]; rfl
    have HF : Hid (refO K l r x = if irB (posR l K) r && latB K x then ptL x (- prM l v.2 x r K) r else []) := by rw [Hid, refO, hG]; rfl
    have HRA := Lib.hid (fun h => root_all (r := r) HRO.out h)
    obtain ⟨PR, hPR⟩ : ∃ PR, posR l K = PR := ⟨_, rfl⟩
    have HPRd := Lib.hid hPR
    rw [hPR] at HPA HI HF HRA
    clear hT hPR hr hx
    rcases hir : irB PR r with _ | _
    · have HF : Hid (refO K l r x = []) := by rw [Hid, HF.out, hir]; rfl
      go_enter Tryz.func33, Tryz.ntmps33
      go_wp2_with fail
      refine (wrapRoots_yes (HT.out.ext ((Ext.refl w).alloc _)) hK1 hK4 ht hlK HRO.out HLO.out).mono ?_
      rw [HPRd.out]
      rintro e w2 ⟨S, B, LB, ns, g, c, rfl, hns, hS⟩
      have HS := Lib.hid (hS.low ((Ext.refl w).alloc _))
      have HE := Lib.hid HS.out.wr.ext
      have lS := hS.box.1
      have q0 := hS.box.2 0 _ rfl
      have q1 := hS.box.2 1 _ rfl
      obtain ⟨xa, xn, xc, hbox, hstr⟩ := HS.out.wr.box
      have HBX := Lib.hid hbox
      have HLX := Lib.hid HS.out.wr.len
      clear hS hns hbox hstr
      go_wp2_with fail
      refine (isRoot_impl S g c nr nr _ _ PR r _ HS.out.box HS.out.rd (by have := HPA.out.2.2.1; omega) (fun r hr => (HPA.out.1 r hr).2) HPA.out.2.2.2.2 (Hr.out.ext HE.out) hmr hwfr).mono ?_
      rintro e w3 ⟨rfl, h3⟩
      rw [hir]
      have HS3 := Lib.hid (HS.out.step h3)
      have HE3 := Lib.hid (HE.out.trans h3)
      have HBX3 := Lib.hid (HBX.out.ext h3)
      have HLX3 := Lib.hid (HLX.out.ext h3)
      clear lS q0 q1 h3 HS HE HBX HLX
      have lS := HS3.out.box.1
      have q0 := HS3.out.box.2 0 _ rfl
      go_wp2
      go_ret
      exact ⟨_, rfl, ⟨_, _, _, rfl, by rw [HF.out]; exact own_nil _ _ _, by omega⟩, HE3.out⟩
    · have HRA := Lib.hid (HRA.out hir)
      rcases hL : latB K x with _ | _
      · have HF : Hid (refO K l r x = []) := by rw [Hid, HF.out, hir, hL]; rfl
        go_enter Tryz.func33, Tryz.ntmps33
        go_wp2_with fail
        refine (wrapRoots_yes (HT.out.ext ((Ext.refl w).alloc _)) hK1 hK4 ht hlK HRO.out HLO.out).mono ?_
        rw [HPRd.out]
        rintro e w2 ⟨S, B, LB, ns, g, c, rfl, hns, hS⟩
        have HS := Lib.hid (hS.low ((Ext.refl w).alloc _))
        have HE := Lib.hid HS.out.wr.ext
        have lS := hS.box.1
        have q0 := hS.box.2 0 _ rfl
        have q1 := hS.box.2 1 _ rfl
        obtain ⟨xa, xn, xc, hbox, hstr⟩ := HS.out.wr.box
        have HBX := Lib.hid hbox
        have HLX := Lib.hid HS.out.wr.len
        clear hS hns hbox hstr
        go_wp2_with fail
        refine (isRoot_impl S g c nr nr _ _ PR r _ HS.out.box HS.out.rd (by have := HPA.out.2.2.1; omega) (fun r hr => (HPA.out.1 r hr).2) HPA.out.2.2.2.2 (Hr.out.ext HE.out) hmr hwfr).mono ?_
        rintro e w3 ⟨rfl, h3⟩
        rw [hir]
        have HS3 := Lib.hid (HS.out.step h3)
        have HE3 := Lib.hid (HE.out.trans h3)
        have HBX3 := Lib.hid (HBX.out.ext h3)
        have HLX3 := Lib.hid (HLX.out.ext h3)
        clear lS q0 q1 h3 HS HE HBX HLX
        have lS := HS3.out.box.1
        have q0 := HS3.out.box.2 0 _ rfl
        go_wp2_with fail
        clear lS q0
        refine (hasLattice_impl B K a0 oa n n bx ox nx nx _ _ x _ HBX3.out (Hx.out.ext HE3.out) hK4 hmx).mono ?_
        rintro e w4 ⟨rfl, h4⟩
        rw [hL]
        have HE4 := Lib.hid (HE3.out.trans h4)
        have HS4 := Lib.hid (HS3.out.step h4)
        have HBX4 := Lib.hid (HBX3.out.ext h4)
        have HLX4 := Lib.hid (HLX3.out.ext h4)
        clear h4 HS3 HE3 HBX3 HLX3
        have lS := HS4.out.box.1
        have q0 := HS4.out.box.2 0 _ rfl
        go_wp2
        go_ret
        exact ⟨_, rfl, ⟨_, _, _, rfl, by rw [HF.out]; exact own_nil _ _ _, by omega⟩, HE4.out⟩
      · have HF := Lib.hid (HF.out.trans (by rw [hir, hL]; rfl : _ = ptL x (- prM l v.2 x r K) r))
        have HLB := Lib.hid (latB_bnd hL)
        have HNR : Hid (nr = K) := by rw [Hid, ← Hr.out.len]; exact HRA.out.1
        have HNX : Hid (nx = K) := by rw [Hid, ← Hx.out.len]; exact HLB.out.1
        go_enter Tryz.func33, Tryz.ntmps33
        go_wp2_with fail
        refine (wrapRoots_yes (HT.out.ext ((Ext.refl w).alloc _)) hK1 hK4 ht hlK HRO.out HLO.out).mono ?_
        rw [HPRd.out]
        rintro e w2 ⟨S, B, LB, ns, g, c, rfl, hns, hS⟩
        have HS := Lib.hid (hS.low ((Ext.refl w).alloc _))
        have HE := Lib.hid HS.out.wr.ext
        have lS := hS.box.1
        have q0 := hS.box.2 0 _ rfl
        have q1 := hS.box.2 1 _ rfl
        obtain ⟨xa, xn, xc, hbox, hstr⟩ := HS.out.wr.box
        have HBX := Lib.hid hbox
        have HLX := Lib.hid HS.out.wr.len
        clear hS hns hbox hstr
        go_wp2_with fail
        refine (isRoot_impl S g c nr nr _ _ PR r _ HS.out.box HS.out.rd (by have := HPA.out.2.2.1; omega) (fun r hr => (HPA.out.1 r hr).2) HPA.out.2.2.2.2 (Hr.out.ext HE.out) hmr hwfr).mono ?_
        rintro e w3 ⟨rfl, h3⟩
        rw [hir]
        have HS3 := Lib.hid (HS.out.step h3)
        have HE3 := Lib.hid (HE.out.trans h3)
        have HBX3 := Lib.hid (HBX.out.ext h3)
        have HLX3 := Lib.hid (HLX.out.ext h3)
        clear lS q0 q1 h3 HS HE HBX HLX
        have lS := HS3.out.box.1
        have q0 := HS3.out.box.2 0 _ rfl
        go_wp2_with fail
        clear lS q0
        refine (hasLattice_impl B K a0 oa n n bx ox nx nx _ _ x _ HBX3.out (Hx.out.ext HE3.out) hK4 hmx).mono ?_
        rintro e w4 ⟨rfl, h4⟩
        rw [hL]
        have HE4 := Lib.hid (HE3.out.trans h4)
        have HS4 := Lib.hid (HS3.out.step h4)
        have HBX4 := Lib.hid (HBX3.out.ext h4)
        have HLX4 := Lib.hid (HLX3.out.ext h4)
        clear h4 HS3 HE3 HBX3 HLX3
        have lS := HS4.out.box.1
        have q0 := HS4.out.box.2 0 _ rfl
        have hpb := pair_bnd (x := x) (r := r) hK4 HLO.out HLB.out.2 HRA.out.2.1
        have hpq := tdiv_bnd HRA.out.2.2.1.1 hpb.1 hpb.2
        have HPQ : Hid (-864000 ≤ prM l v.2 x r K ∧ prM l v.2 x r K ≤ 864000) := hpq
        have hp9 := HPQ.out
        obtain ⟨pq, hpq9⟩ : ∃ pq, prM l v.2 x r K = pq := ⟨_, rfl⟩
        have HP9 := Lib.hid hpq9
        rw [hpq9] at HF hp9
        have v1 : IntKind.i64.wrap (-pq) = -pq := IntWalk.i64_in _ ⟨by omega, by omega⟩
        have v2 : IntKind.i64.wrap (0 - pq) = -pq := by rw [Int.zero_sub]; exact v1
        clear hpb hpq hpq9
        go_wp2_with fail
        refine (pair_impl B LB K a0 oa n n nx nx nr nr _ l v.2 x r _ _ _ HBX4.out HLX4.out (HT.out.ext HE4.out) hnK.out hK1 hK4 HLO.out (Hx.out.ext HE4.out) HNX.out HLB.out.2 (Hr.out.ext HE4.out) HNR.out HRA.out.2.1 HRA.out.2.2.1).mono ?_
        rw [HP9.out]
        rintro e w5 ⟨rfl, h5⟩
        have HE5 := Lib.hid (HE4.out.trans h5)
        have HXL : Hid ((ptL x (-pq) r).length = nx) := by rw [Hid, ptL_length]; exact Hx.out.len
        go_wp2_with fail
        refine (plusTimes_impl nx nx nr nr _ _ x r (-pq) _ (Hx.out.ext HE5.out) (by have := HNX.out; omega) (by have := HNX.out; omega) (Hr.out.ext HE5.out) (by have := HNX.out; have := HNR.out; omega) (by omega) (fun e => by have := HLB.out.2 e; omega) (fun e => by have := HRA.out.2.1 e; omega)).mono ?_
        rintro e w6 ⟨b9, c9, rfl, hb9, hb92, hh9, h6⟩
        have HH := Lib.hid hh9
        have hle := HE5.out.le
        clear hh9
        go_wp2
        go_ret
        exact ⟨_, rfl, ⟨_, _, _, rfl, by rw [HF.out]; exact HH.out.own (by omega) hb92 HXL.out, by omega⟩, HE5.out.trans h6⟩
end Go.Proofs.YtinoaldfdcddiaaGreat
