/-
  LengthsOf, WeightOf and InnerOf, of the program and of the specification.
-/
import Derived.Test.YtinoaldfdcddiaaCrg
import Derived.Test.YtinoaldfdcddiaaInr
namespace Go.Proofs.Ytinoaldfdcddiaa
open Go.ChangeShapes Go.WideShapes Go.ChangeAt Go.RowKit
set_option linter.unusedVariables false
set_option linter.unusedSimpArgs false

def lenO (R : Int) (l : List Int) : List Int := match carG R l with | some v => v.2 | none => []
def wgtO (R : Int) (l x : List Int) : List Int := if (carG R l).isSome && latB R.toNat x then wgL l x R.toNat else []
def innO (R : Int) (l x y : List Int) : Int := match carG R l with | some v => if latB R.toNat x && latB R.toNat y then innS l v.2 x y R.toNat R.toNat else 0 | none => 0

set_option maxRecDepth 100000 in
set_option maxHeartbeats 1600000 in
theorem lengthsOf_spec {R : Int} {a0 oa n : Nat} {l : List Int} {w : World} {i : List Int} (hT : Reads w (some ⟨a0, oa, none⟩) n l) (hm0 : n ≤ 1048576) (hM : lenO R l = i) :
    Calls Try.prog 8 #[.agg #[.int .i64 R, .slice (some ⟨a0, oa, none⟩) n n]] w fun e w' => ∃ v, e = .returned v ∧ Rints5 w w' v i ∧ Ext w w' := by
  subst hM
  have HT := Lib.hid hT
  rcases hG : carG R l with _ | v
  · have HF : Hid (lenO R l = []) := by rw [Hid, lenO, hG]
    clear hT
    go_enter Try.func8, Try.ntmps8
    go_wp2_with fail
    refine (isCartan_no (HT.out.ext ((Ext.refl w).alloc _)) hm0 hG).mono ?_
    rintro e w2 ⟨rfl, hE⟩
    go_wp2
    go_ret
    exact ⟨_, rfl, ⟨_, _, _, rfl, by rw [HF.out]; exact own_nil _ _ _, by omega⟩, ((Ext.refl w).alloc _).trans hE⟩
  · obtain ⟨K, rfl, hK1, hK4, hlK, ht⟩ := carG_some hG
    have hnK : Hid (n = K * K) := by rw [Hid, ← hT.len]; exact hlK
    have HLO := Lib.hid (lenOk_tab (by omega) hK4 ht)
    have HF : Hid (lenO K l = v.2) := by rw [Hid, lenO, hG]
    clear hT
    go_enter Try.func8, Try.ntmps8
    go_wp2_with fail
    refine (isCartan_yes (HT.out.ext ((Ext.refl w).alloc _)) hm0 hG).mono ?_
    rintro e w2 ⟨rfl, hE⟩
    have HE := Lib.hid (((Ext.refl w).alloc _).trans hE)
    have HB := Lib.hid ((cells_new w #[.int .i64 (K : Nat), .slice (some ⟨a0, oa, none⟩) n n] 27).ext hE)
    have lB := HB.out.1
    have q0 := HB.out.2 0 _ rfl
    have q1 := HB.out.2 1 _ rfl
    clear hE
    go_wp2_with fail
    refine (l5Lengths_spec K a0 oa n n l v.2 _ (HT.out.ext HE.out) hnK.out hK1 hK4 HLO.out).mono ?_
    rintro e w3 ⟨b, rfl, hb1, hb2, hh, h3⟩
    have HH := Lib.hid hh
    have hsz := HE.out.le
    clear hh
    go_wp2
    go_ret
    exact ⟨_, rfl, ⟨_, _, _, rfl, by rw [HF.out]; exact HH.out.own (by omega) hb2 HLO.out.len, by omega⟩, HE.out.trans h3⟩

set_option maxRecDepth 100000 in
set_option maxHeartbeats 1600000 in
theorem lengthsOf_impl {R : Int} {a0 oa n : Nat} {l : List Int} {w : World} {i : List Int} (hT : Reads w (some ⟨a0, oa, none⟩) n l) (hm0 : n ≤ 1048576) (hM : lenO R l = i) :
    Calls Try.prog 10 #[.agg #[.int .i64 R, .slice (some ⟨a0, oa, none⟩) n n]] w fun e w' => ∃ v, e = .returned v ∧ Rints5 w w' v i ∧ Ext w w' := by
  subst hM
  have HT := Lib.hid hT
  rcases hG : carG R l with _ | v
  · have HF : Hid (lenO R l = []) := by rw [Hid, lenO, hG]
    clear hT
    go_enter Try.func10, Try.ntmps10
    go_wp2_with fail
    refine (wrapCartan_no (HT.out.ext ((Ext.refl w).alloc _)) hm0 hG).mono ?_
    rintro e w2 ⟨rfl, hE⟩
    go_wp2
    go_ret
    exact ⟨_, rfl, ⟨_, _, _, rfl, by rw [HF.out]; exact own_nil _ _ _, by omega⟩, ((Ext.refl w).alloc _).trans hE⟩
  · obtain ⟨K, rfl, hK1, hK4, hlK, ht⟩ := carG_some hG
    have hnK : Hid (n = K * K) := by rw [Hid, ← hT.len]; exact hlK
    have HLO := Lib.hid (lenOk_tab (by omega) hK4 ht)
    have HF : Hid (lenO K l = v.2) := by rw [Hid, lenO, hG]
    clear hT
    go_enter Try.func10, Try.ntmps10
    go_wp2_with fail
    refine (wrapCartan_yes (HT.out.ext ((Ext.refl w).alloc _)) hK1 hK4 ht hlK).mono ?_
    rintro e w2 ⟨B, LB, ns, rfl, hns, hW⟩
    obtain ⟨⟨xa, xn, xc, hbox, hstr⟩, hlen, hext, hloB, hloL, hneL⟩ := hW
    have lB := hbox.1
    have q3 := hbox.2 3 _ rfl
    have HL := Lib.hid hlen
    have HE := Lib.hid hext
    have hll := hlen.lt
    clear hbox hstr hlen hext hns
    go_wp2
    go_ret
    exact ⟨_, rfl, ⟨_, _, _, rfl, by rw [HF.out]; exact HL.out.own (by simp at hloL; omega) hll HLO.out.len, by omega⟩, ((Ext.refl w).alloc _).trans HE.out⟩

set_option maxRecDepth 100000 in
set_option maxHeartbeats 1600000 in
theorem weightOf_spec {R : Int} {a0 oa n b0 o0 n1 : Nat} {l ys : List Int} {w : World} {i : List Int} (hT : Reads w (some ⟨a0, oa, none⟩) n l) (hm0 : n ≤ 1048576) (hY : Reads w (some ⟨b0, o0, none⟩) n1 ys) (hm1 : n1 ≤ 1048576) (hM : wgtO R l ys = i) :
    Calls Try.prog 16 #[.agg #[.int .i64 R, .slice (some ⟨a0, oa, none⟩) n n], .slice (some ⟨b0, o0, none⟩) n1 n1] w fun e w' => ∃ v, e = .returned v ∧ Rints5 w w' v i ∧ Ext w w' := by
  subst hM
  have HT := Lib.hid hT
  have HY := Lib.hid hY
  rcases hG : carG R l with _ | v
  · have HF : Hid (wgtO R l ys = []) := by rw [Hid, wgtO, hG]; rfl
    clear hY
    clear hT
    go_enter Try.func16, Try.ntmps16
    go_wp2_with fail
    refine (isCartan_no (HT.out.ext ((Ext.refl w).alloc _)) hm0 hG).mono ?_
    rintro e w2 ⟨rfl, hE⟩
    go_wp2
    go_ret
    exact ⟨_, rfl, ⟨_, _, _, rfl, by rw [HF.out]; exact own_nil _ _ _, by omega⟩, ((Ext.refl w).alloc _).trans hE⟩
  · obtain ⟨K, rfl, hK1, hK4, hlK, ht⟩ := carG_some hG
    have hnK : Hid (n = K * K) := by rw [Hid, ← hT.len]; exact hlK
    have HLO := Lib.hid (lenOk_tab (by omega) hK4 ht)
    have HF : Hid (wgtO K l ys = if latB K ys then wgL l ys K else []) := by rw [Hid, wgtO, hG]; rfl
    clear hT hY
    rcases hL : latB K ys with _ | _
    · rw [hL] at HF
      go_enter Try.func16, Try.ntmps16
      go_wp2_with fail
      refine (isCartan_yes (HT.out.ext ((Ext.refl w).alloc _)) hm0 hG).mono ?_
      rintro e w2 ⟨rfl, hE⟩
      have HE := Lib.hid (((Ext.refl w).alloc _).trans hE)
      have HBX := Lib.hid ((cells_new w #[.int .i64 (K : Nat), .slice (some ⟨a0, oa, none⟩) n n] 27).ext hE)
      have lB := HBX.out.1
      have q0 := HBX.out.2 0 _ rfl
      have q1 := HBX.out.2 1 _ rfl
      clear hE
      go_wp2_with fail
      clear lB q0 q1
      refine (l5Lattice_spec K a0 oa n n b0 o0 n1 n1 ys _ (HY.out.ext HE.out) hK4 hm1).mono ?_
      rintro e w3 ⟨rfl, h3⟩
      rw [hL]
      have HB2 := Lib.hid (HBX.out.ext h3)
      have lB := HB2.out.1
      have q0 := HB2.out.2 0 _ rfl
      have q1 := HB2.out.2 1 _ rfl
      go_wp2
      go_ret
      exact ⟨_, rfl, ⟨_, _, _, rfl, by rw [HF.out]; exact own_nil _ _ _, by omega⟩, HE.out.trans h3⟩
    · rw [hL] at HF
      have HLB := Lib.hid (latB_bnd hL)
      go_enter Try.func16, Try.ntmps16
      go_wp2_with fail
      refine (isCartan_yes (HT.out.ext ((Ext.refl w).alloc _)) hm0 hG).mono ?_
      rintro e w2 ⟨rfl, hE⟩
      have HE := Lib.hid (((Ext.refl w).alloc _).trans hE)
      have HBX := Lib.hid ((cells_new w #[.int .i64 (K : Nat), .slice (some ⟨a0, oa, none⟩) n n] 27).ext hE)
      have lB := HBX.out.1
      have q0 := HBX.out.2 0 _ rfl
      have q1 := HBX.out.2 1 _ rfl
      clear hE
      go_wp2_with fail
      clear lB q0 q1
      refine (l5Lattice_spec K a0 oa n n b0 o0 n1 n1 ys _ (HY.out.ext HE.out) hK4 hm1).mono ?_
      rintro e w3 ⟨rfl, h3⟩
      rw [hL]
      have HB2 := Lib.hid (HBX.out.ext h3)
      have HE2 := Lib.hid (HE.out.trans h3)
      clear h3
      have lB := HB2.out.1
      have q0 := HB2.out.2 0 _ rfl
      have q1 := HB2.out.2 1 _ rfl
      go_wp2_with fail
      refine (l5Weight_spec K a0 oa n n n1 n1 l ys _ _ (HT.out.ext HE2.out) hnK.out hK1 hK4 (HY.out.ext HE2.out) (by have := HY.out.len; have := HLB.out.1; omega) HLO.out.xb (fun e => by have := HLB.out.2 e; omega)).mono ?_
      rintro e w4 ⟨b, rfl, hb1, hb2, hh, h4⟩
      have HH := Lib.hid hh
      have hsz := HE2.out.le
      clear hh
      go_wp2
      go_ret
      exact ⟨_, rfl, ⟨_, _, _, rfl, by rw [HF.out]; exact HH.out.own (by omega) hb2 (wgL_length _ _ _), by omega⟩, HE2.out.trans h4⟩

set_option maxRecDepth 100000 in
set_option maxHeartbeats 1600000 in
theorem weightOf_impl {R : Int} {a0 oa n b0 o0 n1 : Nat} {l ys : List Int} {w : World} {i : List Int} (hT : Reads w (some ⟨a0, oa, none⟩) n l) (hm0 : n ≤ 1048576) (hY : Reads w (some ⟨b0, o0, none⟩) n1 ys) (hm1 : n1 ≤ 1048576) (hM : wgtO R l ys = i) :
    Calls Try.prog 18 #[.agg #[.int .i64 R, .slice (some ⟨a0, oa, none⟩) n n], .slice (some ⟨b0, o0, none⟩) n1 n1] w fun e w' => ∃ v, e = .returned v ∧ Rints5 w w' v i ∧ Ext w w' := by
  subst hM
  have HT := Lib.hid hT
  have HY := Lib.hid hY
  rcases hG : carG R l with _ | v
  · have HF : Hid (wgtO R l ys = []) := by rw [Hid, wgtO, hG]; rfl
    clear hY
    clear hT
    go_enter Try.func18, Try.ntmps18
    go_wp2_with fail
    refine (wrapCartan_no (HT.out.ext ((Ext.refl w).alloc _)) hm0 hG).mono ?_
    rintro e w2 ⟨rfl, hE⟩
    go_wp2
    go_ret
    exact ⟨_, rfl, ⟨_, _, _, rfl, by rw [HF.out]; exact own_nil _ _ _, by omega⟩, ((Ext.refl w).alloc _).trans hE⟩
  · obtain ⟨K, rfl, hK1, hK4, hlK, ht⟩ := carG_some hG
    have hnK : Hid (n = K * K) := by rw [Hid, ← hT.len]; exact hlK
    have HLO := Lib.hid (lenOk_tab (by omega) hK4 ht)
    have HF : Hid (wgtO K l ys = if latB K ys then wgL l ys K else []) := by rw [Hid, wgtO, hG]; rfl
    clear hT hY
    rcases hL : latB K ys with _ | _
    · rw [hL] at HF
      go_enter Try.func18, Try.ntmps18
      go_wp2_with fail
      refine (wrapCartan_yes (HT.out.ext ((Ext.refl w).alloc _)) hK1 hK4 ht hlK).mono ?_
      rintro e w2 ⟨B, LB, ns, rfl, hns, hW⟩
      obtain ⟨⟨xa, xn, xc, hbox, hstr⟩, hlen, hext, hloB, hloL, hneL⟩ := hW
      have HBX := Lib.hid hbox
      have HE := Lib.hid (((Ext.refl w).alloc _).trans hext)
      clear hbox hstr hlen hext hns hloB hloL hneL
      go_wp2_with fail
      refine (hasLattice_impl B K a0 oa n n b0 o0 n1 n1 _ _ ys _ HBX.out (HY.out.ext HE.out) hK4 hm1).mono ?_
      rintro e w3 ⟨rfl, h3⟩
      rw [hL]
      have HB2 := Lib.hid (HBX.out.ext h3)
      go_wp2
      go_ret
      exact ⟨_, rfl, ⟨_, _, _, rfl, by rw [HF.out]; exact own_nil _ _ _, by omega⟩, HE.out.trans h3⟩
    · rw [hL] at HF
      have HLB := Lib.hid (latB_bnd hL)
      go_enter Try.func18, Try.ntmps18
      go_wp2_with fail
      refine (wrapCartan_yes (HT.out.ext ((Ext.refl w).alloc _)) hK1 hK4 ht hlK).mono ?_
      rintro e w2 ⟨B, LB, ns, rfl, hns, hW⟩
      obtain ⟨⟨xa, xn, xc, hbox, hstr⟩, hlen, hext, hloB, hloL, hneL⟩ := hW
      have HBX := Lib.hid hbox
      have HE := Lib.hid (((Ext.refl w).alloc _).trans hext)
      clear hbox hstr hlen hext hns hloB hloL hneL
      go_wp2_with fail
      refine (hasLattice_impl B K a0 oa n n b0 o0 n1 n1 _ _ ys _ HBX.out (HY.out.ext HE.out) hK4 hm1).mono ?_
      rintro e w3 ⟨rfl, h3⟩
      rw [hL]
      have HB2 := Lib.hid (HBX.out.ext h3)
      have HE2 := Lib.hid (HE.out.trans h3)
      clear h3
      go_wp2_with fail
      refine (weight_impl B K a0 oa n n n1 n1 _ _ l ys _ _ HB2.out (HT.out.ext HE2.out) hnK.out hK1 hK4 (HY.out.ext HE2.out) (by have := HY.out.len; have := HLB.out.1; omega) HLO.out.xb (fun e => by have := HLB.out.2 e; omega)).mono ?_
      rintro e w4 ⟨b, rfl, hb1, hb2, hh, h4⟩
      have HH := Lib.hid hh
      have hsz := HE2.out.le
      clear hh
      go_wp2
      go_ret
      exact ⟨_, rfl, ⟨_, _, _, rfl, by rw [HF.out]; exact HH.out.own (by omega) hb2 (wgL_length _ _ _), by omega⟩, HE2.out.trans h4⟩

set_option maxRecDepth 100000 in
set_option maxHeartbeats 1600000 in
theorem innerOf_spec {R : Int} {a0 oa n b0 o0 n1 b1 o1 n2 : Nat} {l ys zs : List Int} {w : World} {i : Int} (hT : Reads w (some ⟨a0, oa, none⟩) n l) (hm0 : n ≤ 1048576) (hY : Reads w (some ⟨b0, o0, none⟩) n1 ys) (hm1 : n1 ≤ 1048576) (hZ : Reads w (some ⟨b1, o1, none⟩) n2 zs) (hm2 : n2 ≤ 1048576) (hM : innO R l ys zs = i) :
    Calls Try.prog 19 #[.agg #[.int .i64 R, .slice (some ⟨a0, oa, none⟩) n n], .slice (some ⟨b0, o0, none⟩) n1 n1, .slice (some ⟨b1, o1, none⟩) n2 n2] w fun e w' => e = .returned (.int .i64 i) ∧ Ext w w' := by
  subst hM
  have HT := Lib.hid hT
  have HY := Lib.hid hY
  have HZ := Lib.hid hZ
  rcases hG : carG R l with _ | v
  · have HF : Hid (innO R l ys zs = 0) := by rw [Hid, innO, hG]
    clear hY hZ
    clear hT
    go_enter Try.func19, Try.ntmps19
    go_wp2_with fail
    refine (isCartan_no (HT.out.ext ((Ext.refl w).alloc _)) hm0 hG).mono ?_
    rintro e w2 ⟨rfl, hE⟩
    go_wp2
    go_ret
    exact ⟨ret_int HF.out.symm, ((Ext.refl w).alloc _).trans hE⟩
  · obtain ⟨K, rfl, hK1, hK4, hlK, ht⟩ := carG_some hG
    have hnK : Hid (n = K * K) := by rw [Hid, ← hT.len]; exact hlK
    have HLO := Lib.hid (lenOk_tab (by omega) hK4 ht)
    have HF : Hid (innO K l ys zs = if latB K ys && latB K zs then innS l v.2 ys zs K K else 0) := by rw [Hid, innO, hG]; rfl
    clear hT hY hZ
    rcases hL : latB K ys with _ | _
    · have HF : Hid (innO K l ys zs = 0) := by rw [Hid, HF.out, hL]; rfl
      go_enter Try.func19, Try.ntmps19
      go_wp2_with fail
      refine (isCartan_yes (HT.out.ext ((Ext.refl w).alloc _)) hm0 hG).mono ?_
      rintro e w2 ⟨rfl, hE⟩
      have HE := Lib.hid (((Ext.refl w).alloc _).trans hE)
      have HBX := Lib.hid ((cells_new w #[.int .i64 (K : Nat), .slice (some ⟨a0, oa, none⟩) n n] 27).ext hE)
      have lB := HBX.out.1
      have q0 := HBX.out.2 0 _ rfl
      have q1 := HBX.out.2 1 _ rfl
      clear hE
      go_wp2_with fail
      clear lB q0 q1
      refine (l5Lattice_spec K a0 oa n n b0 o0 n1 n1 ys _ (HY.out.ext HE.out) hK4 hm1).mono ?_
      rintro e w3 ⟨rfl, h3⟩
      rw [hL]
      have HB2 := Lib.hid (HBX.out.ext h3)
      have HE2 := Lib.hid (HE.out.trans h3)
      skip
      clear h3
      have lB := HB2.out.1
      have q0 := HB2.out.2 0 _ rfl
      have q1 := HB2.out.2 1 _ rfl
      go_wp2
      go_ret
      exact ⟨ret_int HF.out.symm, HE2.out⟩
    rcases hL2 : latB K zs with _ | _
    · have HF : Hid (innO K l ys zs = 0) := by rw [Hid, HF.out, hL, hL2]; rfl
      go_enter Try.func19, Try.ntmps19
      go_wp2_with fail
      refine (isCartan_yes (HT.out.ext ((Ext.refl w).alloc _)) hm0 hG).mono ?_
      rintro e w2 ⟨rfl, hE⟩
      have HE := Lib.hid (((Ext.refl w).alloc _).trans hE)
      have HBX := Lib.hid ((cells_new w #[.int .i64 (K : Nat), .slice (some ⟨a0, oa, none⟩) n n] 27).ext hE)
      have lB := HBX.out.1
      have q0 := HBX.out.2 0 _ rfl
      have q1 := HBX.out.2 1 _ rfl
      clear hE
      go_wp2_with fail
      clear lB q0 q1
      refine (l5Lattice_spec K a0 oa n n b0 o0 n1 n1 ys _ (HY.out.ext HE.out) hK4 hm1).mono ?_
      rintro e w3 ⟨rfl, h3⟩
      rw [hL]
      have HB2 := Lib.hid (HBX.out.ext h3)
      have HE2 := Lib.hid (HE.out.trans h3)
      skip
      clear h3
      have lB := HB2.out.1
      have q0 := HB2.out.2 0 _ rfl
      have q1 := HB2.out.2 1 _ rfl
      go_wp2_with fail
      clear lB q0 q1
      refine (l5Lattice_spec K a0 oa n n b1 o1 n2 n2 zs _ (HZ.out.ext HE2.out) hK4 hm2).mono ?_
      rintro e w4 ⟨rfl, h4⟩
      rw [hL2]
      have HB3 := Lib.hid (HB2.out.ext h4)
      have HE3 := Lib.hid (HE2.out.trans h4)
      skip
      clear h4
      have lB := HB3.out.1
      have q0 := HB3.out.2 0 _ rfl
      have q1 := HB3.out.2 1 _ rfl
      go_wp2
      go_ret
      exact ⟨ret_int HF.out.symm, HE3.out⟩
    · have HF : Hid (innO K l ys zs = innS l v.2 ys zs K K) := by rw [Hid, HF.out, hL, hL2]; rfl
      have HLB := Lib.hid (latB_bnd hL)
      have HLB2 := Lib.hid (latB_bnd hL2)
      go_enter Try.func19, Try.ntmps19
      go_wp2_with fail
      refine (isCartan_yes (HT.out.ext ((Ext.refl w).alloc _)) hm0 hG).mono ?_
      rintro e w2 ⟨rfl, hE⟩
      have HE := Lib.hid (((Ext.refl w).alloc _).trans hE)
      have HBX := Lib.hid ((cells_new w #[.int .i64 (K : Nat), .slice (some ⟨a0, oa, none⟩) n n] 27).ext hE)
      have lB := HBX.out.1
      have q0 := HBX.out.2 0 _ rfl
      have q1 := HBX.out.2 1 _ rfl
      clear hE
      go_wp2_with fail
      clear lB q0 q1
      refine (l5Lattice_spec K a0 oa n n b0 o0 n1 n1 ys _ (HY.out.ext HE.out) hK4 hm1).mono ?_
      rintro e w3 ⟨rfl, h3⟩
      rw [hL]
      have HB2 := Lib.hid (HBX.out.ext h3)
      have HE2 := Lib.hid (HE.out.trans h3)
      skip
      clear h3
      have lB := HB2.out.1
      have q0 := HB2.out.2 0 _ rfl
      have q1 := HB2.out.2 1 _ rfl
      go_wp2_with fail
      clear lB q0 q1
      refine (l5Lattice_spec K a0 oa n n b1 o1 n2 n2 zs _ (HZ.out.ext HE2.out) hK4 hm2).mono ?_
      rintro e w4 ⟨rfl, h4⟩
      rw [hL2]
      have HB3 := Lib.hid (HB2.out.ext h4)
      have HE3 := Lib.hid (HE2.out.trans h4)
      skip
      clear h4
      have lB := HB3.out.1
      have q0 := HB3.out.2 0 _ rfl
      have q1 := HB3.out.2 1 _ rfl
      go_wp2_with fail
      refine (l5Inner_spec K a0 oa n n n1 n1 n2 n2 l v.2 ys zs _ _ _ (HT.out.ext HE3.out) hnK.out hK1 hK4 HLO.out (HY.out.ext HE3.out) (by have := HY.out.len; have := HLB.out.1; omega) (fun e => by have := HLB.out.2 e; omega) (HZ.out.ext HE3.out) (by have := HZ.out.len; have := HLB2.out.1; omega) (fun e => by have := HLB2.out.2 e; omega)).mono ?_
      rintro e w5 ⟨rfl, h5⟩
      go_wp2
      go_ret
      exact ⟨ret_int HF.out.symm, HE3.out.trans h5⟩

set_option maxRecDepth 100000 in
set_option maxHeartbeats 1600000 in
theorem innerOf_impl {R : Int} {a0 oa n b0 o0 n1 b1 o1 n2 : Nat} {l ys zs : List Int} {w : World} {i : Int} (hT : Reads w (some ⟨a0, oa, none⟩) n l) (hm0 : n ≤ 1048576) (hY : Reads w (some ⟨b0, o0, none⟩) n1 ys) (hm1 : n1 ≤ 1048576) (hZ : Reads w (some ⟨b1, o1, none⟩) n2 zs) (hm2 : n2 ≤ 1048576) (hM : innO R l ys zs = i) :
    Calls Try.prog 20 #[.agg #[.int .i64 R, .slice (some ⟨a0, oa, none⟩) n n], .slice (some ⟨b0, o0, none⟩) n1 n1, .slice (some ⟨b1, o1, none⟩) n2 n2] w fun e w' => e = .returned (.int .i64 i) ∧ Ext w w' := by
  subst hM
  have HT := Lib.hid hT
  have HY := Lib.hid hY
  have HZ := Lib.hid hZ
  rcases hG : carG R l with _ | v
  · have HF : Hid (innO R l ys zs = 0) := by rw [Hid, innO, hG]
    clear hY hZ
    clear hT
    go_enter Try.func20, Try.ntmps20
    go_wp2_with fail
    refine (wrapCartan_no (HT.out.ext ((Ext.refl w).alloc _)) hm0 hG).mono ?_
    rintro e w2 ⟨rfl, hE⟩
    go_wp2
    go_ret
    exact ⟨ret_int HF.out.symm, ((Ext.refl w).alloc _).trans hE⟩
  · obtain ⟨K, rfl, hK1, hK4, hlK, ht⟩ := carG_some hG
    have hnK : Hid (n = K * K) := by rw [Hid, ← hT.len]; exact hlK
    have HLO := Lib.hid (lenOk_tab (by omega) hK4 ht)
    have HF : Hid (innO K l ys zs = if latB K ys && latB K zs then innS l v.2 ys zs K K else 0) := by rw [Hid, innO, hG]; rfl
    clear hT hY hZ
    rcases hL : latB K ys with _ | _
    · have HF : Hid (innO K l ys zs = 0) := by rw [Hid, HF.out, hL]; rfl
      go_enter Try.func20, Try.ntmps20
      go_wp2_with fail
      refine (wrapCartan_yes (HT.out.ext ((Ext.refl w).alloc _)) hK1 hK4 ht hlK).mono ?_
      rintro e w2 ⟨B, LB, ns, rfl, hns, hW⟩
      obtain ⟨⟨xa, xn, xc, hbox, hstr⟩, hlen, hext, hloB, hloL, hneL⟩ := hW
      have HBX := Lib.hid hbox
      have HE := Lib.hid (((Ext.refl w).alloc _).trans hext)
      have HLEN := Lib.hid hlen
      clear hbox hstr hlen hext hns hloB hloL
      go_wp2_with fail
      refine (hasLattice_impl B K a0 oa n n b0 o0 n1 n1 _ _ ys _ HBX.out (HY.out.ext HE.out) hK4 hm1).mono ?_
      rintro e w3 ⟨rfl, h3⟩
      rw [hL]
      have HB2 := Lib.hid (HBX.out.ext h3)
      have HE2 := Lib.hid (HE.out.trans h3)
      have HLEN2 := Lib.hid (HLEN.out.ext h3)
      clear h3
      go_wp2
      go_ret
      exact ⟨ret_int HF.out.symm, HE2.out⟩
    rcases hL2 : latB K zs with _ | _
    · have HF : Hid (innO K l ys zs = 0) := by rw [Hid, HF.out, hL, hL2]; rfl
      go_enter Try.func20, Try.ntmps20
      go_wp2_with fail
      refine (wrapCartan_yes (HT.out.ext ((Ext.refl w).alloc _)) hK1 hK4 ht hlK).mono ?_
      rintro e w2 ⟨B, LB, ns, rfl, hns, hW⟩
      obtain ⟨⟨xa, xn, xc, hbox, hstr⟩, hlen, hext, hloB, hloL, hneL⟩ := hW
      have HBX := Lib.hid hbox
      have HE := Lib.hid (((Ext.refl w).alloc _).trans hext)
      have HLEN := Lib.hid hlen
      clear hbox hstr hlen hext hns hloB hloL
      go_wp2_with fail
      refine (hasLattice_impl B K a0 oa n n b0 o0 n1 n1 _ _ ys _ HBX.out (HY.out.ext HE.out) hK4 hm1).mono ?_
      rintro e w3 ⟨rfl, h3⟩
      rw [hL]
      have HB2 := Lib.hid (HBX.out.ext h3)
      have HE2 := Lib.hid (HE.out.trans h3)
      have HLEN2 := Lib.hid (HLEN.out.ext h3)
      clear h3
      go_wp2_with fail
      refine (hasLattice_impl B K a0 oa n n b1 o1 n2 n2 _ _ zs _ HB2.out (HZ.out.ext HE2.out) hK4 hm2).mono ?_
      rintro e w4 ⟨rfl, h4⟩
      rw [hL2]
      have HB3 := Lib.hid (HB2.out.ext h4)
      have HE3 := Lib.hid (HE2.out.trans h4)
      have HLEN3 := Lib.hid (HLEN2.out.ext h4)
      clear h4
      go_wp2
      go_ret
      exact ⟨ret_int HF.out.symm, HE3.out⟩
    · have HF : Hid (innO K l ys zs = innS l v.2 ys zs K K) := by rw [Hid, HF.out, hL, hL2]; rfl
      have HLB := Lib.hid (latB_bnd hL)
      have HLB2 := Lib.hid (latB_bnd hL2)
      go_enter Try.func20, Try.ntmps20
      go_wp2_with fail
      refine (wrapCartan_yes (HT.out.ext ((Ext.refl w).alloc _)) hK1 hK4 ht hlK).mono ?_
      rintro e w2 ⟨B, LB, ns, rfl, hns, hW⟩
      obtain ⟨⟨xa, xn, xc, hbox, hstr⟩, hlen, hext, hloB, hloL, hneL⟩ := hW
      have HBX := Lib.hid hbox
      have HE := Lib.hid (((Ext.refl w).alloc _).trans hext)
      have HLEN := Lib.hid hlen
      clear hbox hstr hlen hext hns hloB hloL
      go_wp2_with fail
      refine (hasLattice_impl B K a0 oa n n b0 o0 n1 n1 _ _ ys _ HBX.out (HY.out.ext HE.out) hK4 hm1).mono ?_
      rintro e w3 ⟨rfl, h3⟩
      rw [hL]
      have HB2 := Lib.hid (HBX.out.ext h3)
      have HE2 := Lib.hid (HE.out.trans h3)
      have HLEN2 := Lib.hid (HLEN.out.ext h3)
      clear h3
      go_wp2_with fail
      refine (hasLattice_impl B K a0 oa n n b1 o1 n2 n2 _ _ zs _ HB2.out (HZ.out.ext HE2.out) hK4 hm2).mono ?_
      rintro e w4 ⟨rfl, h4⟩
      rw [hL2]
      have HB3 := Lib.hid (HB2.out.ext h4)
      have HE3 := Lib.hid (HE2.out.trans h4)
      have HLEN3 := Lib.hid (HLEN2.out.ext h4)
      clear h4
      go_wp2_with fail
      refine (inner_impl B LB K a0 oa n n n1 n1 n2 n2 _ l v.2 ys zs _ _ _ HB3.out HLEN3.out (HT.out.ext HE3.out) hnK.out hK1 hK4 HLO.out (HY.out.ext HE3.out) (by have := HY.out.len; have := HLB.out.1; omega) (fun e => by have := HLB.out.2 e; omega) (HZ.out.ext HE3.out) (by have := HZ.out.len; have := HLB2.out.1; omega) (fun e => by have := HLB2.out.2 e; omega)).mono ?_
      rintro e w5 ⟨rfl, h5⟩
      go_wp2
      go_ret
      exact ⟨ret_int HF.out.symm, HE3.out.trans h5⟩
end Go.Proofs.Ytinoaldfdcddiaa
