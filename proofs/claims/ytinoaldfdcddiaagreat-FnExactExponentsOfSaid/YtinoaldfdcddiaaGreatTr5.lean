/-
  PositiveRoots, IsRoot and HighestRoot, of the program and of the specification.
-/
import Derived.Test.YtinoaldfdcddiaaGreatRs5
import Derived.Test.YtinoaldfdcddiaaGreatRwR5
namespace Go.Proofs.YtinoaldfdcddiaaGreat
open Go.ChangeShapes Go.WideShapes Go.ChangeAt Go.RowKit
set_option linter.unusedVariables false
set_option linter.unusedSimpArgs false

theorem RowsP.toR {w : World} {lo lo' hi' : Nat} {v : Value} {L : List (List Int)} (h : RowsP w lo v L) (hlo : lo' ≤ lo) (hsz : w.heap.size ≤ hi') (ht : L.flatten.length ≤ 1048576) : ∃ a c, v = .slice a L.length c ∧ RowsR w lo' hi' a L.length L := by
  obtain ⟨vs, B, h1, h2, h3, h4⟩ := h
  rcases h1.2 with ⟨e1, e2⟩ | ⟨g, cap, cur, e1, hb, hg, hn, hc, hcs, htk⟩
  · exact ⟨none, 0, by rw [e1, e2], rfl, ht, .inl e2⟩
  · refine ⟨_, cap, e1, rfl, ht, .inr ⟨g, cur, fun i => some ⟨B i, 0, none⟩, fun i => ((vs[i]?).map fun | .slice _ _ c => c | _ => 0).getD 0, rfl, by omega, Nat.lt_of_lt_of_le (Array.getElem?_eq_some_iff.1 hg).1 hsz, hg, fun i hi => ?_, fun i j b hi hj hne e e9 => ?_⟩⟩
    · obtain ⟨c, x0, h6⟩ := h3 i hi
      refine ⟨?_, h6.mono hlo hsz⟩
      simp only [x0, Option.map_some, Option.getD_some]
      rw [← Array.getElem?_toList]
      have : (cur.toList.take (L.length * 1))[i]? = vs[i]? := by rw [htk]
      rw [List.getElem?_take, if_pos (by omega)] at this
      rw [this, x0]
    · have e7 : B i = b := Option.some.inj e
      have e8 : B j = b := Option.some.inj e9
      exact h4 i j hi hj hne (e7.trans e8.symm)

def prsO (R : Int) (l : List Int) : List (List Int) := match carG R l with | some _ => posR l R.toNat | none => []
def isrO (R : Int) (l x : List Int) : Bool := match carG R l with | some _ => irB (posR l R.toNat) x | none => false
def hrO (R : Int) (l : List Int) : List Int × Bool := match carG R l with | some v => if 1 < v.1.length then ([], false) else (row (posR l R.toNat) ((posR l R.toNat).length - 1), true) | none => ([], false)

set_option maxRecDepth 100000 in
set_option maxHeartbeats 1600000 in
theorem positiveRootsT_spec {R : Int} {a0 oa n : Nat} {l : List Int} {w : World} {i : List (List Int)} (hT : Reads w (some ⟨a0, oa, none⟩) n l) (hm0 : n ≤ 1048576) (hM : prsO R l = i) :
    Calls Tryz.prog 12 #[.agg #[.int .i64 R, .slice (some ⟨a0, oa, none⟩) n n]] w fun e w' => ∃ v, e = .returned v ∧ Rrows w w' v i ∧ Ext w w' := by
  subst hM
  have HT := Lib.hid hT
  rcases hG : carG R l with _ | v
  · have HF : Hid (prsO R l = []) := by rw [Hid, prsO, hG]
    clear hT
    go_enter Tryz.func12, Tryz.ntmps12
    go_wp2_with fail
    refine (isCartan_no (HT.out.ext ((Ext.refl w).alloc _)) hm0 hG).mono ?_
    rintro e w2 ⟨rfl, hE⟩
    go_wp2
    go_ret
    exact ⟨_, rfl, ⟨_, _, _, rfl, by rw [HF.out]; exact rowsR_nil _ _ _ _, by omega⟩, ((Ext.refl w).alloc _).trans hE⟩
  · obtain ⟨K, rfl, hK1, hK4, hlK, ht⟩ := carG_some hG
    have hnK : Hid (n = K * K) := by rw [Hid, ← hT.len]; exact hlK
    have HLO := Lib.hid (lenOk_tab (by omega) hK4 ht)
    have HRO := Lib.hid (rootsOk_tab (by omega) hK4 ht)
    have HPA := Lib.hid (posR_all hK4 hK1 HRO.out)
    clear hT
    have HF : Hid (prsO K l = posR l K) := by rw [Hid, prsO, hG]; rfl
    go_enter Tryz.func12, Tryz.ntmps12
    go_wp2_with fail
    refine (isCartan_yes (HT.out.ext ((Ext.refl w).alloc _)) hm0 hG).mono ?_
    rintro e w2 ⟨rfl, hE⟩
    have HE := Lib.hid (((Ext.refl w).alloc _).trans hE)
    have HB := Lib.hid ((cells_new w #[.int .i64 (K : Nat), .slice (some ⟨a0, oa, none⟩) n n] 28).ext hE)
    have lB := HB.out.1
    have q0 := HB.out.2 0 _ rfl
    have q1 := HB.out.2 1 _ rfl
    clear hE
    go_wp2_with fail
    refine (l5Roots_spec K a0 oa n n l v.2 _ (HT.out.ext HE.out) hnK.out hK1 hK4 HRO.out HLO.out.xb).mono ?_
    rintro e w3 ⟨v3, rfl, hP, h3⟩
    have HP := Lib.hid (hP.low HE.out.le)
    clear hP
    go_wp2
    go_ret
    obtain ⟨a9, c9, rfl, hR9⟩ := HP.out.toR (Nat.le_refl _) (Nat.le_refl _) HPA.out.2.2.2.1
    exact ⟨_, rfl, ⟨_, _, _, rfl, by rw [HF.out]; exact hR9, by have := HPA.out.2.2.1; omega⟩, HE.out.trans h3⟩

set_option maxRecDepth 100000 in
set_option maxHeartbeats 1600000 in
theorem positiveRootsT_impl {R : Int} {a0 oa n : Nat} {l : List Int} {w : World} {i : List (List Int)} (hT : Reads w (some ⟨a0, oa, none⟩) n l) (hm0 : n ≤ 1048576) (hM : prsO R l = i) :
    Calls Tryz.prog 14 #[.agg #[.int .i64 R, .slice (some ⟨a0, oa, none⟩) n n]] w fun e w' => ∃ v, e = .returned v ∧ Rrows w w' v i ∧ Ext w w' := by
  subst hM
  have HT := Lib.hid hT
  rcases hG : carG R l with _ | v
  · have HF : Hid (prsO R l = []) := by rw [Hid, prsO, hG]
    clear hT
    go_enter Tryz.func14, Tryz.ntmps14
    go_wp2_with fail
    refine (wrapRoots_no (HT.out.ext ((Ext.refl w).alloc _)) hm0 hG).mono ?_
    rintro e w2 ⟨rfl, hE⟩
    go_wp2
    go_ret
    exact ⟨_, rfl, ⟨_, _, _, rfl, by rw [HF.out]; exact rowsR_nil _ _ _ _, by omega⟩, ((Ext.refl w).alloc _).trans hE⟩
  · obtain ⟨K, rfl, hK1, hK4, hlK, ht⟩ := carG_some hG
    have hnK : Hid (n = K * K) := by rw [Hid, ← hT.len]; exact hlK
    have HLO := Lib.hid (lenOk_tab (by omega) hK4 ht)
    have HRO := Lib.hid (rootsOk_tab (by omega) hK4 ht)
    have HPA := Lib.hid (posR_all hK4 hK1 HRO.out)
    clear hT
    have HF : Hid (prsO K l = posR l K) := by rw [Hid, prsO, hG]; rfl
    go_enter Tryz.func14, Tryz.ntmps14
    go_wp2_with fail
    refine (wrapRoots_yes (HT.out.ext ((Ext.refl w).alloc _)) hK1 hK4 ht hlK HRO.out HLO.out).mono ?_
    rintro e w2 ⟨S, B, LB, ns, g, c, rfl, hns, hS⟩
    have HS := Lib.hid (hS.low ((Ext.refl w).alloc _))
    have HE := Lib.hid HS.out.wr.ext
    have lS := hS.box.1
    have q0 := hS.box.2 0 _ rfl
    have q1 := hS.box.2 1 _ rfl
    clear hS hns
    go_wp2
    go_ret
    obtain ⟨a9, c9, e9, hR9⟩ := HS.out.own.toR (Nat.le_refl _) (Nat.le_refl _) HPA.out.2.2.2.1
    injection e9 with e9 _ _
    subst e9
    exact ⟨_, rfl, ⟨_, _, _, rfl, by rw [HF.out]; exact hR9, by have := HPA.out.2.2.1; omega⟩, HE.out⟩

set_option maxRecDepth 100000 in
set_option maxHeartbeats 1600000 in
theorem isRootT_spec {R : Int} {a0 oa n b0 o0 n1 : Nat} {l x : List Int} {w : World} {i : Bool} (hT : Reads w (some ⟨a0, oa, none⟩) n l) (hm0 : n ≤ 1048576) (hX : Reads w (some ⟨b0, o0, none⟩) n1 x) (hm1 : n1 ≤ 1048576) (hwf : Wf5 x) (hM : isrO R l x = i) :
    Calls Tryz.prog 20 #[.agg #[.int .i64 R, .slice (some ⟨a0, oa, none⟩) n n], .slice (some ⟨b0, o0, none⟩) n1 n1] w fun e w' => e = .returned (.bool i) ∧ Ext w w' := by
  have HX := Lib.hid hX
  clear hX
  subst hM
  have HT := Lib.hid hT
  rcases hG : carG R l with _ | v
  · have HF : Hid (isrO R l x = false) := by rw [Hid, isrO, hG]
    clear hT
    go_enter Tryz.func20, Tryz.ntmps20
    go_wp2_with fail
    refine (isCartan_no (HT.out.ext ((Ext.refl w).alloc _)) hm0 hG).mono ?_
    rintro e w2 ⟨rfl, hE⟩
    go_wp2
    go_ret
    exact ⟨ret_bool HF.out.symm, ((Ext.refl w).alloc _).trans hE⟩
  · obtain ⟨K, rfl, hK1, hK4, hlK, ht⟩ := carG_some hG
    have hnK : Hid (n = K * K) := by rw [Hid, ← hT.len]; exact hlK
    have HLO := Lib.hid (lenOk_tab (by omega) hK4 ht)
    have HRO := Lib.hid (rootsOk_tab (by omega) hK4 ht)
    have HPA := Lib.hid (posR_all hK4 hK1 HRO.out)
    clear hT
    have HF : Hid (isrO K l x = irB (posR l K) x) := by rw [Hid, isrO, hG]; rfl
    have HLL : Hid (irB (posR l K) x = true → latB K x = true ∧ x.length = K ∧ ∀ e, -6 ≤ gi x e ∧ gi x e ≤ 6) := fun h => irB_lat HPA.out.1 h
    obtain ⟨PR, hPR⟩ : ∃ PR, posR l K = PR := ⟨_, rfl⟩
    have HPRd := Lib.hid hPR
    rw [hPR] at HF HPA HLL
    clear hPR
    rcases hL : latB K x with _ | _
    · have HF2 : Hid (isrO K l x = false) := by
        rw [Hid, HF.out]
        rcases h : irB PR x with _ | _
        · rfl
        · have := (HLL.out h).1; rw [hL] at this; cases this
      go_enter Tryz.func20, Tryz.ntmps20
      go_wp2_with fail
      refine (isCartan_yes (HT.out.ext ((Ext.refl w).alloc _)) hm0 hG).mono ?_
      rintro e w2 ⟨rfl, hE⟩
      have HE := Lib.hid (((Ext.refl w).alloc _).trans hE)
      have HB := Lib.hid ((cells_new w #[.int .i64 (K : Nat), .slice (some ⟨a0, oa, none⟩) n n] 28).ext hE)
      have lB := HB.out.1
      have q0 := HB.out.2 0 _ rfl
      have q1 := HB.out.2 1 _ rfl
      clear hE
      go_wp2_with fail
      clear lB q0 q1
      refine (l5Lattice_spec K a0 oa n n b0 o0 n1 n1 x _ (HX.out.ext HE.out) hK4 hm1).mono ?_
      rintro e w3 ⟨rfl, h3⟩
      rw [hL]
      go_wp2
      go_ret
      exact ⟨ret_bool HF2.out.symm, HE.out.trans h3⟩
    · have HLB := Lib.hid (latB_bnd hL)
      go_enter Tryz.func20, Tryz.ntmps20
      go_wp2_with fail
      refine (isCartan_yes (HT.out.ext ((Ext.refl w).alloc _)) hm0 hG).mono ?_
      rintro e w2 ⟨rfl, hE⟩
      have HE := Lib.hid (((Ext.refl w).alloc _).trans hE)
      have HB := Lib.hid ((cells_new w #[.int .i64 (K : Nat), .slice (some ⟨a0, oa, none⟩) n n] 28).ext hE)
      have lB := HB.out.1
      have q0 := HB.out.2 0 _ rfl
      have q1 := HB.out.2 1 _ rfl
      clear hE
      go_wp2_with fail
      clear lB q0 q1
      refine (l5Lattice_spec K a0 oa n n b0 o0 n1 n1 x _ (HX.out.ext HE.out) hK4 hm1).mono ?_
      rintro e w3 ⟨rfl, h3⟩
      rw [hL]
      have HB3 := Lib.hid (HB.out.ext h3)
      have HE3 := Lib.hid (HE.out.trans h3)
      have lB := HB3.out.1
      have q0 := HB3.out.2 0 _ rfl
      have q1 := HB3.out.2 1 _ rfl
      clear h3
      go_wp2_with fail
      refine (l5Roots_spec K a0 oa n n l v.2 _ (HT.out.ext HE3.out) hnK.out hK1 hK4 HRO.out HLO.out.xb).mono ?_
      rw [HPRd.out]
      rintro e w4 ⟨v4, rfl, hP, h4⟩
      obtain ⟨g, c, rfl, hrd, _⟩ := hP.rd HPA.out.2.1
      have HRD := Lib.hid hrd
      have HE4 := Lib.hid (HE3.out.trans h4)
      clear hP hrd h4
      go_wp2_with fail
      refine (l5IsRoot_spec g c n1 n1 _ PR x _ HRD.out (by have := HPA.out.2.2.1; omega) HPA.out.2.2.2.2 (HX.out.ext HE4.out) (by have := HX.out.len; have := HLB.out.1; omega) (fun e => by have := HLB.out.2 e; omega)).mono ?_
      rintro e w5 ⟨rfl, h5⟩
      go_wp2
      go_ret
      exact ⟨ret_bool HF.out.symm, HE4.out.trans h5⟩

set_option maxRecDepth 100000 in
set_option maxHeartbeats 1600000 in
theorem isRootT_impl {R : Int} {a0 oa n b0 o0 n1 : Nat} {l x : List Int} {w : World} {i : Bool} (hT : Reads w (some ⟨a0, oa, none⟩) n l) (hm0 : n ≤ 1048576) (hX : Reads w (some ⟨b0, o0, none⟩) n1 x) (hm1 : n1 ≤ 1048576) (hwf : Wf5 x) (hM : isrO R l x = i) :
    Calls Tryz.prog 22 #[.agg #[.int .i64 R, .slice (some ⟨a0, oa, none⟩) n n], .slice (some ⟨b0, o0, none⟩) n1 n1] w fun e w' => e = .returned (.bool i) ∧ Ext w w' := by
  have HX := Lib.hid hX
  clear hX
  subst hM
  have HT := Lib.hid hT
  rcases hG : carG R l with _ | v
  · have HF : Hid (isrO R l x = false) := by rw [Hid, isrO, hG]
    clear hT
    go_enter Tryz.func22, Tryz.ntmps22
    go_wp2_with fail
    refine (wrapRoots_no (HT.out.ext ((Ext.refl w).alloc _)) hm0 hG).mono ?_
    rintro e w2 ⟨rfl, hE⟩
    go_wp2
    go_ret
    exact ⟨ret_bool HF.out.symm, ((Ext.refl w).alloc _).trans hE⟩
  · obtain ⟨K, rfl, hK1, hK4, hlK, ht⟩ := carG_some hG
    have hnK : Hid (n = K * K) := by rw [Hid, ← hT.len]; exact hlK
    have HLO := Lib.hid (lenOk_tab (by omega) hK4 ht)
    have HRO := Lib.hid (rootsOk_tab (by omega) hK4 ht)
    have HPA := Lib.hid (posR_all hK4 hK1 HRO.out)
    clear hT
    have HF : Hid (isrO K l x = irB (posR l K) x) := by rw [Hid, isrO, hG]; rfl
    have HLL : Hid (irB (posR l K) x = true → latB K x = true ∧ x.length = K ∧ ∀ e, -6 ≤ gi x e ∧ gi x e ≤ 6) := fun h => irB_lat HPA.out.1 h
    go_enter Tryz.func22, Tryz.ntmps22
    go_wp2_with fail
    refine (wrapRoots_yes (HT.out.ext ((Ext.refl w).alloc _)) hK1 hK4 ht hlK HRO.out HLO.out).mono ?_
    rintro e w2 ⟨S, B, LB, ns, g, c, rfl, hns, hS⟩
    have HS := Lib.hid (hS.low ((Ext.refl w).alloc _))
    have HE := Lib.hid HS.out.wr.ext
    have lS := hS.box.1
    have q0 := hS.box.2 0 _ rfl
    have q1 := hS.box.2 1 _ rfl
    clear hS hns
    obtain ⟨PR, hPR⟩ : ∃ PR, posR l K = PR := ⟨_, rfl⟩
    rw [hPR] at HS HF HPA q1
    clear hPR HLL
    have HBX := Lib.hid HS.out.box
    go_wp2_with fail
    refine (isRoot_impl S g c n1 n1 _ _ PR x _ HBX.out HS.out.rd (by have := HPA.out.2.2.1; omega) (fun r hr => (HPA.out.1 r hr).2) HPA.out.2.2.2.2 (HX.out.ext HE.out) hm1 hwf).mono ?_
    rintro e w3 ⟨rfl, h3⟩
    go_wp2
    go_ret
    exact ⟨ret_bool HF.out.symm, HE.out.trans h3⟩

theorem parts_no {R : Int} {a0 oa n : Nat} {l : List Int} {w : World} (hT : Reads w (some ⟨a0, oa, none⟩) n l) (hm0 : n ≤ 1048576) (hG : carG R l = none) :
    Calls Tryz.prog 45 #[.agg #[.int .i64 R, .slice (some ⟨a0, oa, none⟩) n n]] w fun e w' => e = .returned (.tuple #[.slice none 0 0, .bool false]) ∧ Ext w w' := by
  have hln := hT.len
  by_cases h : 1 ≤ R ∧ R ≤ 4 ∧ (n : Int) = R * R
  · obtain ⟨R, rfl⟩ := Int.eq_ofNat_of_zero_le (show 0 ≤ R by omega)
    have hn : n = R * R := by have := h.2.2; exact_mod_cast this
    rw [carG, if_pos (by rw [hln]; exact h)] at hG
    simp only [Int.toNat_natCast] at hG
    refine (l5Parts_spec R a0 oa n n l w hT hn (by omega) (by omega)).mono ?_
    rintro e w' ⟨hE, ⟨h1, rfl⟩ | ⟨ns, a, c, h1, rfl⟩⟩
    · exact ⟨rfl, hE⟩
    · rw [specM_tab (by omega) (by omega) (hln.trans hn), hG] at h1; cases h1
  · refine (l5Parts_bad R a0 oa n n w hm0 h).mono ?_
    rintro e w' ⟨rfl, hE⟩
    exact ⟨rfl, hE⟩
theorem parts_yes {K a0 oa n : Nat} {l : List Int} {v : List Nat × List Int} {w : World} (hT : Reads w (some ⟨a0, oa, none⟩) n l) (hK1 : 1 ≤ K) (hK4 : K ≤ 4) (hG : tabGet K l = some v) (hl : l.length = K * K) :
    Calls Tryz.prog 45 #[.agg #[.int .i64 (K : Nat), .slice (some ⟨a0, oa, none⟩) n n]] w fun e w' => ∃ a c, e = .returned (.tuple #[.slice a v.1.length c, .bool true]) ∧ Ext w w' := by
  have hln := hT.len
  refine (l5Parts_spec K a0 oa n n l w hT (by omega) hK1 hK4).mono ?_
  rintro e w' ⟨hE, ⟨h1, rfl⟩ | ⟨ns, a, c, h1, rfl⟩⟩
  · rw [specM_tab (by omega) hK4 hl, hG] at h1; cases h1
  · rw [specM_tab (by omega) hK4 hl, hG] at h1
    injection h1 with h1
    subst h1
    exact ⟨a, c, rfl, hE⟩

set_option maxRecDepth 100000 in
set_option maxHeartbeats 1600000 in
theorem highestRoot_spec {R : Int} {a0 oa n : Nat} {l : List Int} {w : World} {d : List Int} {ok : Bool} (hT : Reads w (some ⟨a0, oa, none⟩) n l) (hm0 : n ≤ 1048576) (hM : hrO R l = (d, ok)) :
    Calls Tryz.prog 24 #[.agg #[.int .i64 R, .slice (some ⟨a0, oa, none⟩) n n]] w fun e w' => ∃ v, e = .returned (.tuple #[v, .bool ok]) ∧ Rints5 w w' v d ∧ Ext w w' := by
  have HT := Lib.hid hT
  rcases hG : carG R l with _ | v
  · rw [hrO, hG] at hM
    injection hM with h1 h2
    subst h1
    subst h2
    clear hT
    go_enter Tryz.func24, Tryz.ntmps24
    go_wp2_with fail
    refine (parts_no (HT.out.ext ((Ext.refl w).alloc _)) hm0 hG).mono ?_
    rintro e w2 ⟨rfl, hE⟩
    go_wp2
    go_ret2
    exact ⟨_, rfl, ⟨_, _, _, rfl, own_nil _ _ _, by omega⟩, ((Ext.refl w).alloc _).trans hE⟩
  · obtain ⟨K, rfl, hK1, hK4, hlK, ht⟩ := carG_some hG
    have hnK : Hid (n = K * K) := by rw [Hid, ← hT.len]; exact hlK
    have HLO := Lib.hid (lenOk_tab (by omega) hK4 ht)
    have HRO := Lib.hid (rootsOk_tab (by omega) hK4 ht)
    have HPA := Lib.hid (posR_all hK4 hK1 HRO.out)
    have hM2 : (if 1 < v.1.length then (([] : List Int), false) else (row (posR l K) ((posR l K).length - 1), true)) = (d, ok) := by rw [← hM, hrO, hG]; rfl
    obtain ⟨PR, hPR⟩ : ∃ PR, posR l K = PR := ⟨_, rfl⟩
    have HPRd := Lib.hid hPR
    rw [hPR] at HPA hM2
    clear hT hM hPR
    by_cases hvl : 1 < v.1.length
    · rw [if_pos hvl] at hM2
      injection hM2 with h1 h2
      subst h1
      subst h2
      have hvI : (1 : Int) < ((v.1.length : Nat) : Int) := by omega
      go_enter Tryz.func24, Tryz.ntmps24
      go_wp2_with fail
      refine (parts_yes (HT.out.ext ((Ext.refl w).alloc _)) hK1 hK4 ht hlK).mono ?_
      rintro e w2 ⟨xa, xc, rfl, hE⟩
      have HE := Lib.hid (((Ext.refl w).alloc _).trans hE)
      have HB := Lib.hid ((cells_new w #[.int .i64 (K : Nat), .slice (some ⟨a0, oa, none⟩) n n] 28).ext hE)
      have lB := HB.out.1
      have q0 := HB.out.2 0 _ rfl
      have q1 := HB.out.2 1 _ rfl
      clear hE
      go_wp2
      go_ret2
      exact ⟨_, rfl, ⟨_, _, _, rfl, own_nil _ _ _, by omega⟩, HE.out⟩
    · rw [if_neg hvl] at hM2
      injection hM2 with h1 h2
      have HD := Lib.hid h1
      subst h2
      have hvI : ¬ (1 : Int) < ((v.1.length : Nat) : Int) := by omega
      have hvD : decide ((1 : Int) < ((v.1.length : Nat) : Int)) = false := decide_eq_false hvI
      have hvD2 : decide (1 < v.1.length) = false := decide_eq_false hvl
      have hp0 := HPA.out.2.1
      have hp24 := HPA.out.2.2.1
      have HRW := Lib.hid (HPA.out.1 _ (row_mem (show PR.length - 1 < PR.length by omega))).1
      clear h1
      go_enter Tryz.func24, Tryz.ntmps24
      go_wp2_with fail
      refine (parts_yes (HT.out.ext ((Ext.refl w).alloc _)) hK1 hK4 ht hlK).mono ?_
      rintro e w2 ⟨xa, xc, rfl, hE⟩
      have HE := Lib.hid (((Ext.refl w).alloc _).trans hE)
      have HB := Lib.hid ((cells_new w #[.int .i64 (K : Nat), .slice (some ⟨a0, oa, none⟩) n n] 28).ext hE)
      have lB := HB.out.1
      have q0 := HB.out.2 0 _ rfl
      have q1 := HB.out.2 1 _ rfl
      clear hE
      go_wp2_with fail
      refine (l5Roots_spec K a0 oa n n l v.2 _ (HT.out.ext HE.out) hnK.out hK1 hK4 HRO.out HLO.out.xb).mono ?_
      rw [HPRd.out]
      rintro e w3 ⟨v3, rfl, hP, h3⟩
      obtain ⟨g, c, rfl, hrd, hlo, hkey⟩ := hP.rd hp0
      obtain ⟨b9, c9, hc9, hO9⟩ := hkey (PR.length - 1) (by omega)
      rw [HRW.out] at hc9 hO9
      have lg := hrd.1
      have HO9 := Lib.hid (hO9.mono HE.out.le (Nat.le_refl _))
      have HE3 := Lib.hid (HE.out.trans h3)
      have vA : IntKind.i64.wrap ((PR.length : Int) - 1) = (PR.length : Int) - 1 := IntWalk.i64_in _ ⟨by omega, by omega⟩
      have tA : ((PR.length : Int) - 1).toNat = PR.length - 1 := by omega
      have iA : 0 ≤ (PR.length : Int) - 1 := by omega
      have iB : (PR.length : Int) - 1 < (PR.length : Int) := by omega
      clear hO9 hrd hkey hlo hP h3
      go_wp2
      go_ret2
      exact ⟨_, rfl, ⟨_, _, _, rfl, by rw [← HD.out]; exact HO9.out, by omega⟩, HE3.out⟩

set_option maxRecDepth 100000 in
set_option maxHeartbeats 1600000 in
theorem highestRoot_impl {R : Int} {a0 oa n : Nat} {l : List Int} {w : World} {d : List Int} {ok : Bool} (hT : Reads w (some ⟨a0, oa, none⟩) n l) (hm0 : n ≤ 1048576) (hM : hrO R l = (d, ok)) :
    Calls Tryz.prog 25 #[.agg #[.int .i64 R, .slice (some ⟨a0, oa, none⟩) n n]] w fun e w' => ∃ v, e = .returned (.tuple #[v, .bool ok]) ∧ Rints5 w w' v d ∧ Ext w w' := by
  have HT := Lib.hid hT
  rcases hG : carG R l with _ | v
  · rw [hrO, hG] at hM
    injection hM with h1 h2
    subst h1
    subst h2
    clear hT
    go_enter Tryz.func25, Tryz.ntmps25
    go_wp2_with fail
    refine (wrapRoots_no (HT.out.ext ((Ext.refl w).alloc _)) hm0 hG).mono ?_
    rintro e w2 ⟨rfl, hE⟩
    go_wp2
    go_ret2
    exact ⟨_, rfl, ⟨_, _, _, rfl, own_nil _ _ _, by omega⟩, ((Ext.refl w).alloc _).trans hE⟩
  · obtain ⟨K, rfl, hK1, hK4, hlK, ht⟩ := carG_some hG
    have hnK : Hid (n = K * K) := by rw [Hid, ← hT.len]; exact hlK
    have HLO := Lib.hid (lenOk_tab (by omega) hK4 ht)
    have HRO := Lib.hid (rootsOk_tab (by omega) hK4 ht)
    have HPA := Lib.hid (posR_all hK4 hK1 HRO.out)
    have hM2 : (if 1 < v.1.length then (([] : List Int), false) else (row (posR l K) ((posR l K).length - 1), true)) = (d, ok) := by rw [← hM, hrO, hG]; rfl
    obtain ⟨PR, hPR⟩ : ∃ PR, posR l K = PR := ⟨_, rfl⟩
    have HPRd := Lib.hid hPR
    rw [hPR] at HPA hM2
    clear hT hM hPR
    by_cases hvl : 1 < v.1.length
    · rw [if_pos hvl] at hM2
      injection hM2 with h1 h2
      subst h1
      subst h2
      have hvI : (1 : Int) < ((v.1.length : Nat) : Int) := by omega
      go_enter Tryz.func25, Tryz.ntmps25
      go_wp2_with fail
      refine (wrapRoots_yes (HT.out.ext ((Ext.refl w).alloc _)) hK1 hK4 ht hlK HRO.out HLO.out).mono ?_
      rw [HPRd.out]
      rintro e w2 ⟨S, B, LB, ns, g, c, rfl, hns, hS⟩
      have HS := Lib.hid (hS.low ((Ext.refl w).alloc _))
      have HE := Lib.hid HS.out.wr.ext
      have lS := hS.box.1
      have q0 := hS.box.2 0 _ rfl
      have q1 := hS.box.2 1 _ rfl
      obtain ⟨xa, xn, xc, hbox, hstr⟩ := HS.out.wr.box
      have hxn : xn = v.1.length := by rw [← hns, ← hstr.1, List.length_map]
      subst hxn
      have lB := hbox.1
      have p2 := hbox.2 2 _ rfl
      clear hbox hstr hns hS
      go_wp2
      go_ret2
      exact ⟨_, rfl, ⟨_, _, _, rfl, own_nil _ _ _, by omega⟩, HE.out⟩
    · rw [if_neg hvl] at hM2
      injection hM2 with h1 h2
      have HD := Lib.hid h1
      subst h2
      have hvI : ¬ (1 : Int) < ((v.1.length : Nat) : Int) := by omega
      have hvD : decide ((1 : Int) < ((v.1.length : Nat) : Int)) = false := decide_eq_false hvI
      have hvD2 : decide (1 < v.1.length) = false := decide_eq_false hvl
      have hp0 := HPA.out.2.1
      have hp24 := HPA.out.2.2.1
      have HRW := Lib.hid (HPA.out.1 _ (row_mem (show PR.length - 1 < PR.length by omega))).1
      clear h1
      go_enter Tryz.func25, Tryz.ntmps25
      go_wp2_with fail
      refine (wrapRoots_yes (HT.out.ext ((Ext.refl w).alloc _)) hK1 hK4 ht hlK HRO.out HLO.out).mono ?_
      rw [HPRd.out]
      rintro e w2 ⟨S, B, LB, ns, g, c, rfl, hns, hS⟩
      have HS := Lib.hid (hS.low ((Ext.refl w).alloc _))
      have HE := Lib.hid HS.out.wr.ext
      have lS := hS.box.1
      have q0 := hS.box.2 0 _ rfl
      have q1 := hS.box.2 1 _ rfl
      obtain ⟨xa, xn, xc, hbox, hstr⟩ := HS.out.wr.box
      have hxn : xn = v.1.length := by rw [← hns, ← hstr.1, List.length_map]
      subst hxn
      have lB := hbox.1
      have p2 := hbox.2 2 _ rfl
      clear hbox hstr hns hS
      obtain ⟨g2, c2, e2, hrd, hlo, hkey⟩ := HS.out.own.rd hp0
      injection e2 with e2 _ _
      injection e2 with e2
      injection e2 with e2
      subst e2
      obtain ⟨b9, c9, hc9, hO9⟩ := hkey (PR.length - 1) (by omega)
      rw [HRW.out] at hc9 hO9
      have lg := hrd.1
      have HO9 := Lib.hid hO9
      have vA : IntKind.i64.wrap ((PR.length : Int) - 1) = (PR.length : Int) - 1 := IntWalk.i64_in _ ⟨by omega, by omega⟩
      have tA : ((PR.length : Int) - 1).toNat = PR.length - 1 := by omega
      have iA : 0 ≤ (PR.length : Int) - 1 := by omega
      have iB : (PR.length : Int) - 1 < (PR.length : Int) := by omega
      clear hO9 hrd hkey hlo
      go_wp2_with fail
      go_quiet (fail)
      go_wp2
      go_ret2
      exact ⟨_, rfl, ⟨_, _, _, rfl, by rw [← HD.out]; exact (HO9.out.ext ((Ext.refl _).drewN _)).mono (Nat.le_refl _) (by simp), by omega⟩, HE.out.drewN _⟩
end Go.Proofs.YtinoaldfdcddiaaGreat
