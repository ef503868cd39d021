/-
  RootString, of the program and of the specification.
-/
import Derived.Test.YtinoaldfdcddiaaGreatRu5
import Derived.Test.YtinoaldfdcddiaaGreatTr5
namespace Go.Proofs.YtinoaldfdcddiaaGreat
open Go.ChangeShapes Go.WideShapes Go.ChangeAt Go.RowKit
set_option linter.unusedVariables false
set_option linter.unusedSimpArgs false

def strO (R : Int) (l r x : List Int) : Int × Int := match carG R l with | some v => if irB (posR l R.toNat) r && (irB (posR l R.toNat) x && (!sameB x r && !sameB x (negL r))) then (((alM (posR l R.toNat) x (negL r) : Nat) : Int), ((alM (posR l R.toNat) x r : Nat) : Int)) else (-1, -1) | none => (-1, -1)
theorem ret_2i {a b c d : Int} (h1 : a = c) (h2 : b = d) : Ending.returned (.tuple #[.int .i64 a, .int .i64 b]) = .returned (.tuple #[.int .i64 c, .int .i64 d]) := by rw [h1, h2]

set_option maxRecDepth 100000 in
set_option maxHeartbeats 6400000 in
theorem rootString_spec {R : Int} {a0 oa n br or nr bx ox nx : Nat} {l r x : List Int} {w : World} {i j : Int} (hT : Reads w (some ⟨a0, oa, none⟩) n l) (hm0 : n ≤ 1048576) (hr : Reads w (some ⟨br, or, none⟩) nr r) (hmr : nr ≤ 1048576) (hwfr : Wf5 r) (hx : Reads w (some ⟨bx, ox, none⟩) nx x) (hmx : nx ≤ 1048576) (hwfx : Wf5 x) (hM : strO R l r x = (i, j)) :
    Calls Tryz.prog 34 #[.agg #[.int .i64 R, .slice (some ⟨a0, oa, none⟩) n n], .slice (some ⟨br, or, none⟩) nr nr, .slice (some ⟨bx, ox, none⟩) nx nx] w fun e w' => e = .returned (.tuple #[.int .i64 i, .int .i64 j]) ∧ Ext w w' := by
  have HT := Lib.hid hT
  have Hr := Lib.hid hr
  have Hx := Lib.hid hx
  rcases hG : carG R l with _ | v
  · rw [strO, hG] at hM
    have HI1 : Hid ((-1 : Int) = i) := by injection hM
    have HI2 : Hid ((-1 : Int) = j) := by injection hM
    have HIr : isrO R l r = false := by rw [isrO, hG]
    clear hT hr hx hM
    go_enter Tryz.func34, Tryz.ntmps34
    go_wp2_with fail
    refine (isRootT_spec (HT.out.ext ((Ext.refl w).alloc _)) hm0 (Hr.out.ext ((Ext.refl w).alloc _)) hmr hwfr HIr).mono ?_
    rintro e w2 ⟨rfl, hE⟩
    go_wp2
    go_ret2
    exact ⟨ret_2i HI1.out HI2.out, ((Ext.refl w).alloc _).trans hE⟩
  · obtain ⟨K, rfl, hK1, hK4, hlK, ht⟩ := carG_some hG
    have hnK : Hid (n = K * K) := by rw [Hid, ← hT.len]; exact hlK
    have HLO := Lib.hid (lenOk_tab (by omega) hK4 ht)
    have HRO := Lib.hid (rootsOk_tab (by omega) hK4 ht)
    have HPA := Lib.hid (posR_all hK4 hK1 HRO.out)
    have HIr : Hid (isrO K l r = irB (posR l K) r) := by rw [Hid, isrO, hG]; rfl
    have HIx : Hid (isrO K l x = irB (posR l K) x) := by rw [Hid, isrO, hG]; rfl
    have HF : Hid ((if irB (posR l K) r && (irB (posR l K) x && (!sameB x r && !sameB x (negL r))) then (((alM (posR l K) x (negL r) : Nat) : Int), ((alM (posR l K) x r : Nat) : Int)) else (-1, -1)) = (i, j)) := by rw [Hid, ← hM, strO, hG]; rfl
    have HRAr := Lib.hid (fun h => root_all (r := r) HRO.out h)
    have HRAx := Lib.hid (fun h => root_all (r := x) HRO.out h)
    have HSH1 : Hid (∀ h1 : irB (posR l K) x = true, ∀ h2 : irB (posR l K) r = true, ∀ n : Nat, irB (posR l K) (ptL x ((n + 1 : Nat) : Int) r) = true → n + 1 ≤ 12) := fun h1 h2 n h => run_short HRO.out h1 h2 h
    have HSH2 : Hid (∀ h1 : irB (posR l K) x = true, ∀ h2 : irB (posR l K) r = true, ∀ n : Nat, irB (posR l K) (ptL x ((n + 1 : Nat) : Int) (negL r)) = true → n + 1 ≤ 12) := fun h1 h2 n h => run_short HRO.out h1 (by rw [irB_neg]; exact h2) h
    obtain ⟨PR, hPR⟩ : ∃ PR, posR l K = PR := ⟨_, rfl⟩
    have HPRd := Lib.hid hPR
    rw [hPR] at HPA HIr HIx HF HRAr HRAx HSH1 HSH2
    have HXB := Lib.hid HLO.out.xb
    clear hT hr hx hM hPR hG
    rcases hirr : irB PR r with _ | _
    · rw [hirr] at HF
      have HI1 : Hid ((-1 : Int) = i) := by have := HF.out; injection this
      have HI2 : Hid ((-1 : Int) = j) := by have := HF.out; injection this
      clear HF
      go_enter Tryz.func34, Tryz.ntmps34
      have HE2 : Hid (Ext w (w.alloc (.cells #[.int .i64 (K : Nat), .slice (some ⟨a0, oa, none⟩) n n] 28))) := ((Ext.refl w).alloc _)
      have HB2 := Lib.hid (cells_new w #[.int .i64 (K : Nat), .slice (some ⟨a0, oa, none⟩) n n] 28)
      have lB := HB2.out.1
      have q0 := HB2.out.2 0 _ rfl
      have q1 := HB2.out.2 1 _ rfl
      go_wp2_with fail
      clear lB q0 q1
      refine (isRootT_spec (HT.out.ext HE2.out) hm0 (Hr.out.ext HE2.out) hmr hwfr HIr.out).mono ?_
      rw [hirr]
      rintro e w3 ⟨rfl, h3⟩
      have HE3 := Lib.hid (HE2.out.trans h3)
      have HB3 := Lib.hid (HB2.out.ext h3)
      clear h3 HB2
      go_wp2
      go_ret2
      exact ⟨ret_2i HI1.out HI2.out, HE3.out⟩
    · have HRAr := Lib.hid (HRAr.out hirr)
      have HNR : Hid (nr = K) := by rw [Hid, ← Hr.out.len]; exact HRAr.out.1
      rcases hirx : irB PR x with _ | _
      · rw [hirr, hirx] at HF
        have HI1 : Hid ((-1 : Int) = i) := by have := HF.out; injection this
        have HI2 : Hid ((-1 : Int) = j) := by have := HF.out; injection this
        clear HF
        go_enter Tryz.func34, Tryz.ntmps34
        have HE2 : Hid (Ext w (w.alloc (.cells #[.int .i64 (K : Nat), .slice (some ⟨a0, oa, none⟩) n n] 28))) := ((Ext.refl w).alloc _)
        have HB2 := Lib.hid (cells_new w #[.int .i64 (K : Nat), .slice (some ⟨a0, oa, none⟩) n n] 28)
        have lB := HB2.out.1
        have q0 := HB2.out.2 0 _ rfl
        have q1 := HB2.out.2 1 _ rfl
        go_wp2_with fail
        clear lB q0 q1
        refine (isRootT_spec (HT.out.ext HE2.out) hm0 (Hr.out.ext HE2.out) hmr hwfr HIr.out).mono ?_
        rw [hirr]
        rintro e w3 ⟨rfl, h3⟩
        have HE3 := Lib.hid (HE2.out.trans h3)
        have HB3 := Lib.hid (HB2.out.ext h3)
        clear h3 HB2
        have lB := HB3.out.1
        have q0 := HB3.out.2 0 _ rfl
        have q1 := HB3.out.2 1 _ rfl
        go_wp2_with fail
        clear lB q0 q1
        refine (isRootT_spec (HT.out.ext HE3.out) hm0 (Hx.out.ext HE3.out) hmx hwfx HIx.out).mono ?_
        rw [hirx]
        rintro e w4 ⟨rfl, h4⟩
        have HE4 := Lib.hid (HE3.out.trans h4)
        have HB4 := Lib.hid (HB3.out.ext h4)
        clear h4 HB3
        go_wp2
        go_ret2
        exact ⟨ret_2i HI1.out HI2.out, HE4.out⟩
      · have HRAx := Lib.hid (HRAx.out hirx)
        have HNX : Hid (nx = K) := by rw [Hid, ← Hx.out.len]; exact HRAx.out.1
        have HSH1 := Lib.hid (HSH1.out hirx hirr)
        have HSH2 := Lib.hid (HSH2.out hirx hirr)
        rcases hs1 : sameB x r with _ | _
        · rcases hs2 : sameB x (negL r) with _ | _
          · rw [hirr, hirx, hs1, hs2] at HF
            have HI1 : Hid (((alM PR x (negL r) : Nat) : Int) = i) := by have := HF.out; injection this
            have HI2 : Hid (((alM PR x r : Nat) : Int) = j) := by have := HF.out; injection this
            clear HF
            go_enter Tryz.func34, Tryz.ntmps34
            have HE2 : Hid (Ext w (w.alloc (.cells #[.int .i64 (K : Nat), .slice (some ⟨a0, oa, none⟩) n n] 28))) := ((Ext.refl w).alloc _)
            have HB2 := Lib.hid (cells_new w #[.int .i64 (K : Nat), .slice (some ⟨a0, oa, none⟩) n n] 28)
            have lB := HB2.out.1
            have q0 := HB2.out.2 0 _ rfl
            have q1 := HB2.out.2 1 _ rfl
            go_wp2_with fail
            clear lB q0 q1
            refine (isRootT_spec (HT.out.ext HE2.out) hm0 (Hr.out.ext HE2.out) hmr hwfr HIr.out).mono ?_
            rw [hirr]
            rintro e w3 ⟨rfl, h3⟩
            have HE3 := Lib.hid (HE2.out.trans h3)
            have HB3 := Lib.hid (HB2.out.ext h3)
            clear h3 HB2
            have lB := HB3.out.1
            have q0 := HB3.out.2 0 _ rfl
            have q1 := HB3.out.2 1 _ rfl
            go_wp2_with fail
            clear lB q0 q1
            refine (isRootT_spec (HT.out.ext HE3.out) hm0 (Hx.out.ext HE3.out) hmx hwfx HIx.out).mono ?_
            rw [hirx]
            rintro e w4 ⟨rfl, h4⟩
            have HE4 := Lib.hid (HE3.out.trans h4)
            have HB4 := Lib.hid (HB3.out.ext h4)
            clear h4 HB3
            have lB := HB4.out.1
            have q0 := HB4.out.2 0 _ rfl
            have q1 := HB4.out.2 1 _ rfl
            go_wp2_with fail
            clear lB q0 q1
            refine (l1Same_spec _ _ nx nr nx nr x r _ (Hx.out.ext HE4.out) (Hr.out.ext HE4.out) hmx hmr).mono ?_
            rw [hs1]
            rintro e _ ⟨rfl, m4, rfl⟩
            have h5 := (Ext.refl w4).drewN m4
            obtain ⟨w5, hw5⟩ : ∃ w', w4.drewN m4 = w' := ⟨_, rfl⟩
            rw [hw5] at h5 ⊢
            clear hw5
            have HE5 := Lib.hid (HE4.out.trans h5)
            have HB5 := Lib.hid (HB4.out.ext h5)
            clear h5 HB4
            have lB := HB5.out.1
            have q0 := HB5.out.2 0 _ rfl
            have q1 := HB5.out.2 1 _ rfl
            go_wp2_with fail
            clear lB q0 q1
            refine (l5Minus_spec nr nr _ r _ (Hr.out.ext HE5.out) (by have := HNR.out; omega) (fun e => by have := HRAr.out.2.1 e; omega)).mono ?_
            rintro e w6 ⟨b6, rfl, hb6, hb26, hh6, h6⟩
            have HH6 := Lib.hid hh6
            clear hh6 hb6 hb26
            have HE6 := Lib.hid (HE5.out.trans h6)
            have HB6 := Lib.hid (HB5.out.ext h6)
            clear h6 HB5
            have lB := HB6.out.1
            have q0 := HB6.out.2 0 _ rfl
            have q1 := HB6.out.2 1 _ rfl
            go_wp2_with fail
            clear lB q0 q1
            refine (l1Same_spec _ _ nx nr nx nr x (negL r) _ (Hx.out.ext HE6.out) (HH6.out.reads (by rw [negL_length]; exact Hr.out.len)) hmx hmr).mono ?_
            rw [hs2]
            rintro e _ ⟨rfl, m6, rfl⟩
            have h7 := (Ext.refl w6).drewN m6
            obtain ⟨w7, hw7⟩ : ∃ w', w6.drewN m6 = w' := ⟨_, rfl⟩
            rw [hw7] at h7 ⊢
            clear hw7
            have HE7 := Lib.hid (HE6.out.trans h7)
            have HB7 := Lib.hid (HB6.out.ext h7)
            clear h7 HB6
            have lB := HB7.out.1
            have q0 := HB7.out.2 0 _ rfl
            have q1 := HB7.out.2 1 _ rfl
            go_wp2_with fail
            clear lB q0 q1
            refine (l5Roots_spec K a0 oa n n l v.2 _ (HT.out.ext HE7.out) hnK.out hK1 hK4 HRO.out HXB.out).mono ?_
            rw [HPRd.out]
            rintro e w8 ⟨vr, rfl, hvr, h8⟩
            obtain ⟨g, c, rfl, hg, _, _⟩ := hvr.rd HPA.out.2.1
            clear hvr
            have HE8 := Lib.hid (HE7.out.trans h8)
            have HB8 := Lib.hid (HB7.out.ext h8)
            clear h8 HB7
            have HG0 := Lib.hid hg
            clear hg
            have lB := HB8.out.1
            have q0 := HB8.out.2 0 _ rfl
            have q1 := HB8.out.2 1 _ rfl
            go_wp2_with fail
            clear lB q0 q1
            refine (l5Minus_spec nr nr _ r _ (Hr.out.ext HE8.out) (by have := HNR.out; omega) (fun e => by have := HRAr.out.2.1 e; omega)).mono ?_
            rintro e w9 ⟨b9, rfl, hb9, hb29, hh9, h9⟩
            have HH9 := Lib.hid hh9
            clear hh9 hb9 hb29
            have HG := Lib.hid (HG0.out.ext h9)
            have HE9 := Lib.hid (HE8.out.trans h9)
            have HB9 := Lib.hid (HB8.out.ext h9)
            clear h9 HB8
            have lB := HB9.out.1
            have q0 := HB9.out.2 0 _ rfl
            have q1 := HB9.out.2 1 _ rfl
            go_wp2_with fail
            refine (l5Run_spec g c nx nx nr nr _ _ PR x (negL r) _ (HG.out) (by have := HPA.out.2.2.1; omega) (fun r hr => (HPA.out.1 r hr).2) HPA.out.2.2.2.2 (Hx.out.ext HE9.out) (by have := HNX.out; omega) (by have := HNX.out; omega) (HH9.out.reads (by rw [negL_length]; exact Hr.out.len)) (by have := HNX.out; have := HNR.out; omega) HRAx.out.2.1 (fun e => by have := HRAr.out.2.1 e; rw [gi_negL]; omega) HSH2.out).mono ?_
            rintro e w10 ⟨rfl, h10⟩
            have HG2 := Lib.hid (HG.out.ext h10)
            have HE10 := Lib.hid (HE9.out.trans h10)
            have HB10 := Lib.hid (HB9.out.ext h10)
            clear h10 HB9
            go_wp2_with fail
            refine (l5Run_spec g c nx nx nr nr _ _ PR x r _ (HG2.out) (by have := HPA.out.2.2.1; omega) (fun r hr => (HPA.out.1 r hr).2) HPA.out.2.2.2.2 (Hx.out.ext HE10.out) (by have := HNX.out; omega) (by have := HNX.out; omega) (Hr.out.ext HE10.out) (by have := HNX.out; have := HNR.out; omega) HRAx.out.2.1 HRAr.out.2.1 HSH1.out).mono ?_
            rintro e w11 ⟨rfl, h11⟩
            have HE11 := Lib.hid (HE10.out.trans h11)
            have HB11 := Lib.hid (HB10.out.ext h11)
            clear h11 HB10
            go_wp2
            go_ret2
            exact ⟨ret_2i HI1.out HI2.out, HE11.out⟩
          · rw [hirr, hirx, hs1, hs2] at HF
            have HI1 : Hid ((-1 : Int) = i) := by have := HF.out; injection this
            have HI2 : Hid ((-1 : Int) = j) := by have := HF.out; injection this
            clear HF
            go_enter Tryz.func34, Tryz.ntmps34
            have HE2 : Hid (Ext w (w.alloc (.cells #[.int .i64 (K : Nat), .slice (some ⟨a0, oa, none⟩) n n] 28))) := ((Ext.refl w).alloc _)
            have HB2 := Lib.hid (cells_new w #[.int .i64 (K : Nat), .slice (some ⟨a0, oa, none⟩) n n] 28)
            have lB := HB2.out.1
            have q0 := HB2.out.2 0 _ rfl
            have q1 := HB2.out.2 1 _ rfl
            go_wp2_with fail
            clear lB q0 q1
            refine (isRootT_spec (HT.out.ext HE2.out) hm0 (Hr.out.ext HE2.out) hmr hwfr HIr.out).mono ?_
            rw [hirr]
            rintro e w3 ⟨rfl, h3⟩
            have HE3 := Lib.hid (HE2.out.trans h3)
            have HB3 := Lib.hid (HB2.out.ext h3)
            clear h3 HB2
            have lB := HB3.out.1
            have q0 := HB3.out.2 0 _ rfl
            have q1 := HB3.out.2 1 _ rfl
            go_wp2_with fail
            clear lB q0 q1
            refine (isRootT_spec (HT.out.ext HE3.out) hm0 (Hx.out.ext HE3.out) hmx hwfx HIx.out).mono ?_
            rw [hirx]
            rintro e w4 ⟨rfl, h4⟩
            have HE4 := Lib.hid (HE3.out.trans h4)
            have HB4 := Lib.hid (HB3.out.ext h4)
            clear h4 HB3
            have lB := HB4.out.1
            have q0 := HB4.out.2 0 _ rfl
            have q1 := HB4.out.2 1 _ rfl
            go_wp2_with fail
            clear lB q0 q1
            refine (l1Same_spec _ _ nx nr nx nr x r _ (Hx.out.ext HE4.out) (Hr.out.ext HE4.out) hmx hmr).mono ?_
            rw [hs1]
            rintro e _ ⟨rfl, m4, rfl⟩
            have h5 := (Ext.refl w4).drewN m4
            obtain ⟨w5, hw5⟩ : ∃ w', w4.drewN m4 = w' := ⟨_, rfl⟩
            rw [hw5] at h5 ⊢
            clear hw5
            have HE5 := Lib.hid (HE4.out.trans h5)
            have HB5 := Lib.hid (HB4.out.ext h5)
            clear h5 HB4
            have lB := HB5.out.1
            have q0 := HB5.out.2 0 _ rfl
            have q1 := HB5.out.2 1 _ rfl
            go_wp2_with fail
            clear lB q0 q1
            refine (l5Minus_spec nr nr _ r _ (Hr.out.ext HE5.out) (by have := HNR.out; omega) (fun e => by have := HRAr.out.2.1 e; omega)).mono ?_
            rintro e w6 ⟨b6, rfl, hb6, hb26, hh6, h6⟩
            have HH6 := Lib.hid hh6
            clear hh6 hb6 hb26
            have HE6 := Lib.hid (HE5.out.trans h6)
            have HB6 := Lib.hid (HB5.out.ext h6)
            clear h6 HB5
            have lB := HB6.out.1
            have q0 := HB6.out.2 0 _ rfl
            have q1 := HB6.out.2 1 _ rfl
            go_wp2_with fail
            clear lB q0 q1
            refine (l1Same_spec _ _ nx nr nx nr x (negL r) _ (Hx.out.ext HE6.out) (HH6.out.reads (by rw [negL_length]; exact Hr.out.len)) hmx hmr).mono ?_
            rw [hs2]
            rintro e _ ⟨rfl, m6, rfl⟩
            have h7 := (Ext.refl w6).drewN m6
            obtain ⟨w7, hw7⟩ : ∃ w', w6.drewN m6 = w' := ⟨_, rfl⟩
            rw [hw7] at h7 ⊢
            clear hw7
            have HE7 := Lib.hid (HE6.out.trans h7)
            have HB7 := Lib.hid (HB6.out.ext h7)
            clear h7 HB6
            go_wp2
            go_ret2
            exact ⟨ret_2i HI1.out HI2.out, HE7.out⟩
        · rw [hirr, hirx, hs1] at HF
          have HI1 : Hid ((-1 : Int) = i) := by have := HF.out; injection this
          have HI2 : Hid ((-1 : Int) = j) := by have := HF.out; injection this
          clear HF
          go_enter Tryz.func34, Tryz.ntmps34
          have HE2 : Hid (Ext w (w.alloc (.cells #[.int .i64 (K : Nat), .slice (some ⟨a0, oa, none⟩) n n] 28))) := ((Ext.refl w).alloc _)
          have HB2 := Lib.hid (cells_new w #[.int .i64 (K : Nat), .slice (some ⟨a0, oa, none⟩) n n] 28)
          have lB := HB2.out.1
          have q0 := HB2.out.2 0 _ rfl
          have q1 := HB2.out.2 1 _ rfl
          go_wp2_with fail
          clear lB q0 q1
          refine (isRootT_spec (HT.out.ext HE2.out) hm0 (Hr.out.ext HE2.out) hmr hwfr HIr.out).mono ?_
          rw [hirr]
          rintro e w3 ⟨rfl, h3⟩
          have HE3 := Lib.hid (HE2.out.trans h3)
          have HB3 := Lib.hid (HB2.out.ext h3)
          clear h3 HB2
          have lB := HB3.out.1
          have q0 := HB3.out.2 0 _ rfl
          have q1 := HB3.out.2 1 _ rfl
          go_wp2_with fail
          clear lB q0 q1
          refine (isRootT_spec (HT.out.ext HE3.out) hm0 (Hx.out.ext HE3.out) hmx hwfx HIx.out).mono ?_
          rw [hirx]
          rintro e w4 ⟨rfl, h4⟩
          have HE4 := Lib.hid (HE3.out.trans h4)
          have HB4 := Lib.hid (HB3.out.ext h4)
          clear h4 HB3
          have lB := HB4.out.1
          have q0 := HB4.out.2 0 _ rfl
          have q1 := HB4.out.2 1 _ rfl
          go_wp2_with fail
          clear lB q0 q1
          refine (l1Same_spec _ _ nx nr nx nr x r _ (Hx.out.ext HE4.out) (Hr.out.ext HE4.out) hmx hmr).mono ?_
          rw [hs1]
          rintro e _ ⟨rfl, m4, rfl⟩
          have h5 := (Ext.refl w4).drewN m4
          obtain ⟨w5, hw5⟩ : ∃ w', w4.drewN m4 = w' := ⟨_, rfl⟩
          rw [hw5] at h5 ⊢
          clear hw5
          have HE5 := Lib.hid (HE4.out.trans h5)
          have HB5 := Lib.hid (HB4.out.ext h5)
          clear h5 HB4
          go_wp2
          go_ret2
          exact ⟨ret_2i HI1.out HI2.out, HE5.out⟩

set_option maxRecDepth 100000 in
set_option maxHeartbeats 6400000 in
theorem rootString_impl {R : Int} {a0 oa n br or nr bx ox nx : Nat} {l r x : List Int} {w : World} {i j : Int} (hT : Reads w (some ⟨a0, oa, none⟩) n l) (hm0 : n ≤ 1048576) (hr : Reads w (some ⟨br, or, none⟩) nr r) (hmr : nr ≤ 1048576) (hwfr : Wf5 r) (hx : Reads w (some ⟨bx, ox, none⟩) nx x) (hmx : nx ≤ 1048576) (hwfx : Wf5 x) (hM : strO R l r x = (i, j)) :
    Calls Tryz.prog 35 #[.agg #[.int .i64 R, .slice (some ⟨a0, oa, none⟩) n n], .slice (some ⟨br, or, none⟩) nr nr, .slice (some ⟨bx, ox, none⟩) nx nx] w fun e w' => e = .returned (.tuple #[.int .i64 i, .int .i64 j]) ∧ Ext w w' := by
  have HT := Lib.hid hT
  have Hr := Lib.hid hr
  have Hx := Lib.hid hx
  rcases hG : carG R l with _ | v
  · rw [strO, hG] at hM
    have HI1 : Hid ((-1 : Int) = i) := by injection hM
    have HI2 : Hid ((-1 : Int) = j) := by injection hM
    have HIr : isrO R l r = false := by rw [isrO, hG]
    clear hT hr hx hM
    go_enter Tryz.func35, Tryz.ntmps35
    go_wp2_with fail
    refine (wrapRoots_no (HT.out.ext ((Ext.refl w).alloc _)) hm0 hG).mono ?_
    rintro e w2 ⟨rfl, hE⟩
    go_wp2
    go_ret2
    exact ⟨ret_2i HI1.out HI2.out, ((Ext.refl w).alloc _).trans hE⟩
  · obtain ⟨K, rfl, hK1, hK4, hlK, ht⟩ := carG_some hG
    have hnK : Hid (n = K * K) := by rw [Hid, ← hT.len]; exact hlK
    have HLO := Lib.hid (lenOk_tab (by omega) hK4 ht)
    have HRO := Lib.hid (rootsOk_tab (by omega) hK4 ht)
    have HPA := Lib.hid (posR_all hK4 hK1 HRO.out)
    have HIr : Hid (isrO K l r = irB (posR l K) r) := by rw [Hid, isrO, hG]; rfl
    have HIx : Hid (isrO K l x = irB (posR l K) x) := by rw [Hid, isrO, hG]; rfl
    have HF : Hid ((if irB (posR l K) r && (irB (posR l K) x && (!sameB x r && !sameB x (negL r))) then (((alM (posR l K) x (negL r) : Nat) : Int), ((alM (posR l K) x r : Nat) : Int)) else (-1, -1)) = (i, j)) := by rw [Hid, ← hM, strO, hG]; rfl
    have HRAr := Lib.hid (fun h => root_all (r := r) HRO.out h)
    have HRAx := Lib.hid (fun h => root_all (r := x) HRO.out h)
    have HSH1 : Hid (∀ h1 : irB (posR l K) x = true, ∀ h2 : irB (posR l K) r = true, ∀ n : Nat, irB (posR l K) (ptL x ((n + 1 : Nat) : Int) r) = true → n + 1 ≤ 12) := fun h1 h2 n h => run_short HRO.out h1 h2 h
    have HSH2 : Hid (∀ h1 : irB (posR l K) x = true, ∀ h2 : irB (posR l K) r = true, ∀ n : Nat, irB (posR l K) (ptL x ((n + 1 : Nat) : Int) (negL r)) = true → n + 1 ≤ 12) := fun h1 h2 n h => run_short HRO.out h1 (by rw [irB_neg]; exact h2) h
    obtain ⟨PR, hPR⟩ : ∃ PR, posR l K = PR := ⟨_, rfl⟩
    have HPRd := Lib.hid hPR
    rw [hPR] at HPA HIr HIx HF HRAr HRAx HSH1 HSH2
    have HXB := Lib.hid HLO.out.xb
    clear hT hr hx hM hPR hG
    rcases hirr : irB PR r with _ | _
    · rw [hirr] at HF
      have HI1 : Hid ((-1 : Int) = i) := by have := HF.out; injection this
      have HI2 : Hid ((-1 : Int) = j) := by have := HF.out; injection this
      clear HF
      go_enter Tryz.func35, Tryz.ntmps35
      go_wp2_with fail
      refine (wrapRoots_yes (HT.out.ext ((Ext.refl w).alloc _)) hK1 hK4 ht hlK HRO.out HLO.out).mono ?_
      rw [HPRd.out]
      rintro e w2 ⟨S, B, LB, ns, g, c, rfl, hns, hS⟩
      have HS2 := Lib.hid (hS.low ((Ext.refl w).alloc _))
      have HE2 := Lib.hid HS2.out.wr.ext
      clear hS hns
      go_wp2_with fail
      refine (isRoot_impl S g c nr nr _ _ PR r _ HS2.out.box HS2.out.rd (by have := HPA.out.2.2.1; omega) (fun r hr => (HPA.out.1 r hr).2) HPA.out.2.2.2.2 (Hr.out.ext HE2.out) hmr hwfr).mono ?_
      rw [hirr]
      rintro e w3 ⟨rfl, h3⟩
      have HE3 := Lib.hid (HE2.out.trans h3)
      have HS3 := Lib.hid (HS2.out.step h3)
      clear h3 HS2
      go_wp2
      go_ret2
      exact ⟨ret_2i HI1.out HI2.out, HE3.out⟩
    · have HRAr := Lib.hid (HRAr.out hirr)
      have HNR : Hid (nr = K) := by rw [Hid, ← Hr.out.len]; exact HRAr.out.1
      rcases hirx : irB PR x with _ | _
      · rw [hirr, hirx] at HF
        have HI1 : Hid ((-1 : Int) = i) := by have := HF.out; injection this
        have HI2 : Hid ((-1 : Int) = j) := by have := HF.out; injection this
        clear HF
        go_enter Tryz.func35, Tryz.ntmps35
        go_wp2_with fail
        refine (wrapRoots_yes (HT.out.ext ((Ext.refl w).alloc _)) hK1 hK4 ht hlK HRO.out HLO.out).mono ?_
        rw [HPRd.out]
        rintro e w2 ⟨S, B, LB, ns, g, c, rfl, hns, hS⟩
        have HS2 := Lib.hid (hS.low ((Ext.refl w).alloc _))
        have HE2 := Lib.hid HS2.out.wr.ext
        clear hS hns
        go_wp2_with fail
        refine (isRoot_impl S g c nr nr _ _ PR r _ HS2.out.box HS2.out.rd (by have := HPA.out.2.2.1; omega) (fun r hr => (HPA.out.1 r hr).2) HPA.out.2.2.2.2 (Hr.out.ext HE2.out) hmr hwfr).mono ?_
        rw [hirr]
        rintro e w3 ⟨rfl, h3⟩
        have HE3 := Lib.hid (HE2.out.trans h3)
        have HS3 := Lib.hid (HS2.out.step h3)
        clear h3 HS2
        go_wp2_with fail
        refine (isRoot_impl S g c nx nx _ _ PR x _ HS3.out.box HS3.out.rd (by have := HPA.out.2.2.1; omega) (fun r hr => (HPA.out.1 r hr).2) HPA.out.2.2.2.2 (Hx.out.ext HE3.out) hmx hwfx).mono ?_
        rw [hirx]
        rintro e w4 ⟨rfl, h4⟩
        have HE4 := Lib.hid (HE3.out.trans h4)
        have HS4 := Lib.hid (HS3.out.step h4)
        clear h4 HS3
        go_wp2
        go_ret2
        exact ⟨ret_2i HI1.out HI2.out, HE4.out⟩
      · have HRAx := Lib.hid (HRAx.out hirx)
        have HNX : Hid (nx = K) := by rw [Hid, ← Hx.out.len]; exact HRAx.out.1
        have HSH1 := Lib.hid (HSH1.out hirx hirr)
        have HSH2 := Lib.hid (HSH2.out hirx hirr)
        rcases hs1 : sameB x r with _ | _
        · rcases hs2 : sameB x (negL r) with _ | _
          · rw [hirr, hirx, hs1, hs2] at HF
            have HI1 : Hid (((alM PR x (negL r) : Nat) : Int) = i) := by have := HF.out; injection this
            have HI2 : Hid (((alM PR x r : Nat) : Int) = j) := by have := HF.out; injection this
            clear HF
            go_enter Tryz.func35, Tryz.ntmps35
            go_wp2_with fail
            refine (wrapRoots_yes (HT.out.ext ((Ext.refl w).alloc _)) hK1 hK4 ht hlK HRO.out HLO.out).mono ?_
            rw [HPRd.out]
            rintro e w2 ⟨S, B, LB, ns, g, c, rfl, hns, hS⟩
            have HS2 := Lib.hid (hS.low ((Ext.refl w).alloc _))
            have HE2 := Lib.hid HS2.out.wr.ext
            clear hS hns
            go_wp2_with fail
            refine (isRoot_impl S g c nr nr _ _ PR r _ HS2.out.box HS2.out.rd (by have := HPA.out.2.2.1; omega) (fun r hr => (HPA.out.1 r hr).2) HPA.out.2.2.2.2 (Hr.out.ext HE2.out) hmr hwfr).mono ?_
            rw [hirr]
            rintro e w3 ⟨rfl, h3⟩
            have HE3 := Lib.hid (HE2.out.trans h3)
            have HS3 := Lib.hid (HS2.out.step h3)
            clear h3 HS2
            go_wp2_with fail
            refine (isRoot_impl S g c nx nx _ _ PR x _ HS3.out.box HS3.out.rd (by have := HPA.out.2.2.1; omega) (fun r hr => (HPA.out.1 r hr).2) HPA.out.2.2.2.2 (Hx.out.ext HE3.out) hmx hwfx).mono ?_
            rw [hirx]
            rintro e w4 ⟨rfl, h4⟩
            have HE4 := Lib.hid (HE3.out.trans h4)
            have HS4 := Lib.hid (HS3.out.step h4)
            clear h4 HS3
            go_wp2_with fail
            refine (equal_fn _ _ nx nr nx nr x r _ (Hx.out.ext HE4.out) (Hr.out.ext HE4.out) hmx hmr).mono ?_
            rw [hs1]
            rintro e _ ⟨rfl, m4, rfl⟩
            have h5 := (Ext.refl w4).drewN m4
            obtain ⟨w5, hw5⟩ : ∃ w', w4.drewN m4 = w' := ⟨_, rfl⟩
            rw [hw5] at h5 ⊢
            clear hw5
            have HE5 := Lib.hid (HE4.out.trans h5)
            have HS5 := Lib.hid (HS4.out.step h5)
            clear h5 HS4
            go_wp2_with fail
            refine (negated_impl nr nr _ r _ (Hr.out.ext HE5.out) (by have := HNR.out; omega) (fun e => by have := HRAr.out.2.1 e; omega)).mono ?_
            rintro e w6 ⟨b6, rfl, hb6, hb26, hh6, h6⟩
            have HH6 := Lib.hid hh6
            clear hh6 hb6 hb26
            have HE6 := Lib.hid (HE5.out.trans h6)
            have HS6 := Lib.hid (HS5.out.step h6)
            clear h6 HS5
            go_wp2_with fail
            refine (equal_fn _ _ nx nr nx nr x (negL r) _ (Hx.out.ext HE6.out) (HH6.out.reads (by rw [negL_length]; exact Hr.out.len)) hmx hmr).mono ?_
            rw [hs2]
            rintro e _ ⟨rfl, m6, rfl⟩
            have h7 := (Ext.refl w6).drewN m6
            obtain ⟨w7, hw7⟩ : ∃ w', w6.drewN m6 = w' := ⟨_, rfl⟩
            rw [hw7] at h7 ⊢
            clear hw7
            have HE7 := Lib.hid (HE6.out.trans h7)
            have HS7 := Lib.hid (HS6.out.step h7)
            clear h7 HS6
            go_wp2_with fail
            refine (negated_impl nr nr _ r _ (Hr.out.ext HE7.out) (by have := HNR.out; omega) (fun e => by have := HRAr.out.2.1 e; omega)).mono ?_
            rintro e w8 ⟨b8, rfl, hb8, hb28, hh8, h8⟩
            have HH8 := Lib.hid hh8
            clear hh8 hb8 hb28
            have HE8 := Lib.hid (HE7.out.trans h8)
            have HS8 := Lib.hid (HS7.out.step h8)
            clear h8 HS7
            have HG := Lib.hid HS8.out.rd
            have HBX := Lib.hid HS8.out.box
            go_wp2_with fail
            refine (along_impl S g c nx nx nr nr _ _ _ PR x (negL r) _ (HBX.out) (HG.out) (by have := HPA.out.2.2.1; omega) (fun r hr => (HPA.out.1 r hr).2) HPA.out.2.2.2.2 (Hx.out.ext HE8.out) (by have := HNX.out; omega) (by have := HNX.out; omega) (HH8.out.reads (by rw [negL_length]; exact Hr.out.len)) (by have := HNX.out; have := HNR.out; omega) HRAx.out.2.1 (fun e => by have := HRAr.out.2.1 e; rw [gi_negL]; omega) HSH2.out).mono ?_
            rintro e w9 ⟨rfl, h9⟩
            have HG2 := Lib.hid (HG.out.ext h9)
            have HBX2 := Lib.hid (HBX.out.ext h9)
            have HE9 := Lib.hid (HE8.out.trans h9)
            have HS9 := Lib.hid (HS8.out.step h9)
            clear h9 HS8
            go_wp2_with fail
            refine (along_impl S g c nx nx nr nr _ _ _ PR x r _ (HBX2.out) (HG2.out) (by have := HPA.out.2.2.1; omega) (fun r hr => (HPA.out.1 r hr).2) HPA.out.2.2.2.2 (Hx.out.ext HE9.out) (by have := HNX.out; omega) (by have := HNX.out; omega) (Hr.out.ext HE9.out) (by have := HNX.out; have := HNR.out; omega) HRAx.out.2.1 HRAr.out.2.1 HSH1.out).mono ?_
            rintro e w10 ⟨rfl, h10⟩
            have HE10 := Lib.hid (HE9.out.trans h10)
            have HS10 := Lib.hid (HS9.out.step h10)
            clear h10 HS9
            go_wp2
            go_ret2
            exact ⟨ret_2i HI1.out HI2.out, HE10.out⟩
          · rw [hirr, hirx, hs1, hs2] at HF
            have HI1 : Hid ((-1 : Int) = i) := by have := HF.out; injection this
            have HI2 : Hid ((-1 : Int) = j) := by have := HF.out; injection this
            clear HF
            go_enter Tryz.func35, Tryz.ntmps35
            go_wp2_with fail
            refine (wrapRoots_yes (HT.out.ext ((Ext.refl w).alloc _)) hK1 hK4 ht hlK HRO.out HLO.out).mono ?_
            rw [HPRd.out]
            rintro e w2 ⟨S, B, LB, ns, g, c, rfl, hns, hS⟩
            have HS2 := Lib.hid (hS.low ((Ext.refl w).alloc _))
            have HE2 := Lib.hid HS2.out.wr.ext
            clear hS hns
            go_wp2_with fail
            refine (isRoot_impl S g c nr nr _ _ PR r _ HS2.out.box HS2.out.rd (by have := HPA.out.2.2.1; omega) (fun r hr => (HPA.out.1 r hr).2) HPA.out.2.2.2.2 (Hr.out.ext HE2.out) hmr hwfr).mono ?_
            rw [hirr]
            rintro e w3 ⟨rfl, h3⟩
            have HE3 := Lib.hid (HE2.out.trans h3)
            have HS3 := Lib.hid (HS2.out.step h3)
            clear h3 HS2
            go_wp2_with fail
            refine (isRoot_impl S g c nx nx _ _ PR x _ HS3.out.box HS3.out.rd (by have := HPA.out.2.2.1; omega) (fun r hr => (HPA.out.1 r hr).2) HPA.out.2.2.2.2 (Hx.out.ext HE3.out) hmx hwfx).mono ?_
            rw [hirx]
            rintro e w4 ⟨rfl, h4⟩
            have HE4 := Lib.hid (HE3.out.trans h4)
            have HS4 := Lib.hid (HS3.out.step h4)
            clear h4 HS3
            go_wp2_with fail
            refine (equal_fn _ _ nx nr nx nr x r _ (Hx.out.ext HE4.out) (Hr.out.ext HE4.out) hmx hmr).mono ?_
            rw [hs1]
            rintro e _ ⟨rfl, m4, rfl⟩
            have h5 := (Ext.refl w4).drewN m4
            obtain ⟨w5, hw5⟩ : ∃ w', w4.drewN m4 = w' := ⟨_, rfl⟩
            rw [hw5] at h5 ⊢
            clear hw5
            have HE5 := Lib.hid (HE4.out.trans h5)
            have HS5 := Lib.hid (HS4.out.step h5)
            clear h5 HS4
            go_wp2_with fail
            refine (negated_impl nr nr _ r _ (Hr.out.ext HE5.out) (by have := HNR.out; omega) (fun e => by have := HRAr.out.2.1 e; omega)).mono ?_
            rintro e w6 ⟨b6, rfl, hb6, hb26, hh6, h6⟩
            have HH6 := Lib.hid hh6
            clear hh6 hb6 hb26
            have HE6 := Lib.hid (HE5.out.trans h6)
            have HS6 := Lib.hid (HS5.out.step h6)
            clear h6 HS5
            go_wp2_with fail
            refine (equal_fn _ _ nx nr nx nr x (negL r) _ (Hx.out.ext HE6.out) (HH6.out.reads (by rw [negL_length]; exact Hr.out.len)) hmx hmr).mono ?_
            rw [hs2]
            rintro e _ ⟨rfl, m6, rfl⟩
            have h7 := (Ext.refl w6).drewN m6
            obtain ⟨w7, hw7⟩ : ∃ w', w6.drewN m6 = w' := ⟨_, rfl⟩
            rw [hw7] at h7 ⊢
            clear hw7
            have HE7 := Lib.hid (HE6.out.trans h7)
            have HS7 := Lib.hid (HS6.out.step h7)
            clear h7 HS6
            go_wp2
            go_ret2
            exact ⟨ret_2i HI1.out HI2.out, HE7.out⟩
        · rw [hirr, hirx, hs1] at HF
          have HI1 : Hid ((-1 : Int) = i) := by have := HF.out; injection this
          have HI2 : Hid ((-1 : Int) = j) := by have := HF.out; injection this
          clear HF
          go_enter Tryz.func35, Tryz.ntmps35
          go_wp2_with fail
          refine (wrapRoots_yes (HT.out.ext ((Ext.refl w).alloc _)) hK1 hK4 ht hlK HRO.out HLO.out).mono ?_
          rw [HPRd.out]
          rintro e w2 ⟨S, B, LB, ns, g, c, rfl, hns, hS⟩
          have HS2 := Lib.hid (hS.low ((Ext.refl w).alloc _))
          have HE2 := Lib.hid HS2.out.wr.ext
          clear hS hns
          go_wp2_with fail
          refine (isRoot_impl S g c nr nr _ _ PR r _ HS2.out.box HS2.out.rd (by have := HPA.out.2.2.1; omega) (fun r hr => (HPA.out.1 r hr).2) HPA.out.2.2.2.2 (Hr.out.ext HE2.out) hmr hwfr).mono ?_
          rw [hirr]
          rintro e w3 ⟨rfl, h3⟩
          have HE3 := Lib.hid (HE2.out.trans h3)
          have HS3 := Lib.hid (HS2.out.step h3)
          clear h3 HS2
          go_wp2_with fail
          refine (isRoot_impl S g c nx nx _ _ PR x _ HS3.out.box HS3.out.rd (by have := HPA.out.2.2.1; omega) (fun r hr => (HPA.out.1 r hr).2) HPA.out.2.2.2.2 (Hx.out.ext HE3.out) hmx hwfx).mono ?_
          rw [hirx]
          rintro e w4 ⟨rfl, h4⟩
          have HE4 := Lib.hid (HE3.out.trans h4)
          have HS4 := Lib.hid (HS3.out.step h4)
          clear h4 HS3
          go_wp2_with fail
          refine (equal_fn _ _ nx nr nx nr x r _ (Hx.out.ext HE4.out) (Hr.out.ext HE4.out) hmx hmr).mono ?_
          rw [hs1]
          rintro e _ ⟨rfl, m4, rfl⟩
          have h5 := (Ext.refl w4).drewN m4
          obtain ⟨w5, hw5⟩ : ∃ w', w4.drewN m4 = w' := ⟨_, rfl⟩
          rw [hw5] at h5 ⊢
          clear hw5
          have HE5 := Lib.hid (HE4.out.trans h5)
          have HS5 := Lib.hid (HS4.out.step h5)
          clear h5 HS4
          go_wp2
          go_ret2
          exact ⟨ret_2i HI1.out HI2.out, HE5.out⟩
end Go.Proofs.YtinoaldfdcddiaaGreat
