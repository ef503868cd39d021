/-
  Free columns and remainders of one vector, in the specification.
-/
import Derived.Test.YtapaopapgnfdkaaInto
import Derived.Test.YtapaopapgnfdkaaKr
namespace Go.Proofs.Ytapaopapgnfdkaa
open Go.ChangeShapes Go.WideShapes Go.ChangeAt Go.RowKit
set_option linter.unusedVariables false
set_option linter.unusedSimpArgs false

set_option maxRecDepth 100000 in
set_option maxHeartbeats 3200000 in
theorem l2Free_spec (P : Int) (k D n c : Nat) (a : Option Addr) (us : List Int) (w : World) (hpr : isP P = true) (hr : Reads w a n us) (hn : n = k * D) (hk : k ≤ 40) (hD : D ≤ 40) (hx : Res us P) (ha : a = none → n = 0 ∧ c = 0) :
    Calls Try.prog 106 #[.agg #[.int .i64 P, .int .i64 k, .int .i64 D, .slice a n c]] w (FreePost w (redM P k D us).pv D) := by
  have HR := Lib.hid hr
  have HN := Lib.hid hn
  have HX := Lib.hid hx
  have HPR := Lib.hid hpr
  have HA := Lib.hid ha
  have hb : n ≤ 1600 := by rw [hn]; exact Nat.mul_le_mul hk hD
  have hpl : (redM P k D us).pv.length ≤ k := (redTo_pv D).2.1
  clear hr hn hx hpr ha
  go_enter Try.func106, Try.ntmps106
  have A0_1 := Lib.hid (cells_new' w #[.int .i64 P, .int .i64 k, .int .i64 D, .slice a n c] 40 (w.heap.size) (by simp))
  have E_2 := Lib.hid ((Ext.refl w).alloc (.cells #[.int .i64 P, .int .i64 k, .int .i64 D, .slice a n c] 40))
  have lA0 := A0_1.out.1
  have qA00 := A0_1.out.2 0 _ rfl
  have qA01 := A0_1.out.2 1 _ rfl
  have qA02 := A0_1.out.2 2 _ rfl
  have qA03 := A0_1.out.2 3 _ rfl
  try simp only [World.size_alloc] at lA0
  go_wp2_with fail
  refine (l1Reduce_spec P k D n c a us _ (HR.out.ext E_2.out) HN.out (by omega) (by omega) (by omega) HPR.out HX.out HA.out).mono ?_
  rintro e w_3 ⟨b, c2, a2, cap, mid, rfl, hlo, hbm, hmid, hh, ho, h_3, hcc⟩
  clear lA0 qA00 qA01 qA02 qA03
  have A0_4 := Lib.hid (A0_1.out.ext h_3)
  clear A0_1
  have E_5 := Lib.hid (E_2.out.trans h_3)
  clear E_2
  have O1 := Lib.hid (ho.reads.ext ((Ext.refl w_3).alloc (.cells #[.int .i64 P, .int .i64 k, .int .i64 D, .slice (some ⟨b, 0, none⟩) n c2] 40)))
  clear hh ho h_3 hlo hbm hmid hcc
  have P_6 := (Ext.refl w_3).alloc (.cells #[.int .i64 P, .int .i64 k, .int .i64 D, .slice (some ⟨b, 0, none⟩) n c2] 40)
  have A0_7 := Lib.hid (A0_4.out.ext P_6)
  clear A0_4
  have E_8 := Lib.hid (E_5.out.trans P_6)
  clear E_5
  clear P_6
  have M_9 := Lib.hid (cells_new w_3 #[.int .i64 P, .int .i64 k, .int .i64 D, .slice (some ⟨b, 0, none⟩) n c2] 40)
  generalize (redM P k D us).pv = pv at *
  obtain ⟨zb, hzb⟩ : ∃ zb, zb = (w_3.alloc (.cells #[.int .i64 P, .int .i64 k, .int .i64 D, .slice (some ⟨b, 0, none⟩) n c2] 40)).heap.size := ⟨_, rfl⟩
  have HZB := Lib.hid hzb
  have G0 := Lib.hid (grows_lit (w_3.alloc (.cells #[.int .i64 P, .int .i64 k, .int .i64 D, .slice (some ⟨b, 0, none⟩) n c2] 40)) zb (Nat.le_of_eq hzb))
  simp only [World.size_alloc] at G0
  clear hzb
  have E0 : Hid (Ext (w_3.alloc (.cells #[.int .i64 P, .int .i64 k, .int .i64 D, .slice (some ⟨b, 0, none⟩) n c2] 40)) (((w_3.alloc (.cells #[.int .i64 P, .int .i64 k, .int .i64 D, .slice (some ⟨b, 0, none⟩) n c2] 40))).alloc (.cells #[] 3))) := (Ext.refl _).alloc _
  go_wp2_with fail
  try simp only [World.size_alloc]
  generalize (w_3.alloc (.cells #[.int .i64 P, .int .i64 k, .int .i64 D, .slice (some ⟨b, 0, none⟩) n c2] 40)) = W2 at *
  go_loopw [6, 7] (fun v z wr => ∃ q : Nat, q ≤ D ∧ z = .int .i64 q ∧ Hid (Grows wr zb v (freeTo pv q).length (pvI (freeTo pv q))) ∧ Hid (Ext W2 wr)) (fun _ z _ => D - (intOf z).toNat)
  case atStart => exact ⟨0, by omega, rfl, G0, E0⟩
  case round =>
    clear G0 E0
    obtain ⟨q, hq, rfl, hG, hE⟩ := hrel
    have AX := A0_7.out.ext hE.out
    have lA := AX.1
    have q2 := AX.2 2 _ rfl
    clear AX
    by_cases hlt : q < D
    · obtain ⟨p, hp, hpi⟩ := pv_firstAt pv q
      have HP := Lib.hid hp
      have hle := freeTo_le pv q
      by_cases hc : q ∈ pv
      · have hf : fndR pv.length p = (p : Int) := by rw [fndR, if_pos (hpi.2 hc)]
        have HFD := Lib.hid hf
        have HF : Hid (freeTo pv (q + 1) = freeTo pv q) := by rw [Hid, freeTo, if_pos hc]
        have hp0 : 0 ≤ (p : Int) := by omega
        clear hp hpi hc hf
        go_wp2_with fail
        refine (l1Find_spec a2 _ cap (pvI pv) q p _ (O1.out.ext hE.out) (by omega) HP.out).mono ?_
        rintro e w' ⟨rfl, rfl⟩
        rw [HFD.out]
        go_wp2
        exact ⟨⟨q + 1, by omega, by simp, by rw [HF.out]; exact hG, hE⟩, by simp [intOf]; omega⟩
      · have hf : fndR pv.length p = -1 := by rw [fndR, if_neg (fun h => hc (hpi.1 h))]
        have HFD := Lib.hid hf
        have HF : Hid (freeTo pv (q + 1) = freeTo pv q ++ [q]) := by rw [Hid, freeTo, if_neg hc]
        have hsz : zb ≤ wr.heap.size := by have := hE.out.le; have := HZB.out; omega
        obtain ⟨a', cap', rfl, hnv, ho⟩ := hG.out.reads2
        clear hp hpi hc hnv ho hf
        go_wp2_with fail
        refine (l1Find_spec a2 _ cap (pvI pv) q p _ (O1.out.ext hE.out) (by omega) HP.out).mono ?_
        rintro e w' ⟨rfl, rfl⟩
        rw [HFD.out]
        go_wp2_with (at_builtin; refine wpList_append1 rfl _ _ rfl zb (.slice a' (freeTo pv q).length cap') _ _ (q : Int) 1 rfl rfl hG.out (by omega) hsz ?_)
        intro v' w4 hG4 hg4
        have E4 := Lib.hid (hG.out.extAfter hg4 hE.out (Nat.le_of_eq HZB.out.symm))
        have G4 : Hid (Grows w4 zb v' (freeTo pv (q + 1)).length (pvI (freeTo pv (q + 1)))) := by
          rw [HF.out, pvI_snoc, List.length_append, List.length_singleton]; exact hG4
        clear hG hE hG4 hg4 hsz lA q2
        go_wp2
        exact ⟨⟨q + 1, by omega, by simp, G4, E4⟩, by simp [intOf]; omega⟩
    · obtain rfl : D = q := by omega
      obtain ⟨a', cap', rfl, hnv, ho⟩ := hG.out.reads2
      have HO := Lib.hid (ho.mono (lo' := w.heap.size) (by have := E_8.out.le; have := HZB.out; omega) (Nat.le_refl _))
      have E9 := Lib.hid (E_8.out.trans hE.out)
      clear ho hnv hG hE
      go_wp2
      go_ret
      exact ⟨a', cap', rfl, HO.out, E9.out⟩

/-- The remainder of a vector behind r rows. -/
def mdAt (P : Int) (D : Nat) (us : List Int) (pv : List Nat) (v : List Int) (r : Nat) : List Int := (List.range D).map fun c => rmN P D us v pv 0 c r
theorem mdAt_length (P : Int) (D : Nat) (us : List Int) (pv : List Nat) (v : List Int) (r : Nat) : (mdAt P D us pv v r).length = D := by simp [mdAt]
theorem gi_mdAt {P : Int} {D : Nat} {us : List Int} {pv : List Nat} {v : List Int} {r c : Nat} (hc : c < D) : gi (mdAt P D us pv v r) c = rmN P D us v pv 0 c r := gi_map D _ hc
theorem rmN_sub {P : Int} {D : Nat} {us v : List Int} {pv : List Nat} {c r : Nat} (f : Int) (hf : f = at2 D v 0 (pv.getD r 0)) : (rmN P D us v pv 0 c r - f * at2 D us r c) % P = rmN P D us v pv 0 c (r + 1) := by
  subst hf
  simp only [rmN, sumN]
  generalize sumN r (fun t => at2 D v 0 (pv.getD t 0) * at2 D us t c) = s
  rw [Int.sub_emod, Int.emod_emod_of_dvd _ (Int.dvd_refl P), ← Int.sub_emod]
  congr 1
  omega
set_option maxRecDepth 100000 in
set_option maxHeartbeats 6400000 in
theorem l2Modulo_spec (P : Int) (k D n c c' : Nat) (a ax : Option Addr) (us v : List Int) (w : World) (hpr : isP P = true) (hr : Reads w a n us) (hn : n = k * D) (hk : k ≤ 40) (hD : D ≤ 40) (hx : Res us P) (ha : a = none → n = 0 ∧ c = 0) (hs : IsSp P k D us) (hv : Reads w ax D v) (hvx : Res v P) (hax : ax = none → D = 0 ∧ c' = 0) :
    Calls Try.prog 107 #[.agg #[.int .i64 P, .int .i64 k, .int .i64 D, .slice a n c], .slice ax D c'] w fun e w' => ∃ b cb, e = .returned (.slice (some ⟨b, 0, none⟩) D cb) ∧ w.heap.size ≤ b ∧ b < w'.heap.size ∧ Has w' b (mdL P D us (redM P k D us).pv v) ∧ Ext w w' := by
  have hip := isP_iff.1 hpr
  have hp := isP_lo hpr
  have hp2 := isP_hi hpr
  have HR := Lib.hid hr
  have HN := Lib.hid hn
  have HX := Lib.hid hx
  have HPR := Lib.hid hpr
  have HA := Lib.hid ha
  have HV := Lib.hid hv
  have HVX := Lib.hid hvx
  have HAX := Lib.hid hax
  have hb : n ≤ 1600 := by rw [hn]; exact Nat.mul_le_mul hk hD
  have hls : us.length = k * D := by rw [hr.1, hn]
  have hrr := hs.rref hip hls hx
  have hpl : (redM P k D us).pv.length = k := hs.1
  have HPL := Lib.hid hpl
  have hvl : v.length = 1 * D := by rw [hv.1, Nat.one_mul]
  have HPC : Hid (∀ r, r < k → (redM P k D us).pv.getD r 0 < D) := fun r h => hrr.lt r (by rw [hpl]; exact h)
  have HM0 : Hid (mdAt P D us (redM P k D us).pv v 0 = v) := ext_gi (by rw [mdAt_length, hv.1]) (fun q hq => by
    rw [mdAt_length] at hq
    rw [gi_mdAt hq, rmN_zero hvx hvl (Nat.zero_lt_one) hq, at2, Nat.zero_mul, Nat.zero_add])
  have HMP : Hid (∀ r, r < k → gi (mdAt P D us (redM P k D us).pv v r) ((redM P k D us).pv.getD r 0) = at2 D v 0 ((redM P k D us).pv.getD r 0)) := fun r h => by
    have hlt := hrr.lt r (by rw [hpl]; exact h)
    rw [gi_mdAt hlt]
    exact rmN_pivot hvx hvl Nat.zero_lt_one (fun t ht => hrr.only r t (by rw [hpl]; exact h) (by rw [hpl]; omega) (by omega)) hlt
  have HMS : Hid (∀ r f q, r < k → q < D → f = at2 D v 0 ((redM P k D us).pv.getD r 0) → (gi (mdAt P D us (redM P k D us).pv v r) q - f * gi us (r * D + q)) % P = gi (mdAt P D us (redM P k D us).pv v (r + 1)) q) := fun r f q hr hq hf => by
    rw [gi_mdAt hq, gi_mdAt hq]; exact rmN_sub f hf
  have HML : Hid (∀ r, (mdAt P D us (redM P k D us).pv v r).length = D) := fun r => mdAt_length ..
  have HMR : Hid (∀ r, Res (mdAt P D us (redM P k D us).pv v r) P) := fun r q hq => by
    rw [mdAt_length] at hq
    rw [gi_mdAt hq]; exact rmN_res (by omega) _ _ _
  have HME : Hid (mdL P D us (redM P k D us).pv v = mdAt P D us (redM P k D us).pv v k) := by rw [Hid, mdL, hpl]; rfl
  generalize mdL P D us (redM P k D us).pv v = RM at HME ⊢
  have HVP : Hid (∀ r, r < k → 0 ≤ at2 D v 0 ((redM P k D us).pv.getD r 0) ∧ at2 D v 0 ((redM P k D us).pv.getD r 0) < P) := fun r h => by
    rw [at2, Nat.zero_mul, Nat.zero_add]
    exact hvx _ (by rw [hv.1]; exact hrr.lt r (by rw [hpl]; exact h))
  generalize mdAt P D us (redM P k D us).pv v = F at *
  have HPVE : Hid (∃ pv, pv = (redM P k D us).pv) := ⟨_, rfl⟩
  clear hr hn hx hpr ha hv hvx hax hls hrr hvl hip hs
  go_enter Try.func107, Try.ntmps107
  have A0_1 := Lib.hid (cells_new' w #[.int .i64 P, .int .i64 k, .int .i64 D, .slice a n c] 40 (w.heap.size) (by simp))
  have E_2 := Lib.hid ((Ext.refl w).alloc (.cells #[.int .i64 P, .int .i64 k, .int .i64 D, .slice a n c] 40))
  have lA0 := A0_1.out.1
  have qA00 := A0_1.out.2 0 _ rfl
  have qA01 := A0_1.out.2 1 _ rfl
  have qA02 := A0_1.out.2 2 _ rfl
  have qA03 := A0_1.out.2 3 _ rfl
  try simp only [World.size_alloc] at lA0
  go_wp2_with fail
  refine (l1Reduce_spec P k D n c a us _ (HR.out.ext E_2.out) HN.out (by omega) (by omega) (by omega) HPR.out HX.out HA.out).mono ?_
  rintro e w_3 ⟨b, c2, a2, cap, mid, rfl, hlo, hbm, hmid, hh, ho, h_3, hcc⟩
  clear lA0 qA00 qA01 qA02 qA03
  have A0_4 := Lib.hid (A0_1.out.ext h_3)
  clear A0_1
  have E_5 := Lib.hid (E_2.out.trans h_3)
  clear E_2
  have O1 := Lib.hid (ho.reads.ext ((Ext.refl w_3).alloc (.cells #[.int .i64 P, .int .i64 k, .int .i64 D, .slice (some ⟨b, 0, none⟩) n c2] 40)))
  clear hh ho h_3 hlo hbm hmid hcc
  have P_6 := (Ext.refl w_3).alloc (.cells #[.int .i64 P, .int .i64 k, .int .i64 D, .slice (some ⟨b, 0, none⟩) n c2] 40)
  have A0_7 := Lib.hid (A0_4.out.ext P_6)
  clear A0_4
  have E_8 := Lib.hid (E_5.out.trans P_6)
  clear E_5
  clear P_6
  have M_9 := Lib.hid (cells_new w_3 #[.int .i64 P, .int .i64 k, .int .i64 D, .slice (some ⟨b, 0, none⟩) n c2] 40)
  generalize (redM P k D us).pv = pv at *
  clear HPVE
  obtain rfl : k = pv.length := HPL.out.symm
  go_wp2_with fail
  refine (l1Ints_spec ax D c' v _ (HV.out.ext E_8.out) (by omega) HAX.out).mono ?_
  rintro e w_10 ⟨b1, cb, rfl, hb1, hh, h_10, hcc⟩
  have K0 : Hid (Has w_10 b1 (F 0)) := by rw [Hid, HM0.out]; exact hh
  have O2 := Lib.hid (O1.out.ext h_10)
  have HB1 : Hid (w_3.heap.size + 1 ≤ b1 ∧ w.heap.size + 1 ≤ b1) := by
    have := E_8.out.le
    have h9 := A0_7.out.1
    simp only [World.size_alloc] at hb1 h9
    exact ⟨by omega, by omega⟩
  have HNP : Hid (∀ pb po, 0 < pv.length → a2 = some ⟨pb, po, none⟩ → pb ≠ b1) := fun pb po h e => by
    rcases O1.out.2 with h0 | ⟨b3, o3, h3, hb3, _⟩
    · omega
    · rw [e] at h3
      simp only [Option.some.injEq, Addr.mk.injEq, and_true] at h3
      simp only [World.size_alloc] at hb3
      have := HB1.out
      omega
  clear O1 hh hcc hb1 HM0
  have A0_11 := Lib.hid (A0_7.out.ext h_10)
  clear A0_7
  have M_12 := Lib.hid (M_9.out.ext h_10)
  clear M_9
  have E_13 := Lib.hid (E_8.out.trans h_10)
  clear E_8
  clear h_10
  go_wp2_with fail
  go_loopw [9, 10, 11] (fun z _ _ wr => ∃ r : Nat, r ≤ pv.length ∧ z = .int .i64 r ∧ Hid (w_10.grownBy wr (some b1)) ∧ Hid (Has wr b1 (F r))) (fun z _ _ _ => pv.length - (intOf z).toNat)
  case atStart => exact ⟨0, by omega, rfl, grownBy_refl _ _, K0⟩
  case round =>
    clear K0
    obtain ⟨r, hr, rfl, hG, hK⟩ := hrel
    by_cases hlt : r < pv.length
    · have hp1 := HPC.out r hlt
      have hgp := HMP.out r hlt
      have HFV0 : Hid (∃ f, f = at2 D v 0 (pv.getD r 0)) := ⟨_, rfl⟩
      have hfv := HVP.out r hlt
      rcases O2.out.2 with h | ⟨pb, po, rfl, hpb, hpc⟩
      · omega
      have x1 := (World.cell?_of_block (a := ⟨pb, po + r, none⟩) (hG.out.block pb hpb (fun e => by injection e with e; exact HNP.out pb po (by omega) rfl e))).trans (hpc r hlt)
      have hpb2 : pb < wr.heap.size := Nat.lt_of_lt_of_le hpb hG.out.size
      rw [gi_pvI] at x1
      have x2 := hK.out.cell (pv.getD r 0) (by rw [HML.out]; exact hp1)
      have lX := hK.out.lt
      rw [hgp] at x2
      obtain ⟨f, hf⟩ := HFV0.out
      rw [← hf] at x2 hfv
      have HFV := Lib.hid hf
      obtain ⟨f0, f1⟩ := hfv
      have hzc : (pv.getD r 0 : Int) < (D : Int) := by omega
      generalize hz9 : pv.getD r 0 = z at *
      have HZ9 := Lib.hid hz9
      clear hf hgp hz9 hpc HFV0
      go_wp2_with fail
      clear x1 x2 hpb2 lX hpb
      have K1 : Hid (Has wr b1 (mix (F (r + 1)) (F r) 0)) := by rw [Hid, mix_zero]; exact hK.out
      clear hK
      by_cases hz : f = 0
      · have HE : Hid (F (r + 1) = F r) := ext_gi (by rw [HML.out, HML.out]) (fun q hq => by
          rw [HML.out] at hq
          have h9 := HMR.out r q (by rw [HML.out]; exact hq)
          rw [← HMS.out r f q hlt hq (by rw [HZ9.out]; exact HFV.out), hz, Int.zero_mul, Int.sub_zero]
          exact Int.emod_eq_of_lt h9.1 h9.2)
        have K2 : Hid (Has wr b1 (F (r + 1))) := by rw [HE.out]; rw [mix_zero] at K1; exact K1.out
        have hzb : (f != 0) = false := by simpa using hz
        clear hz K1
        go_loopw [11] (fun j w1 => j = .int .i64 0 ∧ w1 = wr) (fun _ _ => 0)
        case atStart => exact ⟨rfl, rfl⟩
        case round =>
          obtain ⟨rfl, rfl⟩ := hrel
          have ac := A0_11.out.grown hG.out (fun z hz => by simp at hz; have := HB1.out; omega)
          have la := ac.1
          have a0 := ac.2 0 _ rfl
          have a1 := ac.2 1 _ rfl
          have a2 := ac.2 2 _ rfl
          have a3 := ac.2 3 _ rfl
          clear ac
          have hD0 : 0 < D := by omega
          go_wp2
          exact ⟨⟨r + 1, by omega, by simp, hG, K2⟩, by simp [intOf]; omega⟩
      · have hzb : (f != 0) = true := by simpa using hz
        have HFV : Hid (f = at2 D v 0 (pv.getD r 0)) := by rw [HZ9.out]; exact HFV.out
        clear hz HZ9
        go_loopw [11] (fun z w1 => ∃ j : Nat, j ≤ D ∧ z = .int .i64 j ∧ Hid (w_10.grownBy w1 (some b1)) ∧ Hid (Has w1 b1 (mix (F (r + 1)) (F r) j))) (fun z _ => D - (intOf z).toNat)
        case atStart => exact ⟨0, by omega, rfl, hG, K1⟩
        case round =>
          clear hG K1
          obtain ⟨j, hj, rfl, hG, hK⟩ := hrel
          by_cases hlt3 : j < D
          · skip
            have HMJ : Hid ((mix (F (r + 1)) (F r) j).length = D) := by rw [Hid, mix_length _ _ _ (by rw [HML.out, HML.out]) (by rw [HML.out]; omega)]; exact HML.out _
            have gv : gi (mix (F (r + 1)) (F r) j) j = gi (F r) j := by
              have h1 : ((F (r + 1)).take j).length = j := by rw [List.length_take, HML.out]; omega
              rw [mix, gi_append_r (by omega), h1, Nat.sub_self, gi_drop, Nat.add_zero]
            have x1 := hK.out.cell j (by rw [HMJ.out]; exact hlt3)
            rw [gv] at x1
            have HGV := Lib.hid gv
            have HKH := Lib.hid hK.out
            have hv := HMR.out r j (by rw [HML.out]; exact hlt3)
            have hpl9 : r * D + j < n := by rw [HN.out]; exact place_lt hlt hlt3
            have hy := HX.out (r * D + j) (by rw [HR.out.1]; exact hpl9)
            have EW := Lib.hid (E_13.out.grown hG.out (fun z hz => by simp at hz; have := HB1.out; omega))
            have HMV := Lib.hid (HMS.out r f j hlt hlt3 HFV.out)
            have hK2 := hK
            have N1 : ∀ w4, Ext wr w4 → Hid (Has (w4.setCell ⟨b1, j, none⟩ (.int .i64 ((gi (F r) j - f * gi us (r * D + j)) % P))) b1 (mix (F (r + 1)) (F r) (j + 1))) := fun w4 h4 => by
              have := (hK.out.ext h4).set j (by rw [HMJ.out]; exact hlt3) (gi (F (r + 1)) j)
              rw [mix_set _ _ _ (by rw [HML.out, HML.out]) (by rw [HML.out]; exact hlt3)] at this
              rw [HMV.out]; exact this
            have N2 : ∀ w4 u, Ext wr w4 → Hid (w_10.grownBy (w4.setCell ⟨b1, j, none⟩ u) (some b1)) := fun w4 u h4 => grownBy_set (p := ⟨b1, j, none⟩) (grownBy_ext hG.out h4) rfl _
            have HN1 := Lib.hid N1
            have HN2 := Lib.hid N2
            clear N1 N2 gv
            have ac := A0_11.out.grown hG.out (fun z hz => by simp at hz; have := HB1.out; omega)
            have la := ac.1
            have a0 := ac.2 0 _ rfl
            have a1 := ac.2 1 _ rfl
            have a2 := ac.2 2 _ rfl
            have a3 := ac.2 3 _ rfl
            clear ac
            have nA : w.heap.size ≠ b1 := by have := HB1.out; omega
            have lX := hK.out.lt
            clear hK hK2
            obtain ⟨v0, v1'⟩ := hv
            obtain ⟨y0, y1⟩ := hy
            have m0 := Int.mul_nonneg f0 y0
            have m1 := mul_hi f0 f1 y0 y1 hp2
            go_wp2_with fail
            have w1' : IntKind.i64.wrap (f * gi us (r * D + j)) = f * gi us (r * D + j) := IntWalk.i64_in _ ⟨by omega, by omega⟩
            have w2' : IntKind.i64.wrap (gi (F r) j - f * gi us (r * D + j)) = gi (F r) j - f * gi us (r * D + j) := IntWalk.i64_in _ ⟨by omega, by omega⟩
            refine wp_region_held_drew (S := (fun w' => wr.grownBy w' (some b1) ∧ ∀ B o, B ≠ b1 → B < wr.heap.size → w'.cell? ⟨B, o, none⟩ = wr.cell? ⟨B, o, none⟩)) (by kernel_rfl) keptB_drew (fun hHeld => ?_)
            refine wpAnyH_take (i := 0) (v := ?v1) rfl (by kernel_rfl) (by kernel_rfl) (by kernel_rfl) (fun _ _ _ h => h) (Or.inl ⟨by rfl, ?hy1⟩) hHeld ?rest1
            case hy1 => (intro wz hSw; (try dsimp only at hSw); go_simp; (try with_reducible rfl))
            (try simp only [Act.put, List.getElem_toArray, List.getElem_cons_succ, List.getElem_cons_zero]); (try simp only [List.setIfInBounds_toArray]); (try simp only [List.set_cons_succ]); (try simp only [List.set_cons_zero])
            refine wpAnyH_take (i := 1) (v := ?v2) rfl (by kernel_rfl) (by kernel_rfl) (by kernel_rfl) (fun _ _ _ h => h) (Or.inl ⟨by rfl, ?hy2⟩) hHeld ?rest2
            case hy2 => (intro wz hSw; (try dsimp only at hSw); go_simp; (try with_reducible rfl))
            (try simp only [Act.put, List.getElem_toArray, List.getElem_cons_succ, List.getElem_cons_zero]); (try simp only [List.setIfInBounds_toArray]); (try simp only [List.set_cons_succ]); (try simp only [List.set_cons_zero])
            refine wpAnyH_take (i := 2) (v := ?v3) rfl (by kernel_rfl) (by kernel_rfl) (by kernel_rfl) (fun _ _ _ h => h) (Or.inl ⟨by rfl, ?hy3⟩) hHeld ?rest3
            case hy3 => (intro wz hSw; (try dsimp only at hSw); go_simp; (try with_reducible rfl))
            (try simp only [Act.put, List.getElem_toArray, List.getElem_cons_succ, List.getElem_cons_zero]); (try simp only [List.setIfInBounds_toArray]); (try simp only [List.set_cons_succ]); (try simp only [List.set_cons_zero])
            refine wpAnyH_take (i := 3) (v := ?v4) rfl (by kernel_rfl) (by kernel_rfl) (by kernel_rfl) (fun _ _ _ h => h) (Or.inl ⟨by rfl, ?hy4⟩) hHeld ?rest4
            case hy4 => (intro wz hSw; (try dsimp only at hSw); go_simp; (try with_reducible rfl))
            (try simp only [Act.put, List.getElem_toArray, List.getElem_cons_succ, List.getElem_cons_zero]); (try simp only [List.setIfInBounds_toArray]); (try simp only [List.set_cons_succ]); (try simp only [List.set_cons_zero])
            refine wpAnyH_take (i := 4) (v := ?v5) rfl (by kernel_rfl) (by kernel_rfl) (by kernel_rfl) (fun _ _ _ h => h) (Or.inl ⟨by rfl, ?hy5⟩) hHeld ?rest5
            case hy5 => (intro wz hSw; (try dsimp only at hSw); go_simp; (try with_reducible rfl))
            (try simp only [Act.put, List.getElem_toArray, List.getElem_cons_succ, List.getElem_cons_zero]); (try simp only [List.setIfInBounds_toArray]); (try simp only [List.set_cons_succ]); (try simp only [List.set_cons_zero])
            refine wpAnyH_take (i := 6) (v := ?v6) rfl (by kernel_rfl) (by kernel_rfl) (by kernel_rfl) (fun _ _ _ h => h) (Or.inl ⟨by rfl, ?hy6⟩) hHeld ?rest6
            case hy6 => (intro wz hSw; (try dsimp only at hSw); go_simp; (try with_reducible rfl))
            (try simp only [Act.put, List.getElem_toArray, List.getElem_cons_succ, List.getElem_cons_zero]); (try simp only [List.setIfInBounds_toArray]); (try simp only [List.set_cons_succ]); (try simp only [List.set_cons_zero])
            refine wpAnyH_take (i := 7) (v := ?v7) rfl (by kernel_rfl) (by kernel_rfl) (by kernel_rfl) (fun _ _ _ h => h) (Or.inl ⟨by rfl, ?hy7⟩) hHeld ?rest7
            case hy7 => (intro wz hSw; (try dsimp only at hSw); go_simp; (try with_reducible rfl))
            (try simp only [Act.put, List.getElem_toArray, List.getElem_cons_succ, List.getElem_cons_zero]); (try simp only [List.setIfInBounds_toArray]); (try simp only [List.set_cons_succ]); (try simp only [List.set_cons_zero])
            refine wpAnyH_take (i := 8) (v := ?v8) rfl (by kernel_rfl) (by kernel_rfl) (by kernel_rfl) (fun _ _ _ h => h) (Or.inl ⟨by rfl, ?hy8⟩) hHeld ?rest8
            case hy8 => (intro wz hSw; (try dsimp only at hSw); go_simp; (try with_reducible rfl))
            (try simp only [Act.put, List.getElem_toArray, List.getElem_cons_succ, List.getElem_cons_zero]); (try simp only [List.setIfInBounds_toArray]); (try simp only [List.set_cons_succ]); (try simp only [List.set_cons_zero])
            refine wpAnyH_take (i := 9) (v := ?v9) rfl (by kernel_rfl) (by kernel_rfl) (by kernel_rfl) (fun _ _ _ h => h) (Or.inl ⟨by rfl, ?hy9⟩) hHeld ?rest9
            case hy9 => (intro wz hSw; (try dsimp only at hSw); go_simp; (try with_reducible rfl))
            (try simp only [Act.put, List.getElem_toArray, List.getElem_cons_succ, List.getElem_cons_zero]); (try simp only [List.setIfInBounds_toArray]); (try simp only [List.set_cons_succ]); (try simp only [List.set_cons_zero])
            refine wpAnyH_take (i := 13) (v := ?v10) rfl (by kernel_rfl) (by kernel_rfl) (by kernel_rfl) (fun _ _ _ h => h) (Or.inl ⟨by rfl, ?hy10⟩) hHeld ?rest10
            case hy10 => (intro wz hSw; (try dsimp only at hSw); go_simp; (try with_reducible rfl))
            (try simp only [Act.put, List.getElem_toArray, List.getElem_cons_succ, List.getElem_cons_zero]); (try simp only [List.setIfInBounds_toArray]); (try simp only [List.set_cons_succ]); (try simp only [List.set_cons_zero])
            refine wpAnyH_take (i := 14) (v := ?v11) rfl (by kernel_rfl) (by kernel_rfl) (by kernel_rfl) (fun _ _ _ h => h) (Or.inl ⟨by rfl, ?hy11⟩) hHeld ?rest11
            case hy11 => (intro wz hSw; (try dsimp only at hSw); go_simp; (try with_reducible rfl))
            (try simp only [Act.put, List.getElem_toArray, List.getElem_cons_succ, List.getElem_cons_zero]); (try simp only [List.setIfInBounds_toArray]); (try simp only [List.set_cons_succ]); (try simp only [List.set_cons_zero])
            refine wpAnyH_ready (rs := [5, 10]) (by kernel_rfl) (by simp) ?_
            refine AllReadyH.cons rfl (fun K' hK => ?_) (AllReadyH.cons rfl (fun K' hK => ?_) AllReadyH.nil)
            · skip
              go_simp
              refine hK.out _ _ hHeld (fun hHeld => ?_)
              clear hK
              refine wpAnyH_ready (rs := [10]) (by kernel_rfl) (by simp) ?_
              refine AllReadyH.cons rfl (fun K' hK => ?_) AllReadyH.nil
              go_simp
              refine (l1At_spec _ _ _ _ _ _ _ _ us _ ((HR.out.ext EW.out).ext (Ext.refl _).drew) hpl9 (by omega)).mono ?_
              rintro e w2 ⟨rfl, h2⟩
              dsimp only
              refine hK.out _ _ (keptB_call hHeld h2) (fun hHeld => ?_)
              clear hK
              refine wpAnyH_take (i := 11) (v := ?v12) rfl (by kernel_rfl) (by kernel_rfl) (by kernel_rfl) (fun _ _ _ h => h) (Or.inl ⟨by rfl, ?hy12⟩) hHeld ?rest12
              case hy12 => (intro wz hSw; (try dsimp only at hSw); go_simp; (try with_reducible rfl))
              (try simp only [Act.put, List.getElem_toArray, List.getElem_cons_succ, List.getElem_cons_zero]); (try simp only [List.setIfInBounds_toArray]); (try simp only [List.set_cons_succ]); (try simp only [List.set_cons_zero])
              refine wpAnyH_take (i := 12) (v := ?v13) rfl (by kernel_rfl) (by kernel_rfl) (by kernel_rfl) (fun _ _ _ h => h) (Or.inl ⟨by rfl, ?hy13⟩) hHeld ?rest13
              case hy13 => (intro wz hSw; (try dsimp only at hSw); go_simp; (try with_reducible rfl))
              (try simp only [Act.put, List.getElem_toArray, List.getElem_cons_succ, List.getElem_cons_zero]); (try simp only [List.setIfInBounds_toArray]); (try simp only [List.set_cons_succ]); (try simp only [List.set_cons_zero])
              refine wpAnyH_ready (rs := [15]) (by kernel_rfl) (by simp) ?_
              refine AllReadyH.cons rfl (fun K' hK => ?_) AllReadyH.nil
              go_simp
              refine (l1Mod_spec _ _ _ hp hp2).mono ?_
              rintro e w5 ⟨rfl, rfl⟩
              dsimp only
              refine hK.out _ _ hHeld (fun hHeld => ?_)
              clear hK
              refine wpAnyH_take (i := 16) (v := ?v14) rfl (by kernel_rfl) (by kernel_rfl) (by kernel_rfl) (fun _ _ _ h => h) (Or.inl ⟨by rfl, ?hy14⟩) hHeld ?rest14
              case hy14 => (intro wz hSw; (try dsimp only at hSw); go_simp; (try with_reducible rfl))
              (try simp only [Act.put, List.getElem_toArray, List.getElem_cons_succ, List.getElem_cons_zero]); (try simp only [List.setIfInBounds_toArray]); (try simp only [List.set_cons_succ]); (try simp only [List.set_cons_zero])
              have c2 := ((HKH.out.ext (Ext.refl _).drew).ext h2).cell j (by rw [HMJ.out]; exact hlt3)
              have f2 := ((HKH.out.ext (Ext.refl _).drew).ext h2).free j
              refine wpAnyH_ready (rs := [17]) (by kernel_rfl) (by simp) ?_
              refine AllReadyH.cons rfl (fun K' hK => ?_) AllReadyH.nil
              go_simp
              refine hK.out _ _ (keptB_set hHeld _ _) (fun hHeld => ?_)
              clear hK
              refine wpAnyH_done (by kernel_rfl) ?_ _
              have G4 := HN2.out w2 (.int .i64 ((gi (F r) j - f * gi us (r * D + j)) % P)) ((Ext.refl _).drew.trans h2)
              have K4 := HN1.out w2 ((Ext.refl _).drew.trans h2)
              clear hHeld hG HKH x1 w1' w2' c2 f2 h2 HN1 HN2 m0 m1 la a0 a1 a2 a3
              go_wp2
              exact ⟨⟨j + 1, by omega, by simp, G4, K4⟩, by simp [intOf]; omega⟩
            · skip
              go_simp
              refine (l1At_spec _ _ _ _ _ _ _ _ us _ ((HR.out.ext EW.out).ext (Ext.refl _).drew) hpl9 (by omega)).mono ?_
              rintro e w2 ⟨rfl, h2⟩
              dsimp only
              refine hK.out _ _ (keptB_call hHeld h2) (fun hHeld => ?_)
              clear hK
              have x9 := ((HKH.out.ext (Ext.refl _).drew).ext h2).cell j (by rw [HMJ.out]; exact hlt3)
              rw [HGV.out] at x9
              refine wpAnyH_take (i := 11) (v := ?v15) rfl (by kernel_rfl) (by kernel_rfl) (by kernel_rfl) (fun _ _ _ h => h) (Or.inl ⟨by rfl, ?hy15⟩) hHeld ?rest15
              case hy15 => (intro wz hSw; (try dsimp only at hSw); go_simp; (try with_reducible rfl))
              (try simp only [Act.put, List.getElem_toArray, List.getElem_cons_succ, List.getElem_cons_zero]); (try simp only [List.setIfInBounds_toArray]); (try simp only [List.set_cons_succ]); (try simp only [List.set_cons_zero])
              refine wpAnyH_ready (rs := [5]) (by kernel_rfl) (by simp) ?_
              refine AllReadyH.cons rfl (fun K' hK => ?_) AllReadyH.nil
              go_simp
              refine hK.out _ _ hHeld (fun hHeld => ?_)
              clear hK
              refine wpAnyH_take (i := 12) (v := ?v16) rfl (by kernel_rfl) (by kernel_rfl) (by kernel_rfl) (fun _ _ _ h => h) (Or.inl ⟨by rfl, ?hy16⟩) hHeld ?rest16
              case hy16 => (intro wz hSw; (try dsimp only at hSw); go_simp; (try with_reducible rfl))
              (try simp only [Act.put, List.getElem_toArray, List.getElem_cons_succ, List.getElem_cons_zero]); (try simp only [List.setIfInBounds_toArray]); (try simp only [List.set_cons_succ]); (try simp only [List.set_cons_zero])
              refine wpAnyH_ready (rs := [15]) (by kernel_rfl) (by simp) ?_
              refine AllReadyH.cons rfl (fun K' hK => ?_) AllReadyH.nil
              go_simp
              refine (l1Mod_spec _ _ _ hp hp2).mono ?_
              rintro e w5 ⟨rfl, rfl⟩
              dsimp only
              refine hK.out _ _ hHeld (fun hHeld => ?_)
              clear hK
              refine wpAnyH_take (i := 16) (v := ?v17) rfl (by kernel_rfl) (by kernel_rfl) (by kernel_rfl) (fun _ _ _ h => h) (Or.inl ⟨by rfl, ?hy17⟩) hHeld ?rest17
              case hy17 => (intro wz hSw; (try dsimp only at hSw); go_simp; (try with_reducible rfl))
              (try simp only [Act.put, List.getElem_toArray, List.getElem_cons_succ, List.getElem_cons_zero]); (try simp only [List.setIfInBounds_toArray]); (try simp only [List.set_cons_succ]); (try simp only [List.set_cons_zero])
              have c2 := ((HKH.out.ext (Ext.refl _).drew).ext h2).cell j (by rw [HMJ.out]; exact hlt3)
              have f2 := ((HKH.out.ext (Ext.refl _).drew).ext h2).free j
              refine wpAnyH_ready (rs := [17]) (by kernel_rfl) (by simp) ?_
              refine AllReadyH.cons rfl (fun K' hK => ?_) AllReadyH.nil
              go_simp
              refine hK.out _ _ (keptB_set hHeld _ _) (fun hHeld => ?_)
              clear hK
              refine wpAnyH_done (by kernel_rfl) ?_ _
              have G4 := HN2.out w2 (.int .i64 ((gi (F r) j - f * gi us (r * D + j)) % P)) ((Ext.refl _).drew.trans h2)
              have K4 := HN1.out w2 ((Ext.refl _).drew.trans h2)
              clear hHeld hG HKH x1 w1' w2' c2 f2 h2 HN1 HN2 m0 m1 la a0 a1 a2 a3
              go_wp2
              exact ⟨⟨j + 1, by omega, by simp, G4, K4⟩, by simp [intOf]; omega⟩
          · obtain rfl : D = j := by omega
            have K4 : Hid (Has wr b1 (F (r + 1))) := by
              have := hK.out
              have e : mix (F (r + 1)) (F r) D = F (r + 1) := by
                have := mix_full (F (r + 1)) (F r) (by rw [HML.out, HML.out])
                rwa [HML.out] at this
              rwa [e] at this
            clear hK
            have ac := A0_11.out.grown hG.out (fun z hz => by simp at hz; have := HB1.out; omega)
            have la := ac.1
            have a0 := ac.2 0 _ rfl
            have a1 := ac.2 1 _ rfl
            have a2 := ac.2 2 _ rfl
            have a3 := ac.2 3 _ rfl
            clear ac
            go_wp2
            exact ⟨⟨r + 1, by omega, by simp, hG, K4⟩, by simp [intOf]; omega⟩
    · obtain rfl : pv.length = r := by omega
      have HH : Hid (Has wr b1 RM) := by rw [HME.out]; exact hK.out
      have E9 := Lib.hid (E_13.out.grown hG.out (fun z hz => by simp at hz; have := HB1.out; omega))
      have lX := hK.out.lt
      have hb9 := HB1.out
      clear hK
      go_wp2
      go_ret
      exact ⟨b1, cb, rfl, by omega, lX, HH.out, E9.out⟩
end Go.Proofs.Ytapaopapgnfdkaa
