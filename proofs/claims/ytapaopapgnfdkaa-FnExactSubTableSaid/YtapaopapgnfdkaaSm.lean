/-
  A system solved, in the specification.
-/
import Derived.Test.YtapaopapgnfdkaaJn
import Derived.Test.YtapaopapgnfdkaaRi
import Derived.Test.YtapaopapgnfdkaaRedS
import Derived.Deep.RegionHeld3
import Derived.RegionTactic
namespace Go.Proofs.Ytapaopapgnfdkaa
open Go.ChangeShapes Go.WideShapes Go.ChangeAt Go.RowKit
set_option linter.unusedVariables false

theorem gi_rep (n k : Nat) : gi (List.replicate n (0 : Int)) k = 0 := by
  simp only [gi, List.getD_eq_getElem?_getD, List.getElem?_replicate]; split <;> rfl
/-- The last column is found among the pivots exactly if there is no solution. -/
theorem sol_pv {P : Int} {R C : Nat} {xs vs : List Int} : (solOk P R C xs vs = true → redM P R (C + 1) (jcTo C xs vs R) = solS P R C xs vs) ∧ (solOk P R C xs vs = false → C ∈ (redM P R (C + 1) (jcTo C xs vs R)).pv) := by
  have e : redM P R (C + 1) (jcTo C xs vs R) = colS P R (C + 1) C (solS P R C xs vs) := rfl
  unfold solOk
  rw [e, colS]
  constructor
  · intro h
    rw [if_pos (by simpa using h)]
  · intro h
    rw [if_neg (by simpa using h), colP]
    simp
theorem solS_notin {P : Int} {R C : Nat} {xs vs : List Int} : C ∉ (solS P R C xs vs).pv := fun h => by
  have := (redTo_pv (P := P) (R := R) (C := C + 1) (xs := jcTo C xs vs R) C).2.2 C h
  omega
/-- What a region keeps that writes into one block, and what the walk reads of it. -/
theorem other_grown {w w' : World} {b B : Nat} {vs : List Value} (h : Cells w B vs) (hg : w.grownBy w' (some b)) (hne : B ≠ b) : Cells w' B vs := h.grown hg (fun k hk => by simp at hk; omega)
theorem grown_cell {w w' : World} {b : Nat} (hg : w.grownBy w' (some b)) (j : Nat) (v : Value) : w.grownBy (w'.setCell ⟨b, j, none⟩ v) (some b) := grownBy_set (p := ⟨b, j, none⟩) hg rfl v

set_option maxRecDepth 100000 in
set_option maxHeartbeats 6400000 in
theorem l1Solve_spec (P : Int) (R C n c cv : Nat) (a av : Option Addr) (xs vs : List Int) (w : World) (hpr : isP P = true) (hr : Reads w a n xs) (hv : Reads w av R vs) (hn : n = R * C) (hR : R ≤ 1024) (hC : C ≤ 1023) (hx : Res xs P) (hy : Res vs P) :
    Calls Try.prog 180 #[.agg #[.int .i64 P, .int .i64 R, .int .i64 C, .slice a n c], .slice av R cv] w (SolPost w (solOk P R C xs vs) (solL P R C xs vs)) := by
  have HR := Lib.hid hr
  have HV := Lib.hid hv
  have HPR := Lib.hid hpr
  have hp := isP_lo hpr
  have hp2 := isP_hi hpr
  have hlx : xs.length = R * C := by rw [hr.1, hn]
  have hNb : R * (C + 1) ≤ 1048576 := Nat.le_trans (Nat.mul_le_mul hR (show C + 1 ≤ 1024 by omega)) (by decide)
  obtain ⟨E, hE1⟩ : ∃ E, E = C + 1 := ⟨_, rfl⟩
  obtain ⟨N, hN⟩ : ∃ N, N = R * E := ⟨_, rfl⟩
  have hNE : N = R * (C + 1) := by rw [hN, hE1]
  rw [← hNE] at hNb
  have hCE : (C : Int) + 1 = (E : Int) := by omega
  obtain ⟨g0, g1, g2⟩ := prodN R E N hN hNb
  rw [← hCE] at g0 g1 g2
  have G2 := Lib.hid g2
  have HCE := Lib.hid hCE
  have hlj : (jcTo C xs vs R).length = N := by rw [jcTo_length hlx R (Nat.le_refl _), hNE]
  have HLJ := Lib.hid hlj
  have HXJ := Lib.hid (jcTo_res (R := R) hp hlx hx hy R)
  have HAT : Hid (∀ i, i < R → ∀ j, j < C → gi (jcTo C xs vs R) (i * E + j) = gi xs (i * C + j)) := fun i hi j hj => by
    have := at2_jcTo (vs := vs) hlx R (Nat.le_refl _) i j hi (by omega)
    rw [if_pos hj] at this
    rw [hE1]; exact this
  have HAV : Hid (∀ i, i < R → gi (jcTo C xs vs R) (i * E + C) = gi vs i) := fun i hi => by
    have := at2_jcTo (vs := vs) hlx R (Nat.le_refl _) i C hi (by omega)
    rw [if_neg (by omega)] at this
    rw [hE1]; exact this
  have HN := Lib.hid hN
  have HNN := Lib.hid hn
  have HNB := Lib.hid hNb
  have HE := Lib.hid hE1
  have HSP := Lib.hid (sol_pv (P := P) (R := R) (C := C) (xs := xs) (vs := vs))
  have hsl : (solS P R C xs vs).m.length = N := by rw [solS, redTo_length]; exact hlj
  have HSL : Hid ((solS P R C xs vs).m.length = N) := hsl
  have HSO : Hid (solL P R C xs vs = solTo C (solS P R C xs vs).m (solS P R C xs vs).pv (solS P R C xs vs).pv.length) := rfl
  have HSV := Lib.hid (redTo_pv (P := P) (R := R) (C := C + 1) (xs := jcTo C xs vs R) C)
  rw [show redTo P R (C + 1) (jcTo C xs vs R) C = solS P R C xs vs from rfl] at HSV
  have HNI := Lib.hid (solS_notin (P := P) (R := R) (C := C) (xs := xs) (vs := vs))
  have HPL : Hid ((redM P R E (jcTo C xs vs R)).pv.length ≤ R) := (redTo_pv (P := P) (R := R) (C := E) (xs := jcTo C xs vs R) E).2.1
  rw [← hE1] at HSP
  generalize jcTo C xs vs R = J at *
  generalize solS P R C xs vs = S at *
  generalize solL P R C xs vs = L at *
  have hEb : E ≤ 1024 := by omega
  have hCE2 : C < E := by omega
  have hnb : n ≤ N := by rw [hn, hN]; exact Nat.mul_le_mul_left R (by omega)
  have f0 : 0 ≤ (C : Int) + 1 := by omega
  have f1 : (C : Int) + 1 ≤ 1048576 := by omega
  clear hr hv hpr hn hx hy hlx hN hNE hE1 hlj hsl g2 hCE
  go_enter Try.func180, Try.ntmps180
  have A0_1 := Lib.hid (cells_new' w #[.int .i64 P, .int .i64 R, .int .i64 C, .slice a n c] 40 (w.heap.size) (by simp))
  have E_2 := Lib.hid ((Ext.refl w).alloc (.cells #[.int .i64 P, .int .i64 R, .int .i64 C, .slice a n c] 40))
  have lA0 := A0_1.out.1
  have qA00 := A0_1.out.2 0 _ rfl
  have qA01 := A0_1.out.2 1 _ rfl
  have qA02 := A0_1.out.2 2 _ rfl
  have qA03 := A0_1.out.2 3 _ rfl
  try simp only [World.size_alloc] at lA0
  go_wp2_with fail
  with_reducible refine (l1Zero_spec _ _ _ _ g0 g1).mono ?_
  rintro e w_3 ⟨b, rfl, hb1, hb2, hh, h_3⟩
  clear lA0 qA00 qA01 qA02 qA03
  rw [G2.out] at hh ⊢
  rw [HCE.out]
  clear g0 g1 f0 f1
  have hb3 : w.heap.size + 1 ≤ b := by simp only [World.size_alloc] at hb1; omega
  have A0_4 := Lib.hid (A0_1.out.ext h_3)
  clear A0_1
  have E_5 := Lib.hid (E_2.out.trans h_3)
  clear E_2
  clear hb1
  have H0 := Lib.hid (hh.alloc (.cells #[.int .i64 P, .int .i64 R, .int .i64 E, .slice (some ⟨b, 0, none⟩) N N] 40))
  clear hh h_3
  have P_6 := (Ext.refl w_3).alloc (.cells #[.int .i64 P, .int .i64 R, .int .i64 E, .slice (some ⟨b, 0, none⟩) N N] 40)
  have A0_7 := Lib.hid (A0_4.out.ext P_6)
  clear A0_4
  have E_8 := Lib.hid (E_5.out.trans P_6)
  clear E_5
  clear P_6
  have M_9 := Lib.hid (cells_new w_3 #[.int .i64 P, .int .i64 R, .int .i64 E, .slice (some ⟨b, 0, none⟩) N N] 40)
  go_wp2_with fail
  generalize hW1 : (w_3.alloc (.cells #[.int .i64 P, .int .i64 R, .int .i64 E, .slice (some ⟨b, 0, none⟩) N N] 40)) = W1 at *
  clear hW1
  have hbB : b < w_3.heap.size := hb2
  clear hb2
  generalize w_3.heap.size = B at *
  have HZL : Hid (J.length = (List.replicate N (0 : Int)).length) := by rw [Hid, List.length_replicate]; exact HLJ.out
  have HML : Hid (∀ k, k ≤ N → (mix J (List.replicate N 0) k).length = N) := fun k hk => by rw [mix_length _ _ _ HZL.out (by rw [List.length_replicate]; exact hk), List.length_replicate]
  have HMS : Hid (∀ k, k < N → (mix J (List.replicate N 0) k).set k (gi J k) = mix J (List.replicate N 0) (k + 1)) := fun k hk => mix_set _ _ _ HZL.out (by rw [List.length_replicate]; exact hk)
  have HMF : Hid (mix J (List.replicate N 0) N = J) := by
    have := mix_full J (List.replicate N 0) HZL.out
    rwa [List.length_replicate] at this
  have HM0 : Hid (Has W1 b (mix J (List.replicate N 0) (0 * E))) := by rw [Hid, Nat.zero_mul, mix_zero]; exact H0.out
  clear HZL H0
  generalize mix J (List.replicate N 0) = X at HML HMS HMF HM0
  have lW1 : w.heap.size < W1.heap.size := A0_7.out.1
  have HLW := Lib.hid lW1
  clear lW1
  go_loopw [7, 8] (fun z _ wr => ∃ i : Nat, i ≤ R ∧ z = .int .i64 i ∧ Hid (W1.grownBy wr (some b)) ∧ Hid (Has wr b (X (i * E)))) (fun z _ _ => R - (intOf z).toNat)
  case atStart => exact ⟨0, by omega, rfl, grownBy_refl _ _, HM0⟩
  case round =>
    clear HM0
    obtain ⟨i, hi, rfl, hG, hX⟩ := hrel
    by_cases hlt : i < R
    · have hie := row_lt (C := E) hlt
      rw [← HN.out] at hie
      have qc := other_grown A0_7.out hG.out (by omega)
      have lq := qc.1
      have q0 := qc.2 0 _ rfl
      have q1 := qc.2 1 _ rfl
      have q2 := qc.2 2 _ rfl
      have q3 := qc.2 3 _ rfl
      clear qc
      have pc := other_grown M_9.out hG.out (by omega)
      have lp := pc.1
      have p0 := pc.2 0 _ rfl
      have p1 := pc.2 1 _ rfl
      have p2 := pc.2 2 _ rfl
      have p3 := pc.2 3 _ rfl
      clear pc
      go_wp2_with fail
      clear lq q0 q1 q2 q3 lp p0 p1 p2 p3
      obtain ⟨wo, rfl⟩ : ∃ wo : World, wo = wr := ⟨_, rfl⟩
      go_loopw [8] (fun z wr => ∃ j : Nat, j ≤ C ∧ z = .int .i64 j ∧ Hid (W1.grownBy wr (some b)) ∧ Hid (Has wr b (X (i * E + j)))) (fun z _ => C - (intOf z).toNat)
      case atStart => exact ⟨0, by omega, rfl, hG, hX⟩
      case round =>
        clear hG hX
        obtain ⟨j, hj, rfl, hG, hX⟩ := hrel
        have qc := other_grown A0_7.out hG.out (by omega)
        have lq := qc.1
        have q0 := qc.2 0 _ rfl
        have q1 := qc.2 1 _ rfl
        have q2 := qc.2 2 _ rfl
        have q3 := qc.2 3 _ rfl
        clear qc
        have pc := other_grown M_9.out hG.out (by omega)
        have lp := pc.1
        have p0 := pc.2 0 _ rfl
        have p1 := pc.2 1 _ rfl
        have p2 := pc.2 2 _ rfl
        have p3 := pc.2 3 _ rfl
        clear pc
        have hRD := Lib.hid (HR.out.ext (E_8.out.grown hG.out (fun k hk => by simp at hk; omega)))
        by_cases hlt2 : j < C
        · have nB : B ≠ b := by omega
          have nA : w.heap.size ≠ b := by omega
          have d1 : i * E + j < N := by omega
          have d2 := place_lt hlt hlt2
          have e1 : (i : Int) * (E : Int) = ((i * E : Nat) : Int) := by simp
          have e2 : 0 ≤ (i : Int) * (E : Int) := by rw [e1]; omega
          have e3 : (i : Int) * (E : Int) ≤ 1048576 := by rw [e1]; omega
          have e4 : (i : Int) * (E : Int) + (j : Int) < (N : Int) := by rw [e1]; omega
          have e5 : 0 ≤ (i : Int) * (E : Int) + (j : Int) := by rw [e1]; omega
          have hq0 : (0 : Int) ≤ (i : Int) := by omega
          have hk0 : (0 : Int) ≤ (j : Int) := by omega
          have ew : wr.drew.heap.size = wr.heap.size := rfl
          clear e1
          go_wp2_with fail
          have v1 : IntKind.i64.wrap ((i : Int) * (E : Int)) = (i : Int) * (E : Int) := IntWalk.i64_in _ ⟨by omega, by omega⟩
          have v2 : IntKind.i64.wrap ((i : Int) * (E : Int) + (j : Int)) = (i : Int) * (E : Int) + (j : Int) := IntWalk.i64_in _ ⟨by omega, by omega⟩
          have v3 : ((i : Int) * (E : Int) + (j : Int)).toNat = i * E + j := by rw [← Int.natCast_mul, ← Int.natCast_add, Int.toNat_natCast]
          go_region_held3 (fun w' => wr.grownBy w' (some b) ∧ ∀ B o, B ≠ b → B < wr.heap.size → w'.cell? ⟨B, o, none⟩ = wr.cell? ⟨B, o, none⟩) (first | exact keptB_refl _ _ | exact keptB_drew | (with_reducible exact keptB_call ‹wr.grownBy _ (some b) ∧ _› ‹Ext _ _›) | (with_reducible exact keptB_set ‹wr.grownBy _ (some b) ∧ _› _ _)) (first
            | (go_at_call 73; refine (l1At_spec _ _ _ _ _ _ _ _ xs _ (hRD.out.ext (Ext.refl _).drew) (by rw [HNN.out]; exact d2) (by have := HNB.out; omega)).mono ?_; rintro e w2 ⟨rfl, hE⟩; have c1 : w2.cell? ⟨b, i * E + j, none⟩ = _ := (hX.out.ext ((Ext.refl _).drew.trans hE)).cell (i * E + j) (by rw [HML.out _ (Nat.le_of_lt d1)]; exact d1); have f1 : w2.frozen? ⟨b, i * E + j, none⟩ = false := (hX.out.ext ((Ext.refl _).drew.trans hE)).free _))
          have N1 : Hid (Has (w2.setCell ⟨b, i * E + j, none⟩ (.int .i64 (gi xs (i * C + j)))) b (X (i * E + (j + 1)))) := by
            have := (hX.out.ext ((Ext.refl _).drew.trans hE)).set (i * E + j) (by rw [HML.out _ (Nat.le_of_lt d1)]; exact d1) (gi J (i * E + j))
            rw [HMS.out _ d1, HAT.out i hlt j hlt2] at this
            exact this
          have N2 : Hid (W1.grownBy (w2.setCell ⟨b, i * E + j, none⟩ (.int .i64 (gi xs (i * C + j)))) (some b)) := grown_cell (grownBy_ext hG.out ((Ext.refl _).drew.trans hE)) _ _
          clear v1 v2 v3 hG hX hRD c1 f1 hE
          clear lq q0 q1 q2 q3 lp p0 p1 p2 p3
          go_wp2
          exact ⟨⟨j + 1, by omega, by simp, N2, N1⟩, by simp [intOf]; omega⟩
        · obtain rfl : j = C := by omega
          have d1 : i * E + j < N := by omega
          rcases (HV.out.ext (E_8.out.grown hG.out (fun k hk => by simp at hk; omega))).2 with h | ⟨b', off', rfl, hb', hc'⟩
          · omega
          have x1 := hc' i hlt
          clear hc' hRD
          have x2 := hX.out.cell (i * E + j) (by rw [HML.out _ (Nat.le_of_lt d1)]; exact d1)
          have x3 := hX.out.free (i * E + j)
          have e1 : (i : Int) * (E : Int) = ((i * E : Nat) : Int) := by simp
          have e2 : 0 ≤ (i : Int) * (E : Int) := by rw [e1]; omega
          have e3 : (i : Int) * (E : Int) ≤ 1048576 := by rw [e1]; omega
          have e4 : (i : Int) * (E : Int) + (j : Int) < (N : Int) := by rw [e1]; omega
          have e5 : 0 ≤ (i : Int) * (E : Int) + (j : Int) := by rw [e1]; omega
          have N1 : Hid (Has (wr.setCell ⟨b, i * E + j, none⟩ (.int .i64 (gi vs i))) b (X ((i + 1) * E))) := by
            have := hX.out.set (i * E + j) (by rw [HML.out _ (Nat.le_of_lt d1)]; exact d1) (gi J (i * E + j))
            rw [HMS.out _ d1, HAV.out i hlt] at this
            rw [Nat.add_mul, Nat.one_mul, HE.out, ← Nat.add_assoc]
            rw [HE.out] at this
            exact this
          have N2 : Hid (W1.grownBy (wr.setCell ⟨b, i * E + j, none⟩ (.int .i64 (gi vs i))) (some b)) := grown_cell hG.out _ _
          clear e1 hG hX
          go_wp2_with fail
          go_region
          go_wp2
          exact ⟨⟨i + 1, by omega, by simp, grownBy_ext N2.out (Ext.refl _).drew, N1.out.ext (Ext.refl _).drew⟩, by simp [intOf]; omega⟩
    · obtain rfl : R = i := by omega
      rw [← HN.out, HMF.out] at hX
      have EW := Lib.hid (E_8.out.grown hG.out (fun k hk => by simp at hk; omega))
      have qc := other_grown A0_7.out hG.out (by omega)
      have lq := qc.1
      have q0 := qc.2 0 _ rfl
      have q1 := qc.2 1 _ rfl
      have q2 := qc.2 2 _ rfl
      have q3 := qc.2 3 _ rfl
      clear qc
      have pc := other_grown M_9.out hG.out (by omega)
      have lp := pc.1
      have p0 := pc.2 0 _ rfl
      have p1 := pc.2 1 _ rfl
      have p2 := pc.2 2 _ rfl
      have p3 := pc.2 3 _ rfl
      clear pc
      go_wp2_with fail
      refine (l1Reduce_spec P R E N N (some ⟨b, 0, none⟩) J wr (hX.out.reads HLJ.out) HN.out HNB.out (by omega) (by omega) HPR.out HXJ.out (by simp)).mono ?_
      rintro e w2 ⟨b2, c2, a2, cap, mid, rfl, hm1, hm2, hm3, hh, ho, hE, hcc⟩
      clear lq q0 q1 q2 q3 lp p0 p1 p2 p3
      have Q0 := Lib.hid ((((other_grown A0_7.out hG.out (by omega)).ext hE).ext ((Ext.refl w2).alloc (.cells #[.int .i64 P, .int .i64 R, .int .i64 E, .slice (some ⟨b2, 0, none⟩) N c2] 40))))
      have Q1 := Lib.hid (cells_new w2 #[.int .i64 P, .int .i64 R, .int .i64 E, .slice (some ⟨b2, 0, none⟩) N c2] 40)
      have H1 := Lib.hid (hh.ext ((Ext.refl w2).alloc (.cells #[.int .i64 P, .int .i64 R, .int .i64 E, .slice (some ⟨b2, 0, none⟩) N c2] 40)))
      have O1 := Lib.hid (ho.ext ((Ext.refl w2).alloc (.cells #[.int .i64 P, .int .i64 R, .int .i64 E, .slice (some ⟨b2, 0, none⟩) N c2] 40)))
      have EQ := Lib.hid ((EW.out.trans hE).trans ((Ext.refl w2).alloc (.cells #[.int .i64 P, .int .i64 R, .int .i64 E, .slice (some ⟨b2, 0, none⟩) N c2] 40)))
      have HCC := Lib.hid hcc
      clear hG hX EW hh ho hE hm1 hm2 hm3 hcc A0_7 M_9 E_8 HV HR HML HMS HMF HAT HAV
      obtain ⟨q, hq, hqi⟩ := pv_firstAt (redM P R E J).pv C
      have HQ := Lib.hid hq
      have hK := HPL.out
      have lA := Q0.out.1
      have qA0 := Q0.out.2 2 _ rfl
      rcases hok : solOk P R C xs vs with _ | _
      · have hqk : q < (redM P R E J).pv.length := hqi.2 (HSP.out.2 hok)
        have HF : Hid (fndR (redM P R E J).pv.length q = (q : Int)) := by rw [Hid, fndR, if_pos hqk]
        have HOK := Lib.hid hok
        clear hok hqi hq HSP
        go_wp2_with fail
        refine (l1Find_spec a2 _ cap (pvI (redM P R E J).pv) C q _ O1.out.reads (by omega) HQ.out).mono ?_
        rintro e w' ⟨rfl, rfl⟩
        rw [HF.out]
        have hq0 : 0 ≤ (q : Int) := by omega
        go_wp2
        go_ret2
        rw [HOK.out]
        exact ⟨none, 0, 0, rfl, own_nil _ _ _, EQ.out⟩
      have hqk : ¬ q < (redM P R E J).pv.length := fun h => by
        have := hqi.1 h
        rw [HSP.out.1 hok] at this
        exact HNI.out this
      have HF : Hid (fndR (redM P R E J).pv.length q = -1) := by rw [Hid, fndR, if_neg hqk]
      have HS2 : Hid (redM P R E J = S) := HSP.out.1 hok
      have HOK := Lib.hid hok
      clear hok hqi hq HSP hqk
      rw [HS2.out] at H1 O1 HQ HF hK ⊢
      clear HS2 HPL
      go_wp2_with fail
      refine (l1Find_spec a2 _ cap (pvI S.pv) C q _ O1.out.reads (by omega) HQ.out).mono ?_
      rintro e w' ⟨rfl, rfl⟩
      rw [HF.out]
      clear HF HQ
      have hmk := make_ints C (by omega)
      go_wp2_with fail
      clear hmk lA qA0
      generalize hW3 : w2.alloc (.cells #[.int .i64 P, .int .i64 R, .int .i64 E, .slice (some ⟨b2, 0, none⟩) N c2] 40) = W3 at *
      have HWB : Hid (W3.heap.size = w2.heap.size + 1) := by rw [← hW3]; simp [Hid]
      clear hW3
      have X0 : Hid (Has (W3.alloc (.cells (ints (List.replicate C 0)) 3)) (w2.heap.size + 1) (List.replicate C 0)) := by
        have := Has.new W3 (List.replicate C 0)
        rw [HWB.out] at this
        exact this
      have E0 : Hid (Ext W3 (W3.alloc (.cells (ints (List.replicate C 0)) 3))) := (Ext.refl _).alloc _
      go_loopw [13] (fun z wr => ∃ r : Nat, r ≤ S.pv.length ∧ z = .int .i64 r ∧ Hid (Ext W3 wr) ∧ Hid (Has wr (w2.heap.size + 1) (solTo C S.m S.pv r))) (fun z _ => S.pv.length - (intOf z).toNat)
      case atStart => exact ⟨0, by omega, rfl, E0, X0⟩
      case round =>
        clear X0 E0
        obtain ⟨r, hr, rfl, hE, hX⟩ := hrel
        by_cases hlt : r < S.pv.length
        · have hp1 := HSV.out.2.2 (S.pv.getD r 0) (by rw [List.getD_eq_getElem?_getD, List.getElem?_eq_getElem hlt]; simp)
          have A1 := Q0.out.ext hE.out
          have M1 := Q1.out.ext hE.out
          have lA := A1.1
          have qA2 := A1.2 2 _ rfl
          have lM := M1.1
          have qM0 := M1.2 0 _ rfl
          have qM1 := M1.2 1 _ rfl
          have qM2 := M1.2 2 _ rfl
          have qM3 := M1.2 3 _ rfl
          have hpl : r * E + C < N := by rw [HN.out]; exact place_lt (by omega) hCE2
          have HHR := Lib.hid ((H1.out.ext hE.out).reads (n := N) HSL.out)
          rcases (O1.out.ext hE.out).reads.2 with h | ⟨b', off', rfl, hb', hc'⟩
          · omega
          have x2 := hc' r hlt
          rw [gi_pvI] at x2
          have nX : b' ≠ w2.heap.size + 1 := by
            have := (O1.out).blk b' rfl
            have := HWB.out
            omega
          generalize hq : S.pv.getD r 0 = z at x2 hp1
          have HZ := Lib.hid hq
          have nA : w.heap.size ≠ w2.heap.size + 1 := by have := Q0.out.1; have := HWB.out; omega
          have nM : w2.heap.size ≠ w2.heap.size + 1 := by have := HWB.out; omega
          have ew : wr.drew.heap.size = wr.heap.size := rfl
          clear hc' A1 M1 hq
          go_wp2_with fail
          go_region_held3 (fun w' => wr.grownBy w' (some (w2.heap.size + 1)) ∧ ∀ B o, B ≠ w2.heap.size + 1 → B < wr.heap.size → w'.cell? ⟨B, o, none⟩ = wr.cell? ⟨B, o, none⟩) (first | exact keptB_refl _ _ | exact keptB_drew | (with_reducible exact keptB_call ‹wr.grownBy _ (some (w2.heap.size + 1)) ∧ _› ‹Ext _ _›) | (with_reducible exact keptB_set ‹wr.grownBy _ (some (w2.heap.size + 1)) ∧ _› _ _)) (first
            | (go_at_call 73; refine (l1At_spec _ _ _ _ _ _ _ _ S.m _ (HHR.out.ext (Ext.refl _).drew) hpl (by have := HNB.out; omega)).mono ?_; rintro e w4 ⟨rfl, hE4⟩; have c1 : w4.cell? ⟨w2.heap.size + 1, z, none⟩ = _ := (hX.out.ext ((Ext.refl _).drew.trans hE4)).cell z (by rw [solTo_length]; exact hp1); have f1 : w4.frozen? ⟨w2.heap.size + 1, z, none⟩ = false := (hX.out.ext ((Ext.refl _).drew.trans hE4)).free _))
          all_goals
            have N1 : Hid (Has (w4.setCell ⟨w2.heap.size + 1, z, none⟩ (.int .i64 (gi S.m (r * E + C)))) (w2.heap.size + 1) (solTo C S.m S.pv (r + 1))) := by
              rw [Hid, solTo, HZ.out, ← HE.out]
              exact (hX.out.ext ((Ext.refl _).drew.trans hE4)).set z (by rw [solTo_length]; exact hp1) _
            have N2 : Hid (Ext W3 (w4.setCell ⟨w2.heap.size + 1, z, none⟩ (.int .i64 (gi S.m (r * E + C))))) := (hE.out.trans ((Ext.refl _).drew.trans hE4)).setCell (p := ⟨w2.heap.size + 1, z, none⟩) (Nat.le_of_eq HWB.out) _
            clear hE hX hE4 c1 f1 HHR lA qA2 lM qM0 qM1 qM2 qM3 x2
            go_wp2
            exact ⟨⟨r + 1, by omega, by simp, N2, N1⟩, by simp [intOf]; omega⟩
        · obtain rfl : r = S.pv.length := by omega
          have hlo := EQ.out.le
          have HX := Lib.hid hX.out
          have HEE := Lib.hid (EQ.out.trans hE.out)
          clear hE hX
          go_wp2
          go_ret2
          rw [HOK.out]
          refine ⟨_, C, C, rfl, ?_, HEE.out⟩
          rw [if_pos rfl, HSO.out]
          exact HX.out.own (by have := HWB.out; omega) HX.out.lt (solTo_length _ _ _ _)
end Go.Proofs.Ytapaopapgnfdkaa

/-
  SolveMatrix of both texts.
-/
namespace Go.Proofs.Ytapaopapgnfdkaa
open Go.ChangeShapes Go.WideShapes Go.ChangeAt Go.RowKit
set_option linter.unusedVariables false

def Rints (w w' : World) (v : Value) (xs : List Int) : Prop := ∃ a n c, v = .slice a n c ∧ Own w' w.heap.size w'.heap.size a n xs ∧ n ≤ 1048576
noncomputable def solveM (P R C : Int) (xs vs : List Int) : List Int × Bool :=
  if mok P R C xs && (((vs.length : Int) == R) && resB vs P) then (if solOk P R.toNat C.toNat xs vs then (solL P R.toNat C.toNat xs vs, true) else ([], false)) else ([], false)
theorem solL_length {P : Int} {R C : Nat} {xs vs : List Int} : (solL P R C xs vs).length = C := solTo_length ..

end Go.Proofs.Ytapaopapgnfdkaa
