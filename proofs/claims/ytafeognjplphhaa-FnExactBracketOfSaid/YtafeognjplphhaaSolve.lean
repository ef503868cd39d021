/-
  A system solved, in the program.
-/
import Derived.Test.YtafeognjplphhaaJoinC
import Derived.Test.YtafeognjplphhaaNz
import Derived.Test.YtafeognjplphhaaRedI
namespace Go.Proofs.Ytafeognjplphhaa
open Go.ChangeShapes Go.WideShapes Go.ChangeAt Go.RowKit
set_option linter.unusedVariables false

/-- What is found, or nothing. -/
def SolPost (w : World) (ok : Bool) (l : List Int) (e : Ending) (w' : World) : Prop := ∃ s m c, e = .returned (.tuple #[.slice s m c, .bool ok]) ∧ Own w' w.heap.size w'.heap.size s m (if ok then l else []) ∧ Ext w w'

set_option maxRecDepth 100000 in
set_option maxHeartbeats 6400000 in
theorem solve_impl (P : Int) (R C n a0 oa v0 ov : Nat) (xs vs : List Int) (w : World) (hp : 2 ≤ P) (hp2 : P ≤ 10007) (hr : Reads w (some ⟨a0, oa, none⟩) n xs) (hv : Reads w (some ⟨v0, ov, none⟩) R vs) (hn : n = R * C) (hR : R ≤ 1024) (hC : C ≤ 1023) (hx : Res xs P) (hy : Res vs P) :
    Calls Try.prog 61 #[.agg #[.int .i64 P, .int .i64 R, .int .i64 C, .slice (some ⟨a0, oa, none⟩) n n], .slice (some ⟨v0, ov, none⟩) R R] w (SolPost w (solOk P R C xs vs) (solL P R C xs vs)) := by
  have HR := Lib.hid hr
  have HV := Lib.hid hv
  have hlx : xs.length = R * C := by rw [hr.1, hn]
  have hNb : R * (C + 1) ≤ 1048576 := Nat.le_trans (Nat.mul_le_mul hR (show C + 1 ≤ 1024 by omega)) (by decide)
  obtain ⟨N, hN⟩ : ∃ N, N = R * (C + 1) := ⟨_, rfl⟩
  rw [← hN] at hNb
  obtain ⟨E, hE1⟩ : ∃ E, E = C + 1 := ⟨_, rfl⟩
  have hj : ∀ w1, Ext w w1 → Calls Try.prog 64 #[.agg #[.int .i64 P, .int .i64 R, .int .i64 C, .slice (some ⟨a0, oa, none⟩) n n], .agg #[.int .i64 P, .int .i64 R, .int .i64 1, .slice (some ⟨v0, ov, none⟩) R R]] w1 fun e w' => ∃ b, e = .returned (.agg #[.int .i64 P, .int .i64 R, .int .i64 E, .slice (some ⟨b, 0, none⟩) N N]) ∧ w1.heap.size ≤ b ∧ b < w'.heap.size ∧ Has w' b (jcTo C xs vs R) ∧ Ext w1 w' := fun w1 hE => by
    rw [← jmTo_one hv.1 R (Nat.le_refl _)]
    exact joinColumns_impl P P R R C 1 E n R N a0 oa v0 ov xs vs w1 (hr.ext hE) (hv.ext hE) hn (Nat.mul_one R).symm hE1 (by rw [hE1]; exact hN) (by omega) hNb (by omega) (by omega)
  have HJ := Lib.hid hj
  have hlj : (jcTo C xs vs R).length = N := by rw [jcTo_length hlx R (Nat.le_refl _), hN]
  have HLJ := Lib.hid hlj
  have HXJ := Lib.hid (jcTo_res (R := R) hp hlx hx hy R)
  have HN := Lib.hid hN
  have HNB := Lib.hid hNb
  have HLX := Lib.hid hlx
  have HE := Lib.hid hE1
  have HNE : Hid (N = R * E) := by rw [Hid, hE1]; exact hN
  have hEb : E ≤ 1024 := by omega
  have hCE : C ≤ E := by omega
  clear hr hv hn hj hlj hlx hN hNb hE1
  go_enter Try.func61, Try.ntmps61
  have A0_1 := Lib.hid (cells_new' w #[.int .i64 P, .int .i64 R, .int .i64 C, .slice (some ⟨a0, oa, none⟩) n n] 26 (w.heap.size) (by simp))
  have E_2 := Lib.hid ((Ext.refl w).alloc (.cells #[.int .i64 P, .int .i64 R, .int .i64 C, .slice (some ⟨a0, oa, none⟩) n n] 26))
  have lA0 := A0_1.out.1
  have qA00 := A0_1.out.2 0 _ rfl
  have qA01 := A0_1.out.2 1 _ rfl
  have qA02 := A0_1.out.2 2 _ rfl
  have qA03 := A0_1.out.2 3 _ rfl
  try simp only [World.size_alloc] at lA0
  go_wp2_with fail
  with_reducible refine (HJ.out _ E_2.out).mono ?_
  rintro e w_3 ⟨b, rfl, hb1, hb2, hh, h_3⟩
  clear lA0 qA00 qA01 qA02 qA03
  have hb3 : w.heap.size + 1 ≤ b := by simp only [World.size_alloc] at hb1; omega
  have A0_4 := Lib.hid (A0_1.out.ext h_3)
  clear A0_1
  have E_5 := Lib.hid (E_2.out.trans h_3)
  clear E_2
  clear hb1
  have H0 := Lib.hid (hh.alloc (.cells #[.int .i64 P, .int .i64 R, .int .i64 E, .slice (some ⟨b, 0, none⟩) N N] 26))
  clear hh h_3
  have P_6 := (Ext.refl w_3).alloc (.cells #[.int .i64 P, .int .i64 R, .int .i64 E, .slice (some ⟨b, 0, none⟩) N N] 26)
  have A0_7 := Lib.hid (A0_4.out.ext P_6)
  clear A0_4
  have E_8 := Lib.hid (E_5.out.trans P_6)
  clear E_5
  clear P_6
  have M_9 := Lib.hid (cells_new w_3 #[.int .i64 P, .int .i64 R, .int .i64 E, .slice (some ⟨b, 0, none⟩) N N] 26)
  go_upto_region 2 with fail
  generalize hW1 : (w_3.alloc (.cells #[.int .i64 P, .int .i64 R, .int .i64 E, .slice (some ⟨b, 0, none⟩) N N] 26)) = W1 at *
  clear hW1
  have MB : Hid (b < w_3.heap.size) := hb2
  have HB3 := Lib.hid hb3
  clear hb2 hb3
  generalize w_3.heap.size = B at *
  have lA0 := A0_7.out.1
  have qA00 := A0_7.out.2 0 _ rfl
  have qA01 := A0_7.out.2 1 _ rfl
  have qA02 := A0_7.out.2 2 _ rfl
  have qA03 := A0_7.out.2 3 _ rfl
  have lM := M_9.out.1
  have qM0 := M_9.out.2 0 _ rfl
  have qM1 := M_9.out.2 1 _ rfl
  have qM2 := M_9.out.2 2 _ rfl
  have qM3 := M_9.out.2 3 _ rfl
  try simp only [World.size_alloc] at lA0 lM
  go_wp2_with fail
  with_reducible refine (reduceRows_impl P R E C b N (jcTo C xs vs R) W1 H0.out HLJ.out HNE.out HNB.out hCE (by omega) (by omega) hp hp2 HXJ.out).mono ?_
  rintro e w_10 ⟨pa, cap, rfl, hpo, hh, hg⟩
  clear lA0 qA00 qA01 qA02 qA03 lM qM0 qM1 qM2 qM3
  have hd : redTo P R E (jcTo C xs vs R) C = solS P R C xs vs := by rw [HE.out]; rfl
  rw [hd] at hh hpo ⊢
  clear hd
  have hM0 : Hid (B < W1.heap.size) := M_9.out.1
  have A0_11 := Lib.hid (A0_7.out.grown hg (fun k hk => by simp at hk; have := MB.out; have := HB3.out; omega))
  clear A0_7
  have M_12 := Lib.hid (M_9.out.grown hg (fun k hk => by simp at hk; have := MB.out; have := HB3.out; omega))
  clear M_9
  have E_13 := Lib.hid (E_8.out.grown hg (fun k hk => by simp at hk; have := MB.out; have := HB3.out; omega))
  clear E_8
  clear H0
  clear MB HB3 hM0 HJ HLJ HXJ
  obtain ⟨hs1, hs2, hs3⟩ := redTo_pv (P := P) (R := R) (C := C + 1) (xs := jcTo C xs vs R) C
  have hsl : (redTo P R (C + 1) (jcTo C xs vs R) C).m.length = N := by rw [redTo_length, jcTo_length HLX.out R (Nat.le_refl _)]; exact HN.out.symm
  rw [show redTo P R (C + 1) (jcTo C xs vs R) C = solS P R C xs vs from rfl] at hs1 hs2 hs3 hsl
  have HO : Hid (solOk P R C xs vs = (fnz (solS P R C xs vs).m (C + 1) C R (solS P R C xs vs).pv.length == R)) := rfl
  have HSL : Hid (solL P R C xs vs = solTo C (solS P R C xs vs).m (solS P R C xs vs).pv (solS P R C xs vs).pv.length) := rfl
  generalize solS P R C xs vs = S at *
  have HS3 := Lib.hid hs3
  have HLS := Lib.hid hsl
  clear hs3 hsl
  have HH := Lib.hid hh
  have HP := Lib.hid hpo
  clear hh hpo hg
  have lA0 := A0_11.out.1
  have qA00 := A0_11.out.2 0 _ rfl
  have qA01 := A0_11.out.2 1 _ rfl
  have qA02 := A0_11.out.2 2 _ rfl
  have qA03 := A0_11.out.2 3 _ rfl
  have lM := M_12.out.1
  have qM0 := M_12.out.2 0 _ rfl
  have qM1 := M_12.out.2 1 _ rfl
  have qM2 := M_12.out.2 2 _ rfl
  have qM3 := M_12.out.2 3 _ rfl
  try simp only [World.size_alloc] at lA0 lM
  go_wp2_with fail
  refine (nonzeroRow_impl P R E C S.pv.length b 0 N N S.m _ (HH.out.reads HLS.out) HNE.out HNB.out (by have := HE.out; omega) hs2 (by omega)).mono ?_
  rintro e w_14 ⟨rfl, h_14⟩
  clear lA0 qA00 qA01 qA02 qA03 lM qM0 qM1 qM2 qM3
  have A0_15 := Lib.hid (A0_11.out.ext h_14)
  clear A0_11
  have M_16 := Lib.hid (M_12.out.ext h_14)
  clear M_12
  have E_17 := Lib.hid (E_13.out.trans h_14)
  clear E_13
  have HH2 := Lib.hid (HH.out.ext h_14)
  have HP2 := Lib.hid (HP.out.ext h_14)
  clear HH HP
  have hsz := Lib.hid (h_14.le)
  clear h_14
  rw [show nzR S.m E C R S.pv.length = if fnz S.m E C R S.pv.length = R then -1 else (fnz S.m E C R S.pv.length : Int) from rfl]
  by_cases hfz : fnz S.m E C R S.pv.length = R
  case neg =>
    have HF : Hid (solOk P R C xs vs = false) := by rw [Hid, HO.out, ← HE.out]; simpa using hfz
    rw [if_neg hfz]
    have hf0 : 0 ≤ (fnz S.m E C R S.pv.length : Int) := by omega
    generalize fnz S.m E C R S.pv.length = q at hf0 hfz
    clear hfz
    go_wp2
    go_ret2
    rw [HF.out]
    exact ⟨none, 0, 0, rfl, own_nil _ _ _, E_17.out⟩
  have HF : Hid (solOk P R C xs vs = true) := by rw [Hid, HO.out, ← HE.out]; simpa using hfz
  rw [if_pos hfz]
  clear hfz
  have lA := A0_15.out.1
  have qA0 := A0_15.out.2 2 _ rfl
  have hmk := make_ints C (by omega)
  go_wp2_with fail
  clear hmk
  have X0 := Lib.hid (Has.new w_14 (List.replicate C 0))
  have E0 : Hid (Ext w_14 (w_14.alloc (.cells (ints (List.replicate C 0)) 3))) := (Ext.refl _).alloc _
  obtain ⟨W5, hW5⟩ : ∃ W5, W5 = w_14 := ⟨_, rfl⟩
  clear lA qA0
  go_loopw [39, 10, 11] (fun z _ _ wr => ∃ r : Nat, r ≤ S.pv.length ∧ z = .int .i64 r ∧ Hid (Ext w_14 wr) ∧ Hid (Has wr w_14.heap.size (solTo C S.m S.pv r))) (fun z _ _ _ => S.pv.length - (intOf z).toNat)
  case atStart => exact ⟨0, by omega, rfl, E0, X0⟩
  case round =>
    obtain ⟨r, hr, rfl, hE, hX⟩ := hrel
    by_cases hlt : r < S.pv.length
    · have hp1 := HS3.out (S.pv.getD r 0) (by rw [List.getD_eq_getElem?_getD, List.getElem?_eq_getElem hlt]; simp)
      have A1 := A0_15.out.ext hE.out
      have M1 := M_16.out.ext hE.out
      have lA := A1.1
      have qA2 := A1.2 2 _ rfl
      have lM := M1.1
      have qM2 := M1.2 2 _ rfl
      have qM3 := M1.2 3 _ rfl
      have hpl : r * E + C < N := by
        rw [HNE.out]; exact place_lt (by omega) (by have := HE.out; omega)
      have x1 := (HH2.out.ext hE.out).cell (r * E + C) (by rw [HLS.out]; exact hpl)
      rcases (HP2.out.ext hE.out).reads.2 with h | ⟨b', off', rfl, hb', hc'⟩
      · omega
      have x2 := hc' r hlt
      rw [gi_pvI] at x2
      generalize hq : S.pv.getD r 0 = q at x2 hp1
      have HQ := Lib.hid hq
      have x3 := hX.out.cell q (by rw [solTo_length]; exact hp1)
      have f3 := hX.out.free q
      have N1 : Hid (Has (wr.setCell ⟨w_14.heap.size, q, none⟩ (.int .i64 (gi S.m (r * E + C)))) w_14.heap.size (solTo C S.m S.pv (r + 1))) := by
        rw [Hid, solTo, HQ.out, ← HE.out]
        exact hX.out.set q (by rw [solTo_length]; exact hp1) _
      have N2 : Hid (Ext w_14 (wr.setCell ⟨w_14.heap.size, q, none⟩ (.int .i64 (gi S.m (r * E + C))))) := hE.out.setCell (p := ⟨w_14.heap.size, q, none⟩) (Nat.le_refl _) _
      have e1 : (r : Int) * (E : Int) = ((r * E : Nat) : Int) := by simp
      have g1 : 0 ≤ (r : Int) * (E : Int) := by rw [e1]; omega
      have g2 : (r : Int) * (E : Int) + (C : Int) < (N : Int) := by rw [e1]; omega
      have g3 : 0 ≤ (r : Int) * (E : Int) + (C : Int) := by omega
      have g4 := HNB.out
      clear e1 hpl hc' A1 M1 hE hX hq
      go_wp2
      exact ⟨⟨r + 1, by omega, by simp, N2, N1⟩, by simp [intOf]; omega⟩
    · obtain rfl : r = S.pv.length := by omega
      have hlo := E_17.out.le
      have HX := Lib.hid hX.out
      have HEE := Lib.hid (E_17.out.trans hE.out)
      go_wp2
      go_ret2
      rw [HF.out]
      refine ⟨_, C, C, rfl, ?_, HEE.out⟩
      rw [if_pos rfl, HSL.out]
      exact HX.out.own hlo HX.out.lt (solTo_length _ _ _ _)
end Go.Proofs.Ytafeognjplphhaa
