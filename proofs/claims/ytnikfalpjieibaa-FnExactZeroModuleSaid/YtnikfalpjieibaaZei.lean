/-
  Lists of matrices: ZeroModule in the program.
-/
import Derived.Test.YtnikfalpjieibaaFez
import Derived.Test.YtnikfalpjieibaaFzc
import Derived.Test.YtnikfalpjieibaaAlgOk2
namespace Go.Proofs.Ytnikfalpjieibaa
open Go.ChangeShapes Go.WideShapes Go.ChangeAt Go.RowKit
set_option linter.unusedVariables false
set_option linter.unusedSimpArgs false

/-- The model. -/
noncomputable def zemM (P D : Int) (l : List Int) (q : Int) : List Mat := if algB P D l && inB q 0 30 then sqM P q.toNat (fun _ => List.replicate (q.toNat * q.toNat) 0) D.toNat else []
set_option maxRecDepth 100000 in
set_option maxHeartbeats 3200000 in
theorem zeroModule_impl {P D q : Int} {a0 oa n : Nat} {l : List Int} {w : World} {d : List Mat} (hT : Reads w (some ⟨a0, oa, none⟩) n l) (hm0 : n ≤ 1048576) (hM : zemM P D l q = d) :
    Calls Try.prog 34 #[.agg #[.int .i64 P, .int .i64 D, .slice (some ⟨a0, oa, none⟩) n n], .int .i64 q] w fun e w' => ∃ v, e = .returned v ∧ Rmats w w' v d ∧ Ext w w' := by
  have HT := Lib.hid hT
  have A0 := Lib.hid ((cells_new w #[.int .i64 P, .int .i64 D, .slice (some ⟨a0, oa, none⟩) n n] 29).ext ((Ext.refl _).alloc (.cells #[.int .i64 q] 3)))
  have N0 := Lib.hid (cells_new' (w.alloc (.cells #[.int .i64 P, .int .i64 D, .slice (some ⟨a0, oa, none⟩) n n] 29)) #[.int .i64 q] 3 (w.heap.size + 1) (by simp))
  have E0 := Lib.hid (((Ext.refl w).alloc (.cells #[.int .i64 P, .int .i64 D, .slice (some ⟨a0, oa, none⟩) n n] 29)).alloc (.cells #[.int .i64 q] 3))
  have lA := A0.out.1
  have q0 := A0.out.2 0 _ rfl
  have q1 := A0.out.2 1 _ rfl
  have q2 := A0.out.2 2 _ rfl
  have HW := Lib.hid (wrap_impl P D a0 oa n n l _ (HT.out.ext E0.out) hm0 (Nat.le_refl _) (by unfold maxLen; omega))
  clear hT
  rcases h0 : algB P D l with _ | _
  · simp only [zemM, h0, Bool.false_and, Bool.false_eq_true, if_false] at hM
    subst hM
    have H0 := Lib.hid h0
    clear h0
    go_enter Try.func34, Try.ntmps34
    go_wp2_with fail
    refine HW.out.mono ?_
    rintro e w1 ⟨BL, rfl, hb, hlo, h1⟩
    rw [H0.out]
    clear lA q0 q1 q2 hb hlo
    go_wp2
    go_ret
    refine ⟨_, rfl, ⟨none, 0, 0, rfl, matsR_nil _ _ _ _, by omega⟩, ?_⟩
    exact (E0.out.trans h1).alloc _
  have H0 := Lib.hid h0
  by_cases hq0 : q < 0
  · simp only [zemM, h0, inB_false.2 (fun h => by omega : ¬ (0 ≤ q ∧ q ≤ 30)), Bool.and_false, Bool.false_eq_true, if_false] at hM
    subst hM
    clear h0
    skip
    go_enter Try.func34, Try.ntmps34
    go_wp2_with fail
    refine HW.out.mono ?_
    rintro e w1 ⟨BL, rfl, hb, hlo, h1⟩
    rw [H0.out]
    have N1 := Lib.hid (N0.out.ext h1)
    have HB := Lib.hid hb
    have HLO := Lib.hid hlo
    have E1 := Lib.hid (E0.out.trans h1)
    clear lA q0 q1 q2 hb hlo h1
    have lN := N1.out.1
    have x0 := N1.out.2 0 _ rfl
    go_wp2
    go_ret
    refine ⟨_, rfl, ⟨none, 0, 0, rfl, matsR_nil _ _ _ _, by omega⟩, ?_⟩
    exact E1.out.alloc _
  by_cases hq1 : 30 < q
  · simp only [zemM, h0, inB_false.2 (fun h => by omega : ¬ (0 ≤ q ∧ q ≤ 30)), Bool.and_false, Bool.false_eq_true, if_false] at hM
    subst hM
    clear h0
    skip
    go_enter Try.func34, Try.ntmps34
    go_wp2_with fail
    refine HW.out.mono ?_
    rintro e w1 ⟨BL, rfl, hb, hlo, h1⟩
    rw [H0.out]
    have N1 := Lib.hid (N0.out.ext h1)
    have HB := Lib.hid hb
    have HLO := Lib.hid hlo
    have E1 := Lib.hid (E0.out.trans h1)
    clear lA q0 q1 q2 hb hlo h1
    have lN := N1.out.1
    have x0 := N1.out.2 0 _ rfl
    go_wp2
    go_ret
    refine ⟨_, rfl, ⟨none, 0, 0, rfl, matsR_nil _ _ _ _, by omega⟩, ?_⟩
    exact E1.out.alloc _
  simp only [zemM, h0, inB_iff.2 (show 0 ≤ q ∧ q ≤ 30 by omega), Bool.and_self, if_true] at hM
  obtain ⟨Q, rfl⟩ := Int.eq_ofNat_of_zero_le (show 0 ≤ q by omega)
  obtain ⟨D, rfl, hA⟩ := algB_parts h0 HT.out.1
  have hQ : Q ≤ 30 := by omega
  have hD := hA.dim
  simp only [Int.toNat_natCast] at hM
  subst hM
  have hq2 : ((Q : Int) < 0) = False := eq_false (by omega)
  have hq3 : ((30 : Int) < (Q : Int)) = False := eq_false (by omega)
  clear h0 hA hq0 hq1
  · skip
    skip
    go_enter Try.func34, Try.ntmps34
    go_wp2_with fail
    refine HW.out.mono ?_
    rintro e w1 ⟨BL, rfl, hb, hlo, h1⟩
    rw [H0.out]
    have N1 := Lib.hid (N0.out.ext h1)
    have HB := Lib.hid hb
    have HLO := Lib.hid hlo
    have E1 := Lib.hid (E0.out.trans h1)
    clear lA q0 q1 q2 hb hlo h1
    have lN := N1.out.1
    have x0 := N1.out.2 0 _ rfl
    go_wp2_with fail
    have FC := Lib.hid (cells_new w1 #[.pointer (some ⟨BL, 0, none⟩)] 72)
    have E2 := Lib.hid ((Ext.refl w1).alloc (.cells #[.pointer (some ⟨BL, 0, none⟩)] 72))
    refine (forElements_A P P Q D BL w1.heap.size (w.heap.size + 1) _ (fun _ => List.replicate (Q * Q) 0) _ (HB.out.ext E2.out) hD (by omega) (fun _ => by simp) (fun i w5 hi h5 => zeroModule_clo P D Q BL w1.heap.size (w.heap.size + 1) i _ w5 (FC.out.ext h5) ((N1.out.ext E2.out).ext h5) ((HB.out.ext E2.out).ext h5) hQ)).mono ?_
    rintro e w6 ⟨v, rfl, ⟨ra, rn, rc, rfl, hR, hrn⟩, h6⟩
    have HR := Lib.hid hR
    clear hR lN x0
    go_wp2
    go_ret
    exact ⟨_, rfl, ⟨ra, rn, rc, rfl, HR.out.lower (E1.out.trans E2.out).le, hrn⟩, (E1.out.trans E2.out).trans h6⟩
end Go.Proofs.Ytnikfalpjieibaa
