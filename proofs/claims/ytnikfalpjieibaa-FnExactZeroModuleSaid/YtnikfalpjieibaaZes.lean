/-
  Lists of matrices: ZeroModule by the specification.
-/
import Derived.Test.YtnikfalpjieibaaZei
namespace Go.Proofs.Ytnikfalpjieibaa
open Go.ChangeShapes Go.WideShapes Go.ChangeAt Go.RowKit
set_option linter.unusedVariables false
set_option linter.unusedSimpArgs false

set_option maxRecDepth 100000 in
set_option maxHeartbeats 3200000 in
theorem zeroModule_spec {P D q : Int} {a0 oa n : Nat} {l : List Int} {w : World} {d : List Mat} (hT : Reads w (some ⟨a0, oa, none⟩) n l) (hm0 : n ≤ 1048576) (hM : zemM P D l q = d) :
    Calls Try.prog 33 #[.agg #[.int .i64 P, .int .i64 D, .slice (some ⟨a0, oa, none⟩) n n], .int .i64 q] w fun e w' => ∃ v, e = .returned v ∧ Rmats w w' v d ∧ Ext w w' := by
  have HT := Lib.hid hT
  have A0 := Lib.hid (cells_new w #[.int .i64 P, .int .i64 D, .slice (some ⟨a0, oa, none⟩) n n] 29)
  have E0 := Lib.hid ((Ext.refl w).alloc (.cells #[.int .i64 P, .int .i64 D, .slice (some ⟨a0, oa, none⟩) n n] 29))
  have lA := A0.out.1
  have q0 := A0.out.2 0 _ rfl
  have q1 := A0.out.2 1 _ rfl
  have q2 := A0.out.2 2 _ rfl
  clear hT
  rcases h0 : algB P D l with _ | _
  · simp only [zemM, h0, Bool.false_and, Bool.false_eq_true, if_false] at hM
    subst hM
    have H0 := Lib.hid h0
    clear h0
    go_enter Try.func33, Try.ntmps33
    go_wp2_with fail
    refine (algebraOk_spec (HT.out.ext E0.out) hm0 H0.out).mono ?_
    rintro e w1 ⟨rfl, h1⟩
    clear lA q0 q1 q2
    go_wp2
    go_ret
    exact ⟨_, rfl, ⟨none, 0, 0, rfl, matsR_nil _ _ _ _, by omega⟩, E0.out.trans h1⟩
  have H0 := Lib.hid h0
  rcases hq : inB q 0 30 with _ | _
  · simp only [zemM, h0, hq, Bool.and_false, Bool.false_eq_true, if_false] at hM
    subst hM
    have HQ := Lib.hid hq
    clear h0 hq
    go_enter Try.func33, Try.ntmps33
    go_wp2_with fail
    refine (algebraOk_spec (HT.out.ext E0.out) hm0 H0.out).mono ?_
    rintro e w1 ⟨rfl, h1⟩
    clear lA q0 q1 q2
    go_wp2_with fail
    refine (l1In_spec _ _ _ _).mono ?_
    rintro e w2 ⟨rfl, rfl⟩
    rw [HQ.out]
    go_wp2
    go_ret
    exact ⟨_, rfl, ⟨none, 0, 0, rfl, matsR_nil _ _ _ _, by omega⟩, E0.out.trans h1⟩
  simp only [zemM, h0, hq, Bool.and_self, if_true] at hM
  have hqb := inB_iff.1 hq
  obtain ⟨Q, rfl⟩ := Int.eq_ofNat_of_zero_le hqb.1
  obtain ⟨D, rfl, hA⟩ := algB_parts h0 HT.out.1
  have hQ : Q ≤ 30 := by omega
  have hD := hA.dim
  simp only [Int.toNat_natCast] at hM
  subst hM
  have HQ := Lib.hid hq
  have e1 : (Q : Int) * (Q : Int) = ((Q * Q : Nat) : Int) := by simp
  have h27 : Q * Q ≤ 900 := Nat.mul_le_mul hQ hQ
  have g0 : 0 ≤ (Q : Int) * (Q : Int) := by rw [e1]; omega
  have g1 : (Q : Int) * (Q : Int) ≤ 1048576 := by rw [e1]; omega
  have E1 : Hid (((Q : Int) * (Q : Int)).toNat = Q * Q) := by rw [Hid, e1, Int.toNat_natCast]
  have HFL : Hid (∀ i : Nat, (List.replicate (Q * Q) (0 : Int)).length = Q * Q) := fun _ => by simp
  clear h0 hq hqb hA e1
  go_enter Try.func33, Try.ntmps33
  go_wp2_with fail
  refine (algebraOk_spec (HT.out.ext E0.out) hm0 H0.out).mono ?_
  rintro e w1 ⟨rfl, h1⟩
  have A1 := Lib.hid (A0.out.ext h1)
  have EE := Lib.hid (E0.out.trans h1)
  clear lA q0 q1 q2 h1
  go_wp2_with fail
  refine (l1In_spec _ _ _ _).mono ?_
  rintro e w2 ⟨rfl, rfl⟩
  rw [HQ.out]
  go_wp2_with fail
  go_loopw [6, 5] (fun z v wr => ∃ (i cv T : Nat) (va : Option Addr), i ≤ D ∧ z = .int .i64 i ∧ v = .slice va i cv ∧ Hid (MatS wr w1.heap.size T (.slice va i cv) P Q (sqF Q (fun _ => List.replicate (Q * Q) 0)) i) ∧ Hid (T ≤ wr.heap.size) ∧ Hid (Ext w1 wr)) (fun z _ _ => D - (intOf z).toNat)
  case atStart => exact ⟨0, 0, _, _, by omega, rfl, rfl, matS_nil _ w1.heap.size 0 (Nat.le_refl _) P Q (sqF Q (fun _ => List.replicate (Q * Q) 0)), Nat.zero_le _, (Ext.refl _).alloc _⟩
  case round =>
    obtain ⟨i, cv, T, va, hi, rfl, rfl, hMS, hTw, hE⟩ := hrel
    have lA := (A1.out.ext hE.out).1
    have q0 := (A1.out.ext hE.out).2 0 _ rfl
    have q1 := (A1.out.ext hE.out).2 1 _ rfl
    by_cases hlt : i < D
    · have hltI : (i : Int) < (D : Int) := by omega
      go_wp2_with fail
      refine (l1Zero_spec _ _ _ _ g0 g1).mono ?_
      rintro e w2 ⟨b, rfl, hb1, hb2, hh, h2⟩
      rw [E1.out] at hh ⊢
      have HH := Lib.hid hh
      have X2 := Lib.hid h2
      clear hh h2 lA q0 q1
      have HROW : Hid (Own w2 w1.heap.size w2.heap.size (some ⟨b, 0, none⟩) (Q * Q) ((fun _ => List.replicate (Q * Q) 0) i)) := HH.out.own (by have := hE.out.le; omega) HH.out.lt (HFL.out i)
      have HM2 := Lib.hid (hMS.out.ext X2.out)
      have hbT : T ≤ b := by have := hTw.out; omega
      have hbW : w1.heap.size ≤ w2.heap.size := by have := hE.out.le; have := X2.out.le; omega
      have HE2 := Lib.hid (hE.out.trans X2.out)
      have HVB := Lib.hid (HM2.out.blk)
      clear hMS hTw hE X2 HH
      go_wp2_with (at_builtin; refine wpList_appendMatS rfl (.tmp 22) (.tmp 28) rfl w1.heap.size T (.slice va i cv) P Q i (sqF Q (fun _ => List.replicate (Q * Q) 0)) b (Q * Q) 1 w2.heap.size rfl rfl rfl HM2.out HROW.out hbT (by omega) hbW ?_; intro v5 w5 hM5 hg5 hat5; obtain ⟨a5, c5, hv5, _⟩ := hM5.shape; subst hv5; have HM5 := Lib.hid hM5; have HG5 := Lib.hid hg5; clear hM5 hg5 hat5)
      have HE5 := Lib.hid (HE2.out.grown HG5.out (fun z hz => (HVB.out z hz).1))
      exact ⟨⟨i + 1, c5, _, a5, by omega, by simp, rfl, HM5, HG5.out.size, HE5⟩, by simp [intOf]; omega⟩
    · obtain rfl : i = D := by omega
      go_wp2
      go_ret
      exact ⟨_, rfl, (hMS.out.toL (w0 := w) EE.out.le hTw.out (by omega) (by omega) HFL.out), EE.out.trans hE.out⟩
end Go.Proofs.Ytnikfalpjieibaa
