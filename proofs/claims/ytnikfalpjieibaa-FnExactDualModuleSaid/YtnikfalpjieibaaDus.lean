/-
  Lists of matrices: DualModule by the specification.
-/
import Derived.Test.YtnikfalpjieibaaDui
import Derived.Test.YtnikfalpjieibaaMs2
namespace Go.Proofs.Ytnikfalpjieibaa
open Go.ChangeShapes Go.WideShapes Go.ChangeAt Go.RowKit
set_option linter.unusedVariables false
set_option linter.unusedSimpArgs false

set_option maxRecDepth 100000 in
set_option maxHeartbeats 3200000 in
theorem dualModule_spec {P D : Int} {a0 oa n g k : Nat} {l : List Int} {ms : List Mat} {w : World} {d : List Mat} (hT : Reads w (some ⟨a0, oa, none⟩) n l) (hm0 : n ≤ 1048576) (hm : MatsI w g k ms) (hk : k ≤ 1048576) (hM : dumM P D l ms = d) :
    Calls Try.prog 35 #[.agg #[.int .i64 P, .int .i64 D, .slice (some ⟨a0, oa, none⟩) n n], .slice (some ⟨g, 0, none⟩) k k] w fun e w' => ∃ v, e = .returned v ∧ Rmats w w' v d ∧ Ext w w' := by
  have HT := Lib.hid hT
  have HMM := Lib.hid hm
  have A0 := Lib.hid (cells_new w #[.int .i64 P, .int .i64 D, .slice (some ⟨a0, oa, none⟩) n n] 29)
  have E0 := Lib.hid ((Ext.refl w).alloc (.cells #[.int .i64 P, .int .i64 D, .slice (some ⟨a0, oa, none⟩) n n] 29))
  have lA := A0.out.1
  have q0 := A0.out.2 0 _ rfl
  have q1 := A0.out.2 1 _ rfl
  have q2 := A0.out.2 2 _ rfl
  clear hT hm
  rcases h0 : modB P D l ms with _ | _
  · simp only [dumM, h0, Bool.false_eq_true, if_false] at hM
    subst hM
    have H0 := Lib.hid h0
    clear h0
    go_enter Try.func35, Try.ntmps35
    go_wp2_with fail
    refine (isModule_spec (HT.out.ext E0.out) hm0 (HMM.out.ext E0.out) hk H0.out).mono ?_
    rintro e w1 ⟨rfl, h1⟩
    clear lA q0 q1 q2
    go_wp2
    go_ret
    exact ⟨_, rfl, ⟨none, 0, 0, rfl, matsR_nil _ _ _ _, by omega⟩, E0.out.trans h1⟩
  have H0 := Lib.hid h0
  obtain ⟨d', S, rfl, _, hP⟩ := mod_parts h0 HT.out.1
  simp only [dumM, h0, if_true, hP.szM, Int.toNat_natCast] at hM
  subst hM
  have HP := Lib.hid hP
  have HKD : Hid (k = d') := by rw [Hid, ← hm_len HMM.out, hP.cnt]
  have hp := isP_lo hP.alg.pr
  have hp2 := isP_hi hP.alg.pr
  have hD := hP.alg.dim
  have hS := hP.sz
  have hSS : S * S ≤ 900 := Nat.mul_le_mul hS hS
  have HFL : Hid (∀ i : Nat, (duF P S ms i).length = S * S) := duF_length
  clear h0 hP
  go_enter Try.func35, Try.ntmps35
  go_wp2_with fail
  refine (isModule_spec (HT.out.ext E0.out) hm0 (HMM.out.ext E0.out) hk H0.out).mono ?_
  rintro e w1 ⟨rfl, h1⟩
  have A1 := Lib.hid (A0.out.ext h1)
  have EE := Lib.hid (E0.out.trans h1)
  clear lA q0 q1 q2 h1
  go_wp2_with fail
  go_loopw [6, 5] (fun z v wr => ∃ (i cv T : Nat) (va : Option Addr), i ≤ d' ∧ z = .int .i64 i ∧ v = .slice va i cv ∧ Hid (MatS wr w1.heap.size T (.slice va i cv) P S (sqF S (duF P S ms)) i) ∧ Hid (T ≤ wr.heap.size) ∧ Hid (Ext w1 wr)) (fun z _ _ => d' - (intOf z).toNat)
  case atStart => exact ⟨0, 0, _, _, by omega, rfl, rfl, matS_nil _ w1.heap.size 0 (Nat.le_refl _) P S (sqF S (duF P S ms)), Nat.zero_le _, (Ext.refl _).alloc _⟩
  case round =>
    obtain ⟨i, cv, T, va, hi, rfl, rfl, hMS, hTw, hE⟩ := hrel
    have lA := (A1.out.ext hE.out).1
    have q0 := (A1.out.ext hE.out).2 0 _ rfl
    have q1 := (A1.out.ext hE.out).2 1 _ rfl
    by_cases hlt : i < d'
    · have hltI : (i : Int) < (d' : Int) := by omega
      have HMw := HMM.out.ext (EE.out.trans hE.out)
      have lG := HMw.lt
      have hik : i < k := by have := HKD.out; omega
      have hikI : (i : Int) < (k : Int) := by omega
      obtain ⟨bj, c0, c1, c2, c3, hrd⟩ := HMw.cells hik (HP.out.at_ i hlt) (HP.out.len hlt)
      have HRD := Lib.hid hrd
      clear HMw hrd
      go_wp2_with fail
      refine (l1Transpose_spec P S S (some ⟨bj, 0, none⟩) (S * S) (S * S) (mt ms i).d _ HRD.out rfl (by omega) (by omega)).mono ?_
      rintro e w3 ⟨b3, rfl, hb3, hb3b, k3, h3⟩
      clear lG c0 c1 c2 c3 lA q0 q1
      have K3 := Lib.hid k3
      clear k3
      go_wp2_with fail
      refine (l1Scale_spec P S S (-1) ⟨b3, 0, none⟩ (S * S) (S * S) (transTo (mt ms i).d S S S) _ (K3.out.reads (transTo_length _ _ _ _)) (by omega) hp hp2 (transTo_res hp (HP.out.res hlt) S)).mono ?_
      rintro e w2 ⟨b, c, rfl, hb1, hb2, hh, h2⟩
      have HH : Hid (Has w2 b (duF P S ms i)) := hh
      have X2 := Lib.hid (h3.trans h2)
      have hbb : wr.heap.size ≤ b := Nat.le_trans h3.le hb1
      clear hh h2 h3
      have HROW : Hid (Own w2 w1.heap.size w2.heap.size (some ⟨b, 0, none⟩) (S * S) ((duF P S ms) i)) := HH.out.own (by have := hE.out.le; omega) HH.out.lt (HFL.out i)
      have HM2 := Lib.hid (hMS.out.ext X2.out)
      have hbT : T ≤ b := by have := hTw.out; omega
      have hbW : w1.heap.size ≤ w2.heap.size := by have := hE.out.le; have := X2.out.le; omega
      have HE2 := Lib.hid (hE.out.trans X2.out)
      have HVB := Lib.hid (HM2.out.blk)
      clear hMS hTw hE X2 HH
      go_wp2_with (at_builtin; refine wpList_appendMatS rfl (.tmp 18) (.tmp 25) rfl w1.heap.size T (.slice va i cv) P S i (sqF S (duF P S ms)) b c 1 w2.heap.size rfl rfl rfl HM2.out HROW.out hbT (by omega) hbW ?_; intro v5 w5 hM5 hg5 hat5; obtain ⟨a5, c5, hv5, _⟩ := hM5.shape; subst hv5; have HM5 := Lib.hid hM5; have HG5 := Lib.hid hg5; clear hM5 hg5 hat5)
      have HE5 := Lib.hid (HE2.out.grown HG5.out (fun z hz => (HVB.out z hz).1))
      exact ⟨⟨i + 1, c5, _, a5, by omega, by simp, rfl, HM5, HG5.out.size, HE5⟩, by simp [intOf]; omega⟩
    · obtain rfl : i = d' := by omega
      go_wp2
      go_ret
      exact ⟨_, rfl, (hMS.out.toL (w0 := w) EE.out.le hTw.out (by omega) (by omega) HFL.out), EE.out.trans hE.out⟩
end Go.Proofs.Ytnikfalpjieibaa
