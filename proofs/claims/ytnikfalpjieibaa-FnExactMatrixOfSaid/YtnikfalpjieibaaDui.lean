/-
  Lists of matrices: DualModule in the program.
-/
import Derived.Test.YtnikfalpjieibaaFdc
import Derived.Test.YtnikfalpjieibaaMd4
namespace Go.Proofs.Ytnikfalpjieibaa
open Go.ChangeShapes Go.WideShapes Go.ChangeAt Go.RowKit
set_option linter.unusedVariables false
set_option linter.unusedSimpArgs false

theorem hm_len {w : World} {g k : Nat} {ms : List Mat} (h : MatsI w g k ms) : ms.length = k := h.1
/-- The matrices on the dual. -/
def duF (P : Int) (S : Nat) (ms : List Mat) (i : Nat) : List Int := scaleL P ((-1) % P) (transTo (mt ms i).d S S S)
theorem duF_length {P : Int} {S : Nat} {ms : List Mat} (i : Nat) : (duF P S ms i).length = S * S := by rw [duF, scaleL_length, transTo_length]
/-- The size of the matrices. -/
def szM (ms : List Mat) : Nat := (mt ms 0).r.toNat
theorem ModP.szM {P : Int} {D S n : Nat} {l : List Int} {ms : List Mat} (h : ModP P D S n l ms) : szM ms = S := by
  rw [Go.Proofs.Ytnikfalpjieibaa.szM, h.at_ 0 h.pos]; simp
/-- The model. -/
noncomputable def dumM (P D : Int) (l : List Int) (ms : List Mat) : List Mat := if modB P D l ms then sqM P (szM ms) (duF P (szM ms) ms) D.toNat else []
set_option maxRecDepth 100000 in
set_option maxHeartbeats 3200000 in
theorem dualModule_impl {P D : Int} {a0 oa n g k : Nat} {l : List Int} {ms : List Mat} {w : World} {d : List Mat} (hT : Reads w (some ⟨a0, oa, none⟩) n l) (hm0 : n ≤ 1048576) (hm : MatsI w g k ms) (hk : k ≤ 1048576) (hM : dumM P D l ms = d) :
    Calls Try.prog 36 #[.agg #[.int .i64 P, .int .i64 D, .slice (some ⟨a0, oa, none⟩) n n], .slice (some ⟨g, 0, none⟩) k k] w fun e w' => ∃ v, e = .returned v ∧ Rmats w w' v d ∧ Ext w w' := by
  have HT := Lib.hid hT
  have HMM := Lib.hid hm
  have A0 := Lib.hid ((cells_new w #[.int .i64 P, .int .i64 D, .slice (some ⟨a0, oa, none⟩) n n] 29).ext ((Ext.refl _).alloc (.cells #[.slice (some ⟨g, 0, none⟩) k k] 31)))
  have N0 := Lib.hid (cells_new' (w.alloc (.cells #[.int .i64 P, .int .i64 D, .slice (some ⟨a0, oa, none⟩) n n] 29)) #[.slice (some ⟨g, 0, none⟩) k k] 31 (w.heap.size + 1) (by simp))
  have E0 := Lib.hid (((Ext.refl w).alloc (.cells #[.int .i64 P, .int .i64 D, .slice (some ⟨a0, oa, none⟩) n n] 29)).alloc (.cells #[.slice (some ⟨g, 0, none⟩) k k] 31))
  have lA := A0.out.1
  have q0 := A0.out.2 0 _ rfl
  have q1 := A0.out.2 1 _ rfl
  have q2 := A0.out.2 2 _ rfl
  have lN := N0.out.1
  have x0 := N0.out.2 0 _ rfl
  have HW := Lib.hid (wrapModule_impl P D a0 oa n g k l ms _ (HT.out.ext E0.out) hm0 (HMM.out.ext E0.out) hk)
  clear hT hm
  go_enter Try.func36, Try.ntmps36
  go_wp2_with fail
  refine HW.out.mono ?_
  rintro e w1 (⟨hf, ⟨v, rfl⟩, h1⟩ | ⟨hf, d', S, BM, BL, rfl, hP, rfl, hb, hbl, hlo, h1⟩)
  · simp only [dumM, hf, Bool.false_eq_true, if_false] at hM
    subst hM
    clear lA q0 q1 q2 lN x0 hf
    go_wp2
    go_ret
    exact ⟨_, rfl, ⟨none, 0, 0, rfl, matsR_nil _ _ _ _, by omega⟩, E0.out.trans h1⟩
  · simp only [dumM, hf, if_true, hP.szM, Int.toNat_natCast] at hM
    subst hM
    have HP := Lib.hid hP
    have HKD : Hid (k = d') := by rw [Hid, ← hm_len HMM.out, hP.cnt]
    have HB := Lib.hid hb
    have HBL := Lib.hid hbl
    have N1 := Lib.hid (N0.out.ext h1)
    have E1 := Lib.hid (E0.out.trans h1)
    clear hf lA q0 q1 q2 lN x0 hP hb hbl hlo h1
    have lB := HB.out.1
    have y0 := HB.out.2 0 _ rfl
    go_wp2_with fail
    refine (forElements_C P P S d' BL (w.heap.size + 1) _ (duF P S ms) _ HBL.out HP.out.alg.dim (by have := HP.out.sz; omega) duF_length (fun i w5 hi h5 => dualModule_clo P S k (w.heap.size + 1) g i ms w5 (N1.out.ext h5) (HMM.out.ext (E1.out.trans h5)) HP.out.sz (by have := HKD.out; omega) (HP.out.at_ i hi) (HP.out.len hi) (HP.out.mok i hi))).mono ?_
    rintro e w6 ⟨v, rfl, ⟨ra, rn, rc, rfl, hR, hrn⟩, h6⟩
    have HR := Lib.hid hR
    clear hR lB y0
    go_wp2
    go_ret
    exact ⟨_, rfl, ⟨ra, rn, rc, rfl, HR.out.lower E1.out.le, hrn⟩, E1.out.trans h6⟩
end Go.Proofs.Ytnikfalpjieibaa
