/-
  Lists of matrices: AdjointModule in the program.
-/
import Derived.Test.YtnikfalpjieibaaFac
import Derived.Test.YtnikfalpjieibaaAlgOk2
namespace Go.Proofs.Ytnikfalpjieibaa
open Go.ChangeShapes Go.WideShapes Go.ChangeAt Go.RowKit
set_option linter.unusedVariables false
set_option linter.unusedSimpArgs false

/-- The brackets of the basis element i with all others, as a matrix. -/
def adF (D : Nat) (l : List Int) (i : Nat) : List Int := (List.range (D * D)).map fun q => gi l (i * (D * D) + q)
theorem adF_length {D : Nat} {l : List Int} (i : Nat) : (adF D l i).length = D * D := by simp [adF]
theorem adF_row {D n : Nat} {l : List Int} (hn : l.length = D * (D * D)) {i : Nat} (hi : i < D) : rowL (D * D) l i = adF D l i := by
  have hl : (rowL (D * D) l i).length = D * D := rowL_length hn hi
  refine ext_gi (by rw [hl, adF_length]) (fun q hq => ?_)
  rw [hl] at hq
  rw [adF, gi_map _ _ hq, gi_rowL hq]
  rfl
/-- The model. -/
noncomputable def admM (P D : Int) (l : List Int) : List Mat := if algB P D l then sqM P D.toNat (adF D.toNat l) D.toNat else []
set_option maxRecDepth 100000 in
set_option maxHeartbeats 3200000 in
theorem adjointModule_impl {P D : Int} {a0 oa n : Nat} {l : List Int} {w : World} {d : List Mat} (hT : Reads w (some ⟨a0, oa, none⟩) n l) (hm0 : n ≤ 1048576) (hM : admM P D l = d) :
    Calls Try.prog 31 #[.agg #[.int .i64 P, .int .i64 D, .slice (some ⟨a0, oa, none⟩) n n]] w fun e w' => ∃ v, e = .returned v ∧ Rmats w w' v d ∧ Ext w w' := by
  have HT := Lib.hid hT
  have A0 := Lib.hid (cells_new w #[.int .i64 P, .int .i64 D, .slice (some ⟨a0, oa, none⟩) n n] 29)
  have E0 := Lib.hid ((Ext.refl w).alloc (.cells #[.int .i64 P, .int .i64 D, .slice (some ⟨a0, oa, none⟩) n n] 29))
  have lA := A0.out.1
  have q0 := A0.out.2 0 _ rfl
  have q1 := A0.out.2 1 _ rfl
  have q2 := A0.out.2 2 _ rfl
  have HW := Lib.hid (wrap_impl P D a0 oa n n l _ (HT.out.ext E0.out) hm0 (Nat.le_refl _) (by unfold maxLen; omega))
  clear hT
  rcases h0 : algB P D l with _ | _
  · simp only [admM, h0, Bool.false_eq_true, if_false] at hM
    subst hM
    have H0 := Lib.hid h0
    clear h0
    go_enter Try.func31, Try.ntmps31
    go_wp2_with fail
    refine HW.out.mono ?_
    rintro e w1 ⟨BL, rfl, hb, hlo, h1⟩
    rw [H0.out]
    clear lA q0 q1 q2 hb hlo
    go_wp2
    go_ret
    exact ⟨_, rfl, ⟨none, 0, 0, rfl, matsR_nil _ _ _ _, by omega⟩, (E0.out.trans h1).alloc _⟩
  have H0 := Lib.hid h0
  simp only [admM, h0, if_true] at hM
  obtain ⟨D, rfl, hA⟩ := algB_parts h0 HT.out.1
  have hD := hA.dim
  have HN := Lib.hid hA.len
  have HLL : Hid (l.length = D * (D * D)) := by rw [Hid, HT.out.1, hA.len, Nat.mul_assoc]
  simp only [Int.toNat_natCast] at hM
  subst hM
  clear h0 hA
  go_enter Try.func31, Try.ntmps31
  go_wp2_with fail
  refine HW.out.mono ?_
  rintro e w1 ⟨BL, rfl, hb, hlo, h1⟩
  rw [H0.out]
  have HB := Lib.hid hb
  have E1 := Lib.hid (E0.out.trans h1)
  clear lA q0 q1 q2 hb hlo h1
  go_wp2_with fail
  have FC := Lib.hid (cells_new w1 #[.pointer (some ⟨BL, 0, none⟩)] 72)
  have E2 := Lib.hid ((Ext.refl w1).alloc (.cells #[.pointer (some ⟨BL, 0, none⟩)] 72))
  refine (forElements_B P P D D BL w1.heap.size _ (adF D l) _ (HB.out.ext E2.out) hD (by omega) adF_length (fun i w5 hi h5 => by
    rw [← adF_row (n := n) HLL.out hi]
    exact adjointModule_clo P D BL w1.heap.size a0 oa n i l w5 (FC.out.ext h5) ((HB.out.ext E2.out).ext h5) (HT.out.ext ((E1.out.trans E2.out).trans h5)) hD HN.out hi)).mono ?_
  rintro e w6 ⟨v, rfl, ⟨ra, rn, rc, rfl, hR, hrn⟩, h6⟩
  have HR := Lib.hid hR
  clear hR
  go_wp2
  go_ret
  exact ⟨_, rfl, ⟨ra, rn, rc, rfl, HR.out.lower (E1.out.trans E2.out).le, hrn⟩, (E1.out.trans E2.out).trans h6⟩
end Go.Proofs.Ytnikfalpjieibaa
