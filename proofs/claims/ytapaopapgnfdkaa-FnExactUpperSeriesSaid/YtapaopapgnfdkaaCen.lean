/-
  Centralizers, normalizers, centres: both texts.
-/
import Derived.Test.YtapaopapgnfdkaaInT
import Derived.Test.YtapaopapgnfdkaaInI
import Derived.Test.YtapaopapgnfdkaaHs
import Derived.Test.YtapaopapgnfdkaaBr
namespace Go.Proofs.Ytapaopapgnfdkaa
open Go.ChangeShapes Go.WideShapes Go.ChangeAt Go.RowKit
set_option linter.unusedVariables false
set_option linter.unusedSimpArgs false

theorem keptB_set4 {w w1 : World} {b : Nat} (h : w.grownBy w1 (some b) ∧ ∀ B o, B ≠ b → B < w.heap.size → w1.cell? ⟨B, o, none⟩ = w.cell? ⟨B, o, none⟩) (v0 v1 v2 v3 : Value) :
    w.grownBy ((((w1.setCell ⟨b, 0, none⟩ v0).setCell ⟨b, 1, none⟩ v1).setCell ⟨b, 2, none⟩ v2).setCell ⟨b, 3, none⟩ v3) (some b) ∧ ∀ B o, B ≠ b → B < w.heap.size → ((((w1.setCell ⟨b, 0, none⟩ v0).setCell ⟨b, 1, none⟩ v1).setCell ⟨b, 2, none⟩ v2).setCell ⟨b, 3, none⟩ v3).cell? ⟨B, o, none⟩ = w.cell? ⟨B, o, none⟩ :=
  keptB_set (keptB_set (keptB_set (keptB_set h 0 v0) 1 v1) 2 v2) 3 v3
theorem spaceM_nil {P : Int} {D : Nat} (hp : isP P = true) (hD : D ≤ 28) : spaceM P ((0 : Nat) : Int) D [] = true := by
  have h1 : mok P ((0 : Nat) : Int) D [] = true := mok_iff.2 ⟨hp, inB_iff.2 ⟨by omega, by omega⟩, inB_iff.2 ⟨by omega, by omega⟩, by simp, by simp [resB, Res]⟩
  have h2 : IsSp P 0 D [] := by
    have h3 := (redTo_pv (P := P) (R := 0) (C := D) (xs := []) D).2.1
    have h4 : (redM P 0 D []).pv.length = 0 := by have : (redM P 0 D []).pv.length ≤ 0 := h3; omega
    exact ⟨h4, by rw [spanL, h4]; simp⟩
  simp only [spaceM, h1, Bool.true_and, spB, Int.toNat_natCast, decide_eq_true_eq]
  exact h2
noncomputable def intN (P : Int) (D R : Nat) (l ss : List Int) (k : Nat) (us : List Int) : Nat := kerN P (R * D) D (eqI P D l ss us (redM P k D us).pv R)
noncomputable def intS (P : Int) (D R : Nat) (l ss : List Int) (k : Nat) (us : List Int) : List Int := kerS P (R * D) D (eqI P D l ss us (redM P k D us).pv R)
noncomputable def cenM (P D : Int) (l : List Int) (P1 R1 C1 : Int) (ss : List Int) : Mat × Bool :=
  if algB P D l && hsB P D P1 R1 C1 ss then (⟨P, (intN P D.toNat R1.toNat l ss 0 [] : Nat), D, intS P D.toNat R1.toNat l ss 0 []⟩, true) else (noMat, false)
noncomputable def norM (P D : Int) (l : List Int) (P1 R1 C1 : Int) (ss : List Int) : Mat × Bool :=
  if algB P D l && hsB P D P1 R1 C1 ss then (⟨P, (intN P D.toNat R1.toNat l ss R1.toNat ss : Nat), D, intS P D.toNat R1.toNat l ss R1.toNat ss⟩, true) else (noMat, false)
noncomputable def ctrM (P D : Int) (l : List Int) : Mat :=
  if algB P D l then ⟨P, (intN P D.toNat D.toNat l (unitTo D.toNat D.toNat) 0 [] : Nat), D, intS P D.toNat D.toNat l (unitTo D.toNat D.toNat) 0 []⟩ else noMat
theorem zeros_none (P : Int) (D : Nat) (w : World) :
    Calls Try.prog 66 #[.int .i64 P, .int .i64 0, .int .i64 D] w fun e w' => ∃ b, e = .returned (.agg #[.int .i64 P, .int .i64 0, .int .i64 D, .slice (some ⟨b, 0, none⟩) 0 0]) ∧ w.heap.size ≤ b ∧ b < w'.heap.size ∧ Has w' b [] ∧ Ext w w' := by
  have h := zeros_impl P 0 D w (by simp) (by simp)
  have e : ((0 : Int) * (D : Int)).toNat = 0 := by simp
  rw [e] at h
  exact h

set_option maxRecDepth 100000 in
set_option maxHeartbeats 800000 in
theorem l2None_spec (P : Int) (D a0 oa n d : Nat) (w : World) :
    Calls Try.prog 62 #[.agg #[.int .i64 P, .int .i64 D, .slice (some ⟨a0, oa, none⟩) n d]] w fun e w' => ∃ b, e = .returned (.agg #[.int .i64 P, .int .i64 0, .int .i64 D, .slice (some ⟨b, 0, none⟩) 0 0]) ∧ w.heap.size ≤ b ∧ b < w'.heap.size ∧ Has w' b [] ∧ Ext w w' := by
  have HZ : Hid (∀ w1, Calls Try.prog 140 #[.int .i64 P, .int .i64 0, .int .i64 D] w1 fun e w' => ∃ b, e = .returned (.agg #[.int .i64 P, .int .i64 0, .int .i64 D, .slice (some ⟨b, 0, none⟩) 0 0]) ∧ w1.heap.size ≤ b ∧ b < w'.heap.size ∧ Has w' b [] ∧ Ext w1 w') := fun w1 => by
    have h := l1Zero_spec P 0 D w1 (by simp) (by simp)
    have e : ((0 : Int) * (D : Int)).toNat = 0 := by simp
    rw [e] at h
    exact h
  go_enter Try.func62, Try.ntmps62
  have A0_1 := Lib.hid ((cells_new' w #[.int .i64 P, .int .i64 D, .slice (some ⟨a0, oa, none⟩) n d] 28 (w.heap.size) (by simp)).ext ((Ext.refl _).alloc (.cells #[.int .i64 0, .int .i64 0, .int .i64 0, .slice none 0 0] 40)))
  have R_2 := Lib.hid (cells_new' (w.alloc (.cells #[.int .i64 P, .int .i64 D, .slice (some ⟨a0, oa, none⟩) n d] 28)) #[.int .i64 0, .int .i64 0, .int .i64 0, .slice none 0 0] 40 (w.heap.size + 1) (by simp))
  have E_3 := Lib.hid (((Ext.refl w).alloc (.cells #[.int .i64 P, .int .i64 D, .slice (some ⟨a0, oa, none⟩) n d] 28)).alloc (.cells #[.int .i64 0, .int .i64 0, .int .i64 0, .slice none 0 0] 40))
  have lA0 := A0_1.out.1
  have qA00 := A0_1.out.2 0 _ rfl
  have qA01 := A0_1.out.2 1 _ rfl
  have qA02 := A0_1.out.2 2 _ rfl
  try simp only [World.size_alloc] at lA0
  go_wp2_with fail
  refine (HZ.out _).mono ?_
  rintro e w_4 ⟨b, rfl, hb1, hb2, hh, h_4⟩
  clear lA0 qA00 qA01 qA02
  simp only [World.size_alloc] at hb1
  have HH := Lib.hid hh
  clear hh
  have hlr := R_2.out.1
  have A0_5 := Lib.hid (A0_1.out.ext h_4)
  clear A0_1
  have R_6 := Lib.hid (R_2.out.ext h_4)
  clear R_2
  have E_7 := Lib.hid (E_3.out.trans h_4)
  clear E_3
  have r0 := R_6.out.2 0 _ rfl
  have r1 := R_6.out.2 1 _ rfl
  have r2 := R_6.out.2 2 _ rfl
  have r3 := R_6.out.2 3 _ rfl
  have tR := R_6.out.3
  have lR := R_6.out.1
  go_wp2
  refine bodyPost_ret (v := .agg #[.int .i64 P, .int .i64 0, .int .i64 D, .slice (some ⟨b, 0, none⟩) 0 0]) (by simp [results, Try.results62, go_sem, r0, r1, r2, r3]) rfl ⟨b, rfl, by omega, ?_, ?_, ?_⟩
  · simpa using hb2
  · repeat with_reducible (first | exact HH.out | refine Has.setOther ?_ (by simp <;> omega) _)
  · exact ext4 E_7.out (by omega) _ _ _ _

end Go.Proofs.Ytapaopapgnfdkaa
