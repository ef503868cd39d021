/-
  Centralizers, normalizers, centres: both texts.
-/
import Derived.Test.YtgmipolgnpjmnaaInT
import Derived.Test.YtgmipolgnpjmnaaInI
import Derived.Test.YtgmipolgnpjmnaaHs
import Derived.Test.YtgmipolgnpjmnaaBr
namespace Go.Proofs.Ytgmipolgnpjmnaa
open Go.ChangeShapes Go.WideShapes Go.ChangeAt Go.RowKit
set_option linter.unusedVariables false
set_option linter.unusedSimpArgs false

theorem keptB_set4 {w w1 : World} {b : Nat} (h : w.grownBy w1 (some b) ∧ ∀ B o, B ≠ b → B < w.heap.size → w1.cell? ⟨B, o, none⟩ = w.cell? ⟨B, o, none⟩) (v0 v1 v2 v3 : Value) :
    w.grownBy ((((w1.setCell ⟨b, 0, none⟩ v0).setCell ⟨b, 1, none⟩ v1).setCell ⟨b, 2, none⟩ v2).setCell ⟨b, 3, none⟩ v3) (some b) ∧ ∀ B o, B ≠ b → B < w.heap.size → ((((w1.setCell ⟨b, 0, none⟩ v0).setCell ⟨b, 1, none⟩ v1).setCell ⟨b, 2, none⟩ v2).setCell ⟨b, 3, none⟩ v3).cell? ⟨B, o, none⟩ = w.cell? ⟨B, o, none⟩ :=
  keptB_set (keptB_set (keptB_set (keptB_set h 0 v0) 1 v1) 2 v2) 3 v3
theorem spaceM_nil {P : Int} {D : Nat} (hp : isP P = true) (hD : D ≤ 28) : spaceM P ((0 : Nat) : Int) D [] = true := by
  have h1 : mok P ((0 : Nat) : Int) D [] = true := mok_iff.2 ⟨hp, inB_iff.2 ⟨by omega, by omega⟩, inB_iff.2 ⟨by omega, by omega⟩, by simp, by simp [resB, Res]⟩
  have h2 : IsSp P 0 D [] := by
    have h3 := (redTo_pv (P := P) (R := 0) (C := D) (xs := []) D).2.1
    have h4 : (redM P 0 D []).pv.length = 0 := by have : (redM P 0 D []).pv.length ≤ 0 := h3; omega
    exact ⟨h4, by rw [spanL, h4]; simp⟩
  simp only [spaceM, h1, Bool.true_and, spB, Int.toNat_natCast, decide_eq_true_eq]
  exact h2
noncomputable def intN (P : Int) (D R : Nat) (l ss : List Int) (k : Nat) (us : List Int) : Nat := kerN P (R * D) D (eqI P D l ss us (redM P k D us).pv R)
noncomputable def intS (P : Int) (D R : Nat) (l ss : List Int) (k : Nat) (us : List Int) : List Int := kerS P (R * D) D (eqI P D l ss us (redM P k D us).pv R)
noncomputable def cenM (P D : Int) (l : List Int) (P1 R1 C1 : Int) (ss : List Int) : Mat × Bool :=
  if algB P D l && hsB P D P1 R1 C1 ss then (⟨P, (intN P D.toNat R1.toNat l ss 0 [] : Nat), D, intS P D.toNat R1.toNat l ss 0 []⟩, true) else (noMat, false)
noncomputable def norM (P D : Int) (l : List Int) (P1 R1 C1 : Int) (ss : List Int) : Mat × Bool :=
  if algB P D l && hsB P D P1 R1 C1 ss then (⟨P, (intN P D.toNat R1.toNat l ss R1.toNat ss : Nat), D, intS P D.toNat R1.toNat l ss R1.toNat ss⟩, true) else (noMat, false)
noncomputable def ctrM (P D : Int) (l : List Int) : Mat :=
  if algB P D l then ⟨P, (intN P D.toNat D.toNat l (unitTo D.toNat D.toNat) 0 [] : Nat), D, intS P D.toNat D.toNat l (unitTo D.toNat D.toNat) 0 []⟩ else noMat
theorem zeros_none (P : Int) (D : Nat) (w : World) :
    Calls Try.prog 90 #[.int .i64 P, .int .i64 0, .int .i64 D] w fun e w' => ∃ b, e = .returned (.agg #[.int .i64 P, .int .i64 0, .int .i64 D, .slice (some ⟨b, 0, none⟩) 0 0]) ∧ w.heap.size ≤ b ∧ b < w'.heap.size ∧ Has w' b [] ∧ Ext w w' := by
  have h := zeros_impl P 0 D w (by simp) (by simp)
  have e : ((0 : Int) * (D : Int)).toNat = 0 := by simp
  rw [e] at h
  exact h

set_option maxRecDepth 100000 in
set_option maxHeartbeats 800000 in
theorem l2None_spec (P : Int) (D a0 oa n d : Nat) (w : World) :
    Calls Try.prog 88 #[.agg #[.int .i64 P, .int .i64 D, .slice (some ⟨a0, oa, none⟩) n d]] w fun e w' => ∃ b, e = .returned (.agg #[.int .i64 P, .int .i64 0, .int .i64 D, .slice (some ⟨b, 0, none⟩) 0 0]) ∧ w.heap.size ≤ b ∧ b < w'.heap.size ∧ Has w' b [] ∧ Ext w w' := by
  have HZ : Hid (∀ w1, Calls Try.prog 75 #[.int .i64 P, .int .i64 0, .int .i64 D] w1 fun e w' => ∃ b, e = .returned (.agg #[.int .i64 P, .int .i64 0, .int .i64 D, .slice (some ⟨b, 0, none⟩) 0 0]) ∧ w1.heap.size ≤ b ∧ b < w'.heap.size ∧ Has w' b [] ∧ Ext w1 w') := fun w1 => by
    have h := l1Zero_spec P 0 D w1 (by simp) (by simp)
    have e : ((0 : Int) * (D : Int)).toNat = 0 := by simp
    rw [e] at h
    exact h
  go_enter Try.func88, Try.ntmps88
  have A0_1 := Lib.hid ((cells_new' w #[.int .i64 P, .int .i64 D, .slice (some ⟨a0, oa, none⟩) n d] 26 (w.heap.size) (by simp)).ext ((Ext.refl _).alloc (.cells #[.int .i64 0, .int .i64 0, .int .i64 0, .slice none 0 0] 36)))
  have R_2 := Lib.hid (cells_new' (w.alloc (.cells #[.int .i64 P, .int .i64 D, .slice (some ⟨a0, oa, none⟩) n d] 26)) #[.int .i64 0, .int .i64 0, .int .i64 0, .slice none 0 0] 36 (w.heap.size + 1) (by simp))
  have E_3 := Lib.hid (((Ext.refl w).alloc (.cells #[.int .i64 P, .int .i64 D, .slice (some ⟨a0, oa, none⟩) n d] 26)).alloc (.cells #[.int .i64 0, .int .i64 0, .int .i64 0, .slice none 0 0] 36))
  have lA0 := A0_1.out.1
  have qA00 := A0_1.out.2 0 _ rfl
  have qA01 := A0_1.out.2 1 _ rfl
  have qA02 := A0_1.out.2 2 _ rfl
  try simp only [World.size_alloc] at lA0
  go_wp2_with fail
  refine (HZ.out _).mono ?_
  rintro e w_4 ⟨b, rfl, hb1, hb2, hh, h_4⟩
  clear lA0 qA00 qA01 qA02
  simp only [World.size_alloc] at hb1
  have HH := Lib.hid hh
  clear hh
  have hlr := R_2.out.1
  have A0_5 := Lib.hid (A0_1.out.ext h_4)
  clear A0_1
  have R_6 := Lib.hid (R_2.out.ext h_4)
  clear R_2
  have E_7 := Lib.hid (E_3.out.trans h_4)
  clear E_3
  have r0 := R_6.out.2 0 _ rfl
  have r1 := R_6.out.2 1 _ rfl
  have r2 := R_6.out.2 2 _ rfl
  have r3 := R_6.out.2 3 _ rfl
  have tR := R_6.out.3
  have lR := R_6.out.1
  go_wp2
  refine bodyPost_ret (v := .agg #[.int .i64 P, .int .i64 0, .int .i64 D, .slice (some ⟨b, 0, none⟩) 0 0]) (by simp [results, Try.results88, go_sem, r0, r1, r2, r3]) rfl ⟨b, rfl, by omega, ?_, ?_, ?_⟩
  · simpa using hb2
  · repeat with_reducible (first | exact HH.out | refine Has.setOther ?_ (by simp <;> omega) _)
  · exact ext4 E_7.out (by omega) _ _ _ _

set_option maxRecDepth 100000 in
set_option maxHeartbeats 6400000 in
theorem centralizerOf_impl {P D : Int} {a0 oa n : Nat} {l : List Int} {P1 R1 C1 : Int} {s0 so n1 : Nat} {ss : List Int} {w : World} {p r' c : Int} {d : List Int} {ok : Bool} (hT : Reads w (some ⟨a0, oa, none⟩) n l) (hm0 : n ≤ 1048576) (hS : Reads w (some ⟨s0, so, none⟩) n1 ss) (hm1 : n1 ≤ 1048576) (hM : cenM P D l P1 R1 C1 ss = (⟨p, r', c, d⟩, ok)) :
    Calls Try.prog 42 #[.agg #[.int .i64 P, .int .i64 D, .slice (some ⟨a0, oa, none⟩) n n], .agg #[.int .i64 P1, .int .i64 R1, .int .i64 C1, .slice (some ⟨s0, so, none⟩) n1 n1]] w fun e w' => ∃ v, e = .returned (.tuple #[v, .bool ok]) ∧ Rmat w w' v p r' c d ∧ Ext w w' := by
  have HT := Lib.hid hT
  have HS := Lib.hid hS
  rcases h0 : algB P D l with _ | _
  · simp only [cenM, h0, noMat, Bool.false_and, Bool.and_false, Bool.false_eq_true, if_false, Prod.mk.injEq, Mat.mk.injEq] at hM
    obtain ⟨⟨rfl, rfl, rfl, rfl⟩, rfl⟩ := hM
    have H0 := Lib.hid h0
    clear h0 hT hS
    go_enter Try.func42, Try.ntmps42
    have A0_1 := Lib.hid (((cells_new' w #[.int .i64 P, .int .i64 D, .slice (some ⟨a0, oa, none⟩) n n] 26 (w.heap.size) (by simp)).ext ((Ext.refl _).alloc (.cells #[.int .i64 P1, .int .i64 R1, .int .i64 C1, .slice (some ⟨s0, so, none⟩) n1 n1] 36))).ext ((Ext.refl _).alloc (.cells #[.int .i64 0, .int .i64 0, .int .i64 0, .slice none 0 0] 36)))
    have A1_2 := Lib.hid ((cells_new' (w.alloc (.cells #[.int .i64 P, .int .i64 D, .slice (some ⟨a0, oa, none⟩) n n] 26)) #[.int .i64 P1, .int .i64 R1, .int .i64 C1, .slice (some ⟨s0, so, none⟩) n1 n1] 36 (w.heap.size + 1) (by simp)).ext ((Ext.refl _).alloc (.cells #[.int .i64 0, .int .i64 0, .int .i64 0, .slice none 0 0] 36)))
    have R_3 := Lib.hid (cells_new' ((w.alloc (.cells #[.int .i64 P, .int .i64 D, .slice (some ⟨a0, oa, none⟩) n n] 26)).alloc (.cells #[.int .i64 P1, .int .i64 R1, .int .i64 C1, .slice (some ⟨s0, so, none⟩) n1 n1] 36)) #[.int .i64 0, .int .i64 0, .int .i64 0, .slice none 0 0] 36 (w.heap.size + 1 + 1) (by simp))
    have E_4 := Lib.hid ((((Ext.refl w).alloc (.cells #[.int .i64 P, .int .i64 D, .slice (some ⟨a0, oa, none⟩) n n] 26)).alloc (.cells #[.int .i64 P1, .int .i64 R1, .int .i64 C1, .slice (some ⟨s0, so, none⟩) n1 n1] 36)).alloc (.cells #[.int .i64 0, .int .i64 0, .int .i64 0, .slice none 0 0] 36))
    have lA0 := A0_1.out.1
    have qA00 := A0_1.out.2 0 _ rfl
    have qA01 := A0_1.out.2 1 _ rfl
    have qA02 := A0_1.out.2 2 _ rfl
    have lA1 := A1_2.out.1
    have qA10 := A1_2.out.2 0 _ rfl
    have qA11 := A1_2.out.2 1 _ rfl
    have qA12 := A1_2.out.2 2 _ rfl
    have qA13 := A1_2.out.2 3 _ rfl
    try simp only [World.size_alloc] at lA0 lA1
    go_wp2_with fail
    refine (wrap_impl P _ a0 oa n n l _ (HT.out.ext E_4.out) hm0 (Nat.le_refl _) (by unfold maxLen; omega)).mono ?_
    rintro e w_5 ⟨B, rfl, hb, hlo, h_5⟩
    clear lA0 qA00 qA01 qA02 lA1 qA10 qA11 qA12 qA13
    have A0_6 := Lib.hid (A0_1.out.ext h_5)
    clear A0_1
    have A1_7 := Lib.hid (A1_2.out.ext h_5)
    clear A1_2
    have R_8 := Lib.hid (R_3.out.ext h_5)
    clear R_3
    have E_9 := Lib.hid (E_4.out.trans h_5)
    clear E_4
    have B_10 := Lib.hid hb
    clear hb
    rw [H0.out]
    try simp only [World.size_alloc] at hlo
    have lA0 := A0_6.out.1
    have qA00 := A0_6.out.2 0 _ rfl
    have qA01 := A0_6.out.2 1 _ rfl
    have qA02 := A0_6.out.2 2 _ rfl
    have lA1 := A1_7.out.1
    have qA10 := A1_7.out.2 0 _ rfl
    have qA11 := A1_7.out.2 1 _ rfl
    have qA12 := A1_7.out.2 2 _ rfl
    have qA13 := A1_7.out.2 3 _ rfl
    try simp only [World.size_alloc] at lA0 lA1
    have r0 := R_8.out.2 0 _ rfl
    have r1 := R_8.out.2 1 _ rfl
    have r2 := R_8.out.2 2 _ rfl
    have r3 := R_8.out.2 3 _ rfl
    have tR := R_8.out.3
    have lR := R_8.out.1
    go_wp2
    refine bodyPost_ret (v := .tuple #[.agg #[.int .i64 0, .int .i64 0, .int .i64 0, .slice none 0 0], .bool false]) (by simp [results, Try.results42, go_sem, r0, r1, r2, r3]) rfl ⟨_, rfl, ⟨_, _, _, rfl, own_nil _ _ _, by omega⟩, ext4 E_9.out (by omega) _ _ _ _⟩
  have H0 := Lib.hid h0
  have hz0 := h0
  rcases h1 : hsB P D P1 R1 C1 ss with _ | _
  · simp only [cenM, h0, h1, noMat, Bool.false_and, Bool.and_false, Bool.false_eq_true, if_false, Prod.mk.injEq, Mat.mk.injEq] at hM
    obtain ⟨⟨rfl, rfl, rfl, rfl⟩, rfl⟩ := hM
    have H1 := Lib.hid h1
    clear h0 h1 hz0 hT hS
    go_enter Try.func42, Try.ntmps42
    have A0_1 := Lib.hid (((cells_new' w #[.int .i64 P, .int .i64 D, .slice (some ⟨a0, oa, none⟩) n n] 26 (w.heap.size) (by simp)).ext ((Ext.refl _).alloc (.cells #[.int .i64 P1, .int .i64 R1, .int .i64 C1, .slice (some ⟨s0, so, none⟩) n1 n1] 36))).ext ((Ext.refl _).alloc (.cells #[.int .i64 0, .int .i64 0, .int .i64 0, .slice none 0 0] 36)))
    have A1_2 := Lib.hid ((cells_new' (w.alloc (.cells #[.int .i64 P, .int .i64 D, .slice (some ⟨a0, oa, none⟩) n n] 26)) #[.int .i64 P1, .int .i64 R1, .int .i64 C1, .slice (some ⟨s0, so, none⟩) n1 n1] 36 (w.heap.size + 1) (by simp)).ext ((Ext.refl _).alloc (.cells #[.int .i64 0, .int .i64 0, .int .i64 0, .slice none 0 0] 36)))
    have R_3 := Lib.hid (cells_new' ((w.alloc (.cells #[.int .i64 P, .int .i64 D, .slice (some ⟨a0, oa, none⟩) n n] 26)).alloc (.cells #[.int .i64 P1, .int .i64 R1, .int .i64 C1, .slice (some ⟨s0, so, none⟩) n1 n1] 36)) #[.int .i64 0, .int .i64 0, .int .i64 0, .slice none 0 0] 36 (w.heap.size + 1 + 1) (by simp))
    have E_4 := Lib.hid ((((Ext.refl w).alloc (.cells #[.int .i64 P, .int .i64 D, .slice (some ⟨a0, oa, none⟩) n n] 26)).alloc (.cells #[.int .i64 P1, .int .i64 R1, .int .i64 C1, .slice (some ⟨s0, so, none⟩) n1 n1] 36)).alloc (.cells #[.int .i64 0, .int .i64 0, .int .i64 0, .slice none 0 0] 36))
    have lA0 := A0_1.out.1
    have qA00 := A0_1.out.2 0 _ rfl
    have qA01 := A0_1.out.2 1 _ rfl
    have qA02 := A0_1.out.2 2 _ rfl
    have lA1 := A1_2.out.1
    have qA10 := A1_2.out.2 0 _ rfl
    have qA11 := A1_2.out.2 1 _ rfl
    have qA12 := A1_2.out.2 2 _ rfl
    have qA13 := A1_2.out.2 3 _ rfl
    try simp only [World.size_alloc] at lA0 lA1
    go_wp2_with fail
    refine (wrap_impl P _ a0 oa n n l _ (HT.out.ext E_4.out) hm0 (Nat.le_refl _) (by unfold maxLen; omega)).mono ?_
    rintro e w_5 ⟨B, rfl, hb, hlo, h_5⟩
    clear lA0 qA00 qA01 qA02 lA1 qA10 qA11 qA12 qA13
    have A0_6 := Lib.hid (A0_1.out.ext h_5)
    clear A0_1
    have A1_7 := Lib.hid (A1_2.out.ext h_5)
    clear A1_2
    have R_8 := Lib.hid (R_3.out.ext h_5)
    clear R_3
    have E_9 := Lib.hid (E_4.out.trans h_5)
    clear E_4
    have B_10 := Lib.hid hb
    clear hb
    rw [H0.out]
    try simp only [World.size_alloc] at hlo
    have lA0 := A0_6.out.1
    have qA00 := A0_6.out.2 0 _ rfl
    have qA01 := A0_6.out.2 1 _ rfl
    have qA02 := A0_6.out.2 2 _ rfl
    have lA1 := A1_7.out.1
    have qA10 := A1_7.out.2 0 _ rfl
    have qA11 := A1_7.out.2 1 _ rfl
    have qA12 := A1_7.out.2 2 _ rfl
    have qA13 := A1_7.out.2 3 _ rfl
    try simp only [World.size_alloc] at lA0 lA1
    go_wp2_with fail
    refine (hasSubspace_impl P _ _ _ _ B s0 so n1 _ ss _ B_10.out (HS.out.ext E_9.out) hm1).mono ?_
    rintro e w_11 ⟨rfl, h_11⟩
    clear lA0 qA00 qA01 qA02 lA1 qA10 qA11 qA12 qA13
    have A0_12 := Lib.hid (A0_6.out.ext h_11)
    clear A0_6
    have A1_13 := Lib.hid (A1_7.out.ext h_11)
    clear A1_7
    have R_14 := Lib.hid (R_8.out.ext h_11)
    clear R_8
    have B_15 := Lib.hid (B_10.out.ext h_11)
    clear B_10
    have E_16 := Lib.hid (E_9.out.trans h_11)
    clear E_9
    rw [H1.out]
    have lA0 := A0_12.out.1
    have qA00 := A0_12.out.2 0 _ rfl
    have qA01 := A0_12.out.2 1 _ rfl
    have qA02 := A0_12.out.2 2 _ rfl
    have lA1 := A1_13.out.1
    have qA10 := A1_13.out.2 0 _ rfl
    have qA11 := A1_13.out.2 1 _ rfl
    have qA12 := A1_13.out.2 2 _ rfl
    have qA13 := A1_13.out.2 3 _ rfl
    try simp only [World.size_alloc] at lA0 lA1
    have r0 := R_14.out.2 0 _ rfl
    have r1 := R_14.out.2 1 _ rfl
    have r2 := R_14.out.2 2 _ rfl
    have r3 := R_14.out.2 3 _ rfl
    have tR := R_14.out.3
    have lR := R_14.out.1
    go_wp2
    refine bodyPost_ret (v := .tuple #[.agg #[.int .i64 0, .int .i64 0, .int .i64 0, .slice none 0 0], .bool false]) (by simp [results, Try.results42, go_sem, r0, r1, r2, r3]) rfl ⟨_, rfl, ⟨_, _, _, rfl, own_nil _ _ _, by omega⟩, ext4 E_16.out (by omega) _ _ _ _⟩
  have H1 := Lib.hid h1
  have hz1 := h1
  simp only [cenM, hz0, hz1, Bool.and_self, if_true, Prod.mk.injEq, Mat.mk.injEq] at hM
  obtain ⟨⟨rfl, rfl, rfl, rfl⟩, rfl⟩ := hM
  obtain ⟨D, rfl, hA⟩ := algB_parts hz0 hT.1
  obtain ⟨r, rfl, rfl, rfl, hr, hn1, hx1⟩ := hsB_parts hz1 hS.1
  simp only [Int.toNat_natCast]
  have hpr := hA.pr
  have hp := isP_lo hA.pr
  have hp2 := isP_hi hA.pr
  have hD := hA.dim
  have hsq : D * D ≤ 784 := Nat.mul_le_mul hD hD
  have hr28 : r ≤ 28 := by omega
  have hsp1 : spaceM P1 r D ss = true := by simp only [hsB, Bool.and_eq_true] at hz1; exact hz1.1
  have hkn : intN P1 D r l ss 0 [] ≤ D := (redTo_pv (P := P1) (C := D) D).1
  have HKB : Hid (intN P1 D r l ss 0 [] * D ≤ 1048576) := Nat.le_trans (Nat.mul_le_mul hkn (Nat.le_refl D)) (by omega)
  have HKL : Hid ((intS P1 D r l ss 0 []).length = intN P1 D r l ss 0 [] * D) := spanL_length (kerTo_length D)
  have cT : ∀ w1 B bZ, Ext w w1 → Has w1 bZ [] → Cells w1 B [.int .i64 P1, .int .i64 D, .slice (some ⟨a0, oa, none⟩) n n] → Calls Try.prog 89 #[.pointer (some ⟨B, 0, none⟩), .agg #[.int .i64 P1, .int .i64 r, .int .i64 D, .slice (some ⟨s0, so, none⟩) n1 n1], .agg #[.int .i64 P1, .int .i64 0, .int .i64 D, .slice (some ⟨bZ, 0, none⟩) 0 0]] w1 fun e w' => ∃ b c', e = .returned (.agg #[.int .i64 P1, .int .i64 (intN P1 D r l ss 0 [] : Nat), .int .i64 D, .slice (some ⟨b, 0, none⟩) (intN P1 D r l ss 0 [] * D) c']) ∧ w1.heap.size ≤ b ∧ b < w'.heap.size ∧ Has w' b (intS P1 D r l ss 0 []) ∧ Ext w1 w' := fun w1 B bZ h hz hb => by
    refine (takenInto_impl P1 D r 0 n1 0 B a0 oa n n s0 so bZ 0 l ss [] w1 hb hD hr28 hA.len hn1 (Nat.le_refl _) (by unfold maxLen; omega) (hT.ext h) (hS.ext h) (hz.reads rfl) (spaceM_nil hpr hD) hA.res hx1).mono ?_
    rintro e w' ⟨b, rfl, g1, g2, g3, g4⟩
    exact ⟨b, _, rfl, g1, g2, g3, g4⟩
  clear hT hS hx1 hn1 hz1 hsp1 hA hz0 hkn h0 h1
  generalize intN P1 D r l ss 0 [] = K at *
  generalize intS P1 D r l ss 0 [] = KS at *
  go_enter Try.func42, Try.ntmps42
  have A0_1 := Lib.hid (((cells_new' w #[.int .i64 P1, .int .i64 D, .slice (some ⟨a0, oa, none⟩) n n] 26 (w.heap.size) (by simp)).ext ((Ext.refl _).alloc (.cells #[.int .i64 P1, .int .i64 r, .int .i64 D, .slice (some ⟨s0, so, none⟩) n1 n1] 36))).ext ((Ext.refl _).alloc (.cells #[.int .i64 0, .int .i64 0, .int .i64 0, .slice none 0 0] 36)))
  have A1_2 := Lib.hid ((cells_new' (w.alloc (.cells #[.int .i64 P1, .int .i64 D, .slice (some ⟨a0, oa, none⟩) n n] 26)) #[.int .i64 P1, .int .i64 r, .int .i64 D, .slice (some ⟨s0, so, none⟩) n1 n1] 36 (w.heap.size + 1) (by simp)).ext ((Ext.refl _).alloc (.cells #[.int .i64 0, .int .i64 0, .int .i64 0, .slice none 0 0] 36)))
  have R_3 := Lib.hid (cells_new' ((w.alloc (.cells #[.int .i64 P1, .int .i64 D, .slice (some ⟨a0, oa, none⟩) n n] 26)).alloc (.cells #[.int .i64 P1, .int .i64 r, .int .i64 D, .slice (some ⟨s0, so, none⟩) n1 n1] 36)) #[.int .i64 0, .int .i64 0, .int .i64 0, .slice none 0 0] 36 (w.heap.size + 1 + 1) (by simp))
  have E_4 := Lib.hid ((((Ext.refl w).alloc (.cells #[.int .i64 P1, .int .i64 D, .slice (some ⟨a0, oa, none⟩) n n] 26)).alloc (.cells #[.int .i64 P1, .int .i64 r, .int .i64 D, .slice (some ⟨s0, so, none⟩) n1 n1] 36)).alloc (.cells #[.int .i64 0, .int .i64 0, .int .i64 0, .slice none 0 0] 36))
  have lA0 := A0_1.out.1
  have qA00 := A0_1.out.2 0 _ rfl
  have qA01 := A0_1.out.2 1 _ rfl
  have qA02 := A0_1.out.2 2 _ rfl
  have lA1 := A1_2.out.1
  have qA10 := A1_2.out.2 0 _ rfl
  have qA11 := A1_2.out.2 1 _ rfl
  have qA12 := A1_2.out.2 2 _ rfl
  have qA13 := A1_2.out.2 3 _ rfl
  try simp only [World.size_alloc] at lA0 lA1
  go_wp2_with fail
  refine (wrap_impl P1 _ a0 oa n n l _ (HT.out.ext E_4.out) hm0 (Nat.le_refl _) (by unfold maxLen; omega)).mono ?_
  rintro e w_5 ⟨B, rfl, hb, hlo, h_5⟩
  clear lA0 qA00 qA01 qA02 lA1 qA10 qA11 qA12 qA13
  have A0_6 := Lib.hid (A0_1.out.ext h_5)
  clear A0_1
  have A1_7 := Lib.hid (A1_2.out.ext h_5)
  clear A1_2
  have R_8 := Lib.hid (R_3.out.ext h_5)
  clear R_3
  have E_9 := Lib.hid (E_4.out.trans h_5)
  clear E_4
  have B_10 := Lib.hid hb
  clear hb
  rw [H0.out]
  try simp only [World.size_alloc] at hlo
  have lA0 := A0_6.out.1
  have qA00 := A0_6.out.2 0 _ rfl
  have qA01 := A0_6.out.2 1 _ rfl
  have qA02 := A0_6.out.2 2 _ rfl
  have lA1 := A1_7.out.1
  have qA10 := A1_7.out.2 0 _ rfl
  have qA11 := A1_7.out.2 1 _ rfl
  have qA12 := A1_7.out.2 2 _ rfl
  have qA13 := A1_7.out.2 3 _ rfl
  try simp only [World.size_alloc] at lA0 lA1
  go_wp2_with fail
  refine (hasSubspace_impl P1 _ _ _ _ B s0 so n1 _ ss _ B_10.out (HS.out.ext E_9.out) hm1).mono ?_
  rintro e w_11 ⟨rfl, h_11⟩
  clear lA0 qA00 qA01 qA02 lA1 qA10 qA11 qA12 qA13
  have A0_12 := Lib.hid (A0_6.out.ext h_11)
  clear A0_6
  have A1_13 := Lib.hid (A1_7.out.ext h_11)
  clear A1_7
  have R_14 := Lib.hid (R_8.out.ext h_11)
  clear R_8
  have B_15 := Lib.hid (B_10.out.ext h_11)
  clear B_10
  have E_16 := Lib.hid (E_9.out.trans h_11)
  clear E_9
  rw [H1.out]
  have lA0 := A0_12.out.1
  have qA00 := A0_12.out.2 0 _ rfl
  have qA01 := A0_12.out.2 1 _ rfl
  have qA02 := A0_12.out.2 2 _ rfl
  have lA1 := A1_13.out.1
  have qA10 := A1_13.out.2 0 _ rfl
  have qA11 := A1_13.out.2 1 _ rfl
  have qA12 := A1_13.out.2 2 _ rfl
  have qA13 := A1_13.out.2 3 _ rfl
  try simp only [World.size_alloc] at lA0 lA1
  have lB := B_15.out.1
  have qB0 := B_15.out.2 0 _ rfl
  have qB1 := B_15.out.2 1 _ rfl
  have qB2 := B_15.out.2 2 _ rfl
  try simp only [World.size_alloc] at lA0 lA1 lB
  have nB : ¬ B = w.heap.size + 1 + 1 := by omega
  have nA0 : ¬ w.heap.size = w.heap.size + 1 + 1 := by omega
  have lR := R_14.out.1
  have qR0 := R_14.out.2 0 _ rfl
  have qR1 := R_14.out.2 1 _ rfl
  have qR2 := R_14.out.2 2 _ rfl
  have qR3 := R_14.out.2 3 _ rfl
  have tR := R_14.out.3
  try simp only [World.size_alloc] at lA0 lA1 lB lR
  go_wp2_with fail
  go_region_held3 (fun w' => w_11.grownBy w' (some (w.heap.size + 1 + 1)) ∧ ∀ B o, B ≠ w.heap.size + 1 + 1 → B < w_11.heap.size → w'.cell? ⟨B, o, none⟩ = w_11.cell? ⟨B, o, none⟩) (first | assumption | exact keptB_refl _ _ | exact keptB_drew | (with_reducible exact keptB_call ‹w_11.grownBy _ (some (w.heap.size + 1 + 1)) ∧ _› ‹Ext _ _›) | (with_reducible exact keptB_set4 ‹w_11.grownBy _ (some (w.heap.size + 1 + 1)) ∧ _› _ _ _ _)) (first
      | (go_at_call 90; (with_reducible refine (zeros_none P1 D _).mono ?_); rintro e wZ ⟨bZ, rfl, bZ1, bZ2, kZ, EZ⟩)
      | (go_at_call 89; (with_reducible refine (cT _ B bZ (E_16.out.trans ((Ext.drew (Ext.refl _)).trans EZ)) kZ (B_15.out.ext ((Ext.drew (Ext.refl _)).trans EZ))).mono ?_); rintro e w9 ⟨sb, sc, rfl, hs1, hs2, hh, h9⟩; have hall : Ext w_11 w9 := ((Ext.drew (Ext.refl _)).trans EZ).trans h9; have c0 := (hall.cells _ 0 lR).trans qR0; have c1 := (hall.cells _ 1 lR).trans qR1; have c2 := (hall.cells _ 2 lR).trans qR2; have c3 := (hall.cells _ 3 lR).trans qR3; have f1 : ∀ j, w9.frozen? ⟨w.heap.size + 1 + 1, j, none⟩ = false := fun j => (hall.frees _ j lR).trans (tR j)))
  have hg9 := (‹w_11.grownBy _ (some (w.heap.size + 1 + 1)) ∧ _› : w_11.grownBy _ (some (w.heap.size + 1 + 1)) ∧ _).1
  have hx2 := E_16.out.grown hg9 (fun k hk => by simp at hk; omega)
  have b0 : w_11.heap.size ≤ sb := Nat.le_trans ((Ext.drew (Ext.refl _)).trans EZ).le hs1
  have hWs := R_14.out.1
  go_wp2
  refine bodyPost_ret (v := .tuple #[.agg #[.int .i64 P1, .int .i64 (K : Nat), .int .i64 D, .slice (some ⟨sb, 0, none⟩) (K * D) sc], .bool true]) (by simp [results, Try.results42, go_sem, c0, c1, c2, c3]) rfl ⟨_, rfl, ⟨_, _, _, rfl, ?_, HKB.out⟩, hx2⟩
  refine Own.mono (own4 (hh.own (lo := w.heap.size + 1 + 1 + 1) (hi := w9.heap.size) (by omega) (by omega) HKL.out) (by omega) _ _ _ _) (by omega) (by simp)

set_option maxRecDepth 100000 in
set_option maxHeartbeats 6400000 in
theorem centralizerOf_spec {P D : Int} {a0 oa n : Nat} {l : List Int} {P1 R1 C1 : Int} {s0 so n1 : Nat} {ss : List Int} {w : World} {p r' c : Int} {d : List Int} {ok : Bool} (hT : Reads w (some ⟨a0, oa, none⟩) n l) (hm0 : n ≤ 1048576) (hS : Reads w (some ⟨s0, so, none⟩) n1 ss) (hm1 : n1 ≤ 1048576) (hM : cenM P D l P1 R1 C1 ss = (⟨p, r', c, d⟩, ok)) :
    Calls Try.prog 41 #[.agg #[.int .i64 P, .int .i64 D, .slice (some ⟨a0, oa, none⟩) n n], .agg #[.int .i64 P1, .int .i64 R1, .int .i64 C1, .slice (some ⟨s0, so, none⟩) n1 n1]] w fun e w' => ∃ v, e = .returned (.tuple #[v, .bool ok]) ∧ Rmat w w' v p r' c d ∧ Ext w w' := by
  have HT := Lib.hid hT
  have HS := Lib.hid hS
  rcases h1 : (algB P D l && hsB P D P1 R1 C1 ss) with _ | _
  · simp only [cenM, h1, noMat, Bool.false_and, Bool.and_false, Bool.false_eq_true, if_false, Prod.mk.injEq, Mat.mk.injEq] at hM
    obtain ⟨⟨rfl, rfl, rfl, rfl⟩, rfl⟩ := hM
    have H1 := Lib.hid h1
    clear h1 hT hS
    go_enter Try.func41, Try.ntmps41
    have A0_1 := Lib.hid (((cells_new' w #[.int .i64 P, .int .i64 D, .slice (some ⟨a0, oa, none⟩) n n] 26 (w.heap.size) (by simp)).ext ((Ext.refl _).alloc (.cells #[.int .i64 P1, .int .i64 R1, .int .i64 C1, .slice (some ⟨s0, so, none⟩) n1 n1] 36))).ext ((Ext.refl _).alloc (.cells #[.int .i64 0, .int .i64 0, .int .i64 0, .slice none 0 0] 36)))
    have A1_2 := Lib.hid ((cells_new' (w.alloc (.cells #[.int .i64 P, .int .i64 D, .slice (some ⟨a0, oa, none⟩) n n] 26)) #[.int .i64 P1, .int .i64 R1, .int .i64 C1, .slice (some ⟨s0, so, none⟩) n1 n1] 36 (w.heap.size + 1) (by simp)).ext ((Ext.refl _).alloc (.cells #[.int .i64 0, .int .i64 0, .int .i64 0, .slice none 0 0] 36)))
    have R_3 := Lib.hid (cells_new' ((w.alloc (.cells #[.int .i64 P, .int .i64 D, .slice (some ⟨a0, oa, none⟩) n n] 26)).alloc (.cells #[.int .i64 P1, .int .i64 R1, .int .i64 C1, .slice (some ⟨s0, so, none⟩) n1 n1] 36)) #[.int .i64 0, .int .i64 0, .int .i64 0, .slice none 0 0] 36 (w.heap.size + 1 + 1) (by simp))
    have E_4 := Lib.hid ((((Ext.refl w).alloc (.cells #[.int .i64 P, .int .i64 D, .slice (some ⟨a0, oa, none⟩) n n] 26)).alloc (.cells #[.int .i64 P1, .int .i64 R1, .int .i64 C1, .slice (some ⟨s0, so, none⟩) n1 n1] 36)).alloc (.cells #[.int .i64 0, .int .i64 0, .int .i64 0, .slice none 0 0] 36))
    have lA0 := A0_1.out.1
    have qA00 := A0_1.out.2 0 _ rfl
    have qA01 := A0_1.out.2 1 _ rfl
    have qA02 := A0_1.out.2 2 _ rfl
    have lA1 := A1_2.out.1
    have qA10 := A1_2.out.2 0 _ rfl
    have qA11 := A1_2.out.2 1 _ rfl
    have qA12 := A1_2.out.2 2 _ rfl
    have qA13 := A1_2.out.2 3 _ rfl
    try simp only [World.size_alloc] at lA0 lA1
    go_wp2_with fail
    refine (l2Space_spec P _ _ _ _ a0 oa n s0 so n1 l ss _ (HT.out.ext E_4.out) hm0 (HS.out.ext E_4.out) hm1).mono ?_
    rintro e w_5 ⟨rfl, h_5⟩
    clear lA0 qA00 qA01 qA02 lA1 qA10 qA11 qA12 qA13
    have A0_6 := Lib.hid (A0_1.out.ext h_5)
    clear A0_1
    have A1_7 := Lib.hid (A1_2.out.ext h_5)
    clear A1_2
    have R_8 := Lib.hid (R_3.out.ext h_5)
    clear R_3
    have E_9 := Lib.hid (E_4.out.trans h_5)
    clear E_4
    rw [H1.out]
    have lA0 := A0_6.out.1
    have qA00 := A0_6.out.2 0 _ rfl
    have qA01 := A0_6.out.2 1 _ rfl
    have qA02 := A0_6.out.2 2 _ rfl
    have lA1 := A1_7.out.1
    have qA10 := A1_7.out.2 0 _ rfl
    have qA11 := A1_7.out.2 1 _ rfl
    have qA12 := A1_7.out.2 2 _ rfl
    have qA13 := A1_7.out.2 3 _ rfl
    try simp only [World.size_alloc] at lA0 lA1
    have r0 := R_8.out.2 0 _ rfl
    have r1 := R_8.out.2 1 _ rfl
    have r2 := R_8.out.2 2 _ rfl
    have r3 := R_8.out.2 3 _ rfl
    have tR := R_8.out.3
    have lR := R_8.out.1
    go_wp2
    refine bodyPost_ret (v := .tuple #[.agg #[.int .i64 0, .int .i64 0, .int .i64 0, .slice none 0 0], .bool false]) (by simp [results, Try.results41, go_sem, r0, r1, r2, r3]) rfl ⟨_, rfl, ⟨_, _, _, rfl, own_nil _ _ _, by omega⟩, ext4 E_9.out (by omega) _ _ _ _⟩
  have H1 := Lib.hid h1
  have hz0 : algB P D l = true := by simp only [Bool.and_eq_true] at h1; exact h1.1
  have hz1 : hsB P D P1 R1 C1 ss = true := by simp only [Bool.and_eq_true] at h1; exact h1.2
  simp only [cenM, hz0, hz1, Bool.and_self, if_true, Prod.mk.injEq, Mat.mk.injEq] at hM
  obtain ⟨⟨rfl, rfl, rfl, rfl⟩, rfl⟩ := hM
  obtain ⟨D, rfl, hA⟩ := algB_parts hz0 hT.1
  obtain ⟨r, rfl, rfl, rfl, hr, hn1, hx1⟩ := hsB_parts hz1 hS.1
  simp only [Int.toNat_natCast]
  have hpr := hA.pr
  have hp := isP_lo hA.pr
  have hp2 := isP_hi hA.pr
  have hD := hA.dim
  have hsq : D * D ≤ 784 := Nat.mul_le_mul hD hD
  have hr28 : r ≤ 28 := by omega
  have hsp1 : spaceM P1 r D ss = true := by simp only [hsB, Bool.and_eq_true] at hz1; exact hz1.1
  have hkn : intN P1 D r l ss 0 [] ≤ D := (redTo_pv (P := P1) (C := D) D).1
  have HKB : Hid (intN P1 D r l ss 0 [] * D ≤ 1048576) := Nat.le_trans (Nat.mul_le_mul hkn (Nat.le_refl D)) (by omega)
  have HKL : Hid ((intS P1 D r l ss 0 []).length = intN P1 D r l ss 0 [] * D) := spanL_length (kerTo_length D)
  have cT : ∀ w1 bZ, Ext w w1 → Has w1 bZ [] → Calls Try.prog 87 #[.agg #[.int .i64 P1, .int .i64 D, .slice (some ⟨a0, oa, none⟩) n n], .agg #[.int .i64 P1, .int .i64 r, .int .i64 D, .slice (some ⟨s0, so, none⟩) n1 n1], .agg #[.int .i64 P1, .int .i64 0, .int .i64 D, .slice (some ⟨bZ, 0, none⟩) 0 0]] w1 fun e w' => ∃ b c', e = .returned (.agg #[.int .i64 P1, .int .i64 (intN P1 D r l ss 0 [] : Nat), .int .i64 D, .slice (some ⟨b, 0, none⟩) (intN P1 D r l ss 0 [] * D) c']) ∧ w1.heap.size ≤ b ∧ b < w'.heap.size ∧ Has w' b (intS P1 D r l ss 0 []) ∧ Ext w1 w' := fun w1 bZ h hz =>
    l2Into_spec P1 D r 0 a0 oa n n s0 so n1 n1 bZ 0 0 0 l ss [] w1 (hT.ext h) (hS.ext h) (hz.reads rfl) hD hr28 hA.len hn1 (Nat.le_refl _) (spaceM_nil hpr hD) hA.res hx1 hA.alt
  clear hT hS hx1 hn1 hz1 hsp1 hA hz0 hkn  h1
  generalize intN P1 D r l ss 0 [] = K at *
  generalize intS P1 D r l ss 0 [] = KS at *
  go_enter Try.func41, Try.ntmps41
  have A0_1 := Lib.hid (((cells_new' w #[.int .i64 P1, .int .i64 D, .slice (some ⟨a0, oa, none⟩) n n] 26 (w.heap.size) (by simp)).ext ((Ext.refl _).alloc (.cells #[.int .i64 P1, .int .i64 r, .int .i64 D, .slice (some ⟨s0, so, none⟩) n1 n1] 36))).ext ((Ext.refl _).alloc (.cells #[.int .i64 0, .int .i64 0, .int .i64 0, .slice none 0 0] 36)))
  have A1_2 := Lib.hid ((cells_new' (w.alloc (.cells #[.int .i64 P1, .int .i64 D, .slice (some ⟨a0, oa, none⟩) n n] 26)) #[.int .i64 P1, .int .i64 r, .int .i64 D, .slice (some ⟨s0, so, none⟩) n1 n1] 36 (w.heap.size + 1) (by simp)).ext ((Ext.refl _).alloc (.cells #[.int .i64 0, .int .i64 0, .int .i64 0, .slice none 0 0] 36)))
  have R_3 := Lib.hid (cells_new' ((w.alloc (.cells #[.int .i64 P1, .int .i64 D, .slice (some ⟨a0, oa, none⟩) n n] 26)).alloc (.cells #[.int .i64 P1, .int .i64 r, .int .i64 D, .slice (some ⟨s0, so, none⟩) n1 n1] 36)) #[.int .i64 0, .int .i64 0, .int .i64 0, .slice none 0 0] 36 (w.heap.size + 1 + 1) (by simp))
  have E_4 := Lib.hid ((((Ext.refl w).alloc (.cells #[.int .i64 P1, .int .i64 D, .slice (some ⟨a0, oa, none⟩) n n] 26)).alloc (.cells #[.int .i64 P1, .int .i64 r, .int .i64 D, .slice (some ⟨s0, so, none⟩) n1 n1] 36)).alloc (.cells #[.int .i64 0, .int .i64 0, .int .i64 0, .slice none 0 0] 36))
  have lA0 := A0_1.out.1
  have qA00 := A0_1.out.2 0 _ rfl
  have qA01 := A0_1.out.2 1 _ rfl
  have qA02 := A0_1.out.2 2 _ rfl
  have lA1 := A1_2.out.1
  have qA10 := A1_2.out.2 0 _ rfl
  have qA11 := A1_2.out.2 1 _ rfl
  have qA12 := A1_2.out.2 2 _ rfl
  have qA13 := A1_2.out.2 3 _ rfl
  try simp only [World.size_alloc] at lA0 lA1
  go_wp2_with fail
  refine (l2Space_spec P1 _ _ _ _ a0 oa n s0 so n1 l ss _ (HT.out.ext E_4.out) hm0 (HS.out.ext E_4.out) hm1).mono ?_
  rintro e w_5 ⟨rfl, h_5⟩
  clear lA0 qA00 qA01 qA02 lA1 qA10 qA11 qA12 qA13
  have A0_6 := Lib.hid (A0_1.out.ext h_5)
  clear A0_1
  have A1_7 := Lib.hid (A1_2.out.ext h_5)
  clear A1_2
  have R_8 := Lib.hid (R_3.out.ext h_5)
  clear R_3
  have E_9 := Lib.hid (E_4.out.trans h_5)
  clear E_4
  rw [H1.out]
  have lA0 := A0_6.out.1
  have qA00 := A0_6.out.2 0 _ rfl
  have qA01 := A0_6.out.2 1 _ rfl
  have qA02 := A0_6.out.2 2 _ rfl
  have lA1 := A1_7.out.1
  have qA10 := A1_7.out.2 0 _ rfl
  have qA11 := A1_7.out.2 1 _ rfl
  have qA12 := A1_7.out.2 2 _ rfl
  have qA13 := A1_7.out.2 3 _ rfl
  try simp only [World.size_alloc] at lA0 lA1
  have nA0 : ¬ w.heap.size = w.heap.size + 1 + 1 := by omega
  have lR := R_8.out.1
  have qR0 := R_8.out.2 0 _ rfl
  have qR1 := R_8.out.2 1 _ rfl
  have qR2 := R_8.out.2 2 _ rfl
  have qR3 := R_8.out.2 3 _ rfl
  have tR := R_8.out.3
  try simp only [World.size_alloc] at lA0 lA1 lR
  go_wp2_with fail
  go_region_held3 (fun w' => w_5.grownBy w' (some (w.heap.size + 1 + 1)) ∧ ∀ B o, B ≠ w.heap.size + 1 + 1 → B < w_5.heap.size → w'.cell? ⟨B, o, none⟩ = w_5.cell? ⟨B, o, none⟩) (first | assumption | exact keptB_refl _ _ | exact keptB_drew | (with_reducible exact keptB_call ‹w_5.grownBy _ (some (w.heap.size + 1 + 1)) ∧ _› ‹Ext _ _›) | (with_reducible exact keptB_set4 ‹w_5.grownBy _ (some (w.heap.size + 1 + 1)) ∧ _› _ _ _ _)) (first
      | (go_at_call 88; (with_reducible refine (l2None_spec P1 D a0 oa n n _).mono ?_); rintro e wZ ⟨bZ, rfl, bZ1, bZ2, kZ, EZ⟩)
      | (go_at_call 87; (with_reducible refine (cT _ bZ (E_9.out.trans ((Ext.drew (Ext.refl _)).trans EZ)) kZ).mono ?_); rintro e w9 ⟨sb, sc, rfl, hs1, hs2, hh, h9⟩; have hall : Ext w_5 w9 := ((Ext.drew (Ext.refl _)).trans EZ).trans h9; have c0 := (hall.cells _ 0 lR).trans qR0; have c1 := (hall.cells _ 1 lR).trans qR1; have c2 := (hall.cells _ 2 lR).trans qR2; have c3 := (hall.cells _ 3 lR).trans qR3; have f1 : ∀ j, w9.frozen? ⟨w.heap.size + 1 + 1, j, none⟩ = false := fun j => (hall.frees _ j lR).trans (tR j)))
  have hg9 := (‹w_5.grownBy _ (some (w.heap.size + 1 + 1)) ∧ _› : w_5.grownBy _ (some (w.heap.size + 1 + 1)) ∧ _).1
  have hx2 := E_9.out.grown hg9 (fun k hk => by simp at hk; omega)
  have b0 : w_5.heap.size ≤ sb := Nat.le_trans ((Ext.drew (Ext.refl _)).trans EZ).le hs1
  have hWs := R_8.out.1
  go_wp2
  refine bodyPost_ret (v := .tuple #[.agg #[.int .i64 P1, .int .i64 (K : Nat), .int .i64 D, .slice (some ⟨sb, 0, none⟩) (K * D) sc], .bool true]) (by simp [results, Try.results41, go_sem, c0, c1, c2, c3]) rfl ⟨_, rfl, ⟨_, _, _, rfl, ?_, HKB.out⟩, hx2⟩
  refine Own.mono (own4 (hh.own (lo := w.heap.size + 1 + 1 + 1) (hi := w9.heap.size) (by omega) (by omega) HKL.out) (by omega) _ _ _ _) (by omega) (by simp)

set_option maxRecDepth 100000 in
set_option maxHeartbeats 6400000 in
theorem normalizerOf_impl {P D : Int} {a0 oa n : Nat} {l : List Int} {P1 R1 C1 : Int} {s0 so n1 : Nat} {ss : List Int} {w : World} {p r' c : Int} {d : List Int} {ok : Bool} (hT : Reads w (some ⟨a0, oa, none⟩) n l) (hm0 : n ≤ 1048576) (hS : Reads w (some ⟨s0, so, none⟩) n1 ss) (hm1 : n1 ≤ 1048576) (hM : norM P D l P1 R1 C1 ss = (⟨p, r', c, d⟩, ok)) :
    Calls Try.prog 44 #[.agg #[.int .i64 P, .int .i64 D, .slice (some ⟨a0, oa, none⟩) n n], .agg #[.int .i64 P1, .int .i64 R1, .int .i64 C1, .slice (some ⟨s0, so, none⟩) n1 n1]] w fun e w' => ∃ v, e = .returned (.tuple #[v, .bool ok]) ∧ Rmat w w' v p r' c d ∧ Ext w w' := by
  have HT := Lib.hid hT
  have HS := Lib.hid hS
  rcases h0 : algB P D l with _ | _
  · simp only [norM, h0, noMat, Bool.false_and, Bool.and_false, Bool.false_eq_true, if_false, Prod.mk.injEq, Mat.mk.injEq] at hM
    obtain ⟨⟨rfl, rfl, rfl, rfl⟩, rfl⟩ := hM
    have H0 := Lib.hid h0
    clear h0 hT hS
    go_enter Try.func44, Try.ntmps44
    have A0_1 := Lib.hid (((cells_new' w #[.int .i64 P, .int .i64 D, .slice (some ⟨a0, oa, none⟩) n n] 26 (w.heap.size) (by simp)).ext ((Ext.refl _).alloc (.cells #[.int .i64 P1, .int .i64 R1, .int .i64 C1, .slice (some ⟨s0, so, none⟩) n1 n1] 36))).ext ((Ext.refl _).alloc (.cells #[.int .i64 0, .int .i64 0, .int .i64 0, .slice none 0 0] 36)))
    have A1_2 := Lib.hid ((cells_new' (w.alloc (.cells #[.int .i64 P, .int .i64 D, .slice (some ⟨a0, oa, none⟩) n n] 26)) #[.int .i64 P1, .int .i64 R1, .int .i64 C1, .slice (some ⟨s0, so, none⟩) n1 n1] 36 (w.heap.size + 1) (by simp)).ext ((Ext.refl _).alloc (.cells #[.int .i64 0, .int .i64 0, .int .i64 0, .slice none 0 0] 36)))
    have R_3 := Lib.hid (cells_new' ((w.alloc (.cells #[.int .i64 P, .int .i64 D, .slice (some ⟨a0, oa, none⟩) n n] 26)).alloc (.cells #[.int .i64 P1, .int .i64 R1, .int .i64 C1, .slice (some ⟨s0, so, none⟩) n1 n1] 36)) #[.int .i64 0, .int .i64 0, .int .i64 0, .slice none 0 0] 36 (w.heap.size + 1 + 1) (by simp))
    have E_4 := Lib.hid ((((Ext.refl w).alloc (.cells #[.int .i64 P, .int .i64 D, .slice (some ⟨a0, oa, none⟩) n n] 26)).alloc (.cells #[.int .i64 P1, .int .i64 R1, .int .i64 C1, .slice (some ⟨s0, so, none⟩) n1 n1] 36)).alloc (.cells #[.int .i64 0, .int .i64 0, .int .i64 0, .slice none 0 0] 36))
    have lA0 := A0_1.out.1
    have qA00 := A0_1.out.2 0 _ rfl
    have qA01 := A0_1.out.2 1 _ rfl
    have qA02 := A0_1.out.2 2 _ rfl
    have lA1 := A1_2.out.1
    have qA10 := A1_2.out.2 0 _ rfl
    have qA11 := A1_2.out.2 1 _ rfl
    have qA12 := A1_2.out.2 2 _ rfl
    have qA13 := A1_2.out.2 3 _ rfl
    try simp only [World.size_alloc] at lA0 lA1
    go_wp2_with fail
    refine (wrap_impl P _ a0 oa n n l _ (HT.out.ext E_4.out) hm0 (Nat.le_refl _) (by unfold maxLen; omega)).mono ?_
    rintro e w_5 ⟨B, rfl, hb, hlo, h_5⟩
    clear lA0 qA00 qA01 qA02 lA1 qA10 qA11 qA12 qA13
    have A0_6 := Lib.hid (A0_1.out.ext h_5)
    clear A0_1
    have A1_7 := Lib.hid (A1_2.out.ext h_5)
    clear A1_2
    have R_8 := Lib.hid (R_3.out.ext h_5)
    clear R_3
    have E_9 := Lib.hid (E_4.out.trans h_5)
    clear E_4
    have B_10 := Lib.hid hb
    clear hb
    rw [H0.out]
    try simp only [World.size_alloc] at hlo
    have lA0 := A0_6.out.1
    have qA00 := A0_6.out.2 0 _ rfl
    have qA01 := A0_6.out.2 1 _ rfl
    have qA02 := A0_6.out.2 2 _ rfl
    have lA1 := A1_7.out.1
    have qA10 := A1_7.out.2 0 _ rfl
    have qA11 := A1_7.out.2 1 _ rfl
    have qA12 := A1_7.out.2 2 _ rfl
    have qA13 := A1_7.out.2 3 _ rfl
    try simp only [World.size_alloc] at lA0 lA1
    have r0 := R_8.out.2 0 _ rfl
    have r1 := R_8.out.2 1 _ rfl
    have r2 := R_8.out.2 2 _ rfl
    have r3 := R_8.out.2 3 _ rfl
    have tR := R_8.out.3
    have lR := R_8.out.1
    go_wp2
    refine bodyPost_ret (v := .tuple #[.agg #[.int .i64 0, .int .i64 0, .int .i64 0, .slice none 0 0], .bool false]) (by simp [results, Try.results44, go_sem, r0, r1, r2, r3]) rfl ⟨_, rfl, ⟨_, _, _, rfl, own_nil _ _ _, by omega⟩, ext4 E_9.out (by omega) _ _ _ _⟩
  have H0 := Lib.hid h0
  have hz0 := h0
  rcases h1 : hsB P D P1 R1 C1 ss with _ | _
  · simp only [norM, h0, h1, noMat, Bool.false_and, Bool.and_false, Bool.false_eq_true, if_false, Prod.mk.injEq, Mat.mk.injEq] at hM
    obtain ⟨⟨rfl, rfl, rfl, rfl⟩, rfl⟩ := hM
    have H1 := Lib.hid h1
    clear h0 h1 hz0 hT hS
    go_enter Try.func44, Try.ntmps44
    have A0_1 := Lib.hid (((cells_new' w #[.int .i64 P, .int .i64 D, .slice (some ⟨a0, oa, none⟩) n n] 26 (w.heap.size) (by simp)).ext ((Ext.refl _).alloc (.cells #[.int .i64 P1, .int .i64 R1, .int .i64 C1, .slice (some ⟨s0, so, none⟩) n1 n1] 36))).ext ((Ext.refl _).alloc (.cells #[.int .i64 0, .int .i64 0, .int .i64 0, .slice none 0 0] 36)))
    have A1_2 := Lib.hid ((cells_new' (w.alloc (.cells #[.int .i64 P, .int .i64 D, .slice (some ⟨a0, oa, none⟩) n n] 26)) #[.int .i64 P1, .int .i64 R1, .int .i64 C1, .slice (some ⟨s0, so, none⟩) n1 n1] 36 (w.heap.size + 1) (by simp)).ext ((Ext.refl _).alloc (.cells #[.int .i64 0, .int .i64 0, .int .i64 0, .slice none 0 0] 36)))
    have R_3 := Lib.hid (cells_new' ((w.alloc (.cells #[.int .i64 P, .int .i64 D, .slice (some ⟨a0, oa, none⟩) n n] 26)).alloc (.cells #[.int .i64 P1, .int .i64 R1, .int .i64 C1, .slice (some ⟨s0, so, none⟩) n1 n1] 36)) #[.int .i64 0, .int .i64 0, .int .i64 0, .slice none 0 0] 36 (w.heap.size + 1 + 1) (by simp))
    have E_4 := Lib.hid ((((Ext.refl w).alloc (.cells #[.int .i64 P, .int .i64 D, .slice (some ⟨a0, oa, none⟩) n n] 26)).alloc (.cells #[.int .i64 P1, .int .i64 R1, .int .i64 C1, .slice (some ⟨s0, so, none⟩) n1 n1] 36)).alloc (.cells #[.int .i64 0, .int .i64 0, .int .i64 0, .slice none 0 0] 36))
    have lA0 := A0_1.out.1
    have qA00 := A0_1.out.2 0 _ rfl
    have qA01 := A0_1.out.2 1 _ rfl
    have qA02 := A0_1.out.2 2 _ rfl
    have lA1 := A1_2.out.1
    have qA10 := A1_2.out.2 0 _ rfl
    have qA11 := A1_2.out.2 1 _ rfl
    have qA12 := A1_2.out.2 2 _ rfl
    have qA13 := A1_2.out.2 3 _ rfl
    try simp only [World.size_alloc] at lA0 lA1
    go_wp2_with fail
    refine (wrap_impl P _ a0 oa n n l _ (HT.out.ext E_4.out) hm0 (Nat.le_refl _) (by unfold maxLen; omega)).mono ?_
    rintro e w_5 ⟨B, rfl, hb, hlo, h_5⟩
    clear lA0 qA00 qA01 qA02 lA1 qA10 qA11 qA12 qA13
    have A0_6 := Lib.hid (A0_1.out.ext h_5)
    clear A0_1
    have A1_7 := Lib.hid (A1_2.out.ext h_5)
    clear A1_2
    have R_8 := Lib.hid (R_3.out.ext h_5)
    clear R_3
    have E_9 := Lib.hid (E_4.out.trans h_5)
    clear E_4
    have B_10 := Lib.hid hb
    clear hb
    rw [H0.out]
    try simp only [World.size_alloc] at hlo
    have lA0 := A0_6.out.1
    have qA00 := A0_6.out.2 0 _ rfl
    have qA01 := A0_6.out.2 1 _ rfl
    have qA02 := A0_6.out.2 2 _ rfl
    have lA1 := A1_7.out.1
    have qA10 := A1_7.out.2 0 _ rfl
    have qA11 := A1_7.out.2 1 _ rfl
    have qA12 := A1_7.out.2 2 _ rfl
    have qA13 := A1_7.out.2 3 _ rfl
    try simp only [World.size_alloc] at lA0 lA1
    go_wp2_with fail
    refine (hasSubspace_impl P _ _ _ _ B s0 so n1 _ ss _ B_10.out (HS.out.ext E_9.out) hm1).mono ?_
    rintro e w_11 ⟨rfl, h_11⟩
    clear lA0 qA00 qA01 qA02 lA1 qA10 qA11 qA12 qA13
    have A0_12 := Lib.hid (A0_6.out.ext h_11)
    clear A0_6
    have A1_13 := Lib.hid (A1_7.out.ext h_11)
    clear A1_7
    have R_14 := Lib.hid (R_8.out.ext h_11)
    clear R_8
    have B_15 := Lib.hid (B_10.out.ext h_11)
    clear B_10
    have E_16 := Lib.hid (E_9.out.trans h_11)
    clear E_9
    rw [H1.out]
    have lA0 := A0_12.out.1
    have qA00 := A0_12.out.2 0 _ rfl
    have qA01 := A0_12.out.2 1 _ rfl
    have qA02 := A0_12.out.2 2 _ rfl
    have lA1 := A1_13.out.1
    have qA10 := A1_13.out.2 0 _ rfl
    have qA11 := A1_13.out.2 1 _ rfl
    have qA12 := A1_13.out.2 2 _ rfl
    have qA13 := A1_13.out.2 3 _ rfl
    try simp only [World.size_alloc] at lA0 lA1
    have r0 := R_14.out.2 0 _ rfl
    have r1 := R_14.out.2 1 _ rfl
    have r2 := R_14.out.2 2 _ rfl
    have r3 := R_14.out.2 3 _ rfl
    have tR := R_14.out.3
    have lR := R_14.out.1
    go_wp2
    refine bodyPost_ret (v := .tuple #[.agg #[.int .i64 0, .int .i64 0, .int .i64 0, .slice none 0 0], .bool false]) (by simp [results, Try.results44, go_sem, r0, r1, r2, r3]) rfl ⟨_, rfl, ⟨_, _, _, rfl, own_nil _ _ _, by omega⟩, ext4 E_16.out (by omega) _ _ _ _⟩
  have H1 := Lib.hid h1
  have hz1 := h1
  simp only [norM, hz0, hz1, Bool.and_self, if_true, Prod.mk.injEq, Mat.mk.injEq] at hM
  obtain ⟨⟨rfl, rfl, rfl, rfl⟩, rfl⟩ := hM
  obtain ⟨D, rfl, hA⟩ := algB_parts hz0 hT.1
  obtain ⟨r, rfl, rfl, rfl, hr, hn1, hx1⟩ := hsB_parts hz1 hS.1
  simp only [Int.toNat_natCast]
  have hpr := hA.pr
  have hp := isP_lo hA.pr
  have hp2 := isP_hi hA.pr
  have hD := hA.dim
  have hsq : D * D ≤ 784 := Nat.mul_le_mul hD hD
  have hr28 : r ≤ 28 := by omega
  have hsp1 : spaceM P1 r D ss = true := by simp only [hsB, Bool.and_eq_true] at hz1; exact hz1.1
  have hkn : intN P1 D r l ss r ss ≤ D := (redTo_pv (P := P1) (C := D) D).1
  have HKB : Hid (intN P1 D r l ss r ss * D ≤ 1048576) := Nat.le_trans (Nat.mul_le_mul hkn (Nat.le_refl D)) (by omega)
  have HKL : Hid ((intS P1 D r l ss r ss).length = intN P1 D r l ss r ss * D) := spanL_length (kerTo_length D)
  have cT : ∀ w1 B, Ext w w1 → Cells w1 B [.int .i64 P1, .int .i64 D, .slice (some ⟨a0, oa, none⟩) n n] → Calls Try.prog 89 #[.pointer (some ⟨B, 0, none⟩), .agg #[.int .i64 P1, .int .i64 r, .int .i64 D, .slice (some ⟨s0, so, none⟩) n1 n1], .agg #[.int .i64 P1, .int .i64 r, .int .i64 D, .slice (some ⟨s0, so, none⟩) n1 n1]] w1 fun e w' => ∃ b c', e = .returned (.agg #[.int .i64 P1, .int .i64 (intN P1 D r l ss r ss : Nat), .int .i64 D, .slice (some ⟨b, 0, none⟩) (intN P1 D r l ss r ss * D) c']) ∧ w1.heap.size ≤ b ∧ b < w'.heap.size ∧ Has w' b (intS P1 D r l ss r ss) ∧ Ext w1 w' := fun w1 B h hb => by
    refine (takenInto_impl P1 D r r n1 n1 B a0 oa n n s0 so s0 so l ss ss w1 hb hD hr28 hA.len hn1 (Nat.le_refl _) (by unfold maxLen; omega) (hT.ext h) (hS.ext h) (hS.ext h) hsp1 hA.res hx1).mono ?_
    rintro e w' ⟨b, rfl, g1, g2, g3, g4⟩
    exact ⟨b, _, rfl, g1, g2, g3, g4⟩
  clear hT hS hx1 hn1 hz1 hsp1 hA hz0 hkn h0 h1
  generalize intN P1 D r l ss r ss = K at *
  generalize intS P1 D r l ss r ss = KS at *
  go_enter Try.func44, Try.ntmps44
  have A0_1 := Lib.hid (((cells_new' w #[.int .i64 P1, .int .i64 D, .slice (some ⟨a0, oa, none⟩) n n] 26 (w.heap.size) (by simp)).ext ((Ext.refl _).alloc (.cells #[.int .i64 P1, .int .i64 r, .int .i64 D, .slice (some ⟨s0, so, none⟩) n1 n1] 36))).ext ((Ext.refl _).alloc (.cells #[.int .i64 0, .int .i64 0, .int .i64 0, .slice none 0 0] 36)))
  have A1_2 := Lib.hid ((cells_new' (w.alloc (.cells #[.int .i64 P1, .int .i64 D, .slice (some ⟨a0, oa, none⟩) n n] 26)) #[.int .i64 P1, .int .i64 r, .int .i64 D, .slice (some ⟨s0, so, none⟩) n1 n1] 36 (w.heap.size + 1) (by simp)).ext ((Ext.refl _).alloc (.cells #[.int .i64 0, .int .i64 0, .int .i64 0, .slice none 0 0] 36)))
  have R_3 := Lib.hid (cells_new' ((w.alloc (.cells #[.int .i64 P1, .int .i64 D, .slice (some ⟨a0, oa, none⟩) n n] 26)).alloc (.cells #[.int .i64 P1, .int .i64 r, .int .i64 D, .slice (some ⟨s0, so, none⟩) n1 n1] 36)) #[.int .i64 0, .int .i64 0, .int .i64 0, .slice none 0 0] 36 (w.heap.size + 1 + 1) (by simp))
  have E_4 := Lib.hid ((((Ext.refl w).alloc (.cells #[.int .i64 P1, .int .i64 D, .slice (some ⟨a0, oa, none⟩) n n] 26)).alloc (.cells #[.int .i64 P1, .int .i64 r, .int .i64 D, .slice (some ⟨s0, so, none⟩) n1 n1] 36)).alloc (.cells #[.int .i64 0, .int .i64 0, .int .i64 0, .slice none 0 0] 36))
  have lA0 := A0_1.out.1
  have qA00 := A0_1.out.2 0 _ rfl
  have qA01 := A0_1.out.2 1 _ rfl
  have qA02 := A0_1.out.2 2 _ rfl
  have lA1 := A1_2.out.1
  have qA10 := A1_2.out.2 0 _ rfl
  have qA11 := A1_2.out.2 1 _ rfl
  have qA12 := A1_2.out.2 2 _ rfl
  have qA13 := A1_2.out.2 3 _ rfl
  try simp only [World.size_alloc] at lA0 lA1
  go_wp2_with fail
  refine (wrap_impl P1 _ a0 oa n n l _ (HT.out.ext E_4.out) hm0 (Nat.le_refl _) (by unfold maxLen; omega)).mono ?_
  rintro e w_5 ⟨B, rfl, hb, hlo, h_5⟩
  clear lA0 qA00 qA01 qA02 lA1 qA10 qA11 qA12 qA13
  have A0_6 := Lib.hid (A0_1.out.ext h_5)
  clear A0_1
  have A1_7 := Lib.hid (A1_2.out.ext h_5)
  clear A1_2
  have R_8 := Lib.hid (R_3.out.ext h_5)
  clear R_3
  have E_9 := Lib.hid (E_4.out.trans h_5)
  clear E_4
  have B_10 := Lib.hid hb
  clear hb
  rw [H0.out]
  try simp only [World.size_alloc] at hlo
  have lA0 := A0_6.out.1
  have qA00 := A0_6.out.2 0 _ rfl
  have qA01 := A0_6.out.2 1 _ rfl
  have qA02 := A0_6.out.2 2 _ rfl
  have lA1 := A1_7.out.1
  have qA10 := A1_7.out.2 0 _ rfl
  have qA11 := A1_7.out.2 1 _ rfl
  have qA12 := A1_7.out.2 2 _ rfl
  have qA13 := A1_7.out.2 3 _ rfl
  try simp only [World.size_alloc] at lA0 lA1
  go_wp2_with fail
  refine (hasSubspace_impl P1 _ _ _ _ B s0 so n1 _ ss _ B_10.out (HS.out.ext E_9.out) hm1).mono ?_
  rintro e w_11 ⟨rfl, h_11⟩
  clear lA0 qA00 qA01 qA02 lA1 qA10 qA11 qA12 qA13
  have A0_12 := Lib.hid (A0_6.out.ext h_11)
  clear A0_6
  have A1_13 := Lib.hid (A1_7.out.ext h_11)
  clear A1_7
  have R_14 := Lib.hid (R_8.out.ext h_11)
  clear R_8
  have B_15 := Lib.hid (B_10.out.ext h_11)
  clear B_10
  have E_16 := Lib.hid (E_9.out.trans h_11)
  clear E_9
  rw [H1.out]
  have hlR := R_14.out.1
  have lA0 := A0_12.out.1
  have qA00 := A0_12.out.2 0 _ rfl
  have qA01 := A0_12.out.2 1 _ rfl
  have qA02 := A0_12.out.2 2 _ rfl
  have lA1 := A1_13.out.1
  have qA10 := A1_13.out.2 0 _ rfl
  have qA11 := A1_13.out.2 1 _ rfl
  have qA12 := A1_13.out.2 2 _ rfl
  have qA13 := A1_13.out.2 3 _ rfl
  try simp only [World.size_alloc] at lA0 lA1
  go_wp2_with fail
  refine (cT _ B E_16.out B_15.out).mono ?_
  rintro e w9 ⟨sb, sc, rfl, hs1, hs2, hh, h9⟩
  clear lA0 qA00 qA01 qA02 lA1 qA10 qA11 qA12 qA13
  have HSB := Lib.hid hh
  clear hh
  have A0_17 := Lib.hid (A0_12.out.ext h9)
  clear A0_12
  have A1_18 := Lib.hid (A1_13.out.ext h9)
  clear A1_13
  have R_19 := Lib.hid (R_14.out.ext h9)
  clear R_14
  have B_20 := Lib.hid (B_15.out.ext h9)
  clear B_15
  have E_21 := Lib.hid (E_16.out.trans h9)
  clear E_16
  have r0 := R_19.out.2 0 _ rfl
  have r1 := R_19.out.2 1 _ rfl
  have r2 := R_19.out.2 2 _ rfl
  have r3 := R_19.out.2 3 _ rfl
  have tR := R_19.out.3
  have lR := R_19.out.1
  go_wp2
  refine bodyPost_ret (v := .tuple #[.agg #[.int .i64 P1, .int .i64 (K : Nat), .int .i64 D, .slice (some ⟨sb, 0, none⟩) (K * D) sc], .bool true]) (by simp [results, Try.results44, go_sem, r0, r1, r2, r3]) rfl ⟨_, rfl, ⟨_, _, _, rfl, ?_, HKB.out⟩, ext4 E_21.out (by omega) _ _ _ _⟩
  refine Own.mono (own4 (HSB.out.own (lo := w.heap.size + 1 + 1 + 1) (hi := w9.heap.size) (by omega) (by omega) HKL.out) (by omega) _ _ _ _) (by omega) (by simp)

set_option maxRecDepth 100000 in
set_option maxHeartbeats 6400000 in
theorem normalizerOf_spec {P D : Int} {a0 oa n : Nat} {l : List Int} {P1 R1 C1 : Int} {s0 so n1 : Nat} {ss : List Int} {w : World} {p r' c : Int} {d : List Int} {ok : Bool} (hT : Reads w (some ⟨a0, oa, none⟩) n l) (hm0 : n ≤ 1048576) (hS : Reads w (some ⟨s0, so, none⟩) n1 ss) (hm1 : n1 ≤ 1048576) (hM : norM P D l P1 R1 C1 ss = (⟨p, r', c, d⟩, ok)) :
    Calls Try.prog 43 #[.agg #[.int .i64 P, .int .i64 D, .slice (some ⟨a0, oa, none⟩) n n], .agg #[.int .i64 P1, .int .i64 R1, .int .i64 C1, .slice (some ⟨s0, so, none⟩) n1 n1]] w fun e w' => ∃ v, e = .returned (.tuple #[v, .bool ok]) ∧ Rmat w w' v p r' c d ∧ Ext w w' := by
  have HT := Lib.hid hT
  have HS := Lib.hid hS
  rcases h1 : (algB P D l && hsB P D P1 R1 C1 ss) with _ | _
  · simp only [norM, h1, noMat, Bool.false_and, Bool.and_false, Bool.false_eq_true, if_false, Prod.mk.injEq, Mat.mk.injEq] at hM
    obtain ⟨⟨rfl, rfl, rfl, rfl⟩, rfl⟩ := hM
    have H1 := Lib.hid h1
    clear h1 hT hS
    go_enter Try.func43, Try.ntmps43
    have A0_1 := Lib.hid (((cells_new' w #[.int .i64 P, .int .i64 D, .slice (some ⟨a0, oa, none⟩) n n] 26 (w.heap.size) (by simp)).ext ((Ext.refl _).alloc (.cells #[.int .i64 P1, .int .i64 R1, .int .i64 C1, .slice (some ⟨s0, so, none⟩) n1 n1] 36))).ext ((Ext.refl _).alloc (.cells #[.int .i64 0, .int .i64 0, .int .i64 0, .slice none 0 0] 36)))
    have A1_2 := Lib.hid ((cells_new' (w.alloc (.cells #[.int .i64 P, .int .i64 D, .slice (some ⟨a0, oa, none⟩) n n] 26)) #[.int .i64 P1, .int .i64 R1, .int .i64 C1, .slice (some ⟨s0, so, none⟩) n1 n1] 36 (w.heap.size + 1) (by simp)).ext ((Ext.refl _).alloc (.cells #[.int .i64 0, .int .i64 0, .int .i64 0, .slice none 0 0] 36)))
    have R_3 := Lib.hid (cells_new' ((w.alloc (.cells #[.int .i64 P, .int .i64 D, .slice (some ⟨a0, oa, none⟩) n n] 26)).alloc (.cells #[.int .i64 P1, .int .i64 R1, .int .i64 C1, .slice (some ⟨s0, so, none⟩) n1 n1] 36)) #[.int .i64 0, .int .i64 0, .int .i64 0, .slice none 0 0] 36 (w.heap.size + 1 + 1) (by simp))
    have E_4 := Lib.hid ((((Ext.refl w).alloc (.cells #[.int .i64 P, .int .i64 D, .slice (some ⟨a0, oa, none⟩) n n] 26)).alloc (.cells #[.int .i64 P1, .int .i64 R1, .int .i64 C1, .slice (some ⟨s0, so, none⟩) n1 n1] 36)).alloc (.cells #[.int .i64 0, .int .i64 0, .int .i64 0, .slice none 0 0] 36))
    have lA0 := A0_1.out.1
    have qA00 := A0_1.out.2 0 _ rfl
    have qA01 := A0_1.out.2 1 _ rfl
    have qA02 := A0_1.out.2 2 _ rfl
    have lA1 := A1_2.out.1
    have qA10 := A1_2.out.2 0 _ rfl
    have qA11 := A1_2.out.2 1 _ rfl
    have qA12 := A1_2.out.2 2 _ rfl
    have qA13 := A1_2.out.2 3 _ rfl
    try simp only [World.size_alloc] at lA0 lA1
    go_wp2_with fail
    refine (l2Space_spec P _ _ _ _ a0 oa n s0 so n1 l ss _ (HT.out.ext E_4.out) hm0 (HS.out.ext E_4.out) hm1).mono ?_
    rintro e w_5 ⟨rfl, h_5⟩
    clear lA0 qA00 qA01 qA02 lA1 qA10 qA11 qA12 qA13
    have A0_6 := Lib.hid (A0_1.out.ext h_5)
    clear A0_1
    have A1_7 := Lib.hid (A1_2.out.ext h_5)
    clear A1_2
    have R_8 := Lib.hid (R_3.out.ext h_5)
    clear R_3
    have E_9 := Lib.hid (E_4.out.trans h_5)
    clear E_4
    rw [H1.out]
    have lA0 := A0_6.out.1
    have qA00 := A0_6.out.2 0 _ rfl
    have qA01 := A0_6.out.2 1 _ rfl
    have qA02 := A0_6.out.2 2 _ rfl
    have lA1 := A1_7.out.1
    have qA10 := A1_7.out.2 0 _ rfl
    have qA11 := A1_7.out.2 1 _ rfl
    have qA12 := A1_7.out.2 2 _ rfl
    have qA13 := A1_7.out.2 3 _ rfl
    try simp only [World.size_alloc] at lA0 lA1
    have r0 := R_8.out.2 0 _ rfl
    have r1 := R_8.out.2 1 _ rfl
    have r2 := R_8.out.2 2 _ rfl
    have r3 := R_8.out.2 3 _ rfl
    have tR := R_8.out.3
    have lR := R_8.out.1
    go_wp2
    refine bodyPost_ret (v := .tuple #[.agg #[.int .i64 0, .int .i64 0, .int .i64 0, .slice none 0 0], .bool false]) (by simp [results, Try.results43, go_sem, r0, r1, r2, r3]) rfl ⟨_, rfl, ⟨_, _, _, rfl, own_nil _ _ _, by omega⟩, ext4 E_9.out (by omega) _ _ _ _⟩
  have H1 := Lib.hid h1
  have hz0 : algB P D l = true := by simp only [Bool.and_eq_true] at h1; exact h1.1
  have hz1 : hsB P D P1 R1 C1 ss = true := by simp only [Bool.and_eq_true] at h1; exact h1.2
  simp only [norM, hz0, hz1, Bool.and_self, if_true, Prod.mk.injEq, Mat.mk.injEq] at hM
  obtain ⟨⟨rfl, rfl, rfl, rfl⟩, rfl⟩ := hM
  obtain ⟨D, rfl, hA⟩ := algB_parts hz0 hT.1
  obtain ⟨r, rfl, rfl, rfl, hr, hn1, hx1⟩ := hsB_parts hz1 hS.1
  simp only [Int.toNat_natCast]
  have hpr := hA.pr
  have hp := isP_lo hA.pr
  have hp2 := isP_hi hA.pr
  have hD := hA.dim
  have hsq : D * D ≤ 784 := Nat.mul_le_mul hD hD
  have hr28 : r ≤ 28 := by omega
  have hsp1 : spaceM P1 r D ss = true := by simp only [hsB, Bool.and_eq_true] at hz1; exact hz1.1
  have hkn : intN P1 D r l ss r ss ≤ D := (redTo_pv (P := P1) (C := D) D).1
  have HKB : Hid (intN P1 D r l ss r ss * D ≤ 1048576) := Nat.le_trans (Nat.mul_le_mul hkn (Nat.le_refl D)) (by omega)
  have HKL : Hid ((intS P1 D r l ss r ss).length = intN P1 D r l ss r ss * D) := spanL_length (kerTo_length D)
  have cT : ∀ w1, Ext w w1 → Calls Try.prog 87 #[.agg #[.int .i64 P1, .int .i64 D, .slice (some ⟨a0, oa, none⟩) n n], .agg #[.int .i64 P1, .int .i64 r, .int .i64 D, .slice (some ⟨s0, so, none⟩) n1 n1], .agg #[.int .i64 P1, .int .i64 r, .int .i64 D, .slice (some ⟨s0, so, none⟩) n1 n1]] w1 fun e w' => ∃ b c', e = .returned (.agg #[.int .i64 P1, .int .i64 (intN P1 D r l ss r ss : Nat), .int .i64 D, .slice (some ⟨b, 0, none⟩) (intN P1 D r l ss r ss * D) c']) ∧ w1.heap.size ≤ b ∧ b < w'.heap.size ∧ Has w' b (intS P1 D r l ss r ss) ∧ Ext w1 w' := fun w1 h =>
    l2Into_spec P1 D r r a0 oa n n s0 so n1 n1 s0 so n1 n1 l ss ss w1 (hT.ext h) (hS.ext h) (hS.ext h) hD hr28 hA.len hn1 (Nat.le_refl _) hsp1 hA.res hx1 hA.alt
  clear hT hS hx1 hn1 hz1 hsp1 hA hz0 hkn  h1
  generalize intN P1 D r l ss r ss = K at *
  generalize intS P1 D r l ss r ss = KS at *
  go_enter Try.func43, Try.ntmps43
  have A0_1 := Lib.hid (((cells_new' w #[.int .i64 P1, .int .i64 D, .slice (some ⟨a0, oa, none⟩) n n] 26 (w.heap.size) (by simp)).ext ((Ext.refl _).alloc (.cells #[.int .i64 P1, .int .i64 r, .int .i64 D, .slice (some ⟨s0, so, none⟩) n1 n1] 36))).ext ((Ext.refl _).alloc (.cells #[.int .i64 0, .int .i64 0, .int .i64 0, .slice none 0 0] 36)))
  have A1_2 := Lib.hid ((cells_new' (w.alloc (.cells #[.int .i64 P1, .int .i64 D, .slice (some ⟨a0, oa, none⟩) n n] 26)) #[.int .i64 P1, .int .i64 r, .int .i64 D, .slice (some ⟨s0, so, none⟩) n1 n1] 36 (w.heap.size + 1) (by simp)).ext ((Ext.refl _).alloc (.cells #[.int .i64 0, .int .i64 0, .int .i64 0, .slice none 0 0] 36)))
  have R_3 := Lib.hid (cells_new' ((w.alloc (.cells #[.int .i64 P1, .int .i64 D, .slice (some ⟨a0, oa, none⟩) n n] 26)).alloc (.cells #[.int .i64 P1, .int .i64 r, .int .i64 D, .slice (some ⟨s0, so, none⟩) n1 n1] 36)) #[.int .i64 0, .int .i64 0, .int .i64 0, .slice none 0 0] 36 (w.heap.size + 1 + 1) (by simp))
  have E_4 := Lib.hid ((((Ext.refl w).alloc (.cells #[.int .i64 P1, .int .i64 D, .slice (some ⟨a0, oa, none⟩) n n] 26)).alloc (.cells #[.int .i64 P1, .int .i64 r, .int .i64 D, .slice (some ⟨s0, so, none⟩) n1 n1] 36)).alloc (.cells #[.int .i64 0, .int .i64 0, .int .i64 0, .slice none 0 0] 36))
  have lA0 := A0_1.out.1
  have qA00 := A0_1.out.2 0 _ rfl
  have qA01 := A0_1.out.2 1 _ rfl
  have qA02 := A0_1.out.2 2 _ rfl
  have lA1 := A1_2.out.1
  have qA10 := A1_2.out.2 0 _ rfl
  have qA11 := A1_2.out.2 1 _ rfl
  have qA12 := A1_2.out.2 2 _ rfl
  have qA13 := A1_2.out.2 3 _ rfl
  try simp only [World.size_alloc] at lA0 lA1
  go_wp2_with fail
  refine (l2Space_spec P1 _ _ _ _ a0 oa n s0 so n1 l ss _ (HT.out.ext E_4.out) hm0 (HS.out.ext E_4.out) hm1).mono ?_
  rintro e w_5 ⟨rfl, h_5⟩
  clear lA0 qA00 qA01 qA02 lA1 qA10 qA11 qA12 qA13
  have A0_6 := Lib.hid (A0_1.out.ext h_5)
  clear A0_1
  have A1_7 := Lib.hid (A1_2.out.ext h_5)
  clear A1_2
  have R_8 := Lib.hid (R_3.out.ext h_5)
  clear R_3
  have E_9 := Lib.hid (E_4.out.trans h_5)
  clear E_4
  rw [H1.out]
  have hlR := R_8.out.1
  have lA0 := A0_6.out.1
  have qA00 := A0_6.out.2 0 _ rfl
  have qA01 := A0_6.out.2 1 _ rfl
  have qA02 := A0_6.out.2 2 _ rfl
  have lA1 := A1_7.out.1
  have qA10 := A1_7.out.2 0 _ rfl
  have qA11 := A1_7.out.2 1 _ rfl
  have qA12 := A1_7.out.2 2 _ rfl
  have qA13 := A1_7.out.2 3 _ rfl
  try simp only [World.size_alloc] at lA0 lA1
  go_wp2_with fail
  refine (cT _ E_9.out).mono ?_
  rintro e w9 ⟨sb, sc, rfl, hs1, hs2, hh, h9⟩
  clear lA0 qA00 qA01 qA02 lA1 qA10 qA11 qA12 qA13
  have HSB := Lib.hid hh
  clear hh
  have A0_10 := Lib.hid (A0_6.out.ext h9)
  clear A0_6
  have A1_11 := Lib.hid (A1_7.out.ext h9)
  clear A1_7
  have R_12 := Lib.hid (R_8.out.ext h9)
  clear R_8
  have E_13 := Lib.hid (E_9.out.trans h9)
  clear E_9
  have r0 := R_12.out.2 0 _ rfl
  have r1 := R_12.out.2 1 _ rfl
  have r2 := R_12.out.2 2 _ rfl
  have r3 := R_12.out.2 3 _ rfl
  have tR := R_12.out.3
  have lR := R_12.out.1
  go_wp2
  refine bodyPost_ret (v := .tuple #[.agg #[.int .i64 P1, .int .i64 (K : Nat), .int .i64 D, .slice (some ⟨sb, 0, none⟩) (K * D) sc], .bool true]) (by simp [results, Try.results43, go_sem, r0, r1, r2, r3]) rfl ⟨_, rfl, ⟨_, _, _, rfl, ?_, HKB.out⟩, ext4 E_13.out (by omega) _ _ _ _⟩
  refine Own.mono (own4 (HSB.out.own (lo := w.heap.size + 1 + 1 + 1) (hi := w9.heap.size) (by omega) (by omega) HKL.out) (by omega) _ _ _ _) (by omega) (by simp)

set_option maxRecDepth 100000 in
set_option maxHeartbeats 6400000 in
theorem centreOf_impl {P D : Int} {a0 oa n : Nat} {l : List Int} {w : World} {p r' c : Int} {d : List Int} (hT : Reads w (some ⟨a0, oa, none⟩) n l) (hm0 : n ≤ 1048576) (hM : ctrM P D l = ⟨p, r', c, d⟩) :
    Calls Try.prog 40 #[.agg #[.int .i64 P, .int .i64 D, .slice (some ⟨a0, oa, none⟩) n n]] w fun e w' => ∃ v, e = .returned v ∧ Rmat w w' v p r' c d ∧ Ext w w' := by
  have HT := Lib.hid hT
  rcases h0 : algB P D l with _ | _
  · simp only [ctrM, h0, noMat, Bool.false_and, Bool.and_false, Bool.false_eq_true, if_false, Prod.mk.injEq, Mat.mk.injEq] at hM
    obtain ⟨rfl, rfl, rfl, rfl⟩ := hM
    have H0 := Lib.hid h0
    clear h0 hT
    go_enter Try.func40, Try.ntmps40
    have A0_1 := Lib.hid ((cells_new' w #[.int .i64 P, .int .i64 D, .slice (some ⟨a0, oa, none⟩) n n] 26 (w.heap.size) (by simp)).ext ((Ext.refl _).alloc (.cells #[.int .i64 0, .int .i64 0, .int .i64 0, .slice none 0 0] 36)))
    have R_2 := Lib.hid (cells_new' (w.alloc (.cells #[.int .i64 P, .int .i64 D, .slice (some ⟨a0, oa, none⟩) n n] 26)) #[.int .i64 0, .int .i64 0, .int .i64 0, .slice none 0 0] 36 (w.heap.size + 1) (by simp))
    have E_3 := Lib.hid (((Ext.refl w).alloc (.cells #[.int .i64 P, .int .i64 D, .slice (some ⟨a0, oa, none⟩) n n] 26)).alloc (.cells #[.int .i64 0, .int .i64 0, .int .i64 0, .slice none 0 0] 36))
    have lA0 := A0_1.out.1
    have qA00 := A0_1.out.2 0 _ rfl
    have qA01 := A0_1.out.2 1 _ rfl
    have qA02 := A0_1.out.2 2 _ rfl
    try simp only [World.size_alloc] at lA0
    go_wp2_with fail
    refine (wrap_impl P _ a0 oa n n l _ (HT.out.ext E_3.out) hm0 (Nat.le_refl _) (by unfold maxLen; omega)).mono ?_
    rintro e w_4 ⟨B, rfl, hb, hlo, h_4⟩
    clear lA0 qA00 qA01 qA02
    have A0_5 := Lib.hid (A0_1.out.ext h_4)
    clear A0_1
    have R_6 := Lib.hid (R_2.out.ext h_4)
    clear R_2
    have E_7 := Lib.hid (E_3.out.trans h_4)
    clear E_3
    have B_8 := Lib.hid hb
    clear hb
    rw [H0.out]
    try simp only [World.size_alloc] at hlo
    have lA0 := A0_5.out.1
    have qA00 := A0_5.out.2 0 _ rfl
    have qA01 := A0_5.out.2 1 _ rfl
    have qA02 := A0_5.out.2 2 _ rfl
    try simp only [World.size_alloc] at lA0
    have r0 := R_6.out.2 0 _ rfl
    have r1 := R_6.out.2 1 _ rfl
    have r2 := R_6.out.2 2 _ rfl
    have r3 := R_6.out.2 3 _ rfl
    have tR := R_6.out.3
    have lR := R_6.out.1
    go_wp2
    refine bodyPost_ret (v := .agg #[.int .i64 0, .int .i64 0, .int .i64 0, .slice none 0 0]) (by simp [results, Try.results40, go_sem, r0, r1, r2, r3]) rfl ⟨_, rfl, ⟨_, _, _, rfl, own_nil _ _ _, by omega⟩, ext4 E_7.out (by omega) _ _ _ _⟩
  have H0 := Lib.hid h0
  have hz0 := h0
  simp only [ctrM, hz0, if_true, Mat.mk.injEq] at hM
  obtain ⟨rfl, rfl, rfl, rfl⟩ := hM
  obtain ⟨D, rfl, hA⟩ := algB_parts hz0 hT.1
  simp only [Int.toNat_natCast]
  have hpr := hA.pr
  have hp := isP_lo hA.pr
  have hp2 := isP_hi hA.pr
  have hD := hA.dim
  have hsq : D * D ≤ 784 := Nat.mul_le_mul hD hD
  have hul : (unitTo D D).length = D * D := unitTo_length D D
  have hux : Res (unitTo D D) P := unitTo_res2 P hp D D
  have hkn : intN P D D l (unitTo D D) 0 [] ≤ D := (redTo_pv (P := P) (C := D) D).1
  have HKB : Hid (intN P D D l (unitTo D D) 0 [] * D ≤ 1048576) := Nat.le_trans (Nat.mul_le_mul hkn (Nat.le_refl D)) (by omega)
  have HKL : Hid ((intS P D D l (unitTo D D) 0 []).length = intN P D D l (unitTo D D) 0 [] * D) := spanL_length (kerTo_length D)
  have cT : ∀ w1 B bU bZ, Ext w w1 → Has w1 bU (unitTo D D) → Has w1 bZ [] → Cells w1 B [.int .i64 P, .int .i64 D, .slice (some ⟨a0, oa, none⟩) n n] → Calls Try.prog 89 #[.pointer (some ⟨B, 0, none⟩), .agg #[.int .i64 P, .int .i64 D, .int .i64 D, .slice (some ⟨bU, 0, none⟩) (D * D) (D * D)], .agg #[.int .i64 P, .int .i64 0, .int .i64 D, .slice (some ⟨bZ, 0, none⟩) 0 0]] w1 fun e w' => ∃ b c', e = .returned (.agg #[.int .i64 P, .int .i64 (intN P D D l (unitTo D D) 0 [] : Nat), .int .i64 D, .slice (some ⟨b, 0, none⟩) (intN P D D l (unitTo D D) 0 [] * D) c']) ∧ w1.heap.size ≤ b ∧ b < w'.heap.size ∧ Has w' b (intS P D D l (unitTo D D) 0 []) ∧ Ext w1 w' := fun w1 B bU bZ h hu hz hb => by
    refine (takenInto_impl P D D 0 (D * D) 0 B a0 oa n n bU 0 bZ 0 l (unitTo D D) [] w1 hb hD hD hA.len rfl (Nat.le_refl _) (by unfold maxLen; omega) (hT.ext h) (hu.reads hul) (hz.reads rfl) (spaceM_nil hpr hD) hA.res hux).mono ?_
    rintro e w' ⟨b, rfl, g1, g2, g3, g4⟩
    exact ⟨b, _, rfl, g1, g2, g3, g4⟩
  clear hT hul hux hA hz0 hkn h0 
  generalize intN P D D l (unitTo D D) 0 [] = K at *
  generalize intS P D D l (unitTo D D) 0 [] = KS at *
  go_enter Try.func40, Try.ntmps40
  have A0_1 := Lib.hid ((cells_new' w #[.int .i64 P, .int .i64 D, .slice (some ⟨a0, oa, none⟩) n n] 26 (w.heap.size) (by simp)).ext ((Ext.refl _).alloc (.cells #[.int .i64 0, .int .i64 0, .int .i64 0, .slice none 0 0] 36)))
  have R_2 := Lib.hid (cells_new' (w.alloc (.cells #[.int .i64 P, .int .i64 D, .slice (some ⟨a0, oa, none⟩) n n] 26)) #[.int .i64 0, .int .i64 0, .int .i64 0, .slice none 0 0] 36 (w.heap.size + 1) (by simp))
  have E_3 := Lib.hid (((Ext.refl w).alloc (.cells #[.int .i64 P, .int .i64 D, .slice (some ⟨a0, oa, none⟩) n n] 26)).alloc (.cells #[.int .i64 0, .int .i64 0, .int .i64 0, .slice none 0 0] 36))
  have lA0 := A0_1.out.1
  have qA00 := A0_1.out.2 0 _ rfl
  have qA01 := A0_1.out.2 1 _ rfl
  have qA02 := A0_1.out.2 2 _ rfl
  try simp only [World.size_alloc] at lA0
  go_wp2_with fail
  refine (wrap_impl P _ a0 oa n n l _ (HT.out.ext E_3.out) hm0 (Nat.le_refl _) (by unfold maxLen; omega)).mono ?_
  rintro e w_4 ⟨B, rfl, hb, hlo, h_4⟩
  clear lA0 qA00 qA01 qA02
  have A0_5 := Lib.hid (A0_1.out.ext h_4)
  clear A0_1
  have R_6 := Lib.hid (R_2.out.ext h_4)
  clear R_2
  have E_7 := Lib.hid (E_3.out.trans h_4)
  clear E_3
  have B_8 := Lib.hid hb
  clear hb
  rw [H0.out]
  try simp only [World.size_alloc] at hlo
  have lA0 := A0_5.out.1
  have qA00 := A0_5.out.2 0 _ rfl
  have qA01 := A0_5.out.2 1 _ rfl
  have qA02 := A0_5.out.2 2 _ rfl
  try simp only [World.size_alloc] at lA0
  have lB := B_8.out.1
  have qB0 := B_8.out.2 0 _ rfl
  have qB1 := B_8.out.2 1 _ rfl
  have qB2 := B_8.out.2 2 _ rfl
  try simp only [World.size_alloc] at lA0 lB
  have nB : ¬ B = w.heap.size + 1 := by omega
  have nA0 : ¬ w.heap.size = w.heap.size + 1 := by omega
  have lR := R_6.out.1
  have qR0 := R_6.out.2 0 _ rfl
  have qR1 := R_6.out.2 1 _ rfl
  have qR2 := R_6.out.2 2 _ rfl
  have qR3 := R_6.out.2 3 _ rfl
  have tR := R_6.out.3
  try simp only [World.size_alloc] at lA0 lB lR
  go_wp2_with fail
  go_region_held3 (fun w' => w_4.grownBy w' (some (w.heap.size + 1)) ∧ ∀ B o, B ≠ w.heap.size + 1 → B < w_4.heap.size → w'.cell? ⟨B, o, none⟩ = w_4.cell? ⟨B, o, none⟩) (first | assumption | exact keptB_refl _ _ | exact keptB_drew | (with_reducible exact keptB_call ‹w_4.grownBy _ (some (w.heap.size + 1)) ∧ _› ‹Ext _ _›) | (with_reducible exact keptB_set4 ‹w_4.grownBy _ (some (w.heap.size + 1)) ∧ _› _ _ _ _)) (first
      | (go_at_call 86; (with_reducible refine (all_impl P D B _ _ (B_8.out.ext (Ext.drew (Ext.refl _))) hD).mono ?_); rintro e wU ⟨bU, rfl, bU1, bU2, kU, EU⟩)
      | (go_at_call 90; (with_reducible refine (zeros_none P D _).mono ?_); rintro e wZ ⟨bZ, rfl, bZ1, bZ2, kZ, EZ⟩)
      | (go_at_call 89; (with_reducible refine (cT _ B bU bZ (E_7.out.trans (((Ext.drew (Ext.refl _)).trans EU).trans EZ)) (kU.ext EZ) kZ (B_8.out.ext (((Ext.drew (Ext.refl _)).trans EU).trans EZ))).mono ?_); rintro e w9 ⟨sb, sc, rfl, hs1, hs2, hh, h9⟩; have hall : Ext w_4 w9 := (((Ext.drew (Ext.refl _)).trans EU).trans EZ).trans h9; have c0 := (hall.cells _ 0 lR).trans qR0; have c1 := (hall.cells _ 1 lR).trans qR1; have c2 := (hall.cells _ 2 lR).trans qR2; have c3 := (hall.cells _ 3 lR).trans qR3; have f1 : ∀ j, w9.frozen? ⟨w.heap.size + 1, j, none⟩ = false := fun j => (hall.frees _ j lR).trans (tR j)))
  have hg9 := (‹w_4.grownBy _ (some (w.heap.size + 1)) ∧ _› : w_4.grownBy _ (some (w.heap.size + 1)) ∧ _).1
  have hx2 := E_7.out.grown hg9 (fun k hk => by simp at hk; omega)
  have b0 : w_4.heap.size ≤ sb := Nat.le_trans (((Ext.drew (Ext.refl _)).trans EU).trans EZ).le hs1
  have hWs := R_6.out.1
  go_wp2
  refine bodyPost_ret (v := .agg #[.int .i64 P, .int .i64 (K : Nat), .int .i64 D, .slice (some ⟨sb, 0, none⟩) (K * D) sc]) (by simp [results, Try.results40, go_sem, c0, c1, c2, c3]) rfl ⟨_, rfl, ⟨_, _, _, rfl, ?_, HKB.out⟩, hx2⟩
  refine Own.mono (own4 (hh.own (lo := w.heap.size + 1 + 1) (hi := w9.heap.size) (by omega) (by omega) HKL.out) (by omega) _ _ _ _) (by omega) (by simp)

set_option maxRecDepth 100000 in
set_option maxHeartbeats 6400000 in
theorem centreOf_spec {P D : Int} {a0 oa n : Nat} {l : List Int} {w : World} {p r' c : Int} {d : List Int} (hT : Reads w (some ⟨a0, oa, none⟩) n l) (hm0 : n ≤ 1048576) (hM : ctrM P D l = ⟨p, r', c, d⟩) :
    Calls Try.prog 39 #[.agg #[.int .i64 P, .int .i64 D, .slice (some ⟨a0, oa, none⟩) n n]] w fun e w' => ∃ v, e = .returned v ∧ Rmat w w' v p r' c d ∧ Ext w w' := by
  have HT := Lib.hid hT
  rcases h0 : algB P D l with _ | _
  · simp only [ctrM, h0, noMat, Bool.false_and, Bool.and_false, Bool.false_eq_true, if_false, Prod.mk.injEq, Mat.mk.injEq] at hM
    obtain ⟨rfl, rfl, rfl, rfl⟩ := hM
    have H0 := Lib.hid h0
    clear h0 hT
    go_enter Try.func39, Try.ntmps39
    have A0_1 := Lib.hid ((cells_new' w #[.int .i64 P, .int .i64 D, .slice (some ⟨a0, oa, none⟩) n n] 26 (w.heap.size) (by simp)).ext ((Ext.refl _).alloc (.cells #[.int .i64 0, .int .i64 0, .int .i64 0, .slice none 0 0] 36)))
    have R_2 := Lib.hid (cells_new' (w.alloc (.cells #[.int .i64 P, .int .i64 D, .slice (some ⟨a0, oa, none⟩) n n] 26)) #[.int .i64 0, .int .i64 0, .int .i64 0, .slice none 0 0] 36 (w.heap.size + 1) (by simp))
    have E_3 := Lib.hid (((Ext.refl w).alloc (.cells #[.int .i64 P, .int .i64 D, .slice (some ⟨a0, oa, none⟩) n n] 26)).alloc (.cells #[.int .i64 0, .int .i64 0, .int .i64 0, .slice none 0 0] 36))
    have lA0 := A0_1.out.1
    have qA00 := A0_1.out.2 0 _ rfl
    have qA01 := A0_1.out.2 1 _ rfl
    have qA02 := A0_1.out.2 2 _ rfl
    try simp only [World.size_alloc] at lA0
    go_wp2_with fail
    refine (algebraOk_spec (HT.out.ext E_3.out) hm0 H0.out).mono ?_
    rintro e w_4 ⟨rfl, h_4⟩
    clear lA0 qA00 qA01 qA02
    have A0_5 := Lib.hid (A0_1.out.ext h_4)
    clear A0_1
    have R_6 := Lib.hid (R_2.out.ext h_4)
    clear R_2
    have E_7 := Lib.hid (E_3.out.trans h_4)
    clear E_3
    have lA0 := A0_5.out.1
    have qA00 := A0_5.out.2 0 _ rfl
    have qA01 := A0_5.out.2 1 _ rfl
    have qA02 := A0_5.out.2 2 _ rfl
    try simp only [World.size_alloc] at lA0
    have r0 := R_6.out.2 0 _ rfl
    have r1 := R_6.out.2 1 _ rfl
    have r2 := R_6.out.2 2 _ rfl
    have r3 := R_6.out.2 3 _ rfl
    have tR := R_6.out.3
    have lR := R_6.out.1
    go_wp2
    refine bodyPost_ret (v := .agg #[.int .i64 0, .int .i64 0, .int .i64 0, .slice none 0 0]) (by simp [results, Try.results39, go_sem, r0, r1, r2, r3]) rfl ⟨_, rfl, ⟨_, _, _, rfl, own_nil _ _ _, by omega⟩, ext4 E_7.out (by omega) _ _ _ _⟩
  have H0 := Lib.hid h0
  have hz0 := h0
  simp only [ctrM, hz0, if_true, Mat.mk.injEq] at hM
  obtain ⟨rfl, rfl, rfl, rfl⟩ := hM
  obtain ⟨D, rfl, hA⟩ := algB_parts hz0 hT.1
  simp only [Int.toNat_natCast]
  have hpr := hA.pr
  have hp := isP_lo hA.pr
  have hp2 := isP_hi hA.pr
  have hD := hA.dim
  have hsq : D * D ≤ 784 := Nat.mul_le_mul hD hD
  have hul : (unitTo D D).length = D * D := unitTo_length D D
  have hux : Res (unitTo D D) P := unitTo_res2 P hp D D
  have hkn : intN P D D l (unitTo D D) 0 [] ≤ D := (redTo_pv (P := P) (C := D) D).1
  have HKB : Hid (intN P D D l (unitTo D D) 0 [] * D ≤ 1048576) := Nat.le_trans (Nat.mul_le_mul hkn (Nat.le_refl D)) (by omega)
  have HKL : Hid ((intS P D D l (unitTo D D) 0 []).length = intN P D D l (unitTo D D) 0 [] * D) := spanL_length (kerTo_length D)
  have cT : ∀ w1 bU bZ, Ext w w1 → Has w1 bU (unitTo D D) → Has w1 bZ [] → Calls Try.prog 87 #[.agg #[.int .i64 P, .int .i64 D, .slice (some ⟨a0, oa, none⟩) n n], .agg #[.int .i64 P, .int .i64 D, .int .i64 D, .slice (some ⟨bU, 0, none⟩) (D * D) (D * D)], .agg #[.int .i64 P, .int .i64 0, .int .i64 D, .slice (some ⟨bZ, 0, none⟩) 0 0]] w1 fun e w' => ∃ b c', e = .returned (.agg #[.int .i64 P, .int .i64 (intN P D D l (unitTo D D) 0 [] : Nat), .int .i64 D, .slice (some ⟨b, 0, none⟩) (intN P D D l (unitTo D D) 0 [] * D) c']) ∧ w1.heap.size ≤ b ∧ b < w'.heap.size ∧ Has w' b (intS P D D l (unitTo D D) 0 []) ∧ Ext w1 w' := fun w1 bU bZ h hu hz =>
    l2Into_spec P D D 0 a0 oa n n bU 0 (D * D) (D * D) bZ 0 0 0 l (unitTo D D) [] w1 (hT.ext h) (hu.reads hul) (hz.reads rfl) hD hD hA.len rfl (Nat.le_refl _) (spaceM_nil hpr hD) hA.res hux hA.alt
  clear hT hul hux hA hz0 hkn h0 
  generalize intN P D D l (unitTo D D) 0 [] = K at *
  generalize intS P D D l (unitTo D D) 0 [] = KS at *
  go_enter Try.func39, Try.ntmps39
  have A0_1 := Lib.hid ((cells_new' w #[.int .i64 P, .int .i64 D, .slice (some ⟨a0, oa, none⟩) n n] 26 (w.heap.size) (by simp)).ext ((Ext.refl _).alloc (.cells #[.int .i64 0, .int .i64 0, .int .i64 0, .slice none 0 0] 36)))
  have R_2 := Lib.hid (cells_new' (w.alloc (.cells #[.int .i64 P, .int .i64 D, .slice (some ⟨a0, oa, none⟩) n n] 26)) #[.int .i64 0, .int .i64 0, .int .i64 0, .slice none 0 0] 36 (w.heap.size + 1) (by simp))
  have E_3 := Lib.hid (((Ext.refl w).alloc (.cells #[.int .i64 P, .int .i64 D, .slice (some ⟨a0, oa, none⟩) n n] 26)).alloc (.cells #[.int .i64 0, .int .i64 0, .int .i64 0, .slice none 0 0] 36))
  have lA0 := A0_1.out.1
  have qA00 := A0_1.out.2 0 _ rfl
  have qA01 := A0_1.out.2 1 _ rfl
  have qA02 := A0_1.out.2 2 _ rfl
  try simp only [World.size_alloc] at lA0
  go_wp2_with fail
  refine (algebraOk_spec (HT.out.ext E_3.out) hm0 H0.out).mono ?_
  rintro e w_4 ⟨rfl, h_4⟩
  clear lA0 qA00 qA01 qA02
  have A0_5 := Lib.hid (A0_1.out.ext h_4)
  clear A0_1
  have R_6 := Lib.hid (R_2.out.ext h_4)
  clear R_2
  have E_7 := Lib.hid (E_3.out.trans h_4)
  clear E_3
  have lA0 := A0_5.out.1
  have qA00 := A0_5.out.2 0 _ rfl
  have qA01 := A0_5.out.2 1 _ rfl
  have qA02 := A0_5.out.2 2 _ rfl
  try simp only [World.size_alloc] at lA0
  have nA0 : ¬ w.heap.size = w.heap.size + 1 := by omega
  have lR := R_6.out.1
  have qR0 := R_6.out.2 0 _ rfl
  have qR1 := R_6.out.2 1 _ rfl
  have qR2 := R_6.out.2 2 _ rfl
  have qR3 := R_6.out.2 3 _ rfl
  have tR := R_6.out.3
  try simp only [World.size_alloc] at lA0 lR
  go_wp2_with fail
  go_region_held3 (fun w' => w_4.grownBy w' (some (w.heap.size + 1)) ∧ ∀ B o, B ≠ w.heap.size + 1 → B < w_4.heap.size → w'.cell? ⟨B, o, none⟩ = w_4.cell? ⟨B, o, none⟩) (first | assumption | exact keptB_refl _ _ | exact keptB_drew | (with_reducible exact keptB_call ‹w_4.grownBy _ (some (w.heap.size + 1)) ∧ _› ‹Ext _ _›) | (with_reducible exact keptB_set4 ‹w_4.grownBy _ (some (w.heap.size + 1)) ∧ _› _ _ _ _)) (first
      | (go_at_call 64; (with_reducible refine (l2All_spec P D a0 oa n n _ hD).mono ?_); rintro e wU ⟨bU, rfl, bU1, bU2, kU, EU⟩)
      | (go_at_call 88; (with_reducible refine (l2None_spec P D a0 oa n n _).mono ?_); rintro e wZ ⟨bZ, rfl, bZ1, bZ2, kZ, EZ⟩)
      | (go_at_call 87; (with_reducible refine (cT _ bU bZ (E_7.out.trans (((Ext.drew (Ext.refl _)).trans EU).trans EZ)) (kU.ext EZ) kZ).mono ?_); rintro e w9 ⟨sb, sc, rfl, hs1, hs2, hh, h9⟩; have hall : Ext w_4 w9 := (((Ext.drew (Ext.refl _)).trans EU).trans EZ).trans h9; have c0 := (hall.cells _ 0 lR).trans qR0; have c1 := (hall.cells _ 1 lR).trans qR1; have c2 := (hall.cells _ 2 lR).trans qR2; have c3 := (hall.cells _ 3 lR).trans qR3; have f1 : ∀ j, w9.frozen? ⟨w.heap.size + 1, j, none⟩ = false := fun j => (hall.frees _ j lR).trans (tR j)))
  have hg9 := (‹w_4.grownBy _ (some (w.heap.size + 1)) ∧ _› : w_4.grownBy _ (some (w.heap.size + 1)) ∧ _).1
  have hx2 := E_7.out.grown hg9 (fun k hk => by simp at hk; omega)
  have b0 : w_4.heap.size ≤ sb := Nat.le_trans (((Ext.drew (Ext.refl _)).trans EU).trans EZ).le hs1
  have hWs := R_6.out.1
  go_wp2
  refine bodyPost_ret (v := .agg #[.int .i64 P, .int .i64 (K : Nat), .int .i64 D, .slice (some ⟨sb, 0, none⟩) (K * D) sc]) (by simp [results, Try.results39, go_sem, c0, c1, c2, c3]) rfl ⟨_, rfl, ⟨_, _, _, rfl, ?_, HKB.out⟩, hx2⟩
  refine Own.mono (own4 (hh.own (lo := w.heap.size + 1 + 1) (hi := w9.heap.size) (by omega) (by omega) HKL.out) (by omega) _ _ _ _) (by omega) (by simp)
end Go.Proofs.Ytgmipolgnpjmnaa
