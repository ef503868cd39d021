/-
  The least subalgebra and the least ideal, in the specification.
-/
import Derived.Test.YtapaopapgnfdkaaGwS
import Derived.Test.YtapaopapgnfdkaaGwT
namespace Go.Proofs.Ytapaopapgnfdkaa
open Go.ChangeShapes Go.WideShapes Go.ChangeAt Go.RowKit
set_option linter.unusedVariables false
set_option linter.unusedSimpArgs false

set_option maxRecDepth 100000 in
set_option maxHeartbeats 3200000 in
theorem l2Vectors_spec (P D P1 R1 C1 : Int) (a0 oa n s0 so n1 : Nat) (l ss : List Int) (w : World) (hT : Reads w (some ⟨a0, oa, none⟩) n l) (hm0 : n ≤ 1048576) (hX : Reads w (some ⟨s0, so, none⟩) n1 ss) (hm : n1 ≤ maxLen) :
    Calls Try.prog 82 #[.agg #[.int .i64 P, .int .i64 D, .slice (some ⟨a0, oa, none⟩) n n], .agg #[.int .i64 P1, .int .i64 R1, .int .i64 C1, .slice (some ⟨s0, so, none⟩) n1 n1]] w fun e w' => e = .returned (.bool (algB P D l && rwB P D P1 R1 C1 ss)) ∧ Ext w w' := by
  have HT := Lib.hid hT
  have HX := Lib.hid hX
  have HA : Hid ((algB P D l && rwB P D P1 R1 C1 ss) = (algB P D l && (mok P1 R1 C1 ss && ((P1 == P) && (C1 == D))))) := rfl
  generalize (algB P D l && rwB P D P1 R1 C1 ss) = q at HA
  clear hT hX
  rcases h0 : algB P D l with _ | _
  · have HF : Hid (q = false) := by rw [Hid, HA.out, h0]; rfl
    have H0 := Lib.hid h0
    clear h0 HA
    go_enter Try.func82, Try.ntmps82
    have A0_1 := Lib.hid ((cells_new' w #[.int .i64 P, .int .i64 D, .slice (some ⟨a0, oa, none⟩) n n] 28 (w.heap.size) (by simp)).ext ((Ext.refl _).alloc (.cells #[.int .i64 P1, .int .i64 R1, .int .i64 C1, .slice (some ⟨s0, so, none⟩) n1 n1] 40)))
    have A1_2 := Lib.hid (cells_new' (w.alloc (.cells #[.int .i64 P, .int .i64 D, .slice (some ⟨a0, oa, none⟩) n n] 28)) #[.int .i64 P1, .int .i64 R1, .int .i64 C1, .slice (some ⟨s0, so, none⟩) n1 n1] 40 (w.heap.size + 1) (by simp))
    have E_3 := Lib.hid (((Ext.refl w).alloc (.cells #[.int .i64 P, .int .i64 D, .slice (some ⟨a0, oa, none⟩) n n] 28)).alloc (.cells #[.int .i64 P1, .int .i64 R1, .int .i64 C1, .slice (some ⟨s0, so, none⟩) n1 n1] 40))
    have lA0 := A0_1.out.1
    have qA00 := A0_1.out.2 0 _ rfl
    have qA01 := A0_1.out.2 1 _ rfl
    have qA02 := A0_1.out.2 2 _ rfl
    have lA1 := A1_2.out.1
    have qA10 := A1_2.out.2 0 _ rfl
    have qA11 := A1_2.out.2 1 _ rfl
    have qA12 := A1_2.out.2 2 _ rfl
    have qA13 := A1_2.out.2 3 _ rfl
    try simp only [World.size_alloc] at lA0 lA1
    go_wp2_with fail
    refine (algebraOk_spec (HT.out.ext E_3.out) hm0 H0.out).mono ?_
    rintro e w_4 ⟨rfl, h_4⟩
    clear lA0 qA00 qA01 qA02 lA1 qA10 qA11 qA12 qA13
    have A0_5 := Lib.hid (A0_1.out.ext h_4)
    clear A0_1
    have A1_6 := Lib.hid (A1_2.out.ext h_4)
    clear A1_2
    have E_7 := Lib.hid (E_3.out.trans h_4)
    clear E_3
    have lA0 := A0_5.out.1
    have qA00 := A0_5.out.2 0 _ rfl
    have qA01 := A0_5.out.2 1 _ rfl
    have qA02 := A0_5.out.2 2 _ rfl
    have lA1 := A1_6.out.1
    have qA10 := A1_6.out.2 0 _ rfl
    have qA11 := A1_6.out.2 1 _ rfl
    have qA12 := A1_6.out.2 2 _ rfl
    have qA13 := A1_6.out.2 3 _ rfl
    try simp only [World.size_alloc] at lA0 lA1
    go_wp2
    go_ret
    exact ⟨ret_bool HF.out.symm, E_7.out⟩
  have H0 := Lib.hid h0
  rcases h1 : mok P1 R1 C1 ss with _ | _
  · have HF : Hid (q = false) := by rw [Hid, HA.out, h0, h1]; rfl
    have H1 := Lib.hid h1
    clear h0 h1 HA
    go_enter Try.func82, Try.ntmps82
    have A0_1 := Lib.hid ((cells_new' w #[.int .i64 P, .int .i64 D, .slice (some ⟨a0, oa, none⟩) n n] 28 (w.heap.size) (by simp)).ext ((Ext.refl _).alloc (.cells #[.int .i64 P1, .int .i64 R1, .int .i64 C1, .slice (some ⟨s0, so, none⟩) n1 n1] 40)))
    have A1_2 := Lib.hid (cells_new' (w.alloc (.cells #[.int .i64 P, .int .i64 D, .slice (some ⟨a0, oa, none⟩) n n] 28)) #[.int .i64 P1, .int .i64 R1, .int .i64 C1, .slice (some ⟨s0, so, none⟩) n1 n1] 40 (w.heap.size + 1) (by simp))
    have E_3 := Lib.hid (((Ext.refl w).alloc (.cells #[.int .i64 P, .int .i64 D, .slice (some ⟨a0, oa, none⟩) n n] 28)).alloc (.cells #[.int .i64 P1, .int .i64 R1, .int .i64 C1, .slice (some ⟨s0, so, none⟩) n1 n1] 40))
    have lA0 := A0_1.out.1
    have qA00 := A0_1.out.2 0 _ rfl
    have qA01 := A0_1.out.2 1 _ rfl
    have qA02 := A0_1.out.2 2 _ rfl
    have lA1 := A1_2.out.1
    have qA10 := A1_2.out.2 0 _ rfl
    have qA11 := A1_2.out.2 1 _ rfl
    have qA12 := A1_2.out.2 2 _ rfl
    have qA13 := A1_2.out.2 3 _ rfl
    try simp only [World.size_alloc] at lA0 lA1
    go_wp2_with fail
    refine (algebraOk_spec (HT.out.ext E_3.out) hm0 H0.out).mono ?_
    rintro e w_4 ⟨rfl, h_4⟩
    clear lA0 qA00 qA01 qA02 lA1 qA10 qA11 qA12 qA13
    have A0_5 := Lib.hid (A0_1.out.ext h_4)
    clear A0_1
    have A1_6 := Lib.hid (A1_2.out.ext h_4)
    clear A1_2
    have E_7 := Lib.hid (E_3.out.trans h_4)
    clear E_3
    have lA0 := A0_5.out.1
    have qA00 := A0_5.out.2 0 _ rfl
    have qA01 := A0_5.out.2 1 _ rfl
    have qA02 := A0_5.out.2 2 _ rfl
    have lA1 := A1_6.out.1
    have qA10 := A1_6.out.2 0 _ rfl
    have qA11 := A1_6.out.2 1 _ rfl
    have qA12 := A1_6.out.2 2 _ rfl
    have qA13 := A1_6.out.2 3 _ rfl
    try simp only [World.size_alloc] at lA0 lA1
    go_wp2_with fail
    refine (matrixOk_spec _ _ _ _ _ _ ss _ (HX.out.ext E_7.out) hm).mono ?_
    rintro e w_8 ⟨rfl, h_8⟩
    clear lA0 qA00 qA01 qA02 lA1 qA10 qA11 qA12 qA13
    have A0_9 := Lib.hid (A0_5.out.ext h_8)
    clear A0_5
    have A1_10 := Lib.hid (A1_6.out.ext h_8)
    clear A1_6
    have E_11 := Lib.hid (E_7.out.trans h_8)
    clear E_7
    rw [H1.out]
    have lA0 := A0_9.out.1
    have qA00 := A0_9.out.2 0 _ rfl
    have qA01 := A0_9.out.2 1 _ rfl
    have qA02 := A0_9.out.2 2 _ rfl
    have lA1 := A1_10.out.1
    have qA10 := A1_10.out.2 0 _ rfl
    have qA11 := A1_10.out.2 1 _ rfl
    have qA12 := A1_10.out.2 2 _ rfl
    have qA13 := A1_10.out.2 3 _ rfl
    try simp only [World.size_alloc] at lA0 lA1
    go_wp2
    go_ret
    exact ⟨ret_bool HF.out.symm, E_11.out⟩
  have H1 := Lib.hid h1
  rcases h2 : (P1 == P) with _ | _
  · have HF : Hid (q = false) := by rw [Hid, HA.out, h0, h1, h2]; rfl
    clear h0 h1 HA
    go_enter Try.func82, Try.ntmps82
    have A0_1 := Lib.hid ((cells_new' w #[.int .i64 P, .int .i64 D, .slice (some ⟨a0, oa, none⟩) n n] 28 (w.heap.size) (by simp)).ext ((Ext.refl _).alloc (.cells #[.int .i64 P1, .int .i64 R1, .int .i64 C1, .slice (some ⟨s0, so, none⟩) n1 n1] 40)))
    have A1_2 := Lib.hid (cells_new' (w.alloc (.cells #[.int .i64 P, .int .i64 D, .slice (some ⟨a0, oa, none⟩) n n] 28)) #[.int .i64 P1, .int .i64 R1, .int .i64 C1, .slice (some ⟨s0, so, none⟩) n1 n1] 40 (w.heap.size + 1) (by simp))
    have E_3 := Lib.hid (((Ext.refl w).alloc (.cells #[.int .i64 P, .int .i64 D, .slice (some ⟨a0, oa, none⟩) n n] 28)).alloc (.cells #[.int .i64 P1, .int .i64 R1, .int .i64 C1, .slice (some ⟨s0, so, none⟩) n1 n1] 40))
    have lA0 := A0_1.out.1
    have qA00 := A0_1.out.2 0 _ rfl
    have qA01 := A0_1.out.2 1 _ rfl
    have qA02 := A0_1.out.2 2 _ rfl
    have lA1 := A1_2.out.1
    have qA10 := A1_2.out.2 0 _ rfl
    have qA11 := A1_2.out.2 1 _ rfl
    have qA12 := A1_2.out.2 2 _ rfl
    have qA13 := A1_2.out.2 3 _ rfl
    try simp only [World.size_alloc] at lA0 lA1
    go_wp2_with fail
    refine (algebraOk_spec (HT.out.ext E_3.out) hm0 H0.out).mono ?_
    rintro e w_4 ⟨rfl, h_4⟩
    clear lA0 qA00 qA01 qA02 lA1 qA10 qA11 qA12 qA13
    have A0_5 := Lib.hid (A0_1.out.ext h_4)
    clear A0_1
    have A1_6 := Lib.hid (A1_2.out.ext h_4)
    clear A1_2
    have E_7 := Lib.hid (E_3.out.trans h_4)
    clear E_3
    have lA0 := A0_5.out.1
    have qA00 := A0_5.out.2 0 _ rfl
    have qA01 := A0_5.out.2 1 _ rfl
    have qA02 := A0_5.out.2 2 _ rfl
    have lA1 := A1_6.out.1
    have qA10 := A1_6.out.2 0 _ rfl
    have qA11 := A1_6.out.2 1 _ rfl
    have qA12 := A1_6.out.2 2 _ rfl
    have qA13 := A1_6.out.2 3 _ rfl
    try simp only [World.size_alloc] at lA0 lA1
    go_wp2_with fail
    refine (matrixOk_spec _ _ _ _ _ _ ss _ (HX.out.ext E_7.out) hm).mono ?_
    rintro e w_8 ⟨rfl, h_8⟩
    clear lA0 qA00 qA01 qA02 lA1 qA10 qA11 qA12 qA13
    have A0_9 := Lib.hid (A0_5.out.ext h_8)
    clear A0_5
    have A1_10 := Lib.hid (A1_6.out.ext h_8)
    clear A1_6
    have E_11 := Lib.hid (E_7.out.trans h_8)
    clear E_7
    rw [H1.out]
    have lA0 := A0_9.out.1
    have qA00 := A0_9.out.2 0 _ rfl
    have qA01 := A0_9.out.2 1 _ rfl
    have qA02 := A0_9.out.2 2 _ rfl
    have lA1 := A1_10.out.1
    have qA10 := A1_10.out.2 0 _ rfl
    have qA11 := A1_10.out.2 1 _ rfl
    have qA12 := A1_10.out.2 2 _ rfl
    have qA13 := A1_10.out.2 3 _ rfl
    try simp only [World.size_alloc] at lA0 lA1
    go_wp2
    go_ret
    exact ⟨ret_bool HF.out.symm, E_11.out⟩
  · have HF : Hid (q = (C1 == D)) := by rw [Hid, HA.out, h0, h1, h2]; simp
    clear h0 h1 HA
    go_enter Try.func82, Try.ntmps82
    have A0_1 := Lib.hid ((cells_new' w #[.int .i64 P, .int .i64 D, .slice (some ⟨a0, oa, none⟩) n n] 28 (w.heap.size) (by simp)).ext ((Ext.refl _).alloc (.cells #[.int .i64 P1, .int .i64 R1, .int .i64 C1, .slice (some ⟨s0, so, none⟩) n1 n1] 40)))
    have A1_2 := Lib.hid (cells_new' (w.alloc (.cells #[.int .i64 P, .int .i64 D, .slice (some ⟨a0, oa, none⟩) n n] 28)) #[.int .i64 P1, .int .i64 R1, .int .i64 C1, .slice (some ⟨s0, so, none⟩) n1 n1] 40 (w.heap.size + 1) (by simp))
    have E_3 := Lib.hid (((Ext.refl w).alloc (.cells #[.int .i64 P, .int .i64 D, .slice (some ⟨a0, oa, none⟩) n n] 28)).alloc (.cells #[.int .i64 P1, .int .i64 R1, .int .i64 C1, .slice (some ⟨s0, so, none⟩) n1 n1] 40))
    have lA0 := A0_1.out.1
    have qA00 := A0_1.out.2 0 _ rfl
    have qA01 := A0_1.out.2 1 _ rfl
    have qA02 := A0_1.out.2 2 _ rfl
    have lA1 := A1_2.out.1
    have qA10 := A1_2.out.2 0 _ rfl
    have qA11 := A1_2.out.2 1 _ rfl
    have qA12 := A1_2.out.2 2 _ rfl
    have qA13 := A1_2.out.2 3 _ rfl
    try simp only [World.size_alloc] at lA0 lA1
    go_wp2_with fail
    refine (algebraOk_spec (HT.out.ext E_3.out) hm0 H0.out).mono ?_
    rintro e w_4 ⟨rfl, h_4⟩
    clear lA0 qA00 qA01 qA02 lA1 qA10 qA11 qA12 qA13
    have A0_5 := Lib.hid (A0_1.out.ext h_4)
    clear A0_1
    have A1_6 := Lib.hid (A1_2.out.ext h_4)
    clear A1_2
    have E_7 := Lib.hid (E_3.out.trans h_4)
    clear E_3
    have lA0 := A0_5.out.1
    have qA00 := A0_5.out.2 0 _ rfl
    have qA01 := A0_5.out.2 1 _ rfl
    have qA02 := A0_5.out.2 2 _ rfl
    have lA1 := A1_6.out.1
    have qA10 := A1_6.out.2 0 _ rfl
    have qA11 := A1_6.out.2 1 _ rfl
    have qA12 := A1_6.out.2 2 _ rfl
    have qA13 := A1_6.out.2 3 _ rfl
    try simp only [World.size_alloc] at lA0 lA1
    go_wp2_with fail
    refine (matrixOk_spec _ _ _ _ _ _ ss _ (HX.out.ext E_7.out) hm).mono ?_
    rintro e w_8 ⟨rfl, h_8⟩
    clear lA0 qA00 qA01 qA02 lA1 qA10 qA11 qA12 qA13
    have A0_9 := Lib.hid (A0_5.out.ext h_8)
    clear A0_5
    have A1_10 := Lib.hid (A1_6.out.ext h_8)
    clear A1_6
    have E_11 := Lib.hid (E_7.out.trans h_8)
    clear E_7
    rw [H1.out]
    have lA0 := A0_9.out.1
    have qA00 := A0_9.out.2 0 _ rfl
    have qA01 := A0_9.out.2 1 _ rfl
    have qA02 := A0_9.out.2 2 _ rfl
    have lA1 := A1_10.out.1
    have qA10 := A1_10.out.2 0 _ rfl
    have qA11 := A1_10.out.2 1 _ rfl
    have qA12 := A1_10.out.2 2 _ rfl
    have qA13 := A1_10.out.2 3 _ rfl
    try simp only [World.size_alloc] at lA0 lA1
    go_wp2
    go_ret
    exact ⟨by rw [HF.out]; rfl, E_11.out⟩

set_option maxRecDepth 100000 in
set_option maxHeartbeats 6400000 in
theorem subalgebraBy_spec {P D : Int} {a0 oa n : Nat} {l : List Int} {P1 R1 C1 : Int} {s0 so n1 : Nat} {ss : List Int} {w : World} {p r' c : Int} {d : List Int} {ok : Bool} (hT : Reads w (some ⟨a0, oa, none⟩) n l) (hm0 : n ≤ 1048576) (hS : Reads w (some ⟨s0, so, none⟩) n1 ss) (hm1 : n1 ≤ 1048576) (hM : gwM false P D l P1 R1 C1 ss = (⟨p, r', c, d⟩, ok)) :
    Calls Try.prog 33 #[.agg #[.int .i64 P, .int .i64 D, .slice (some ⟨a0, oa, none⟩) n n], .agg #[.int .i64 P1, .int .i64 R1, .int .i64 C1, .slice (some ⟨s0, so, none⟩) n1 n1]] w fun e w' => ∃ v, e = .returned (.tuple #[v, .bool ok]) ∧ Rmat w w' v p r' c d ∧ Ext w w' := by
  have HT := Lib.hid hT
  have HS := Lib.hid hS
  have hm3 : n1 ≤ maxLen := by unfold maxLen; omega
  rcases h1 : (algB P D l && rwB P D P1 R1 C1 ss) with _ | _
  · simp only [gwM, h1, noMat, Bool.false_eq_true, if_false, Prod.mk.injEq, Mat.mk.injEq] at hM
    obtain ⟨⟨rfl, rfl, rfl, rfl⟩, rfl⟩ := hM
    have H1 := Lib.hid h1
    clear h1 hT hS
    go_enter Try.func33, Try.ntmps33
    have A0_1 := Lib.hid (((cells_new' w #[.int .i64 P, .int .i64 D, .slice (some ⟨a0, oa, none⟩) n n] 28 (w.heap.size) (by simp)).ext ((Ext.refl _).alloc (.cells #[.int .i64 P1, .int .i64 R1, .int .i64 C1, .slice (some ⟨s0, so, none⟩) n1 n1] 40))).ext ((Ext.refl _).alloc (.cells #[.int .i64 0, .int .i64 0, .int .i64 0, .slice none 0 0] 40)))
    have A1_2 := Lib.hid ((cells_new' (w.alloc (.cells #[.int .i64 P, .int .i64 D, .slice (some ⟨a0, oa, none⟩) n n] 28)) #[.int .i64 P1, .int .i64 R1, .int .i64 C1, .slice (some ⟨s0, so, none⟩) n1 n1] 40 (w.heap.size + 1) (by simp)).ext ((Ext.refl _).alloc (.cells #[.int .i64 0, .int .i64 0, .int .i64 0, .slice none 0 0] 40)))
    have R_3 := Lib.hid (cells_new' ((w.alloc (.cells #[.int .i64 P, .int .i64 D, .slice (some ⟨a0, oa, none⟩) n n] 28)).alloc (.cells #[.int .i64 P1, .int .i64 R1, .int .i64 C1, .slice (some ⟨s0, so, none⟩) n1 n1] 40)) #[.int .i64 0, .int .i64 0, .int .i64 0, .slice none 0 0] 40 (w.heap.size + 1 + 1) (by simp))
    have E_4 := Lib.hid ((((Ext.refl w).alloc (.cells #[.int .i64 P, .int .i64 D, .slice (some ⟨a0, oa, none⟩) n n] 28)).alloc (.cells #[.int .i64 P1, .int .i64 R1, .int .i64 C1, .slice (some ⟨s0, so, none⟩) n1 n1] 40)).alloc (.cells #[.int .i64 0, .int .i64 0, .int .i64 0, .slice none 0 0] 40))
    have lA0 := A0_1.out.1
    have qA00 := A0_1.out.2 0 _ rfl
    have qA01 := A0_1.out.2 1 _ rfl
    have qA02 := A0_1.out.2 2 _ rfl
    have lA1 := A1_2.out.1
    have qA10 := A1_2.out.2 0 _ rfl
    have qA11 := A1_2.out.2 1 _ rfl
    have qA12 := A1_2.out.2 2 _ rfl
    have qA13 := A1_2.out.2 3 _ rfl
    try simp only [World.size_alloc] at lA0 lA1
    go_wp2_with fail
    refine (l2Vectors_spec P _ _ _ _ a0 oa n s0 so n1 l ss _ (HT.out.ext E_4.out) hm0 (HS.out.ext E_4.out) hm3).mono ?_
    rintro e w_5 ⟨rfl, h_5⟩
    clear lA0 qA00 qA01 qA02 lA1 qA10 qA11 qA12 qA13
    have A0_6 := Lib.hid (A0_1.out.ext h_5)
    clear A0_1
    have A1_7 := Lib.hid (A1_2.out.ext h_5)
    clear A1_2
    have R_8 := Lib.hid (R_3.out.ext h_5)
    clear R_3
    have E_9 := Lib.hid (E_4.out.trans h_5)
    clear E_4
    rw [H1.out]
    have lA0 := A0_6.out.1
    have qA00 := A0_6.out.2 0 _ rfl
    have qA01 := A0_6.out.2 1 _ rfl
    have qA02 := A0_6.out.2 2 _ rfl
    have lA1 := A1_7.out.1
    have qA10 := A1_7.out.2 0 _ rfl
    have qA11 := A1_7.out.2 1 _ rfl
    have qA12 := A1_7.out.2 2 _ rfl
    have qA13 := A1_7.out.2 3 _ rfl
    try simp only [World.size_alloc] at lA0 lA1
    have r0 := R_8.out.2 0 _ rfl
    have r1 := R_8.out.2 1 _ rfl
    have r2 := R_8.out.2 2 _ rfl
    have r3 := R_8.out.2 3 _ rfl
    have tR := R_8.out.3
    have lR := R_8.out.1
    go_wp2
    refine bodyPost_ret (v := .tuple #[.agg #[.int .i64 0, .int .i64 0, .int .i64 0, .slice none 0 0], .bool false]) (by simp [results, Try.results33, go_sem, r0, r1, r2, r3]) rfl ⟨_, rfl, ⟨_, _, _, rfl, own_nil _ _ _, by omega⟩, ext4 E_9.out (by omega) _ _ _ _⟩
  have H1 := Lib.hid h1
  have hz0 : algB P D l = true := by simp only [Bool.and_eq_true] at h1; exact h1.1
  have hz1 : rwB P D P1 R1 C1 ss = true := by simp only [Bool.and_eq_true] at h1; exact h1.2
  simp only [gwM, hz0, hz1, Bool.and_self, if_true, Prod.mk.injEq, Mat.mk.injEq] at hM
  obtain ⟨⟨rfl, rfl, rfl, rfl⟩, rfl⟩ := hM
  obtain ⟨D, rfl, hA⟩ := algB_parts hz0 hT.1
  obtain ⟨rfl, r, rfl, rfl, hr, hn1, hx1⟩ := rwB_parts hz1 hS.1
  simp only [Int.toNat_natCast]
  have hD := hA.dim
  have hp := isP_lo hA.pr
  have hIP := isP_iff.1 hA.pr
  have hxl : ss.length = r * D := by rw [hS.1, hn1]
  have hrD : r * D ≤ 1120 := Nat.mul_le_mul hr hD
  have HNS := Lib.hid (gwN_spec (P := P1) (D := D) (l := l) (b := false) hIP hxl hx1)
  have HSP : Hid (∀ w1, Ext w w1 → Calls Try.prog 84 #[.agg #[.int .i64 P1, .int .i64 (r : Nat), .int .i64 D, .slice (some ⟨s0, so, none⟩) n1 n1]] w1 fun e w' => ∃ b c', e = .returned (.agg #[.int .i64 P1, .int .i64 ((spnS P1 r D ss).1 : Nat), .int .i64 D, .slice (some ⟨b, 0, none⟩) ((spnS P1 r D ss).1 * D) c']) ∧ w1.heap.size ≤ b ∧ b < w'.heap.size ∧ Has w' b (spnS P1 r D ss).2 ∧ Ext w1 w' ∧ (spnS P1 r D ss).1 * D ≤ c') := fun w1 h => l1Span_spec P1 r D n1 n1 _ ss w1 (hS.ext h) hn1 (by omega) (by omega) (by omega) hA.pr hx1 (fun h => by simp at h)
  have HCL : Hid (∀ w1 b c, Ext w w1 → Has w1 b (spnS P1 r D ss).2 → (spnS P1 r D ss).1 * D ≤ c → Calls Try.prog 83 #[.agg #[.int .i64 P1, .int .i64 D, .slice (some ⟨a0, oa, none⟩) n n], .agg #[.int .i64 P1, .int .i64 ((spnS P1 r D ss).1 : Nat), .int .i64 D, .slice (some ⟨b, 0, none⟩) ((spnS P1 r D ss).1 * D) c], .bool false] w1 fun e w' => ∃ b' c', e = .returned (.agg #[.int .i64 P1, .int .i64 (((gwS P1 D l false r ss) (gwN P1 D l false r ss)).1 : Nat), .int .i64 D, .slice (some ⟨b', 0, none⟩) (((gwS P1 D l false r ss) (gwN P1 D l false r ss)).1 * D) c']) ∧ w1.heap.size ≤ b' ∧ b' < w'.heap.size ∧ Has w' b' ((gwS P1 D l false r ss) (gwN P1 D l false r ss)).2 ∧ Ext w1 w') := fun w1 b c h hh hc => by
    rw [← gwN_last hIP hxl hx1]
    exact l2Closed_0 P1 D a0 oa n b c (gwN P1 D l false r ss) (gwS P1 D l false r ss) (fun i => (prS P1 D l (gwT D false ((gwS P1 D l false r ss) i)) ((gwS P1 D l false r ss) i))) w1 hD hA.pr (fun i => gwS_prS hIP hxl hx1 i) (fun i => (gwS_spc (b := false) (l := l) hIP hxl hx1 i).le) (fun i => (gwS_spc (b := false) (l := l) hIP hxl hx1 i).len) (fun i => (gwS_spc (b := false) (l := l) hIP hxl hx1 i).res) (fun i => (prS_spc hIP _ _).len) (fun i => (prS_spc hIP _ _).res) (fun i => Nat.le_trans (prS_spc hIP _ _).le hD) (fun i hi => gwN_up hIP hxl hx1 i hi) HNS.out.2.2 hh hc
      (fun i hi w2 b2 c2 h2 hb2 hc2 => (l2Product_wide P1 D a0 oa n n ((gwS P1 D l false r ss) i).1 ((gwS P1 D l false r ss) i).1 b2 0 (((gwS P1 D l false r ss) i).1 * D) c2 b2 0 (((gwS P1 D l false r ss) i).1 * D) c2 l ((gwS P1 D l false r ss) i).2 ((gwS P1 D l false r ss) i).2 w2 (hT.ext (h.trans h2)) (hb2.reads (gwS_spc (b := false) (l := l) hIP hxl hx1 i).len) (hb2.reads (gwS_spc (b := false) (l := l) hIP hxl hx1 i).len) hD (Nat.le_trans (gwS_spc (b := false) (l := l) hIP hxl hx1 i).le hD) (Nat.le_trans (gwS_spc (b := false) (l := l) hIP hxl hx1 i).le hD) hA.len rfl rfl hc2 hc2 hA.pr hA.res (gwS_spc (b := false) (l := l) hIP hxl hx1 i).res (gwS_spc (b := false) (l := l) hIP hxl hx1 i).res).mono (fun e w' ⟨b', c', q1, q2, q3, q4, q5, q6⟩ => ⟨b', c', q1, q2, q3, q4, q5⟩))
  have HLN : Hid (((gwS P1 D l false r ss) (gwN P1 D l false r ss)).2.length = ((gwS P1 D l false r ss) (gwN P1 D l false r ss)).1 * D ∧ ((gwS P1 D l false r ss) (gwN P1 D l false r ss)).1 * D ≤ 784) := ⟨(gwS_spc (b := false) (l := l) hIP hxl hx1 _).len, Nat.mul_le_mul (Nat.le_trans (gwS_spc (b := false) (l := l) hIP hxl hx1 _).le hD) hD⟩
  clear hT hS h1 hz0 hz1 hA hx1 hxl HNS hIP hn1 hrD
  generalize (gwS P1 D l false r ss) (gwN P1 D l false r ss) = u at *
  obtain ⟨ur, ud⟩ := u
  generalize spnS P1 r D ss = v at *
  obtain ⟨vr, vd⟩ := v
  dsimp only at *
  go_enter Try.func33, Try.ntmps33
  have A0_1 := Lib.hid (((cells_new' w #[.int .i64 P1, .int .i64 D, .slice (some ⟨a0, oa, none⟩) n n] 28 (w.heap.size) (by simp)).ext ((Ext.refl _).alloc (.cells #[.int .i64 P1, .int .i64 (r : Nat), .int .i64 D, .slice (some ⟨s0, so, none⟩) n1 n1] 40))).ext ((Ext.refl _).alloc (.cells #[.int .i64 0, .int .i64 0, .int .i64 0, .slice none 0 0] 40)))
  have A1_2 := Lib.hid ((cells_new' (w.alloc (.cells #[.int .i64 P1, .int .i64 D, .slice (some ⟨a0, oa, none⟩) n n] 28)) #[.int .i64 P1, .int .i64 (r : Nat), .int .i64 D, .slice (some ⟨s0, so, none⟩) n1 n1] 40 (w.heap.size + 1) (by simp)).ext ((Ext.refl _).alloc (.cells #[.int .i64 0, .int .i64 0, .int .i64 0, .slice none 0 0] 40)))
  have R_3 := Lib.hid (cells_new' ((w.alloc (.cells #[.int .i64 P1, .int .i64 D, .slice (some ⟨a0, oa, none⟩) n n] 28)).alloc (.cells #[.int .i64 P1, .int .i64 (r : Nat), .int .i64 D, .slice (some ⟨s0, so, none⟩) n1 n1] 40)) #[.int .i64 0, .int .i64 0, .int .i64 0, .slice none 0 0] 40 (w.heap.size + 1 + 1) (by simp))
  have E_4 := Lib.hid ((((Ext.refl w).alloc (.cells #[.int .i64 P1, .int .i64 D, .slice (some ⟨a0, oa, none⟩) n n] 28)).alloc (.cells #[.int .i64 P1, .int .i64 (r : Nat), .int .i64 D, .slice (some ⟨s0, so, none⟩) n1 n1] 40)).alloc (.cells #[.int .i64 0, .int .i64 0, .int .i64 0, .slice none 0 0] 40))
  have lA0 := A0_1.out.1
  have qA00 := A0_1.out.2 0 _ rfl
  have qA01 := A0_1.out.2 1 _ rfl
  have qA02 := A0_1.out.2 2 _ rfl
  have lA1 := A1_2.out.1
  have qA10 := A1_2.out.2 0 _ rfl
  have qA11 := A1_2.out.2 1 _ rfl
  have qA12 := A1_2.out.2 2 _ rfl
  have qA13 := A1_2.out.2 3 _ rfl
  try simp only [World.size_alloc] at lA0 lA1
  go_wp2_with fail
  refine (l2Vectors_spec P1 _ _ _ _ a0 oa n s0 so n1 l ss _ (HT.out.ext E_4.out) hm0 (HS.out.ext E_4.out) hm3).mono ?_
  rintro e w_5 ⟨rfl, h_5⟩
  clear lA0 qA00 qA01 qA02 lA1 qA10 qA11 qA12 qA13
  have A0_6 := Lib.hid (A0_1.out.ext h_5)
  clear A0_1
  have A1_7 := Lib.hid (A1_2.out.ext h_5)
  clear A1_2
  have R_8 := Lib.hid (R_3.out.ext h_5)
  clear R_3
  have E_9 := Lib.hid (E_4.out.trans h_5)
  clear E_4
  rw [H1.out]
  have lA0 := A0_6.out.1
  have qA00 := A0_6.out.2 0 _ rfl
  have qA01 := A0_6.out.2 1 _ rfl
  have qA02 := A0_6.out.2 2 _ rfl
  have lA1 := A1_7.out.1
  have qA10 := A1_7.out.2 0 _ rfl
  have qA11 := A1_7.out.2 1 _ rfl
  have qA12 := A1_7.out.2 2 _ rfl
  have qA13 := A1_7.out.2 3 _ rfl
  try simp only [World.size_alloc] at lA0 lA1
  have lR := R_8.out.1
  have qR0 := R_8.out.2 0 _ rfl
  have qR1 := R_8.out.2 1 _ rfl
  have qR2 := R_8.out.2 2 _ rfl
  have qR3 := R_8.out.2 3 _ rfl
  have tR := R_8.out.3
  try simp only [World.size_alloc] at lA0 lA1 lR
  have gB : w.heap.size ≤ w.heap.size + 1 + 1 := by omega
  go_wp2_with fail
  go_region_held3 (fun w' => Ext w w' ∧ w.heap.size + 1 + 1 ≤ w'.heap.size ∧ ∀ b o, b < w.heap.size + 1 + 1 → w'.cell? ⟨b, o, none⟩ = w_5.cell? ⟨b, o, none⟩) (first | (with_reducible exact KeptR.call ‹Ext w _ ∧ w.heap.size + 1 + 1 ≤ _ ∧ _› ‹Ext _ _›) | exact ⟨E_9.out, Nat.le_of_lt lR, fun _ _ _ => rfl⟩ | exact ⟨E_9.out.drew, Nat.le_of_lt lR, fun _ _ _ => rfl⟩ | assumption | (with_reducible exact KeptR.set4 ‹Ext w _ ∧ w.heap.size + 1 + 1 ≤ _ ∧ _› gB _ _ _ _)) (first
    | (go_at_call 84; (with_reducible refine (HSP.out _ (And.left ‹Ext w _ ∧ w.heap.size + 1 + 1 ≤ _ ∧ _›)).mono ?_); rintro e w3 ⟨b3, c3, rfl, hu1, hu2, ku, h3, hc3⟩)
    | (go_at_call 83; (with_reducible refine (HCL.out _ b3 c3 (And.left ‹Ext w _ ∧ w.heap.size + 1 + 1 ≤ _ ∧ _›) ku hc3).mono ?_); rintro e w6 ⟨b2, c2, rfl, hb1, hb2, hh2, h6⟩; have hall : Ext w_5 w6 := (Ext.trans (Ext.trans (Ext.drew (Ext.refl _)) h3) h6); have k0 := (hall.cells _ 0 lR).trans qR0; have k1 := (hall.cells _ 1 lR).trans qR1; have k2 := (hall.cells _ 2 lR).trans qR2; have k3 := (hall.cells _ 3 lR).trans qR3; have f1 : ∀ j, w6.frozen? ⟨w.heap.size + 1 + 1, j, none⟩ = false := fun j => (hall.frees _ j lR).trans (tR j)))
  have hx2 := (‹Ext w _ ∧ w.heap.size + 1 + 1 ≤ _ ∧ _› : Ext w _ ∧ w.heap.size + 1 + 1 ≤ _ ∧ _).1
  have b0 : w_5.heap.size ≤ b2 := Nat.le_trans (Ext.trans (Ext.drew (Ext.refl w_5)) h3).le hb1
  have hln := HLN.out
  have hWs := R_8.out.1
  go_wp2
  refine bodyPost_ret (v := .tuple #[.agg #[.int .i64 P1, .int .i64 (ur : Nat), .int .i64 D, .slice (some ⟨b2, 0, none⟩) (ur * D) c2], .bool true]) (by simp [results, Try.results33, go_sem, k0, k1, k2, k3]) rfl ⟨_, rfl, ⟨_, _, _, rfl, ?_, by omega⟩, hx2⟩
  exact Own.mono (own4 (hh2.own (lo := w.heap.size + 1 + 1 + 1) (hi := w6.heap.size) (by omega) (by omega) hln.1) (by omega) _ _ _ _) (by omega) (by simp)

set_option maxRecDepth 100000 in
set_option maxHeartbeats 6400000 in
theorem idealBy_spec {P D : Int} {a0 oa n : Nat} {l : List Int} {P1 R1 C1 : Int} {s0 so n1 : Nat} {ss : List Int} {w : World} {p r' c : Int} {d : List Int} {ok : Bool} (hT : Reads w (some ⟨a0, oa, none⟩) n l) (hm0 : n ≤ 1048576) (hS : Reads w (some ⟨s0, so, none⟩) n1 ss) (hm1 : n1 ≤ 1048576) (hM : gwM true P D l P1 R1 C1 ss = (⟨p, r', c, d⟩, ok)) :
    Calls Try.prog 36 #[.agg #[.int .i64 P, .int .i64 D, .slice (some ⟨a0, oa, none⟩) n n], .agg #[.int .i64 P1, .int .i64 R1, .int .i64 C1, .slice (some ⟨s0, so, none⟩) n1 n1]] w fun e w' => ∃ v, e = .returned (.tuple #[v, .bool ok]) ∧ Rmat w w' v p r' c d ∧ Ext w w' := by
  have HT := Lib.hid hT
  have HS := Lib.hid hS
  have hm3 : n1 ≤ maxLen := by unfold maxLen; omega
  rcases h1 : (algB P D l && rwB P D P1 R1 C1 ss) with _ | _
  · simp only [gwM, h1, noMat, Bool.false_eq_true, if_false, Prod.mk.injEq, Mat.mk.injEq] at hM
    obtain ⟨⟨rfl, rfl, rfl, rfl⟩, rfl⟩ := hM
    have H1 := Lib.hid h1
    clear h1 hT hS
    go_enter Try.func36, Try.ntmps36
    have A0_1 := Lib.hid (((cells_new' w #[.int .i64 P, .int .i64 D, .slice (some ⟨a0, oa, none⟩) n n] 28 (w.heap.size) (by simp)).ext ((Ext.refl _).alloc (.cells #[.int .i64 P1, .int .i64 R1, .int .i64 C1, .slice (some ⟨s0, so, none⟩) n1 n1] 40))).ext ((Ext.refl _).alloc (.cells #[.int .i64 0, .int .i64 0, .int .i64 0, .slice none 0 0] 40)))
    have A1_2 := Lib.hid ((cells_new' (w.alloc (.cells #[.int .i64 P, .int .i64 D, .slice (some ⟨a0, oa, none⟩) n n] 28)) #[.int .i64 P1, .int .i64 R1, .int .i64 C1, .slice (some ⟨s0, so, none⟩) n1 n1] 40 (w.heap.size + 1) (by simp)).ext ((Ext.refl _).alloc (.cells #[.int .i64 0, .int .i64 0, .int .i64 0, .slice none 0 0] 40)))
    have R_3 := Lib.hid (cells_new' ((w.alloc (.cells #[.int .i64 P, .int .i64 D, .slice (some ⟨a0, oa, none⟩) n n] 28)).alloc (.cells #[.int .i64 P1, .int .i64 R1, .int .i64 C1, .slice (some ⟨s0, so, none⟩) n1 n1] 40)) #[.int .i64 0, .int .i64 0, .int .i64 0, .slice none 0 0] 40 (w.heap.size + 1 + 1) (by simp))
    have E_4 := Lib.hid ((((Ext.refl w).alloc (.cells #[.int .i64 P, .int .i64 D, .slice (some ⟨a0, oa, none⟩) n n] 28)).alloc (.cells #[.int .i64 P1, .int .i64 R1, .int .i64 C1, .slice (some ⟨s0, so, none⟩) n1 n1] 40)).alloc (.cells #[.int .i64 0, .int .i64 0, .int .i64 0, .slice none 0 0] 40))
    have lA0 := A0_1.out.1
    have qA00 := A0_1.out.2 0 _ rfl
    have qA01 := A0_1.out.2 1 _ rfl
    have qA02 := A0_1.out.2 2 _ rfl
    have lA1 := A1_2.out.1
    have qA10 := A1_2.out.2 0 _ rfl
    have qA11 := A1_2.out.2 1 _ rfl
    have qA12 := A1_2.out.2 2 _ rfl
    have qA13 := A1_2.out.2 3 _ rfl
    try simp only [World.size_alloc] at lA0 lA1
    go_wp2_with fail
    refine (l2Vectors_spec P _ _ _ _ a0 oa n s0 so n1 l ss _ (HT.out.ext E_4.out) hm0 (HS.out.ext E_4.out) hm3).mono ?_
    rintro e w_5 ⟨rfl, h_5⟩
    clear lA0 qA00 qA01 qA02 lA1 qA10 qA11 qA12 qA13
    have A0_6 := Lib.hid (A0_1.out.ext h_5)
    clear A0_1
    have A1_7 := Lib.hid (A1_2.out.ext h_5)
    clear A1_2
    have R_8 := Lib.hid (R_3.out.ext h_5)
    clear R_3
    have E_9 := Lib.hid (E_4.out.trans h_5)
    clear E_4
    rw [H1.out]
    have lA0 := A0_6.out.1
    have qA00 := A0_6.out.2 0 _ rfl
    have qA01 := A0_6.out.2 1 _ rfl
    have qA02 := A0_6.out.2 2 _ rfl
    have lA1 := A1_7.out.1
    have qA10 := A1_7.out.2 0 _ rfl
    have qA11 := A1_7.out.2 1 _ rfl
    have qA12 := A1_7.out.2 2 _ rfl
    have qA13 := A1_7.out.2 3 _ rfl
    try simp only [World.size_alloc] at lA0 lA1
    have r0 := R_8.out.2 0 _ rfl
    have r1 := R_8.out.2 1 _ rfl
    have r2 := R_8.out.2 2 _ rfl
    have r3 := R_8.out.2 3 _ rfl
    have tR := R_8.out.3
    have lR := R_8.out.1
    go_wp2
    refine bodyPost_ret (v := .tuple #[.agg #[.int .i64 0, .int .i64 0, .int .i64 0, .slice none 0 0], .bool false]) (by simp [results, Try.results36, go_sem, r0, r1, r2, r3]) rfl ⟨_, rfl, ⟨_, _, _, rfl, own_nil _ _ _, by omega⟩, ext4 E_9.out (by omega) _ _ _ _⟩
  have H1 := Lib.hid h1
  have hz0 : algB P D l = true := by simp only [Bool.and_eq_true] at h1; exact h1.1
  have hz1 : rwB P D P1 R1 C1 ss = true := by simp only [Bool.and_eq_true] at h1; exact h1.2
  simp only [gwM, hz0, hz1, Bool.and_self, if_true, Prod.mk.injEq, Mat.mk.injEq] at hM
  obtain ⟨⟨rfl, rfl, rfl, rfl⟩, rfl⟩ := hM
  obtain ⟨D, rfl, hA⟩ := algB_parts hz0 hT.1
  obtain ⟨rfl, r, rfl, rfl, hr, hn1, hx1⟩ := rwB_parts hz1 hS.1
  simp only [Int.toNat_natCast]
  have hD := hA.dim
  have hp := isP_lo hA.pr
  have hIP := isP_iff.1 hA.pr
  have hxl : ss.length = r * D := by rw [hS.1, hn1]
  have hrD : r * D ≤ 1120 := Nat.mul_le_mul hr hD
  have HNS := Lib.hid (gwN_spec (P := P1) (D := D) (l := l) (b := true) hIP hxl hx1)
  have HSP : Hid (∀ w1, Ext w w1 → Calls Try.prog 84 #[.agg #[.int .i64 P1, .int .i64 (r : Nat), .int .i64 D, .slice (some ⟨s0, so, none⟩) n1 n1]] w1 fun e w' => ∃ b c', e = .returned (.agg #[.int .i64 P1, .int .i64 ((spnS P1 r D ss).1 : Nat), .int .i64 D, .slice (some ⟨b, 0, none⟩) ((spnS P1 r D ss).1 * D) c']) ∧ w1.heap.size ≤ b ∧ b < w'.heap.size ∧ Has w' b (spnS P1 r D ss).2 ∧ Ext w1 w' ∧ (spnS P1 r D ss).1 * D ≤ c') := fun w1 h => l1Span_spec P1 r D n1 n1 _ ss w1 (hS.ext h) hn1 (by omega) (by omega) (by omega) hA.pr hx1 (fun h => by simp at h)
  have HCL : Hid (∀ w1 b c, Ext w w1 → Has w1 b (spnS P1 r D ss).2 → (spnS P1 r D ss).1 * D ≤ c → Calls Try.prog 83 #[.agg #[.int .i64 P1, .int .i64 D, .slice (some ⟨a0, oa, none⟩) n n], .agg #[.int .i64 P1, .int .i64 ((spnS P1 r D ss).1 : Nat), .int .i64 D, .slice (some ⟨b, 0, none⟩) ((spnS P1 r D ss).1 * D) c], .bool true] w1 fun e w' => ∃ b' c', e = .returned (.agg #[.int .i64 P1, .int .i64 (((gwS P1 D l true r ss) (gwN P1 D l true r ss)).1 : Nat), .int .i64 D, .slice (some ⟨b', 0, none⟩) (((gwS P1 D l true r ss) (gwN P1 D l true r ss)).1 * D) c']) ∧ w1.heap.size ≤ b' ∧ b' < w'.heap.size ∧ Has w' b' ((gwS P1 D l true r ss) (gwN P1 D l true r ss)).2 ∧ Ext w1 w') := fun w1 b c h hh hc => by
    rw [← gwN_last hIP hxl hx1]
    exact l2Closed_1 P1 D a0 oa n b c (gwN P1 D l true r ss) (gwS P1 D l true r ss) (fun i => (prS P1 D l (gwT D true ((gwS P1 D l true r ss) i)) ((gwS P1 D l true r ss) i))) w1 hD hA.pr (fun i => gwS_prS hIP hxl hx1 i) (fun i => (gwS_spc (b := true) (l := l) hIP hxl hx1 i).le) (fun i => (gwS_spc (b := true) (l := l) hIP hxl hx1 i).len) (fun i => (gwS_spc (b := true) (l := l) hIP hxl hx1 i).res) (fun i => (prS_spc hIP _ _).len) (fun i => (prS_spc hIP _ _).res) (fun i => Nat.le_trans (prS_spc hIP _ _).le hD) (fun i hi => gwN_up hIP hxl hx1 i hi) HNS.out.2.2 hh hc
      (fun i hi w2 b2 c2 bu2 h2 hu2 hb2 hc2 => (l2Product_wide P1 D a0 oa n n D ((gwS P1 D l true r ss) i).1 bu2 0 (D * D) (D * D) b2 0 (((gwS P1 D l true r ss) i).1 * D) c2 l (unitTo D D) ((gwS P1 D l true r ss) i).2 w2 (hT.ext (h.trans h2)) (hu2.reads (unitTo_length D D)) (hb2.reads (gwS_spc (b := true) (l := l) hIP hxl hx1 i).len) hD hD (Nat.le_trans (gwS_spc (b := true) (l := l) hIP hxl hx1 i).le hD) hA.len rfl rfl (Nat.le_refl _) hc2 hA.pr hA.res (unitTo_res2 P1 hp D D) (gwS_spc (b := true) (l := l) hIP hxl hx1 i).res).mono (fun e w' ⟨b', c', q1, q2, q3, q4, q5, q6⟩ => ⟨b', c', q1, q2, q3, q4, q5⟩))
  have HLN : Hid (((gwS P1 D l true r ss) (gwN P1 D l true r ss)).2.length = ((gwS P1 D l true r ss) (gwN P1 D l true r ss)).1 * D ∧ ((gwS P1 D l true r ss) (gwN P1 D l true r ss)).1 * D ≤ 784) := ⟨(gwS_spc (b := true) (l := l) hIP hxl hx1 _).len, Nat.mul_le_mul (Nat.le_trans (gwS_spc (b := true) (l := l) hIP hxl hx1 _).le hD) hD⟩
  clear hT hS h1 hz0 hz1 hA hx1 hxl HNS hIP hn1 hrD
  generalize (gwS P1 D l true r ss) (gwN P1 D l true r ss) = u at *
  obtain ⟨ur, ud⟩ := u
  generalize spnS P1 r D ss = v at *
  obtain ⟨vr, vd⟩ := v
  dsimp only at *
  go_enter Try.func36, Try.ntmps36
  have A0_1 := Lib.hid (((cells_new' w #[.int .i64 P1, .int .i64 D, .slice (some ⟨a0, oa, none⟩) n n] 28 (w.heap.size) (by simp)).ext ((Ext.refl _).alloc (.cells #[.int .i64 P1, .int .i64 (r : Nat), .int .i64 D, .slice (some ⟨s0, so, none⟩) n1 n1] 40))).ext ((Ext.refl _).alloc (.cells #[.int .i64 0, .int .i64 0, .int .i64 0, .slice none 0 0] 40)))
  have A1_2 := Lib.hid ((cells_new' (w.alloc (.cells #[.int .i64 P1, .int .i64 D, .slice (some ⟨a0, oa, none⟩) n n] 28)) #[.int .i64 P1, .int .i64 (r : Nat), .int .i64 D, .slice (some ⟨s0, so, none⟩) n1 n1] 40 (w.heap.size + 1) (by simp)).ext ((Ext.refl _).alloc (.cells #[.int .i64 0, .int .i64 0, .int .i64 0, .slice none 0 0] 40)))
  have R_3 := Lib.hid (cells_new' ((w.alloc (.cells #[.int .i64 P1, .int .i64 D, .slice (some ⟨a0, oa, none⟩) n n] 28)).alloc (.cells #[.int .i64 P1, .int .i64 (r : Nat), .int .i64 D, .slice (some ⟨s0, so, none⟩) n1 n1] 40)) #[.int .i64 0, .int .i64 0, .int .i64 0, .slice none 0 0] 40 (w.heap.size + 1 + 1) (by simp))
  have E_4 := Lib.hid ((((Ext.refl w).alloc (.cells #[.int .i64 P1, .int .i64 D, .slice (some ⟨a0, oa, none⟩) n n] 28)).alloc (.cells #[.int .i64 P1, .int .i64 (r : Nat), .int .i64 D, .slice (some ⟨s0, so, none⟩) n1 n1] 40)).alloc (.cells #[.int .i64 0, .int .i64 0, .int .i64 0, .slice none 0 0] 40))
  have lA0 := A0_1.out.1
  have qA00 := A0_1.out.2 0 _ rfl
  have qA01 := A0_1.out.2 1 _ rfl
  have qA02 := A0_1.out.2 2 _ rfl
  have lA1 := A1_2.out.1
  have qA10 := A1_2.out.2 0 _ rfl
  have qA11 := A1_2.out.2 1 _ rfl
  have qA12 := A1_2.out.2 2 _ rfl
  have qA13 := A1_2.out.2 3 _ rfl
  try simp only [World.size_alloc] at lA0 lA1
  go_wp2_with fail
  refine (l2Vectors_spec P1 _ _ _ _ a0 oa n s0 so n1 l ss _ (HT.out.ext E_4.out) hm0 (HS.out.ext E_4.out) hm3).mono ?_
  rintro e w_5 ⟨rfl, h_5⟩
  clear lA0 qA00 qA01 qA02 lA1 qA10 qA11 qA12 qA13
  have A0_6 := Lib.hid (A0_1.out.ext h_5)
  clear A0_1
  have A1_7 := Lib.hid (A1_2.out.ext h_5)
  clear A1_2
  have R_8 := Lib.hid (R_3.out.ext h_5)
  clear R_3
  have E_9 := Lib.hid (E_4.out.trans h_5)
  clear E_4
  rw [H1.out]
  have lA0 := A0_6.out.1
  have qA00 := A0_6.out.2 0 _ rfl
  have qA01 := A0_6.out.2 1 _ rfl
  have qA02 := A0_6.out.2 2 _ rfl
  have lA1 := A1_7.out.1
  have qA10 := A1_7.out.2 0 _ rfl
  have qA11 := A1_7.out.2 1 _ rfl
  have qA12 := A1_7.out.2 2 _ rfl
  have qA13 := A1_7.out.2 3 _ rfl
  try simp only [World.size_alloc] at lA0 lA1
  have lR := R_8.out.1
  have qR0 := R_8.out.2 0 _ rfl
  have qR1 := R_8.out.2 1 _ rfl
  have qR2 := R_8.out.2 2 _ rfl
  have qR3 := R_8.out.2 3 _ rfl
  have tR := R_8.out.3
  try simp only [World.size_alloc] at lA0 lA1 lR
  have gB : w.heap.size ≤ w.heap.size + 1 + 1 := by omega
  go_wp2_with fail
  go_region_held3 (fun w' => Ext w w' ∧ w.heap.size + 1 + 1 ≤ w'.heap.size ∧ ∀ b o, b < w.heap.size + 1 + 1 → w'.cell? ⟨b, o, none⟩ = w_5.cell? ⟨b, o, none⟩) (first | (with_reducible exact KeptR.call ‹Ext w _ ∧ w.heap.size + 1 + 1 ≤ _ ∧ _› ‹Ext _ _›) | exact ⟨E_9.out, Nat.le_of_lt lR, fun _ _ _ => rfl⟩ | exact ⟨E_9.out.drew, Nat.le_of_lt lR, fun _ _ _ => rfl⟩ | assumption | (with_reducible exact KeptR.set4 ‹Ext w _ ∧ w.heap.size + 1 + 1 ≤ _ ∧ _› gB _ _ _ _)) (first
    | (go_at_call 84; (with_reducible refine (HSP.out _ (And.left ‹Ext w _ ∧ w.heap.size + 1 + 1 ≤ _ ∧ _›)).mono ?_); rintro e w3 ⟨b3, c3, rfl, hu1, hu2, ku, h3, hc3⟩)
    | (go_at_call 83; (with_reducible refine (HCL.out _ b3 c3 (And.left ‹Ext w _ ∧ w.heap.size + 1 + 1 ≤ _ ∧ _›) ku hc3).mono ?_); rintro e w6 ⟨b2, c2, rfl, hb1, hb2, hh2, h6⟩; have hall : Ext w_5 w6 := (Ext.trans (Ext.trans (Ext.drew (Ext.refl _)) h3) h6); have k0 := (hall.cells _ 0 lR).trans qR0; have k1 := (hall.cells _ 1 lR).trans qR1; have k2 := (hall.cells _ 2 lR).trans qR2; have k3 := (hall.cells _ 3 lR).trans qR3; have f1 : ∀ j, w6.frozen? ⟨w.heap.size + 1 + 1, j, none⟩ = false := fun j => (hall.frees _ j lR).trans (tR j)))
  have hx2 := (‹Ext w _ ∧ w.heap.size + 1 + 1 ≤ _ ∧ _› : Ext w _ ∧ w.heap.size + 1 + 1 ≤ _ ∧ _).1
  have b0 : w_5.heap.size ≤ b2 := Nat.le_trans (Ext.trans (Ext.drew (Ext.refl w_5)) h3).le hb1
  have hln := HLN.out
  have hWs := R_8.out.1
  go_wp2
  refine bodyPost_ret (v := .tuple #[.agg #[.int .i64 P1, .int .i64 (ur : Nat), .int .i64 D, .slice (some ⟨b2, 0, none⟩) (ur * D) c2], .bool true]) (by simp [results, Try.results36, go_sem, k0, k1, k2, k3]) rfl ⟨_, rfl, ⟨_, _, _, rfl, ?_, by omega⟩, hx2⟩
  exact Own.mono (own4 (hh2.own (lo := w.heap.size + 1 + 1 + 1) (hi := w6.heap.size) (by omega) (by omega) hln.1) (by omega) _ _ _ _) (by omega) (by simp)
end Go.Proofs.Ytapaopapgnfdkaa
