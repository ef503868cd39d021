/-
  AddMatrices of both texts.
-/
import Derived.Test.YthblbaglemoalaaAdd
namespace Go.Proofs.Ythblbaglemoalaa
open Go.RowKit
set_option linter.unusedVariables false

noncomputable def addM (P R C : Int) (xs : List Int) (P' R' C' : Int) (xs' : List Int) : Mat × Bool :=
  if mok P R C xs && mok P' R' C' xs' && (P == P') && (R == R') && (C == C') then (⟨P, R, C, addL P 1 xs xs'⟩, true) else (noMat, false)
theorem mok_len {P R C : Int} {xs : List Int} (h : mok P R C xs = true) : (xs.length : Int) = R * C := (mok_iff.1 h).2.2.2.1
theorem mok_res {P R C : Int} {xs : List Int} (h : mok P R C xs = true) : Res xs P := resB_iff.1 (mok_iff.1 h).2.2.2.2
theorem mok_lo {P R C : Int} {xs : List Int} (h : mok P R C xs = true) : 2 ≤ P := isP_lo (mok_iff.1 h).1
theorem mok_hi {P R C : Int} {xs : List Int} (h : mok P R C xs = true) : P ≤ 10007 := isP_hi (mok_iff.1 h).1

set_option maxRecDepth 100000 in
set_option maxHeartbeats 3200000 in
theorem addMatrices_spec {P R C P' R' C' : Int} {a a' : Addr} {n c n' c' : Nat} {xs xs' : List Int} {w : World} {p r q : Int} {d : List Int} {ok : Bool} (h : Reads w (some a) n xs) (hm : n ≤ 1048576) (h' : Reads w (some a') n' xs') (hm' : n' ≤ 1048576) (hM : addM P R C xs P' R' C' xs' = (⟨p, r, q, d⟩, ok)) :
    Calls Try.prog 32 #[.agg #[.int .i64 P, .int .i64 R, .int .i64 C, .slice (some a) n c], .agg #[.int .i64 P', .int .i64 R', .int .i64 C', .slice (some a') n' c']] w fun e w' => ∃ v, e = .returned (.tuple #[v, .bool ok]) ∧ Rmat w w' v p r q d ∧ Ext w w' := by
  have HR := Lib.hid h
  have HR' := Lib.hid h'
  have hm1 : n ≤ maxLen := by unfold maxLen; omega
  have hm1' : n' ≤ maxLen := by unfold maxLen; omega
  clear h h'
  rcases h1 : mok P R C xs with _ | _
  · simp only [addM, h1, noMat, Bool.false_and, Bool.false_eq_true, if_false, Prod.mk.injEq, Mat.mk.injEq] at hM
    obtain ⟨⟨rfl, rfl, rfl, rfl⟩, rfl⟩ := hM
    go_enter Try.func32, Try.ntmps32
    have A0_1 := Lib.hid (((cells_new' w #[.int .i64 P, .int .i64 R, .int .i64 C, .slice (some a) n c] 30 (w.heap.size) (by simp)).ext ((Ext.refl _).alloc (.cells #[.int .i64 P', .int .i64 R', .int .i64 C', .slice (some a') n' c'] 30))).ext ((Ext.refl _).alloc (.cells #[.int .i64 0, .int .i64 0, .int .i64 0, .slice none 0 0] 30)))
    have A1_2 := Lib.hid ((cells_new' (w.alloc (.cells #[.int .i64 P, .int .i64 R, .int .i64 C, .slice (some a) n c] 30)) #[.int .i64 P', .int .i64 R', .int .i64 C', .slice (some a') n' c'] 30 (w.heap.size + 1) (by simp)).ext ((Ext.refl _).alloc (.cells #[.int .i64 0, .int .i64 0, .int .i64 0, .slice none 0 0] 30)))
    have R_3 := Lib.hid (cells_new' ((w.alloc (.cells #[.int .i64 P, .int .i64 R, .int .i64 C, .slice (some a) n c] 30)).alloc (.cells #[.int .i64 P', .int .i64 R', .int .i64 C', .slice (some a') n' c'] 30)) #[.int .i64 0, .int .i64 0, .int .i64 0, .slice none 0 0] 30 (w.heap.size + 1 + 1) (by simp))
    have E_4 := Lib.hid ((((Ext.refl w).alloc (.cells #[.int .i64 P, .int .i64 R, .int .i64 C, .slice (some a) n c] 30)).alloc (.cells #[.int .i64 P', .int .i64 R', .int .i64 C', .slice (some a') n' c'] 30)).alloc (.cells #[.int .i64 0, .int .i64 0, .int .i64 0, .slice none 0 0] 30))
    have lA0 := A0_1.out.1
    have qA00 := A0_1.out.2 0 _ rfl
    have qA01 := A0_1.out.2 1 _ rfl
    have qA02 := A0_1.out.2 2 _ rfl
    have qA03 := A0_1.out.2 3 _ rfl
    have lA1 := A1_2.out.1
    have qA10 := A1_2.out.2 0 _ rfl
    have qA11 := A1_2.out.2 1 _ rfl
    have qA12 := A1_2.out.2 2 _ rfl
    have qA13 := A1_2.out.2 3 _ rfl
    try simp only [World.size_alloc] at lA0 lA1
    go_wp2_with fail
    refine (matrixOk_spec _ _ _ _ _ _ xs _ (HR.out.ext E_4.out) hm1).mono ?_
    rintro e w_5 ⟨rfl, h_5⟩
    clear lA0 qA00 qA01 qA02 qA03 lA1 qA10 qA11 qA12 qA13
    have A0_6 := Lib.hid (A0_1.out.ext h_5)
    clear A0_1
    have A1_7 := Lib.hid (A1_2.out.ext h_5)
    clear A1_2
    have R_8 := Lib.hid (R_3.out.ext h_5)
    clear R_3
    have E_9 := Lib.hid (E_4.out.trans h_5)
    clear E_4
    have lA0 := A0_6.out.1
    have qA00 := A0_6.out.2 0 _ rfl
    have qA01 := A0_6.out.2 1 _ rfl
    have qA02 := A0_6.out.2 2 _ rfl
    have qA03 := A0_6.out.2 3 _ rfl
    have lA1 := A1_7.out.1
    have qA10 := A1_7.out.2 0 _ rfl
    have qA11 := A1_7.out.2 1 _ rfl
    have qA12 := A1_7.out.2 2 _ rfl
    have qA13 := A1_7.out.2 3 _ rfl
    try simp only [World.size_alloc] at lA0 lA1
    have lR := R_8.out.1
    have qR0 := R_8.out.2 0 _ rfl
    have qR1 := R_8.out.2 1 _ rfl
    have qR2 := R_8.out.2 2 _ rfl
    have qR3 := R_8.out.2 3 _ rfl
    have tR := R_8.out.3
    try simp only [World.size_alloc] at lA0 lA1 lR
    go_wp2
    refine bodyPost_ret (v := .tuple #[.agg #[.int .i64 0, .int .i64 0, .int .i64 0, .slice none 0 0], .bool false]) (by simp [results, Try.results32, go_sem, qR0, qR1, qR2, qR3]) rfl ⟨_, rfl, ⟨_, _, _, rfl, own_nil _ _ _, by omega⟩, ext4 E_9.out (by omega) _ _ _ _⟩
  rcases h2 : mok P' R' C' xs' with _ | _
  · simp only [addM, h1, h2, noMat, Bool.and_false, Bool.false_and, Bool.false_eq_true, if_false, Prod.mk.injEq, Mat.mk.injEq] at hM
    obtain ⟨⟨rfl, rfl, rfl, rfl⟩, rfl⟩ := hM
    go_enter Try.func32, Try.ntmps32
    have A0_1 := Lib.hid (((cells_new' w #[.int .i64 P, .int .i64 R, .int .i64 C, .slice (some a) n c] 30 (w.heap.size) (by simp)).ext ((Ext.refl _).alloc (.cells #[.int .i64 P', .int .i64 R', .int .i64 C', .slice (some a') n' c'] 30))).ext ((Ext.refl _).alloc (.cells #[.int .i64 0, .int .i64 0, .int .i64 0, .slice none 0 0] 30)))
    have A1_2 := Lib.hid ((cells_new' (w.alloc (.cells #[.int .i64 P, .int .i64 R, .int .i64 C, .slice (some a) n c] 30)) #[.int .i64 P', .int .i64 R', .int .i64 C', .slice (some a') n' c'] 30 (w.heap.size + 1) (by simp)).ext ((Ext.refl _).alloc (.cells #[.int .i64 0, .int .i64 0, .int .i64 0, .slice none 0 0] 30)))
    have R_3 := Lib.hid (cells_new' ((w.alloc (.cells #[.int .i64 P, .int .i64 R, .int .i64 C, .slice (some a) n c] 30)).alloc (.cells #[.int .i64 P', .int .i64 R', .int .i64 C', .slice (some a') n' c'] 30)) #[.int .i64 0, .int .i64 0, .int .i64 0, .slice none 0 0] 30 (w.heap.size + 1 + 1) (by simp))
    have E_4 := Lib.hid ((((Ext.refl w).alloc (.cells #[.int .i64 P, .int .i64 R, .int .i64 C, .slice (some a) n c] 30)).alloc (.cells #[.int .i64 P', .int .i64 R', .int .i64 C', .slice (some a') n' c'] 30)).alloc (.cells #[.int .i64 0, .int .i64 0, .int .i64 0, .slice none 0 0] 30))
    have lA0 := A0_1.out.1
    have qA00 := A0_1.out.2 0 _ rfl
    have qA01 := A0_1.out.2 1 _ rfl
    have qA02 := A0_1.out.2 2 _ rfl
    have qA03 := A0_1.out.2 3 _ rfl
    have lA1 := A1_2.out.1
    have qA10 := A1_2.out.2 0 _ rfl
    have qA11 := A1_2.out.2 1 _ rfl
    have qA12 := A1_2.out.2 2 _ rfl
    have qA13 := A1_2.out.2 3 _ rfl
    try simp only [World.size_alloc] at lA0 lA1
    go_wp2_with fail
    refine (matrixOk_spec _ _ _ _ _ _ xs _ (HR.out.ext E_4.out) hm1).mono ?_
    rintro e w_5 ⟨rfl, h_5⟩
    clear lA0 qA00 qA01 qA02 qA03 lA1 qA10 qA11 qA12 qA13
    have A0_6 := Lib.hid (A0_1.out.ext h_5)
    clear A0_1
    have A1_7 := Lib.hid (A1_2.out.ext h_5)
    clear A1_2
    have R_8 := Lib.hid (R_3.out.ext h_5)
    clear R_3
    have E_9 := Lib.hid (E_4.out.trans h_5)
    clear E_4
    have lA0 := A0_6.out.1
    have qA00 := A0_6.out.2 0 _ rfl
    have qA01 := A0_6.out.2 1 _ rfl
    have qA02 := A0_6.out.2 2 _ rfl
    have qA03 := A0_6.out.2 3 _ rfl
    have lA1 := A1_7.out.1
    have qA10 := A1_7.out.2 0 _ rfl
    have qA11 := A1_7.out.2 1 _ rfl
    have qA12 := A1_7.out.2 2 _ rfl
    have qA13 := A1_7.out.2 3 _ rfl
    try simp only [World.size_alloc] at lA0 lA1
    go_wp2_with fail
    refine (matrixOk_spec _ _ _ _ _ _ xs' _ (HR'.out.ext E_9.out) hm1').mono ?_
    rintro e w_10 ⟨rfl, h_10⟩
    clear lA0 qA00 qA01 qA02 qA03 lA1 qA10 qA11 qA12 qA13
    have A0_11 := Lib.hid (A0_6.out.ext h_10)
    clear A0_6
    have A1_12 := Lib.hid (A1_7.out.ext h_10)
    clear A1_7
    have R_13 := Lib.hid (R_8.out.ext h_10)
    clear R_8
    have E_14 := Lib.hid (E_9.out.trans h_10)
    clear E_9
    have lA0 := A0_11.out.1
    have qA00 := A0_11.out.2 0 _ rfl
    have qA01 := A0_11.out.2 1 _ rfl
    have qA02 := A0_11.out.2 2 _ rfl
    have qA03 := A0_11.out.2 3 _ rfl
    have lA1 := A1_12.out.1
    have qA10 := A1_12.out.2 0 _ rfl
    have qA11 := A1_12.out.2 1 _ rfl
    have qA12 := A1_12.out.2 2 _ rfl
    have qA13 := A1_12.out.2 3 _ rfl
    try simp only [World.size_alloc] at lA0 lA1
    have lR := R_13.out.1
    have qR0 := R_13.out.2 0 _ rfl
    have qR1 := R_13.out.2 1 _ rfl
    have qR2 := R_13.out.2 2 _ rfl
    have qR3 := R_13.out.2 3 _ rfl
    have tR := R_13.out.3
    try simp only [World.size_alloc] at lA0 lA1 lR
    go_wp2
    refine bodyPost_ret (v := .tuple #[.agg #[.int .i64 0, .int .i64 0, .int .i64 0, .slice none 0 0], .bool false]) (by simp [results, Try.results32, go_sem, qR0, qR1, qR2, qR3]) rfl ⟨_, rfl, ⟨_, _, _, rfl, own_nil _ _ _, by omega⟩, ext4 E_14.out (by omega) _ _ _ _⟩
  by_cases e1 : P = P'
  case neg =>
    have hb : (P == P') = false := by simpa using e1
    have hb2 : (P != P') = true := by simpa using e1
    simp only [addM, hb, noMat, Bool.and_false, Bool.false_and, Bool.false_eq_true, if_false, Prod.mk.injEq, Mat.mk.injEq] at hM
    obtain ⟨⟨rfl, rfl, rfl, rfl⟩, rfl⟩ := hM
    clear e1
    go_enter Try.func32, Try.ntmps32
    have A0_1 := Lib.hid (((cells_new' w #[.int .i64 P, .int .i64 R, .int .i64 C, .slice (some a) n c] 30 (w.heap.size) (by simp)).ext ((Ext.refl _).alloc (.cells #[.int .i64 P', .int .i64 R', .int .i64 C', .slice (some a') n' c'] 30))).ext ((Ext.refl _).alloc (.cells #[.int .i64 0, .int .i64 0, .int .i64 0, .slice none 0 0] 30)))
    have A1_2 := Lib.hid ((cells_new' (w.alloc (.cells #[.int .i64 P, .int .i64 R, .int .i64 C, .slice (some a) n c] 30)) #[.int .i64 P', .int .i64 R', .int .i64 C', .slice (some a') n' c'] 30 (w.heap.size + 1) (by simp)).ext ((Ext.refl _).alloc (.cells #[.int .i64 0, .int .i64 0, .int .i64 0, .slice none 0 0] 30)))
    have R_3 := Lib.hid (cells_new' ((w.alloc (.cells #[.int .i64 P, .int .i64 R, .int .i64 C, .slice (some a) n c] 30)).alloc (.cells #[.int .i64 P', .int .i64 R', .int .i64 C', .slice (some a') n' c'] 30)) #[.int .i64 0, .int .i64 0, .int .i64 0, .slice none 0 0] 30 (w.heap.size + 1 + 1) (by simp))
    have E_4 := Lib.hid ((((Ext.refl w).alloc (.cells #[.int .i64 P, .int .i64 R, .int .i64 C, .slice (some a) n c] 30)).alloc (.cells #[.int .i64 P', .int .i64 R', .int .i64 C', .slice (some a') n' c'] 30)).alloc (.cells #[.int .i64 0, .int .i64 0, .int .i64 0, .slice none 0 0] 30))
    have lA0 := A0_1.out.1
    have qA00 := A0_1.out.2 0 _ rfl
    have qA01 := A0_1.out.2 1 _ rfl
    have qA02 := A0_1.out.2 2 _ rfl
    have qA03 := A0_1.out.2 3 _ rfl
    have lA1 := A1_2.out.1
    have qA10 := A1_2.out.2 0 _ rfl
    have qA11 := A1_2.out.2 1 _ rfl
    have qA12 := A1_2.out.2 2 _ rfl
    have qA13 := A1_2.out.2 3 _ rfl
    try simp only [World.size_alloc] at lA0 lA1
    go_wp2_with fail
    refine (matrixOk_spec _ _ _ _ _ _ xs _ (HR.out.ext E_4.out) hm1).mono ?_
    rintro e w_5 ⟨rfl, h_5⟩
    clear lA0 qA00 qA01 qA02 qA03 lA1 qA10 qA11 qA12 qA13
    have A0_6 := Lib.hid (A0_1.out.ext h_5)
    clear A0_1
    have A1_7 := Lib.hid (A1_2.out.ext h_5)
    clear A1_2
    have R_8 := Lib.hid (R_3.out.ext h_5)
    clear R_3
    have E_9 := Lib.hid (E_4.out.trans h_5)
    clear E_4
    have lA0 := A0_6.out.1
    have qA00 := A0_6.out.2 0 _ rfl
    have qA01 := A0_6.out.2 1 _ rfl
    have qA02 := A0_6.out.2 2 _ rfl
    have qA03 := A0_6.out.2 3 _ rfl
    have lA1 := A1_7.out.1
    have qA10 := A1_7.out.2 0 _ rfl
    have qA11 := A1_7.out.2 1 _ rfl
    have qA12 := A1_7.out.2 2 _ rfl
    have qA13 := A1_7.out.2 3 _ rfl
    try simp only [World.size_alloc] at lA0 lA1
    go_wp2_with fail
    refine (matrixOk_spec _ _ _ _ _ _ xs' _ (HR'.out.ext E_9.out) hm1').mono ?_
    rintro e w_10 ⟨rfl, h_10⟩
    clear lA0 qA00 qA01 qA02 qA03 lA1 qA10 qA11 qA12 qA13
    have A0_11 := Lib.hid (A0_6.out.ext h_10)
    clear A0_6
    have A1_12 := Lib.hid (A1_7.out.ext h_10)
    clear A1_7
    have R_13 := Lib.hid (R_8.out.ext h_10)
    clear R_8
    have E_14 := Lib.hid (E_9.out.trans h_10)
    clear E_9
    have lA0 := A0_11.out.1
    have qA00 := A0_11.out.2 0 _ rfl
    have qA01 := A0_11.out.2 1 _ rfl
    have qA02 := A0_11.out.2 2 _ rfl
    have qA03 := A0_11.out.2 3 _ rfl
    have lA1 := A1_12.out.1
    have qA10 := A1_12.out.2 0 _ rfl
    have qA11 := A1_12.out.2 1 _ rfl
    have qA12 := A1_12.out.2 2 _ rfl
    have qA13 := A1_12.out.2 3 _ rfl
    try simp only [World.size_alloc] at lA0 lA1
    have lR := R_13.out.1
    have qR0 := R_13.out.2 0 _ rfl
    have qR1 := R_13.out.2 1 _ rfl
    have qR2 := R_13.out.2 2 _ rfl
    have qR3 := R_13.out.2 3 _ rfl
    have tR := R_13.out.3
    try simp only [World.size_alloc] at lA0 lA1 lR
    go_wp2
    refine bodyPost_ret (v := .tuple #[.agg #[.int .i64 0, .int .i64 0, .int .i64 0, .slice none 0 0], .bool false]) (by simp [results, Try.results32, go_sem, qR0, qR1, qR2, qR3]) rfl ⟨_, rfl, ⟨_, _, _, rfl, own_nil _ _ _, by omega⟩, ext4 E_14.out (by omega) _ _ _ _⟩
  subst e1
  by_cases e2 : R = R'
  case neg =>
    have hb : (R == R') = false := by simpa using e2
    have hb2 : (R != R') = true := by simpa using e2
    simp only [addM, hb, noMat, Bool.and_false, Bool.false_and, Bool.false_eq_true, if_false, Prod.mk.injEq, Mat.mk.injEq] at hM
    obtain ⟨⟨rfl, rfl, rfl, rfl⟩, rfl⟩ := hM
    clear e2
    go_enter Try.func32, Try.ntmps32
    have A0_1 := Lib.hid (((cells_new' w #[.int .i64 P, .int .i64 R, .int .i64 C, .slice (some a) n c] 30 (w.heap.size) (by simp)).ext ((Ext.refl _).alloc (.cells #[.int .i64 P, .int .i64 R', .int .i64 C', .slice (some a') n' c'] 30))).ext ((Ext.refl _).alloc (.cells #[.int .i64 0, .int .i64 0, .int .i64 0, .slice none 0 0] 30)))
    have A1_2 := Lib.hid ((cells_new' (w.alloc (.cells #[.int .i64 P, .int .i64 R, .int .i64 C, .slice (some a) n c] 30)) #[.int .i64 P, .int .i64 R', .int .i64 C', .slice (some a') n' c'] 30 (w.heap.size + 1) (by simp)).ext ((Ext.refl _).alloc (.cells #[.int .i64 0, .int .i64 0, .int .i64 0, .slice none 0 0] 30)))
    have R_3 := Lib.hid (cells_new' ((w.alloc (.cells #[.int .i64 P, .int .i64 R, .int .i64 C, .slice (some a) n c] 30)).alloc (.cells #[.int .i64 P, .int .i64 R', .int .i64 C', .slice (some a') n' c'] 30)) #[.int .i64 0, .int .i64 0, .int .i64 0, .slice none 0 0] 30 (w.heap.size + 1 + 1) (by simp))
    have E_4 := Lib.hid ((((Ext.refl w).alloc (.cells #[.int .i64 P, .int .i64 R, .int .i64 C, .slice (some a) n c] 30)).alloc (.cells #[.int .i64 P, .int .i64 R', .int .i64 C', .slice (some a') n' c'] 30)).alloc (.cells #[.int .i64 0, .int .i64 0, .int .i64 0, .slice none 0 0] 30))
    have lA0 := A0_1.out.1
    have qA00 := A0_1.out.2 0 _ rfl
    have qA01 := A0_1.out.2 1 _ rfl
    have qA02 := A0_1.out.2 2 _ rfl
    have qA03 := A0_1.out.2 3 _ rfl
    have lA1 := A1_2.out.1
    have qA10 := A1_2.out.2 0 _ rfl
    have qA11 := A1_2.out.2 1 _ rfl
    have qA12 := A1_2.out.2 2 _ rfl
    have qA13 := A1_2.out.2 3 _ rfl
    try simp only [World.size_alloc] at lA0 lA1
    go_wp2_with fail
    refine (matrixOk_spec _ _ _ _ _ _ xs _ (HR.out.ext E_4.out) hm1).mono ?_
    rintro e w_5 ⟨rfl, h_5⟩
    clear lA0 qA00 qA01 qA02 qA03 lA1 qA10 qA11 qA12 qA13
    have A0_6 := Lib.hid (A0_1.out.ext h_5)
    clear A0_1
    have A1_7 := Lib.hid (A1_2.out.ext h_5)
    clear A1_2
    have R_8 := Lib.hid (R_3.out.ext h_5)
    clear R_3
    have E_9 := Lib.hid (E_4.out.trans h_5)
    clear E_4
    have lA0 := A0_6.out.1
    have qA00 := A0_6.out.2 0 _ rfl
    have qA01 := A0_6.out.2 1 _ rfl
    have qA02 := A0_6.out.2 2 _ rfl
    have qA03 := A0_6.out.2 3 _ rfl
    have lA1 := A1_7.out.1
    have qA10 := A1_7.out.2 0 _ rfl
    have qA11 := A1_7.out.2 1 _ rfl
    have qA12 := A1_7.out.2 2 _ rfl
    have qA13 := A1_7.out.2 3 _ rfl
    try simp only [World.size_alloc] at lA0 lA1
    go_wp2_with fail
    refine (matrixOk_spec _ _ _ _ _ _ xs' _ (HR'.out.ext E_9.out) hm1').mono ?_
    rintro e w_10 ⟨rfl, h_10⟩
    clear lA0 qA00 qA01 qA02 qA03 lA1 qA10 qA11 qA12 qA13
    have A0_11 := Lib.hid (A0_6.out.ext h_10)
    clear A0_6
    have A1_12 := Lib.hid (A1_7.out.ext h_10)
    clear A1_7
    have R_13 := Lib.hid (R_8.out.ext h_10)
    clear R_8
    have E_14 := Lib.hid (E_9.out.trans h_10)
    clear E_9
    have lA0 := A0_11.out.1
    have qA00 := A0_11.out.2 0 _ rfl
    have qA01 := A0_11.out.2 1 _ rfl
    have qA02 := A0_11.out.2 2 _ rfl
    have qA03 := A0_11.out.2 3 _ rfl
    have lA1 := A1_12.out.1
    have qA10 := A1_12.out.2 0 _ rfl
    have qA11 := A1_12.out.2 1 _ rfl
    have qA12 := A1_12.out.2 2 _ rfl
    have qA13 := A1_12.out.2 3 _ rfl
    try simp only [World.size_alloc] at lA0 lA1
    have lR := R_13.out.1
    have qR0 := R_13.out.2 0 _ rfl
    have qR1 := R_13.out.2 1 _ rfl
    have qR2 := R_13.out.2 2 _ rfl
    have qR3 := R_13.out.2 3 _ rfl
    have tR := R_13.out.3
    try simp only [World.size_alloc] at lA0 lA1 lR
    go_wp2
    refine bodyPost_ret (v := .tuple #[.agg #[.int .i64 0, .int .i64 0, .int .i64 0, .slice none 0 0], .bool false]) (by simp [results, Try.results32, go_sem, qR0, qR1, qR2, qR3]) rfl ⟨_, rfl, ⟨_, _, _, rfl, own_nil _ _ _, by omega⟩, ext4 E_14.out (by omega) _ _ _ _⟩
  subst e2
  by_cases e3 : C = C'
  case neg =>
    have hb : (C == C') = false := by simpa using e3
    have hb2 : (C != C') = true := by simpa using e3
    simp only [addM, hb, noMat, Bool.and_false, Bool.false_eq_true, if_false, Prod.mk.injEq, Mat.mk.injEq] at hM
    obtain ⟨⟨rfl, rfl, rfl, rfl⟩, rfl⟩ := hM
    clear e3
    go_enter Try.func32, Try.ntmps32
    have A0_1 := Lib.hid (((cells_new' w #[.int .i64 P, .int .i64 R, .int .i64 C, .slice (some a) n c] 30 (w.heap.size) (by simp)).ext ((Ext.refl _).alloc (.cells #[.int .i64 P, .int .i64 R, .int .i64 C', .slice (some a') n' c'] 30))).ext ((Ext.refl _).alloc (.cells #[.int .i64 0, .int .i64 0, .int .i64 0, .slice none 0 0] 30)))
    have A1_2 := Lib.hid ((cells_new' (w.alloc (.cells #[.int .i64 P, .int .i64 R, .int .i64 C, .slice (some a) n c] 30)) #[.int .i64 P, .int .i64 R, .int .i64 C', .slice (some a') n' c'] 30 (w.heap.size + 1) (by simp)).ext ((Ext.refl _).alloc (.cells #[.int .i64 0, .int .i64 0, .int .i64 0, .slice none 0 0] 30)))
    have R_3 := Lib.hid (cells_new' ((w.alloc (.cells #[.int .i64 P, .int .i64 R, .int .i64 C, .slice (some a) n c] 30)).alloc (.cells #[.int .i64 P, .int .i64 R, .int .i64 C', .slice (some a') n' c'] 30)) #[.int .i64 0, .int .i64 0, .int .i64 0, .slice none 0 0] 30 (w.heap.size + 1 + 1) (by simp))
    have E_4 := Lib.hid ((((Ext.refl w).alloc (.cells #[.int .i64 P, .int .i64 R, .int .i64 C, .slice (some a) n c] 30)).alloc (.cells #[.int .i64 P, .int .i64 R, .int .i64 C', .slice (some a') n' c'] 30)).alloc (.cells #[.int .i64 0, .int .i64 0, .int .i64 0, .slice none 0 0] 30))
    have lA0 := A0_1.out.1
    have qA00 := A0_1.out.2 0 _ rfl
    have qA01 := A0_1.out.2 1 _ rfl
    have qA02 := A0_1.out.2 2 _ rfl
    have qA03 := A0_1.out.2 3 _ rfl
    have lA1 := A1_2.out.1
    have qA10 := A1_2.out.2 0 _ rfl
    have qA11 := A1_2.out.2 1 _ rfl
    have qA12 := A1_2.out.2 2 _ rfl
    have qA13 := A1_2.out.2 3 _ rfl
    try simp only [World.size_alloc] at lA0 lA1
    go_wp2_with fail
    refine (matrixOk_spec _ _ _ _ _ _ xs _ (HR.out.ext E_4.out) hm1).mono ?_
    rintro e w_5 ⟨rfl, h_5⟩
    clear lA0 qA00 qA01 qA02 qA03 lA1 qA10 qA11 qA12 qA13
    have A0_6 := Lib.hid (A0_1.out.ext h_5)
    clear A0_1
    have A1_7 := Lib.hid (A1_2.out.ext h_5)
    clear A1_2
    have R_8 := Lib.hid (R_3.out.ext h_5)
    clear R_3
    have E_9 := Lib.hid (E_4.out.trans h_5)
    clear E_4
    have lA0 := A0_6.out.1
    have qA00 := A0_6.out.2 0 _ rfl
    have qA01 := A0_6.out.2 1 _ rfl
    have qA02 := A0_6.out.2 2 _ rfl
    have qA03 := A0_6.out.2 3 _ rfl
    have lA1 := A1_7.out.1
    have qA10 := A1_7.out.2 0 _ rfl
    have qA11 := A1_7.out.2 1 _ rfl
    have qA12 := A1_7.out.2 2 _ rfl
    have qA13 := A1_7.out.2 3 _ rfl
    try simp only [World.size_alloc] at lA0 lA1
    go_wp2_with fail
    refine (matrixOk_spec _ _ _ _ _ _ xs' _ (HR'.out.ext E_9.out) hm1').mono ?_
    rintro e w_10 ⟨rfl, h_10⟩
    clear lA0 qA00 qA01 qA02 qA03 lA1 qA10 qA11 qA12 qA13
    have A0_11 := Lib.hid (A0_6.out.ext h_10)
    clear A0_6
    have A1_12 := Lib.hid (A1_7.out.ext h_10)
    clear A1_7
    have R_13 := Lib.hid (R_8.out.ext h_10)
    clear R_8
    have E_14 := Lib.hid (E_9.out.trans h_10)
    clear E_9
    have lA0 := A0_11.out.1
    have qA00 := A0_11.out.2 0 _ rfl
    have qA01 := A0_11.out.2 1 _ rfl
    have qA02 := A0_11.out.2 2 _ rfl
    have qA03 := A0_11.out.2 3 _ rfl
    have lA1 := A1_12.out.1
    have qA10 := A1_12.out.2 0 _ rfl
    have qA11 := A1_12.out.2 1 _ rfl
    have qA12 := A1_12.out.2 2 _ rfl
    have qA13 := A1_12.out.2 3 _ rfl
    try simp only [World.size_alloc] at lA0 lA1
    have lR := R_13.out.1
    have qR0 := R_13.out.2 0 _ rfl
    have qR1 := R_13.out.2 1 _ rfl
    have qR2 := R_13.out.2 2 _ rfl
    have qR3 := R_13.out.2 3 _ rfl
    have tR := R_13.out.3
    try simp only [World.size_alloc] at lA0 lA1 lR
    go_wp2
    refine bodyPost_ret (v := .tuple #[.agg #[.int .i64 0, .int .i64 0, .int .i64 0, .slice none 0 0], .bool false]) (by simp [results, Try.results32, go_sem, qR0, qR1, qR2, qR3]) rfl ⟨_, rfl, ⟨_, _, _, rfl, own_nil _ _ _, by omega⟩, ext4 E_14.out (by omega) _ _ _ _⟩
  subst e3
  have hl1 := mok_len h1
  have hl2 := mok_len h2
  have hr1 := mok_res h1
  have hr2 := mok_res h2
  have hp1 := mok_lo h1
  have hp2 := mok_hi h1
  have hn : n' = n := by have := HR.out.1; have := HR'.out.1; omega
  subst hn
  have hnn : (n' : Int) = R * C := by have := HR.out.1; omega
  have HN := Lib.hid hnn
  simp only [addM, h1, h2, beq_self_eq_true, Bool.and_self, if_true, Prod.mk.injEq, Mat.mk.injEq] at hM
  obtain ⟨⟨rfl, rfl, rfl, rfl⟩, rfl⟩ := hM
  have hd := addL_length P 1 xs xs'
  have HD := Lib.hid hd
  have HX := Lib.hid hr1
  have HY := Lib.hid hr2
  clear hnn hd hr1 hr2 hl1 hl2
  go_enter Try.func32, Try.ntmps32
  have A0_1 := Lib.hid (((cells_new' w #[.int .i64 P, .int .i64 R, .int .i64 C, .slice (some a) n' c] 30 (w.heap.size) (by simp)).ext ((Ext.refl _).alloc (.cells #[.int .i64 P, .int .i64 R, .int .i64 C, .slice (some a') n' c'] 30))).ext ((Ext.refl _).alloc (.cells #[.int .i64 0, .int .i64 0, .int .i64 0, .slice none 0 0] 30)))
  have A1_2 := Lib.hid ((cells_new' (w.alloc (.cells #[.int .i64 P, .int .i64 R, .int .i64 C, .slice (some a) n' c] 30)) #[.int .i64 P, .int .i64 R, .int .i64 C, .slice (some a') n' c'] 30 (w.heap.size + 1) (by simp)).ext ((Ext.refl _).alloc (.cells #[.int .i64 0, .int .i64 0, .int .i64 0, .slice none 0 0] 30)))
  have R_3 := Lib.hid (cells_new' ((w.alloc (.cells #[.int .i64 P, .int .i64 R, .int .i64 C, .slice (some a) n' c] 30)).alloc (.cells #[.int .i64 P, .int .i64 R, .int .i64 C, .slice (some a') n' c'] 30)) #[.int .i64 0, .int .i64 0, .int .i64 0, .slice none 0 0] 30 (w.heap.size + 1 + 1) (by simp))
  have E_4 := Lib.hid ((((Ext.refl w).alloc (.cells #[.int .i64 P, .int .i64 R, .int .i64 C, .slice (some a) n' c] 30)).alloc (.cells #[.int .i64 P, .int .i64 R, .int .i64 C, .slice (some a') n' c'] 30)).alloc (.cells #[.int .i64 0, .int .i64 0, .int .i64 0, .slice none 0 0] 30))
  have lA0 := A0_1.out.1
  have qA00 := A0_1.out.2 0 _ rfl
  have qA01 := A0_1.out.2 1 _ rfl
  have qA02 := A0_1.out.2 2 _ rfl
  have qA03 := A0_1.out.2 3 _ rfl
  have lA1 := A1_2.out.1
  have qA10 := A1_2.out.2 0 _ rfl
  have qA11 := A1_2.out.2 1 _ rfl
  have qA12 := A1_2.out.2 2 _ rfl
  have qA13 := A1_2.out.2 3 _ rfl
  try simp only [World.size_alloc] at lA0 lA1
  go_wp2_with fail
  refine (matrixOk_spec _ _ _ _ _ _ xs _ (HR.out.ext E_4.out) hm1).mono ?_
  rintro e w_5 ⟨rfl, h_5⟩
  clear lA0 qA00 qA01 qA02 qA03 lA1 qA10 qA11 qA12 qA13
  have A0_6 := Lib.hid (A0_1.out.ext h_5)
  clear A0_1
  have A1_7 := Lib.hid (A1_2.out.ext h_5)
  clear A1_2
  have R_8 := Lib.hid (R_3.out.ext h_5)
  clear R_3
  have E_9 := Lib.hid (E_4.out.trans h_5)
  clear E_4
  have lA0 := A0_6.out.1
  have qA00 := A0_6.out.2 0 _ rfl
  have qA01 := A0_6.out.2 1 _ rfl
  have qA02 := A0_6.out.2 2 _ rfl
  have qA03 := A0_6.out.2 3 _ rfl
  have lA1 := A1_7.out.1
  have qA10 := A1_7.out.2 0 _ rfl
  have qA11 := A1_7.out.2 1 _ rfl
  have qA12 := A1_7.out.2 2 _ rfl
  have qA13 := A1_7.out.2 3 _ rfl
  try simp only [World.size_alloc] at lA0 lA1
  go_wp2_with fail
  refine (matrixOk_spec _ _ _ _ _ _ xs' _ (HR'.out.ext E_9.out) hm1').mono ?_
  rintro e w_10 ⟨rfl, h_10⟩
  clear lA0 qA00 qA01 qA02 qA03 lA1 qA10 qA11 qA12 qA13
  have A0_11 := Lib.hid (A0_6.out.ext h_10)
  clear A0_6
  have A1_12 := Lib.hid (A1_7.out.ext h_10)
  clear A1_7
  have R_13 := Lib.hid (R_8.out.ext h_10)
  clear R_8
  have E_14 := Lib.hid (E_9.out.trans h_10)
  clear E_9
  have l_R := R_13.out.1
  have lA0 := A0_11.out.1
  have qA00 := A0_11.out.2 0 _ rfl
  have qA01 := A0_11.out.2 1 _ rfl
  have qA02 := A0_11.out.2 2 _ rfl
  have qA03 := A0_11.out.2 3 _ rfl
  have lA1 := A1_12.out.1
  have qA10 := A1_12.out.2 0 _ rfl
  have qA11 := A1_12.out.2 1 _ rfl
  have qA12 := A1_12.out.2 2 _ rfl
  have qA13 := A1_12.out.2 3 _ rfl
  try simp only [World.size_alloc] at lA0 lA1
  go_wp2_with fail
  refine (l1Add_spec _ _ _ _ _ _ _ _ _ xs _ _ xs' _ (HR.out.ext E_14.out) (HR'.out.ext E_14.out) hm hp1 hp2 HX.out HY.out).mono ?_
  rintro e w_15 ⟨b, d, rfl, hb1, hb2, hh, h_15⟩
  clear lA0 qA00 qA01 qA02 qA03 lA1 qA10 qA11 qA12 qA13
  have A0_16 := Lib.hid (A0_11.out.ext h_15)
  clear A0_11
  have A1_17 := Lib.hid (A1_12.out.ext h_15)
  clear A1_12
  have R_18 := Lib.hid (R_13.out.ext h_15)
  clear R_13
  have E_19 := Lib.hid (E_14.out.trans h_15)
  clear E_14
  have HH := Lib.hid hh
  clear hh
  have lR := R_18.out.1
  have qR0 := R_18.out.2 0 _ rfl
  have qR1 := R_18.out.2 1 _ rfl
  have qR2 := R_18.out.2 2 _ rfl
  have qR3 := R_18.out.2 3 _ rfl
  have tR := R_18.out.3
  try simp only [World.size_alloc] at lR
  go_wp2
  refine bodyPost_ret (v := .tuple #[.agg #[.int .i64 P, .int .i64 R, .int .i64 C, .slice (some ⟨b, 0, none⟩) n' d], .bool true]) (by simp [results, Try.results32, go_sem, qR0, qR1, qR2, qR3]) rfl ⟨_, rfl, ⟨_, _, _, rfl, ?_, hm⟩, ext4 E_19.out (by omega) _ _ _ _⟩
  exact Own.mono (own4 (HH.out.own (lo := w.heap.size + 1 + 1 + 1) (hi := w_15.heap.size) (by omega) (by omega) (by rw [HD.out]; exact HR.out.1)) (by omega) _ _ _ _) (by omega) (by simp)

set_option maxRecDepth 100000 in
set_option maxHeartbeats 3200000 in
theorem addMatrices_impl {P R C P' R' C' : Int} {a a' : Addr} {n c n' c' : Nat} {xs xs' : List Int} {w : World} {p r q : Int} {d : List Int} {ok : Bool} (h : Reads w (some a) n xs) (hm : n ≤ 1048576) (h' : Reads w (some a') n' xs') (hm' : n' ≤ 1048576) (hM : addM P R C xs P' R' C' xs' = (⟨p, r, q, d⟩, ok)) :
    Calls Try.prog 33 #[.agg #[.int .i64 P, .int .i64 R, .int .i64 C, .slice (some a) n c], .agg #[.int .i64 P', .int .i64 R', .int .i64 C', .slice (some a') n' c']] w fun e w' => ∃ v, e = .returned (.tuple #[v, .bool ok]) ∧ Rmat w w' v p r q d ∧ Ext w w' := by
  have HR := Lib.hid h
  have HR' := Lib.hid h'
  have hm1 : n ≤ maxLen := by unfold maxLen; omega
  have hm1' : n' ≤ maxLen := by unfold maxLen; omega
  clear h h'
  rcases h1 : mok P R C xs with _ | _
  · simp only [addM, h1, noMat, Bool.false_and, Bool.false_eq_true, if_false, Prod.mk.injEq, Mat.mk.injEq] at hM
    obtain ⟨⟨rfl, rfl, rfl, rfl⟩, rfl⟩ := hM
    go_enter Try.func33, Try.ntmps33
    have A0_1 := Lib.hid (((cells_new' w #[.int .i64 P, .int .i64 R, .int .i64 C, .slice (some a) n c] 30 (w.heap.size) (by simp)).ext ((Ext.refl _).alloc (.cells #[.int .i64 P', .int .i64 R', .int .i64 C', .slice (some a') n' c'] 30))).ext ((Ext.refl _).alloc (.cells #[.int .i64 0, .int .i64 0, .int .i64 0, .slice none 0 0] 30)))
    have A1_2 := Lib.hid ((cells_new' (w.alloc (.cells #[.int .i64 P, .int .i64 R, .int .i64 C, .slice (some a) n c] 30)) #[.int .i64 P', .int .i64 R', .int .i64 C', .slice (some a') n' c'] 30 (w.heap.size + 1) (by simp)).ext ((Ext.refl _).alloc (.cells #[.int .i64 0, .int .i64 0, .int .i64 0, .slice none 0 0] 30)))
    have R_3 := Lib.hid (cells_new' ((w.alloc (.cells #[.int .i64 P, .int .i64 R, .int .i64 C, .slice (some a) n c] 30)).alloc (.cells #[.int .i64 P', .int .i64 R', .int .i64 C', .slice (some a') n' c'] 30)) #[.int .i64 0, .int .i64 0, .int .i64 0, .slice none 0 0] 30 (w.heap.size + 1 + 1) (by simp))
    have E_4 := Lib.hid ((((Ext.refl w).alloc (.cells #[.int .i64 P, .int .i64 R, .int .i64 C, .slice (some a) n c] 30)).alloc (.cells #[.int .i64 P', .int .i64 R', .int .i64 C', .slice (some a') n' c'] 30)).alloc (.cells #[.int .i64 0, .int .i64 0, .int .i64 0, .slice none 0 0] 30))
    have lA0 := A0_1.out.1
    have qA00 := A0_1.out.2 0 _ rfl
    have qA01 := A0_1.out.2 1 _ rfl
    have qA02 := A0_1.out.2 2 _ rfl
    have qA03 := A0_1.out.2 3 _ rfl
    have lA1 := A1_2.out.1
    have qA10 := A1_2.out.2 0 _ rfl
    have qA11 := A1_2.out.2 1 _ rfl
    have qA12 := A1_2.out.2 2 _ rfl
    have qA13 := A1_2.out.2 3 _ rfl
    try simp only [World.size_alloc] at lA0 lA1
    go_wp2_with fail
    refine (matrixOk_impl _ _ _ _ _ _ xs _ (HR.out.ext E_4.out) hm1).mono ?_
    rintro e w_5 ⟨rfl, h_5⟩
    clear lA0 qA00 qA01 qA02 qA03 lA1 qA10 qA11 qA12 qA13
    have A0_6 := Lib.hid (A0_1.out.ext h_5)
    clear A0_1
    have A1_7 := Lib.hid (A1_2.out.ext h_5)
    clear A1_2
    have R_8 := Lib.hid (R_3.out.ext h_5)
    clear R_3
    have E_9 := Lib.hid (E_4.out.trans h_5)
    clear E_4
    have lA0 := A0_6.out.1
    have qA00 := A0_6.out.2 0 _ rfl
    have qA01 := A0_6.out.2 1 _ rfl
    have qA02 := A0_6.out.2 2 _ rfl
    have qA03 := A0_6.out.2 3 _ rfl
    have lA1 := A1_7.out.1
    have qA10 := A1_7.out.2 0 _ rfl
    have qA11 := A1_7.out.2 1 _ rfl
    have qA12 := A1_7.out.2 2 _ rfl
    have qA13 := A1_7.out.2 3 _ rfl
    try simp only [World.size_alloc] at lA0 lA1
    have lR := R_8.out.1
    have qR0 := R_8.out.2 0 _ rfl
    have qR1 := R_8.out.2 1 _ rfl
    have qR2 := R_8.out.2 2 _ rfl
    have qR3 := R_8.out.2 3 _ rfl
    have tR := R_8.out.3
    try simp only [World.size_alloc] at lA0 lA1 lR
    go_wp2
    refine bodyPost_ret (v := .tuple #[.agg #[.int .i64 0, .int .i64 0, .int .i64 0, .slice none 0 0], .bool false]) (by simp [results, Try.results33, go_sem, qR0, qR1, qR2, qR3]) rfl ⟨_, rfl, ⟨_, _, _, rfl, own_nil _ _ _, by omega⟩, ext4 E_9.out (by omega) _ _ _ _⟩
  rcases h2 : mok P' R' C' xs' with _ | _
  · simp only [addM, h1, h2, noMat, Bool.and_false, Bool.false_and, Bool.false_eq_true, if_false, Prod.mk.injEq, Mat.mk.injEq] at hM
    obtain ⟨⟨rfl, rfl, rfl, rfl⟩, rfl⟩ := hM
    go_enter Try.func33, Try.ntmps33
    have A0_1 := Lib.hid (((cells_new' w #[.int .i64 P, .int .i64 R, .int .i64 C, .slice (some a) n c] 30 (w.heap.size) (by simp)).ext ((Ext.refl _).alloc (.cells #[.int .i64 P', .int .i64 R', .int .i64 C', .slice (some a') n' c'] 30))).ext ((Ext.refl _).alloc (.cells #[.int .i64 0, .int .i64 0, .int .i64 0, .slice none 0 0] 30)))
    have A1_2 := Lib.hid ((cells_new' (w.alloc (.cells #[.int .i64 P, .int .i64 R, .int .i64 C, .slice (some a) n c] 30)) #[.int .i64 P', .int .i64 R', .int .i64 C', .slice (some a') n' c'] 30 (w.heap.size + 1) (by simp)).ext ((Ext.refl _).alloc (.cells #[.int .i64 0, .int .i64 0, .int .i64 0, .slice none 0 0] 30)))
    have R_3 := Lib.hid (cells_new' ((w.alloc (.cells #[.int .i64 P, .int .i64 R, .int .i64 C, .slice (some a) n c] 30)).alloc (.cells #[.int .i64 P', .int .i64 R', .int .i64 C', .slice (some a') n' c'] 30)) #[.int .i64 0, .int .i64 0, .int .i64 0, .slice none 0 0] 30 (w.heap.size + 1 + 1) (by simp))
    have E_4 := Lib.hid ((((Ext.refl w).alloc (.cells #[.int .i64 P, .int .i64 R, .int .i64 C, .slice (some a) n c] 30)).alloc (.cells #[.int .i64 P', .int .i64 R', .int .i64 C', .slice (some a') n' c'] 30)).alloc (.cells #[.int .i64 0, .int .i64 0, .int .i64 0, .slice none 0 0] 30))
    have lA0 := A0_1.out.1
    have qA00 := A0_1.out.2 0 _ rfl
    have qA01 := A0_1.out.2 1 _ rfl
    have qA02 := A0_1.out.2 2 _ rfl
    have qA03 := A0_1.out.2 3 _ rfl
    have lA1 := A1_2.out.1
    have qA10 := A1_2.out.2 0 _ rfl
    have qA11 := A1_2.out.2 1 _ rfl
    have qA12 := A1_2.out.2 2 _ rfl
    have qA13 := A1_2.out.2 3 _ rfl
    try simp only [World.size_alloc] at lA0 lA1
    go_wp2_with fail
    refine (matrixOk_impl _ _ _ _ _ _ xs _ (HR.out.ext E_4.out) hm1).mono ?_
    rintro e w_5 ⟨rfl, h_5⟩
    clear lA0 qA00 qA01 qA02 qA03 lA1 qA10 qA11 qA12 qA13
    have A0_6 := Lib.hid (A0_1.out.ext h_5)
    clear A0_1
    have A1_7 := Lib.hid (A1_2.out.ext h_5)
    clear A1_2
    have R_8 := Lib.hid (R_3.out.ext h_5)
    clear R_3
    have E_9 := Lib.hid (E_4.out.trans h_5)
    clear E_4
    have lA0 := A0_6.out.1
    have qA00 := A0_6.out.2 0 _ rfl
    have qA01 := A0_6.out.2 1 _ rfl
    have qA02 := A0_6.out.2 2 _ rfl
    have qA03 := A0_6.out.2 3 _ rfl
    have lA1 := A1_7.out.1
    have qA10 := A1_7.out.2 0 _ rfl
    have qA11 := A1_7.out.2 1 _ rfl
    have qA12 := A1_7.out.2 2 _ rfl
    have qA13 := A1_7.out.2 3 _ rfl
    try simp only [World.size_alloc] at lA0 lA1
    go_wp2_with fail
    refine (matrixOk_impl _ _ _ _ _ _ xs' _ (HR'.out.ext E_9.out) hm1').mono ?_
    rintro e w_10 ⟨rfl, h_10⟩
    clear lA0 qA00 qA01 qA02 qA03 lA1 qA10 qA11 qA12 qA13
    have A0_11 := Lib.hid (A0_6.out.ext h_10)
    clear A0_6
    have A1_12 := Lib.hid (A1_7.out.ext h_10)
    clear A1_7
    have R_13 := Lib.hid (R_8.out.ext h_10)
    clear R_8
    have E_14 := Lib.hid (E_9.out.trans h_10)
    clear E_9
    have lA0 := A0_11.out.1
    have qA00 := A0_11.out.2 0 _ rfl
    have qA01 := A0_11.out.2 1 _ rfl
    have qA02 := A0_11.out.2 2 _ rfl
    have qA03 := A0_11.out.2 3 _ rfl
    have lA1 := A1_12.out.1
    have qA10 := A1_12.out.2 0 _ rfl
    have qA11 := A1_12.out.2 1 _ rfl
    have qA12 := A1_12.out.2 2 _ rfl
    have qA13 := A1_12.out.2 3 _ rfl
    try simp only [World.size_alloc] at lA0 lA1
    have lR := R_13.out.1
    have qR0 := R_13.out.2 0 _ rfl
    have qR1 := R_13.out.2 1 _ rfl
    have qR2 := R_13.out.2 2 _ rfl
    have qR3 := R_13.out.2 3 _ rfl
    have tR := R_13.out.3
    try simp only [World.size_alloc] at lA0 lA1 lR
    go_wp2
    refine bodyPost_ret (v := .tuple #[.agg #[.int .i64 0, .int .i64 0, .int .i64 0, .slice none 0 0], .bool false]) (by simp [results, Try.results33, go_sem, qR0, qR1, qR2, qR3]) rfl ⟨_, rfl, ⟨_, _, _, rfl, own_nil _ _ _, by omega⟩, ext4 E_14.out (by omega) _ _ _ _⟩
  by_cases e1 : P = P'
  case neg =>
    have hb : (P == P') = false := by simpa using e1
    have hb2 : (P != P') = true := by simpa using e1
    simp only [addM, hb, noMat, Bool.and_false, Bool.false_and, Bool.false_eq_true, if_false, Prod.mk.injEq, Mat.mk.injEq] at hM
    obtain ⟨⟨rfl, rfl, rfl, rfl⟩, rfl⟩ := hM
    clear e1
    go_enter Try.func33, Try.ntmps33
    have A0_1 := Lib.hid (((cells_new' w #[.int .i64 P, .int .i64 R, .int .i64 C, .slice (some a) n c] 30 (w.heap.size) (by simp)).ext ((Ext.refl _).alloc (.cells #[.int .i64 P', .int .i64 R', .int .i64 C', .slice (some a') n' c'] 30))).ext ((Ext.refl _).alloc (.cells #[.int .i64 0, .int .i64 0, .int .i64 0, .slice none 0 0] 30)))
    have A1_2 := Lib.hid ((cells_new' (w.alloc (.cells #[.int .i64 P, .int .i64 R, .int .i64 C, .slice (some a) n c] 30)) #[.int .i64 P', .int .i64 R', .int .i64 C', .slice (some a') n' c'] 30 (w.heap.size + 1) (by simp)).ext ((Ext.refl _).alloc (.cells #[.int .i64 0, .int .i64 0, .int .i64 0, .slice none 0 0] 30)))
    have R_3 := Lib.hid (cells_new' ((w.alloc (.cells #[.int .i64 P, .int .i64 R, .int .i64 C, .slice (some a) n c] 30)).alloc (.cells #[.int .i64 P', .int .i64 R', .int .i64 C', .slice (some a') n' c'] 30)) #[.int .i64 0, .int .i64 0, .int .i64 0, .slice none 0 0] 30 (w.heap.size + 1 + 1) (by simp))
    have E_4 := Lib.hid ((((Ext.refl w).alloc (.cells #[.int .i64 P, .int .i64 R, .int .i64 C, .slice (some a) n c] 30)).alloc (.cells #[.int .i64 P', .int .i64 R', .int .i64 C', .slice (some a') n' c'] 30)).alloc (.cells #[.int .i64 0, .int .i64 0, .int .i64 0, .slice none 0 0] 30))
    have lA0 := A0_1.out.1
    have qA00 := A0_1.out.2 0 _ rfl
    have qA01 := A0_1.out.2 1 _ rfl
    have qA02 := A0_1.out.2 2 _ rfl
    have qA03 := A0_1.out.2 3 _ rfl
    have lA1 := A1_2.out.1
    have qA10 := A1_2.out.2 0 _ rfl
    have qA11 := A1_2.out.2 1 _ rfl
    have qA12 := A1_2.out.2 2 _ rfl
    have qA13 := A1_2.out.2 3 _ rfl
    try simp only [World.size_alloc] at lA0 lA1
    go_wp2_with fail
    refine (matrixOk_impl _ _ _ _ _ _ xs _ (HR.out.ext E_4.out) hm1).mono ?_
    rintro e w_5 ⟨rfl, h_5⟩
    clear lA0 qA00 qA01 qA02 qA03 lA1 qA10 qA11 qA12 qA13
    have A0_6 := Lib.hid (A0_1.out.ext h_5)
    clear A0_1
    have A1_7 := Lib.hid (A1_2.out.ext h_5)
    clear A1_2
    have R_8 := Lib.hid (R_3.out.ext h_5)
    clear R_3
    have E_9 := Lib.hid (E_4.out.trans h_5)
    clear E_4
    have lA0 := A0_6.out.1
    have qA00 := A0_6.out.2 0 _ rfl
    have qA01 := A0_6.out.2 1 _ rfl
    have qA02 := A0_6.out.2 2 _ rfl
    have qA03 := A0_6.out.2 3 _ rfl
    have lA1 := A1_7.out.1
    have qA10 := A1_7.out.2 0 _ rfl
    have qA11 := A1_7.out.2 1 _ rfl
    have qA12 := A1_7.out.2 2 _ rfl
    have qA13 := A1_7.out.2 3 _ rfl
    try simp only [World.size_alloc] at lA0 lA1
    go_wp2_with fail
    refine (matrixOk_impl _ _ _ _ _ _ xs' _ (HR'.out.ext E_9.out) hm1').mono ?_
    rintro e w_10 ⟨rfl, h_10⟩
    clear lA0 qA00 qA01 qA02 qA03 lA1 qA10 qA11 qA12 qA13
    have A0_11 := Lib.hid (A0_6.out.ext h_10)
    clear A0_6
    have A1_12 := Lib.hid (A1_7.out.ext h_10)
    clear A1_7
    have R_13 := Lib.hid (R_8.out.ext h_10)
    clear R_8
    have E_14 := Lib.hid (E_9.out.trans h_10)
    clear E_9
    have lA0 := A0_11.out.1
    have qA00 := A0_11.out.2 0 _ rfl
    have qA01 := A0_11.out.2 1 _ rfl
    have qA02 := A0_11.out.2 2 _ rfl
    have qA03 := A0_11.out.2 3 _ rfl
    have lA1 := A1_12.out.1
    have qA10 := A1_12.out.2 0 _ rfl
    have qA11 := A1_12.out.2 1 _ rfl
    have qA12 := A1_12.out.2 2 _ rfl
    have qA13 := A1_12.out.2 3 _ rfl
    try simp only [World.size_alloc] at lA0 lA1
    have lR := R_13.out.1
    have qR0 := R_13.out.2 0 _ rfl
    have qR1 := R_13.out.2 1 _ rfl
    have qR2 := R_13.out.2 2 _ rfl
    have qR3 := R_13.out.2 3 _ rfl
    have tR := R_13.out.3
    try simp only [World.size_alloc] at lA0 lA1 lR
    go_wp2
    refine bodyPost_ret (v := .tuple #[.agg #[.int .i64 0, .int .i64 0, .int .i64 0, .slice none 0 0], .bool false]) (by simp [results, Try.results33, go_sem, qR0, qR1, qR2, qR3]) rfl ⟨_, rfl, ⟨_, _, _, rfl, own_nil _ _ _, by omega⟩, ext4 E_14.out (by omega) _ _ _ _⟩
  subst e1
  by_cases e2 : R = R'
  case neg =>
    have hb : (R == R') = false := by simpa using e2
    have hb2 : (R != R') = true := by simpa using e2
    simp only [addM, hb, noMat, Bool.and_false, Bool.false_and, Bool.false_eq_true, if_false, Prod.mk.injEq, Mat.mk.injEq] at hM
    obtain ⟨⟨rfl, rfl, rfl, rfl⟩, rfl⟩ := hM
    clear e2
    go_enter Try.func33, Try.ntmps33
    have A0_1 := Lib.hid (((cells_new' w #[.int .i64 P, .int .i64 R, .int .i64 C, .slice (some a) n c] 30 (w.heap.size) (by simp)).ext ((Ext.refl _).alloc (.cells #[.int .i64 P, .int .i64 R', .int .i64 C', .slice (some a') n' c'] 30))).ext ((Ext.refl _).alloc (.cells #[.int .i64 0, .int .i64 0, .int .i64 0, .slice none 0 0] 30)))
    have A1_2 := Lib.hid ((cells_new' (w.alloc (.cells #[.int .i64 P, .int .i64 R, .int .i64 C, .slice (some a) n c] 30)) #[.int .i64 P, .int .i64 R', .int .i64 C', .slice (some a') n' c'] 30 (w.heap.size + 1) (by simp)).ext ((Ext.refl _).alloc (.cells #[.int .i64 0, .int .i64 0, .int .i64 0, .slice none 0 0] 30)))
    have R_3 := Lib.hid (cells_new' ((w.alloc (.cells #[.int .i64 P, .int .i64 R, .int .i64 C, .slice (some a) n c] 30)).alloc (.cells #[.int .i64 P, .int .i64 R', .int .i64 C', .slice (some a') n' c'] 30)) #[.int .i64 0, .int .i64 0, .int .i64 0, .slice none 0 0] 30 (w.heap.size + 1 + 1) (by simp))
    have E_4 := Lib.hid ((((Ext.refl w).alloc (.cells #[.int .i64 P, .int .i64 R, .int .i64 C, .slice (some a) n c] 30)).alloc (.cells #[.int .i64 P, .int .i64 R', .int .i64 C', .slice (some a') n' c'] 30)).alloc (.cells #[.int .i64 0, .int .i64 0, .int .i64 0, .slice none 0 0] 30))
    have lA0 := A0_1.out.1
    have qA00 := A0_1.out.2 0 _ rfl
    have qA01 := A0_1.out.2 1 _ rfl
    have qA02 := A0_1.out.2 2 _ rfl
    have qA03 := A0_1.out.2 3 _ rfl
    have lA1 := A1_2.out.1
    have qA10 := A1_2.out.2 0 _ rfl
    have qA11 := A1_2.out.2 1 _ rfl
    have qA12 := A1_2.out.2 2 _ rfl
    have qA13 := A1_2.out.2 3 _ rfl
    try simp only [World.size_alloc] at lA0 lA1
    go_wp2_with fail
    refine (matrixOk_impl _ _ _ _ _ _ xs _ (HR.out.ext E_4.out) hm1).mono ?_
    rintro e w_5 ⟨rfl, h_5⟩
    clear lA0 qA00 qA01 qA02 qA03 lA1 qA10 qA11 qA12 qA13
    have A0_6 := Lib.hid (A0_1.out.ext h_5)
    clear A0_1
    have A1_7 := Lib.hid (A1_2.out.ext h_5)
    clear A1_2
    have R_8 := Lib.hid (R_3.out.ext h_5)
    clear R_3
    have E_9 := Lib.hid (E_4.out.trans h_5)
    clear E_4
    have lA0 := A0_6.out.1
    have qA00 := A0_6.out.2 0 _ rfl
    have qA01 := A0_6.out.2 1 _ rfl
    have qA02 := A0_6.out.2 2 _ rfl
    have qA03 := A0_6.out.2 3 _ rfl
    have lA1 := A1_7.out.1
    have qA10 := A1_7.out.2 0 _ rfl
    have qA11 := A1_7.out.2 1 _ rfl
    have qA12 := A1_7.out.2 2 _ rfl
    have qA13 := A1_7.out.2 3 _ rfl
    try simp only [World.size_alloc] at lA0 lA1
    go_wp2_with fail
    refine (matrixOk_impl _ _ _ _ _ _ xs' _ (HR'.out.ext E_9.out) hm1').mono ?_
    rintro e w_10 ⟨rfl, h_10⟩
    clear lA0 qA00 qA01 qA02 qA03 lA1 qA10 qA11 qA12 qA13
    have A0_11 := Lib.hid (A0_6.out.ext h_10)
    clear A0_6
    have A1_12 := Lib.hid (A1_7.out.ext h_10)
    clear A1_7
    have R_13 := Lib.hid (R_8.out.ext h_10)
    clear R_8
    have E_14 := Lib.hid (E_9.out.trans h_10)
    clear E_9
    have lA0 := A0_11.out.1
    have qA00 := A0_11.out.2 0 _ rfl
    have qA01 := A0_11.out.2 1 _ rfl
    have qA02 := A0_11.out.2 2 _ rfl
    have qA03 := A0_11.out.2 3 _ rfl
    have lA1 := A1_12.out.1
    have qA10 := A1_12.out.2 0 _ rfl
    have qA11 := A1_12.out.2 1 _ rfl
    have qA12 := A1_12.out.2 2 _ rfl
    have qA13 := A1_12.out.2 3 _ rfl
    try simp only [World.size_alloc] at lA0 lA1
    have lR := R_13.out.1
    have qR0 := R_13.out.2 0 _ rfl
    have qR1 := R_13.out.2 1 _ rfl
    have qR2 := R_13.out.2 2 _ rfl
    have qR3 := R_13.out.2 3 _ rfl
    have tR := R_13.out.3
    try simp only [World.size_alloc] at lA0 lA1 lR
    go_wp2
    refine bodyPost_ret (v := .tuple #[.agg #[.int .i64 0, .int .i64 0, .int .i64 0, .slice none 0 0], .bool false]) (by simp [results, Try.results33, go_sem, qR0, qR1, qR2, qR3]) rfl ⟨_, rfl, ⟨_, _, _, rfl, own_nil _ _ _, by omega⟩, ext4 E_14.out (by omega) _ _ _ _⟩
  subst e2
  by_cases e3 : C = C'
  case neg =>
    have hb : (C == C') = false := by simpa using e3
    have hb2 : (C != C') = true := by simpa using e3
    simp only [addM, hb, noMat, Bool.and_false, Bool.false_eq_true, if_false, Prod.mk.injEq, Mat.mk.injEq] at hM
    obtain ⟨⟨rfl, rfl, rfl, rfl⟩, rfl⟩ := hM
    clear e3
    go_enter Try.func33, Try.ntmps33
    have A0_1 := Lib.hid (((cells_new' w #[.int .i64 P, .int .i64 R, .int .i64 C, .slice (some a) n c] 30 (w.heap.size) (by simp)).ext ((Ext.refl _).alloc (.cells #[.int .i64 P, .int .i64 R, .int .i64 C', .slice (some a') n' c'] 30))).ext ((Ext.refl _).alloc (.cells #[.int .i64 0, .int .i64 0, .int .i64 0, .slice none 0 0] 30)))
    have A1_2 := Lib.hid ((cells_new' (w.alloc (.cells #[.int .i64 P, .int .i64 R, .int .i64 C, .slice (some a) n c] 30)) #[.int .i64 P, .int .i64 R, .int .i64 C', .slice (some a') n' c'] 30 (w.heap.size + 1) (by simp)).ext ((Ext.refl _).alloc (.cells #[.int .i64 0, .int .i64 0, .int .i64 0, .slice none 0 0] 30)))
    have R_3 := Lib.hid (cells_new' ((w.alloc (.cells #[.int .i64 P, .int .i64 R, .int .i64 C, .slice (some a) n c] 30)).alloc (.cells #[.int .i64 P, .int .i64 R, .int .i64 C', .slice (some a') n' c'] 30)) #[.int .i64 0, .int .i64 0, .int .i64 0, .slice none 0 0] 30 (w.heap.size + 1 + 1) (by simp))
    have E_4 := Lib.hid ((((Ext.refl w).alloc (.cells #[.int .i64 P, .int .i64 R, .int .i64 C, .slice (some a) n c] 30)).alloc (.cells #[.int .i64 P, .int .i64 R, .int .i64 C', .slice (some a') n' c'] 30)).alloc (.cells #[.int .i64 0, .int .i64 0, .int .i64 0, .slice none 0 0] 30))
    have lA0 := A0_1.out.1
    have qA00 := A0_1.out.2 0 _ rfl
    have qA01 := A0_1.out.2 1 _ rfl
    have qA02 := A0_1.out.2 2 _ rfl
    have qA03 := A0_1.out.2 3 _ rfl
    have lA1 := A1_2.out.1
    have qA10 := A1_2.out.2 0 _ rfl
    have qA11 := A1_2.out.2 1 _ rfl
    have qA12 := A1_2.out.2 2 _ rfl
    have qA13 := A1_2.out.2 3 _ rfl
    try simp only [World.size_alloc] at lA0 lA1
    go_wp2_with fail
    refine (matrixOk_impl _ _ _ _ _ _ xs _ (HR.out.ext E_4.out) hm1).mono ?_
    rintro e w_5 ⟨rfl, h_5⟩
    clear lA0 qA00 qA01 qA02 qA03 lA1 qA10 qA11 qA12 qA13
    have A0_6 := Lib.hid (A0_1.out.ext h_5)
    clear A0_1
    have A1_7 := Lib.hid (A1_2.out.ext h_5)
    clear A1_2
    have R_8 := Lib.hid (R_3.out.ext h_5)
    clear R_3
    have E_9 := Lib.hid (E_4.out.trans h_5)
    clear E_4
    have lA0 := A0_6.out.1
    have qA00 := A0_6.out.2 0 _ rfl
    have qA01 := A0_6.out.2 1 _ rfl
    have qA02 := A0_6.out.2 2 _ rfl
    have qA03 := A0_6.out.2 3 _ rfl
    have lA1 := A1_7.out.1
    have qA10 := A1_7.out.2 0 _ rfl
    have qA11 := A1_7.out.2 1 _ rfl
    have qA12 := A1_7.out.2 2 _ rfl
    have qA13 := A1_7.out.2 3 _ rfl
    try simp only [World.size_alloc] at lA0 lA1
    go_wp2_with fail
    refine (matrixOk_impl _ _ _ _ _ _ xs' _ (HR'.out.ext E_9.out) hm1').mono ?_
    rintro e w_10 ⟨rfl, h_10⟩
    clear lA0 qA00 qA01 qA02 qA03 lA1 qA10 qA11 qA12 qA13
    have A0_11 := Lib.hid (A0_6.out.ext h_10)
    clear A0_6
    have A1_12 := Lib.hid (A1_7.out.ext h_10)
    clear A1_7
    have R_13 := Lib.hid (R_8.out.ext h_10)
    clear R_8
    have E_14 := Lib.hid (E_9.out.trans h_10)
    clear E_9
    have lA0 := A0_11.out.1
    have qA00 := A0_11.out.2 0 _ rfl
    have qA01 := A0_11.out.2 1 _ rfl
    have qA02 := A0_11.out.2 2 _ rfl
    have qA03 := A0_11.out.2 3 _ rfl
    have lA1 := A1_12.out.1
    have qA10 := A1_12.out.2 0 _ rfl
    have qA11 := A1_12.out.2 1 _ rfl
    have qA12 := A1_12.out.2 2 _ rfl
    have qA13 := A1_12.out.2 3 _ rfl
    try simp only [World.size_alloc] at lA0 lA1
    have lR := R_13.out.1
    have qR0 := R_13.out.2 0 _ rfl
    have qR1 := R_13.out.2 1 _ rfl
    have qR2 := R_13.out.2 2 _ rfl
    have qR3 := R_13.out.2 3 _ rfl
    have tR := R_13.out.3
    try simp only [World.size_alloc] at lA0 lA1 lR
    go_wp2
    refine bodyPost_ret (v := .tuple #[.agg #[.int .i64 0, .int .i64 0, .int .i64 0, .slice none 0 0], .bool false]) (by simp [results, Try.results33, go_sem, qR0, qR1, qR2, qR3]) rfl ⟨_, rfl, ⟨_, _, _, rfl, own_nil _ _ _, by omega⟩, ext4 E_14.out (by omega) _ _ _ _⟩
  subst e3
  have hl1 := mok_len h1
  have hl2 := mok_len h2
  have hr1 := mok_res h1
  have hr2 := mok_res h2
  have hp1 := mok_lo h1
  have hp2 := mok_hi h1
  have hn : n' = n := by have := HR.out.1; have := HR'.out.1; omega
  subst hn
  have hnn : (n' : Int) = R * C := by have := HR.out.1; omega
  have HN := Lib.hid hnn
  simp only [addM, h1, h2, beq_self_eq_true, Bool.and_self, if_true, Prod.mk.injEq, Mat.mk.injEq] at hM
  obtain ⟨⟨rfl, rfl, rfl, rfl⟩, rfl⟩ := hM
  have hd := addL_length P 1 xs xs'
  have HD := Lib.hid hd
  have HX := Lib.hid hr1
  have HY := Lib.hid hr2
  clear hnn hd hr1 hr2 hl1 hl2
  go_enter Try.func33, Try.ntmps33
  have A0_1 := Lib.hid (((cells_new' w #[.int .i64 P, .int .i64 R, .int .i64 C, .slice (some a) n' c] 30 (w.heap.size) (by simp)).ext ((Ext.refl _).alloc (.cells #[.int .i64 P, .int .i64 R, .int .i64 C, .slice (some a') n' c'] 30))).ext ((Ext.refl _).alloc (.cells #[.int .i64 0, .int .i64 0, .int .i64 0, .slice none 0 0] 30)))
  have A1_2 := Lib.hid ((cells_new' (w.alloc (.cells #[.int .i64 P, .int .i64 R, .int .i64 C, .slice (some a) n' c] 30)) #[.int .i64 P, .int .i64 R, .int .i64 C, .slice (some a') n' c'] 30 (w.heap.size + 1) (by simp)).ext ((Ext.refl _).alloc (.cells #[.int .i64 0, .int .i64 0, .int .i64 0, .slice none 0 0] 30)))
  have R_3 := Lib.hid (cells_new' ((w.alloc (.cells #[.int .i64 P, .int .i64 R, .int .i64 C, .slice (some a) n' c] 30)).alloc (.cells #[.int .i64 P, .int .i64 R, .int .i64 C, .slice (some a') n' c'] 30)) #[.int .i64 0, .int .i64 0, .int .i64 0, .slice none 0 0] 30 (w.heap.size + 1 + 1) (by simp))
  have E_4 := Lib.hid ((((Ext.refl w).alloc (.cells #[.int .i64 P, .int .i64 R, .int .i64 C, .slice (some a) n' c] 30)).alloc (.cells #[.int .i64 P, .int .i64 R, .int .i64 C, .slice (some a') n' c'] 30)).alloc (.cells #[.int .i64 0, .int .i64 0, .int .i64 0, .slice none 0 0] 30))
  have lA0 := A0_1.out.1
  have qA00 := A0_1.out.2 0 _ rfl
  have qA01 := A0_1.out.2 1 _ rfl
  have qA02 := A0_1.out.2 2 _ rfl
  have qA03 := A0_1.out.2 3 _ rfl
  have lA1 := A1_2.out.1
  have qA10 := A1_2.out.2 0 _ rfl
  have qA11 := A1_2.out.2 1 _ rfl
  have qA12 := A1_2.out.2 2 _ rfl
  have qA13 := A1_2.out.2 3 _ rfl
  try simp only [World.size_alloc] at lA0 lA1
  go_wp2_with fail
  refine (matrixOk_impl _ _ _ _ _ _ xs _ (HR.out.ext E_4.out) hm1).mono ?_
  rintro e w_5 ⟨rfl, h_5⟩
  clear lA0 qA00 qA01 qA02 qA03 lA1 qA10 qA11 qA12 qA13
  have A0_6 := Lib.hid (A0_1.out.ext h_5)
  clear A0_1
  have A1_7 := Lib.hid (A1_2.out.ext h_5)
  clear A1_2
  have R_8 := Lib.hid (R_3.out.ext h_5)
  clear R_3
  have E_9 := Lib.hid (E_4.out.trans h_5)
  clear E_4
  have lA0 := A0_6.out.1
  have qA00 := A0_6.out.2 0 _ rfl
  have qA01 := A0_6.out.2 1 _ rfl
  have qA02 := A0_6.out.2 2 _ rfl
  have qA03 := A0_6.out.2 3 _ rfl
  have lA1 := A1_7.out.1
  have qA10 := A1_7.out.2 0 _ rfl
  have qA11 := A1_7.out.2 1 _ rfl
  have qA12 := A1_7.out.2 2 _ rfl
  have qA13 := A1_7.out.2 3 _ rfl
  try simp only [World.size_alloc] at lA0 lA1
  go_wp2_with fail
  refine (matrixOk_impl _ _ _ _ _ _ xs' _ (HR'.out.ext E_9.out) hm1').mono ?_
  rintro e w_10 ⟨rfl, h_10⟩
  clear lA0 qA00 qA01 qA02 qA03 lA1 qA10 qA11 qA12 qA13
  have A0_11 := Lib.hid (A0_6.out.ext h_10)
  clear A0_6
  have A1_12 := Lib.hid (A1_7.out.ext h_10)
  clear A1_7
  have R_13 := Lib.hid (R_8.out.ext h_10)
  clear R_8
  have E_14 := Lib.hid (E_9.out.trans h_10)
  clear E_9
  have l_R := R_13.out.1
  have lA0 := A0_11.out.1
  have qA00 := A0_11.out.2 0 _ rfl
  have qA01 := A0_11.out.2 1 _ rfl
  have qA02 := A0_11.out.2 2 _ rfl
  have qA03 := A0_11.out.2 3 _ rfl
  have lA1 := A1_12.out.1
  have qA10 := A1_12.out.2 0 _ rfl
  have qA11 := A1_12.out.2 1 _ rfl
  have qA12 := A1_12.out.2 2 _ rfl
  have qA13 := A1_12.out.2 3 _ rfl
  try simp only [World.size_alloc] at lA0 lA1
  go_wp2_with fail
  refine (addMultiple_impl _ _ _ _ _ _ _ _ _ _ xs _ _ xs' _ (HR.out.ext E_14.out) (HR'.out.ext E_14.out) hm HN.out hp1 hp2 HX.out HY.out (by omega) (by omega)).mono ?_
  rintro e w_15 ⟨b, rfl, hb1, hb2, hh, h_15⟩
  clear lA0 qA00 qA01 qA02 qA03 lA1 qA10 qA11 qA12 qA13
  have A0_16 := Lib.hid (A0_11.out.ext h_15)
  clear A0_11
  have A1_17 := Lib.hid (A1_12.out.ext h_15)
  clear A1_12
  have R_18 := Lib.hid (R_13.out.ext h_15)
  clear R_13
  have E_19 := Lib.hid (E_14.out.trans h_15)
  clear E_14
  have HH := Lib.hid hh
  clear hh
  have lR := R_18.out.1
  have qR0 := R_18.out.2 0 _ rfl
  have qR1 := R_18.out.2 1 _ rfl
  have qR2 := R_18.out.2 2 _ rfl
  have qR3 := R_18.out.2 3 _ rfl
  have tR := R_18.out.3
  try simp only [World.size_alloc] at lR
  go_wp2
  refine bodyPost_ret (v := .tuple #[.agg #[.int .i64 P, .int .i64 R, .int .i64 C, .slice (some ⟨b, 0, none⟩) n' n'], .bool true]) (by simp [results, Try.results33, go_sem, qR0, qR1, qR2, qR3]) rfl ⟨_, rfl, ⟨_, _, _, rfl, ?_, hm⟩, ext4 E_19.out (by omega) _ _ _ _⟩
  exact Own.mono (own4 (HH.out.own (lo := w.heap.size + 1 + 1 + 1) (hi := w_15.heap.size) (by omega) (by omega) (by rw [HD.out]; exact HR.out.1)) (by omega) _ _ _ _) (by omega) (by simp)
end Go.Proofs.Ythblbaglemoalaa
