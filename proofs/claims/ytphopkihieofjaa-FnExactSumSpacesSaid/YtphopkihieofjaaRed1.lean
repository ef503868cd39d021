/-
  The span, the rank, the determinant and the reduction, of the program.
-/
import Derived.Test.YtphopkihieofjaaSpanI
import Derived.Test.YtphopkihieofjaaAddM
import Derived.Test.YtphopkihieofjaaTrace
namespace Go.Proofs.Ytphopkihieofjaa
open Go.RowKit
set_option linter.unusedVariables false

noncomputable def spanM (P R C : Int) (xs : List Int) : Mat := if mok P R C xs then ⟨P, ((redM P R.toNat C.toNat xs).pv.length : Nat), C, spanL P R.toNat C.toNat xs⟩ else noMat
noncomputable def rankM (P R C : Int) (xs : List Int) : Int := if mok P R C xs then ((redM P R.toNat C.toNat xs).pv.length : Nat) else -1
noncomputable def detM (P R C : Int) (xs : List Int) : Int × Bool := if mok P R C xs && (R == C) then (if (redM P R.toNat C.toNat xs).pv.length < R.toNat then (0, true) else ((redM P R.toNat C.toNat xs).d, true)) else (0, false)
noncomputable def reduceM (P R C : Int) (xs : List Int) : Mat × List Int := if mok P R C xs then (⟨P, R, C, (redM P R.toNat C.toNat xs).m⟩, pvI (redM P R.toNat C.toNat xs).pv) else (noMat, [])
theorem field_mat1 (x0 x1 x2 x3 : Value) (w : World) : (Instr.field 26 (.agg #[x0, x1, x2, x3]) 1).run Try.prog w = .ok x1 w := by kernel_rfl
theorem spanK_le {P : Int} {R C n : Nat} {xs : List Int} (hn : n = R * C) : (redM P R C xs).pv.length * C ≤ n := by rw [hn]; exact Nat.mul_le_mul_right C redM_k.1

set_option maxRecDepth 100000 in
set_option maxHeartbeats 3200000 in
theorem spanOf_impl {P R C : Int} {a0 oa n : Nat} {xs : List Int} {w : World} {p r q : Int} {d : List Int} (h : Reads w (some ⟨a0, oa, none⟩) n xs) (hm : n ≤ 1048576) (hM : spanM P R C xs = ⟨p, r, q, d⟩) :
    Calls Try.prog 32 #[.agg #[.int .i64 P, .int .i64 R, .int .i64 C, .slice (some ⟨a0, oa, none⟩) n n]] w fun e w' => ∃ v, e = .returned v ∧ Rmat w w' v p r q d ∧ Ext w w' := by
  have HR := Lib.hid h
  have hm1 : n ≤ maxLen := by unfold maxLen; omega
  clear h
  rcases h1 : mok P R C xs with _ | _
  · simp only [spanM, h1, noMat, Bool.false_eq_true, if_false, Mat.mk.injEq] at hM
    obtain ⟨rfl, rfl, rfl, rfl⟩ := hM
    go_enter Try.func32, Try.ntmps32
    have A0_1 := Lib.hid ((cells_new' w #[.int .i64 P, .int .i64 R, .int .i64 C, .slice (some ⟨a0, oa, none⟩) n n] 26 (w.heap.size) (by simp)).ext ((Ext.refl _).alloc (.cells #[.int .i64 0, .int .i64 0, .int .i64 0, .slice none 0 0] 26)))
    have R_2 := Lib.hid (cells_new' (w.alloc (.cells #[.int .i64 P, .int .i64 R, .int .i64 C, .slice (some ⟨a0, oa, none⟩) n n] 26)) #[.int .i64 0, .int .i64 0, .int .i64 0, .slice none 0 0] 26 (w.heap.size + 1) (by simp))
    have E_3 := Lib.hid (((Ext.refl w).alloc (.cells #[.int .i64 P, .int .i64 R, .int .i64 C, .slice (some ⟨a0, oa, none⟩) n n] 26)).alloc (.cells #[.int .i64 0, .int .i64 0, .int .i64 0, .slice none 0 0] 26))
    have lA0 := A0_1.out.1
    have qA00 := A0_1.out.2 0 _ rfl
    have qA01 := A0_1.out.2 1 _ rfl
    have qA02 := A0_1.out.2 2 _ rfl
    have qA03 := A0_1.out.2 3 _ rfl
    try simp only [World.size_alloc] at lA0
    go_wp2_with fail
    refine (matrixOk_impl _ _ _ _ _ _ xs _ (HR.out.ext E_3.out) hm1).mono ?_
    rintro e w_4 ⟨rfl, h_4⟩
    clear lA0 qA00 qA01 qA02 qA03
    have A0_5 := Lib.hid (A0_1.out.ext h_4)
    clear A0_1
    have R_6 := Lib.hid (R_2.out.ext h_4)
    clear R_2
    have E_7 := Lib.hid (E_3.out.trans h_4)
    clear E_3
    rw [h1]
    have lR := R_6.out.1
    have qR0 := R_6.out.2 0 _ rfl
    have qR1 := R_6.out.2 1 _ rfl
    have qR2 := R_6.out.2 2 _ rfl
    have qR3 := R_6.out.2 3 _ rfl
    have tR := R_6.out.3
    try simp only [World.size_alloc] at lR
    go_wp2
    refine bodyPost_ret (v := .agg #[.int .i64 0, .int .i64 0, .int .i64 0, .slice none 0 0]) (by simp [results, Try.results32, go_sem, qR0, qR1, qR2, qR3]) rfl ⟨_, rfl, ⟨_, _, _, rfl, own_nil _ _ _, by omega⟩, ext4 E_7.out (by omega) _ _ _ _⟩
  simp only [spanM, h1, if_true, Mat.mk.injEq] at hM
  obtain ⟨rfl, rfl, rfl, rfl⟩ := hM
  have hl := mok_len h1
  have hx := mok_res h1
  have hp := mok_lo h1
  have hp2 := mok_hi h1
  have hpr := (mok_iff.1 h1).1
  have hq1 := inB_iff.1 (mok_iff.1 h1).2.1
  have hq2 := inB_iff.1 (mok_iff.1 h1).2.2.1
  have HM1 := Lib.hid h1
  obtain ⟨R, rfl⟩ := Int.eq_ofNat_of_zero_le hq1.1
  obtain ⟨C, rfl⟩ := Int.eq_ofNat_of_zero_le hq2.1
  have hR : R ≤ 40 := by omega
  have hC : C ≤ 40 := by omega
  have hn1 : n = R * C := by rw [HR.out.1, ← Int.natCast_mul] at hl; omega
  have HN := Lib.hid hn1
  have HX := Lib.hid hx
  have HPR := Lib.hid hpr
  have hRb : R ≤ 1048576 := by omega
  have hCb : C ≤ 1048576 := by omega
  clear hl hx hpr hq1 hq2 h1 hn1
  simp only [Int.toNat_natCast]
  have hK := spanK_le (P := P) (xs := xs) HN.out
  go_enter Try.func32, Try.ntmps32
  have A0_1 := Lib.hid ((cells_new' w #[.int .i64 P, .int .i64 R, .int .i64 C, .slice (some ⟨a0, oa, none⟩) n n] 26 (w.heap.size) (by simp)).ext ((Ext.refl _).alloc (.cells #[.int .i64 0, .int .i64 0, .int .i64 0, .slice none 0 0] 26)))
  have R_2 := Lib.hid (cells_new' (w.alloc (.cells #[.int .i64 P, .int .i64 R, .int .i64 C, .slice (some ⟨a0, oa, none⟩) n n] 26)) #[.int .i64 0, .int .i64 0, .int .i64 0, .slice none 0 0] 26 (w.heap.size + 1) (by simp))
  have E_3 := Lib.hid (((Ext.refl w).alloc (.cells #[.int .i64 P, .int .i64 R, .int .i64 C, .slice (some ⟨a0, oa, none⟩) n n] 26)).alloc (.cells #[.int .i64 0, .int .i64 0, .int .i64 0, .slice none 0 0] 26))
  have lA0 := A0_1.out.1
  have qA00 := A0_1.out.2 0 _ rfl
  have qA01 := A0_1.out.2 1 _ rfl
  have qA02 := A0_1.out.2 2 _ rfl
  have qA03 := A0_1.out.2 3 _ rfl
  try simp only [World.size_alloc] at lA0
  go_wp2_with fail
  refine (matrixOk_impl _ _ _ _ _ _ xs _ (HR.out.ext E_3.out) hm1).mono ?_
  rintro e w_4 ⟨rfl, h_4⟩
  clear lA0 qA00 qA01 qA02 qA03
  have A0_5 := Lib.hid (A0_1.out.ext h_4)
  clear A0_1
  have R_6 := Lib.hid (R_2.out.ext h_4)
  clear R_2
  have E_7 := Lib.hid (E_3.out.trans h_4)
  clear E_3
  rw [HM1.out]
  have l_R := R_6.out.1
  have lA0 := A0_5.out.1
  have qA00 := A0_5.out.2 0 _ rfl
  have qA01 := A0_5.out.2 1 _ rfl
  have qA02 := A0_5.out.2 2 _ rfl
  have qA03 := A0_5.out.2 3 _ rfl
  try simp only [World.size_alloc] at lA0
  go_wp2_with fail
  refine (span_impl P R C n n _ xs _ (HR.out.ext E_7.out) HN.out hm hRb hCb hp hp2 HX.out).mono ?_
  rintro e w_8 ⟨b, rfl, hb1, hb2, hh, h_8⟩
  clear lA0 qA00 qA01 qA02 qA03
  have A0_9 := Lib.hid (A0_5.out.ext h_8)
  clear A0_5
  have R_10 := Lib.hid (R_6.out.ext h_8)
  clear R_6
  have E_11 := Lib.hid (E_7.out.trans h_8)
  clear E_7
  have HH := Lib.hid hh
  clear hh
  have HSL : Hid ((spanL P R C xs).length = (redM P R C xs).pv.length * C) := spanL_length (by rw [HR.out.1]; exact HN.out)
  have lR := R_10.out.1
  have qR0 := R_10.out.2 0 _ rfl
  have qR1 := R_10.out.2 1 _ rfl
  have qR2 := R_10.out.2 2 _ rfl
  have qR3 := R_10.out.2 3 _ rfl
  have tR := R_10.out.3
  try simp only [World.size_alloc] at lR
  go_wp2
  refine bodyPost_ret (v := .agg #[.int .i64 P, .int .i64 ((redM P R C xs).pv.length : Nat), .int .i64 C, .slice (some ⟨b, 0, none⟩) ((redM P R C xs).pv.length * C) ((redM P R C xs).pv.length * C)]) (by simp [results, Try.results32, go_sem, qR0, qR1, qR2, qR3]) rfl ⟨_, rfl, ⟨_, _, _, rfl, ?_, by omega⟩, ext4 E_11.out (by omega) _ _ _ _⟩
  exact Own.mono (own4 (HH.out.own (lo := w.heap.size + 1 + 1) (hi := w_8.heap.size) (by omega) (by omega) HSL.out) (by omega) _ _ _ _) (by omega) (by simp)

set_option maxRecDepth 100000 in
set_option maxHeartbeats 3200000 in
theorem rankOf_impl {P R C : Int} {a0 oa n : Nat} {xs : List Int} {w : World} {i : Int} (h : Reads w (some ⟨a0, oa, none⟩) n xs) (hm : n ≤ 1048576) (hM : rankM P R C xs = i) :
    Calls Try.prog 28 #[.agg #[.int .i64 P, .int .i64 R, .int .i64 C, .slice (some ⟨a0, oa, none⟩) n n]] w fun e w' => e = .returned (.int .i64 i) ∧ Ext w w' := by
  have HR := Lib.hid h
  have hm1 : n ≤ maxLen := by unfold maxLen; omega
  clear h
  rcases h1 : mok P R C xs with _ | _
  · simp only [rankM, h1, Bool.false_eq_true, if_false] at hM
    subst hM
    go_enter Try.func28, Try.ntmps28
    have A0_1 := Lib.hid (cells_new' w #[.int .i64 P, .int .i64 R, .int .i64 C, .slice (some ⟨a0, oa, none⟩) n n] 26 (w.heap.size) (by simp))
    have E_2 := Lib.hid ((Ext.refl w).alloc (.cells #[.int .i64 P, .int .i64 R, .int .i64 C, .slice (some ⟨a0, oa, none⟩) n n] 26))
    have lA0 := A0_1.out.1
    have qA00 := A0_1.out.2 0 _ rfl
    have qA01 := A0_1.out.2 1 _ rfl
    have qA02 := A0_1.out.2 2 _ rfl
    have qA03 := A0_1.out.2 3 _ rfl
    try simp only [World.size_alloc] at lA0
    go_wp2_with fail
    refine (matrixOk_impl _ _ _ _ _ _ xs _ (HR.out.ext E_2.out) hm1).mono ?_
    rintro e w_3 ⟨rfl, h_3⟩
    clear lA0 qA00 qA01 qA02 qA03
    have A0_4 := Lib.hid (A0_1.out.ext h_3)
    clear A0_1
    have E_5 := Lib.hid (E_2.out.trans h_3)
    clear E_2
    rw [h1]
    go_wp2
    go_ret
    exact ⟨rfl, E_5.out⟩
  simp only [rankM, h1, if_true] at hM
  have hl := mok_len h1
  have hx := mok_res h1
  have hp := mok_lo h1
  have hp2 := mok_hi h1
  have hpr := (mok_iff.1 h1).1
  have hq1 := inB_iff.1 (mok_iff.1 h1).2.1
  have hq2 := inB_iff.1 (mok_iff.1 h1).2.2.1
  have HM1 := Lib.hid h1
  obtain ⟨R, rfl⟩ := Int.eq_ofNat_of_zero_le hq1.1
  obtain ⟨C, rfl⟩ := Int.eq_ofNat_of_zero_le hq2.1
  have hR : R ≤ 40 := by omega
  have hC : C ≤ 40 := by omega
  have hn1 : n = R * C := by rw [HR.out.1, ← Int.natCast_mul] at hl; omega
  have HN := Lib.hid hn1
  have HX := Lib.hid hx
  have HPR := Lib.hid hpr
  have hRb : R ≤ 1048576 := by omega
  have hCb : C ≤ 1048576 := by omega
  clear hl hx hpr hq1 hq2 h1 hn1
  simp only [Int.toNat_natCast] at hM
  have HI := Lib.hid hM
  clear hM
  go_enter Try.func28, Try.ntmps28
  have A0_1 := Lib.hid (cells_new' w #[.int .i64 P, .int .i64 R, .int .i64 C, .slice (some ⟨a0, oa, none⟩) n n] 26 (w.heap.size) (by simp))
  have E_2 := Lib.hid ((Ext.refl w).alloc (.cells #[.int .i64 P, .int .i64 R, .int .i64 C, .slice (some ⟨a0, oa, none⟩) n n] 26))
  have lA0 := A0_1.out.1
  have qA00 := A0_1.out.2 0 _ rfl
  have qA01 := A0_1.out.2 1 _ rfl
  have qA02 := A0_1.out.2 2 _ rfl
  have qA03 := A0_1.out.2 3 _ rfl
  try simp only [World.size_alloc] at lA0
  go_wp2_with fail
  refine (matrixOk_impl _ _ _ _ _ _ xs _ (HR.out.ext E_2.out) hm1).mono ?_
  rintro e w_3 ⟨rfl, h_3⟩
  clear lA0 qA00 qA01 qA02 qA03
  have A0_4 := Lib.hid (A0_1.out.ext h_3)
  clear A0_1
  have E_5 := Lib.hid (E_2.out.trans h_3)
  clear E_2
  rw [HM1.out]
  have lA0 := A0_4.out.1
  have qA00 := A0_4.out.2 0 _ rfl
  have qA01 := A0_4.out.2 1 _ rfl
  have qA02 := A0_4.out.2 2 _ rfl
  have qA03 := A0_4.out.2 3 _ rfl
  try simp only [World.size_alloc] at lA0
  go_wp2_with fail
  refine (span_impl P R C n n _ xs _ (HR.out.ext E_5.out) HN.out hm hRb hCb hp hp2 HX.out).mono ?_
  rintro e w_6 ⟨b, rfl, hb1, hb2, hh, h_6⟩
  clear lA0 qA00 qA01 qA02 qA03
  have A0_7 := Lib.hid (A0_4.out.ext h_6)
  clear A0_4
  have E_8 := Lib.hid (E_5.out.trans h_6)
  clear E_5
  clear hh
  have hfl := field_mat1
  go_wp2
  clear hfl
  go_ret
  exact ⟨ret_int HI.out, E_8.out⟩

set_option maxRecDepth 100000 in
set_option maxHeartbeats 6400000 in
theorem reduceMatrix_impl {P R C : Int} {a0 oa n : Nat} {xs : List Int} {w : World} {p r q : Int} {d d2 : List Int} (h : Reads w (some ⟨a0, oa, none⟩) n xs) (hm : n ≤ 1048576) (hM : reduceM P R C xs = (⟨p, r, q, d⟩, d2)) :
    Calls Try.prog 23 #[.agg #[.int .i64 P, .int .i64 R, .int .i64 C, .slice (some ⟨a0, oa, none⟩) n n]] w fun e w' => ∃ v a' c', e = .returned (.tuple #[v, .slice a' d2.length c']) ∧ ∃ mid, (w.heap.size ≤ mid ∧ mid ≤ w'.heap.size) ∧ (∃ a2 n2 c2, v = .agg #[.int .i64 p, .int .i64 r, .int .i64 q, .slice a2 n2 c2] ∧ Own w' w.heap.size mid a2 n2 d ∧ n2 ≤ 1048576) ∧ Own w' mid w'.heap.size a' d2.length d2 ∧ d2.length ≤ 1048576 ∧ Ext w w' := by
  have HR := Lib.hid h
  have hm1 : n ≤ maxLen := by unfold maxLen; omega
  clear h
  rcases h1 : mok P R C xs with _ | _
  · simp only [reduceM, h1, noMat, Bool.false_eq_true, if_false, Prod.mk.injEq, Mat.mk.injEq] at hM
    obtain ⟨⟨rfl, rfl, rfl, rfl⟩, rfl⟩ := hM
    go_enter Try.func23, Try.ntmps23
    have A0_1 := Lib.hid ((cells_new' w #[.int .i64 P, .int .i64 R, .int .i64 C, .slice (some ⟨a0, oa, none⟩) n n] 26 (w.heap.size) (by simp)).ext ((Ext.refl _).alloc (.cells #[.int .i64 0, .int .i64 0, .int .i64 0, .slice none 0 0] 26)))
    have R_2 := Lib.hid (cells_new' (w.alloc (.cells #[.int .i64 P, .int .i64 R, .int .i64 C, .slice (some ⟨a0, oa, none⟩) n n] 26)) #[.int .i64 0, .int .i64 0, .int .i64 0, .slice none 0 0] 26 (w.heap.size + 1) (by simp))
    have E_3 := Lib.hid (((Ext.refl w).alloc (.cells #[.int .i64 P, .int .i64 R, .int .i64 C, .slice (some ⟨a0, oa, none⟩) n n] 26)).alloc (.cells #[.int .i64 0, .int .i64 0, .int .i64 0, .slice none 0 0] 26))
    have lA0 := A0_1.out.1
    have qA00 := A0_1.out.2 0 _ rfl
    have qA01 := A0_1.out.2 1 _ rfl
    have qA02 := A0_1.out.2 2 _ rfl
    have qA03 := A0_1.out.2 3 _ rfl
    try simp only [World.size_alloc] at lA0
    go_wp2_with fail
    refine (matrixOk_impl _ _ _ _ _ _ xs _ (HR.out.ext E_3.out) hm1).mono ?_
    rintro e w_4 ⟨rfl, h_4⟩
    clear lA0 qA00 qA01 qA02 qA03
    have A0_5 := Lib.hid (A0_1.out.ext h_4)
    clear A0_1
    have R_6 := Lib.hid (R_2.out.ext h_4)
    clear R_2
    have E_7 := Lib.hid (E_3.out.trans h_4)
    clear E_3
    rw [h1]
    have lR := R_6.out.1
    have qR0 := R_6.out.2 0 _ rfl
    have qR1 := R_6.out.2 1 _ rfl
    have qR2 := R_6.out.2 2 _ rfl
    have qR3 := R_6.out.2 3 _ rfl
    have tR := R_6.out.3
    try simp only [World.size_alloc] at lR
    go_wp2
    refine bodyPost_ret (v := .tuple #[.agg #[.int .i64 0, .int .i64 0, .int .i64 0, .slice none 0 0], .slice none 0 0]) (by simp [results, Try.results23, go_sem, qR0, qR1, qR2, qR3]) rfl ⟨_, none, 0, rfl, w.heap.size, ?_, ⟨_, _, _, rfl, own_nil _ _ _, by omega⟩, own_nil _ _ _, by simp, ext4 E_7.out (by omega) _ _ _ _⟩
    exact ⟨Nat.le_refl _, by have := E_7.out.le; simpa using this⟩
  simp only [reduceM, h1, if_true, Prod.mk.injEq, Mat.mk.injEq] at hM
  obtain ⟨⟨rfl, rfl, rfl, rfl⟩, rfl⟩ := hM
  have hl := mok_len h1
  have hx := mok_res h1
  have hp := mok_lo h1
  have hp2 := mok_hi h1
  have hpr := (mok_iff.1 h1).1
  have hq1 := inB_iff.1 (mok_iff.1 h1).2.1
  have hq2 := inB_iff.1 (mok_iff.1 h1).2.2.1
  have HM1 := Lib.hid h1
  obtain ⟨R, rfl⟩ := Int.eq_ofNat_of_zero_le hq1.1
  obtain ⟨C, rfl⟩ := Int.eq_ofNat_of_zero_le hq2.1
  have hR : R ≤ 40 := by omega
  have hC : C ≤ 40 := by omega
  have hn1 : n = R * C := by rw [HR.out.1, ← Int.natCast_mul] at hl; omega
  have HN := Lib.hid hn1
  have HX := Lib.hid hx
  have HPR := Lib.hid hpr
  have hRb : R ≤ 1048576 := by omega
  have hCb : C ≤ 1048576 := by omega
  clear hl hx hpr hq1 hq2 h1 hn1
  simp only [Int.toNat_natCast]
  have HLm : Hid ((redM P R C xs).m.length = n) := by rw [Hid, redM, redTo_length]; exact HR.out.1
  go_enter Try.func23, Try.ntmps23
  have A0_1 := Lib.hid ((cells_new' w #[.int .i64 P, .int .i64 R, .int .i64 C, .slice (some ⟨a0, oa, none⟩) n n] 26 (w.heap.size) (by simp)).ext ((Ext.refl _).alloc (.cells #[.int .i64 0, .int .i64 0, .int .i64 0, .slice none 0 0] 26)))
  have R_2 := Lib.hid (cells_new' (w.alloc (.cells #[.int .i64 P, .int .i64 R, .int .i64 C, .slice (some ⟨a0, oa, none⟩) n n] 26)) #[.int .i64 0, .int .i64 0, .int .i64 0, .slice none 0 0] 26 (w.heap.size + 1) (by simp))
  have E_3 := Lib.hid (((Ext.refl w).alloc (.cells #[.int .i64 P, .int .i64 R, .int .i64 C, .slice (some ⟨a0, oa, none⟩) n n] 26)).alloc (.cells #[.int .i64 0, .int .i64 0, .int .i64 0, .slice none 0 0] 26))
  have lA0 := A0_1.out.1
  have qA00 := A0_1.out.2 0 _ rfl
  have qA01 := A0_1.out.2 1 _ rfl
  have qA02 := A0_1.out.2 2 _ rfl
  have qA03 := A0_1.out.2 3 _ rfl
  try simp only [World.size_alloc] at lA0
  go_wp2_with fail
  refine (matrixOk_impl _ _ _ _ _ _ xs _ (HR.out.ext E_3.out) hm1).mono ?_
  rintro e w_4 ⟨rfl, h_4⟩
  clear lA0 qA00 qA01 qA02 qA03
  have A0_5 := Lib.hid (A0_1.out.ext h_4)
  clear A0_1
  have R_6 := Lib.hid (R_2.out.ext h_4)
  clear R_2
  have E_7 := Lib.hid (E_3.out.trans h_4)
  clear E_3
  rw [HM1.out]
  have l_R := Lib.hid R_6.out.1
  have lA0 := A0_5.out.1
  have qA00 := A0_5.out.2 0 _ rfl
  have qA01 := A0_5.out.2 1 _ rfl
  have qA02 := A0_5.out.2 2 _ rfl
  have qA03 := A0_5.out.2 3 _ rfl
  try simp only [World.size_alloc] at lA0
  go_wp2_with fail
  refine (copyMatrix_impl P R C n n _ xs _ (HR.out.ext E_7.out) HN.out hm).mono ?_
  rintro e w_8 ⟨b1, rfl, hb1, hb2, hh, h_8⟩
  clear lA0 qA00 qA01 qA02 qA03
  have A0_9 := Lib.hid (A0_5.out.ext h_8)
  clear A0_5
  have R_10 := Lib.hid (R_6.out.ext h_8)
  clear R_6
  have E_11 := Lib.hid (E_7.out.trans h_8)
  clear E_7
  have H0 := Lib.hid (hh.alloc (.cells #[.int .i64 P, .int .i64 R, .int .i64 C, .slice (some ⟨b1, 0, none⟩) n n] 26))
  clear hh
  have hb3 : w.heap.size + 1 < b1 := by have := l_R.out; omega
  clear hb1
  have P_12 := (Ext.refl w_8).alloc (.cells #[.int .i64 P, .int .i64 R, .int .i64 C, .slice (some ⟨b1, 0, none⟩) n n] 26)
  have A0_13 := Lib.hid (A0_9.out.ext P_12)
  clear A0_9
  have R_14 := Lib.hid (R_10.out.ext P_12)
  clear R_10
  have E_15 := Lib.hid (E_11.out.trans P_12)
  clear E_11
  clear P_12
  have M_16 := Lib.hid (cells_new w_8 #[.int .i64 P, .int .i64 R, .int .i64 C, .slice (some ⟨b1, 0, none⟩) n n] 26)
  go_upto_region 4 with fail
  generalize hW1 : (w_8.alloc (.cells #[.int .i64 P, .int .i64 R, .int .i64 C, .slice (some ⟨b1, 0, none⟩) n n] 26)) = W1 at *
  clear hW1
  have MB : Hid (b1 < w_8.heap.size) := hb2
  clear hb2
  generalize w_8.heap.size = B1 at *
  have lM := M_16.out.1
  have qM0 := M_16.out.2 0 _ rfl
  have qM1 := M_16.out.2 1 _ rfl
  have qM2 := M_16.out.2 2 _ rfl
  have qM3 := M_16.out.2 3 _ rfl
  try simp only [World.size_alloc] at lM
  go_wp2_with fail
  refine (reduceRows_impl P R C C b1 n xs W1 H0.out HR.out.1 HN.out hm (Nat.le_refl _) hRb hCb hp hp2 HX.out).mono ?_
  rintro e w_17 ⟨pa, cap, rfl, hpo, hh, hg⟩
  clear lM qM0 qM1 qM2 qM3
  change Has w_17 b1 (redM P R C xs).m at hh
  change Own w_17 W1.heap.size w_17.heap.size pa (redM P R C xs).pv.length (pvI (redM P R C xs).pv) at hpo
  have hd : redTo P R C xs C = redM P R C xs := rfl
  rw [hd]
  clear hd
  have l_B := Lib.hid M_16.out.1
  have l_Z := Lib.hid R_14.out.1
  have l_g := Lib.hid hg.size
  have A0_18 := Lib.hid (A0_13.out.grown hg (fun k hk => by simp at hk; have := MB.out; omega))
  clear A0_13
  have R_19 := Lib.hid (R_14.out.grown hg (fun k hk => by simp at hk; have := MB.out; omega))
  clear R_14
  have M_20 := Lib.hid (M_16.out.grown hg (fun k hk => by simp at hk; have := MB.out; omega))
  clear M_16
  have E_21 := Lib.hid (E_15.out.grown hg (fun k hk => by simp at hk; have := MB.out; omega))
  clear E_15
  have HH := Lib.hid hh
  have HP := Lib.hid hpo
  clear hh hpo H0 hg
  have lM := M_20.out.1
  have qM0 := M_20.out.2 0 _ rfl
  have qM1 := M_20.out.2 1 _ rfl
  have qM2 := M_20.out.2 2 _ rfl
  have qM3 := M_20.out.2 3 _ rfl
  have lR := R_19.out.1
  have qR0 := R_19.out.2 0 _ rfl
  have qR1 := R_19.out.2 1 _ rfl
  have qR2 := R_19.out.2 2 _ rfl
  have qR3 := R_19.out.2 3 _ rfl
  have tR := R_19.out.3
  try simp only [World.size_alloc] at lM lR
  have lR := R_19.out.1
  go_wp2
  refine bodyPost_ret (v := .tuple #[.agg #[.int .i64 P, .int .i64 R, .int .i64 C, .slice (some ⟨b1, 0, none⟩) n n], .slice pa (redM P R C xs).pv.length cap]) (by simp [results, Try.results23, go_sem, qR0, qR1, qR2, qR3]) rfl ⟨_, pa, cap, by rw [pvI_length], W1.heap.size, ?_, ⟨_, _, _, rfl, ?_, by omega⟩, ?_, ?_, ext4 E_21.out (by omega) _ _ _ _⟩
  · exact ⟨by have := MB.out; have := l_B.out; omega, by have := l_g.out; simpa using this⟩
  · exact own4 (HH.out.own (lo := w.heap.size + 1 + 1) (hi := W1.heap.size) (by omega) (by have := MB.out; have := l_B.out; omega) HLm.out) (by omega) _ _ _ _ |>.mono (by omega) (Nat.le_refl _)
  · rw [pvI_length]; exact (own4 HP.out (by have := l_Z.out; omega) _ _ _ _).mono (Nat.le_refl _) (by simp)
  · rw [pvI_length]; have := (redM_k (P := P) (R := R) (C := C) (xs := xs)).1; omega

set_option maxRecDepth 100000 in
set_option maxHeartbeats 6400000 in
theorem determinantOf_impl {P R C : Int} {a0 oa n : Nat} {xs : List Int} {w : World} {i : Int} {ok : Bool} (h : Reads w (some ⟨a0, oa, none⟩) n xs) (hm : n ≤ 1048576) (hM : detM P R C xs = (i, ok)) :
    Calls Try.prog 30 #[.agg #[.int .i64 P, .int .i64 R, .int .i64 C, .slice (some ⟨a0, oa, none⟩) n n]] w fun e w' => e = .returned (.tuple #[.int .i64 i, .bool ok]) ∧ Ext w w' := by
  have HR := Lib.hid h
  have hm1 : n ≤ maxLen := by unfold maxLen; omega
  clear h
  rcases hb1 : (mok P R C xs && (R == C)) with _ | _
  · simp only [detM, hb1, Bool.false_eq_true, if_false, Prod.mk.injEq] at hM
    obtain ⟨rfl, rfl⟩ := hM
    go_enter Try.func30, Try.ntmps30
    have A0_1 := Lib.hid (cells_new' w #[.int .i64 P, .int .i64 R, .int .i64 C, .slice (some ⟨a0, oa, none⟩) n n] 26 (w.heap.size) (by simp))
    have E_2 := Lib.hid ((Ext.refl w).alloc (.cells #[.int .i64 P, .int .i64 R, .int .i64 C, .slice (some ⟨a0, oa, none⟩) n n] 26))
    have lA0 := A0_1.out.1
    have qA00 := A0_1.out.2 0 _ rfl
    have qA01 := A0_1.out.2 1 _ rfl
    have qA02 := A0_1.out.2 2 _ rfl
    have qA03 := A0_1.out.2 3 _ rfl
    try simp only [World.size_alloc] at lA0
    go_wp2_with fail
    refine (squareOk_impl _ _ _ _ _ _ xs _ (HR.out.ext E_2.out) hm1).mono ?_
    rintro e w_3 ⟨rfl, h_3⟩
    clear lA0 qA00 qA01 qA02 qA03
    have A0_4 := Lib.hid (A0_1.out.ext h_3)
    clear A0_1
    have E_5 := Lib.hid (E_2.out.trans h_3)
    clear E_2
    rw [hb1]
    go_wp2
    go_ret2
    exact ⟨rfl, E_5.out⟩
  obtain ⟨h1, h2⟩ := Bool.and_eq_true_iff.1 hb1
  have h2' : R = C := by simpa using h2
  subst h2'
  have HB := Lib.hid hb1
  simp only [detM, hb1, if_true] at hM
  clear hb1 h2
  have hl := mok_len h1
  have hx := mok_res h1
  have hp := mok_lo h1
  have hp2 := mok_hi h1
  have hpr := (mok_iff.1 h1).1
  have hq1 := inB_iff.1 (mok_iff.1 h1).2.1
  have hq2 := inB_iff.1 (mok_iff.1 h1).2.2.1
  have HM1 := Lib.hid h1
  obtain ⟨R, rfl⟩ := Int.eq_ofNat_of_zero_le hq1.1
  have hR : R ≤ 40 := by omega
  have hC : R ≤ 40 := by omega
  have hn1 : n = R * R := by rw [HR.out.1, ← Int.natCast_mul] at hl; omega
  have HN := Lib.hid hn1
  have HX := Lib.hid hx
  have HPR := Lib.hid hpr
  have hRb : R ≤ 1048576 := by omega
  have hCb : R ≤ 1048576 := by omega
  clear hl hx hpr hq1 hq2 h1 hn1
  simp only [Int.toNat_natCast] at hM
  have HI := Lib.hid hM
  clear hM
  go_enter Try.func30, Try.ntmps30
  have A0_1 := Lib.hid (cells_new' w #[.int .i64 P, .int .i64 R, .int .i64 R, .slice (some ⟨a0, oa, none⟩) n n] 26 (w.heap.size) (by simp))
  have E_2 := Lib.hid ((Ext.refl w).alloc (.cells #[.int .i64 P, .int .i64 R, .int .i64 R, .slice (some ⟨a0, oa, none⟩) n n] 26))
  have lA0 := A0_1.out.1
  have qA00 := A0_1.out.2 0 _ rfl
  have qA01 := A0_1.out.2 1 _ rfl
  have qA02 := A0_1.out.2 2 _ rfl
  have qA03 := A0_1.out.2 3 _ rfl
  try simp only [World.size_alloc] at lA0
  go_wp2_with fail
  refine (squareOk_impl _ _ _ _ _ _ xs _ (HR.out.ext E_2.out) hm1).mono ?_
  rintro e w_3 ⟨rfl, h_3⟩
  clear lA0 qA00 qA01 qA02 qA03
  have A0_4 := Lib.hid (A0_1.out.ext h_3)
  clear A0_1
  have E_5 := Lib.hid (E_2.out.trans h_3)
  clear E_2
  rw [HB.out]
  have lA0 := A0_4.out.1
  have qA00 := A0_4.out.2 0 _ rfl
  have qA01 := A0_4.out.2 1 _ rfl
  have qA02 := A0_4.out.2 2 _ rfl
  have qA03 := A0_4.out.2 3 _ rfl
  try simp only [World.size_alloc] at lA0
  go_wp2_with fail
  go_region_held3 (fun w' => Ext w_3 w' ∧ (∀ b o, b < w_3.heap.size → w'.cell? ⟨b, o, none⟩ = w_3.cell? ⟨b, o, none⟩)) (first | assumption | (with_reducible exact ext2 (Ext.trans (And.left ‹Ext w_3 _ ∧ _›) ‹Ext _ _›)) | (with_reducible exact ext2 (Ext.grown (And.left ‹Ext w_3 _ ∧ _›) ‹World.grownBy _ _ (some _)› hfar)) | (refine ext2 ?_; with_reducible repeat (first | exact Ext.refl _ | refine Ext.drew ?_))) (first
    | (go_at_call 55; refine (copyMatrix_impl P R R n n _ xs _ (HR.out.ext (E_5.out.trans (And.left ‹Ext w_3 _ ∧ _›))) HN.out hm).mono ?_; rintro e w8 ⟨b, rfl, hb1, hb2, hh, h8⟩; have hfar : ∀ k, some b = some k → w_3.heap.size ≤ k := fun k hk => by simp at hk; subst hk; exact Nat.le_trans (And.left ‹Ext w_3 _ ∧ _› : Ext w_3 _).le hb1)
    | (go_at_call 56; refine (reduceRows_impl P R R R b n xs _ (by first | exact hh | exact hh.ext (Ext.refl _).drew) HR.out.1 HN.out hm (Nat.le_refl _) hRb hCb hp hp2 HX.out).mono ?_; rintro e w9 ⟨pa, cap, rfl, hpo, hh9, hg9⟩))
  have hX := (‹Ext w_3 _ ∧ _› : Ext w_3 w9 ∧ ∀ (b o : Nat), b < w_3.heap.size → w9.cell? ⟨b, o, none⟩ = w_3.cell? ⟨b, o, none⟩)
  have hE9 := Lib.hid (E_5.out.trans hX.1)
  have c1 : w9.cell? ⟨w.heap.size, 1, none⟩ = some (.int .i64 R) := (hX.2 _ 1 lA0).trans qA01
  clear hX hfar hg9 hh9 hpo hh h8 hb1 hb2
  clear lA0 qA00 qA01 qA02 qA03
  have hd : redTo P R R xs R = redM P R R xs := rfl
  rw [hd]
  clear hd
  by_cases hk : (redM P R R xs).pv.length < R
  · have hi := HI.out
    rw [if_pos hk, Prod.mk.injEq] at hi
    obtain ⟨rfl, rfl⟩ := hi
    go_wp2
    go_ret2
    exact ⟨rfl, hE9.out⟩
  · have hi := HI.out
    rw [if_neg hk, Prod.mk.injEq] at hi
    obtain ⟨rfl, rfl⟩ := hi
    go_wp2
    go_ret2
    exact ⟨rfl, hE9.out⟩
end Go.Proofs.Ytphopkihieofjaa
