/-
  KernelOf and MeetSpaces of both texts.
-/
import Derived.Test.YtafeognjplphhaaKerS
import Derived.Test.YtafeognjplphhaaSum
namespace Go.Proofs.Ytafeognjplphhaa
open Go.ChangeShapes Go.WideShapes Go.ChangeAt Go.RowKit
set_option linter.unusedVariables false

noncomputable def kerM (P R C : Int) (xs : List Int) : Mat := if mok P R C xs then ⟨P, (kerN P R.toNat C.toNat xs : Nat), C, kerS P R.toNat C.toNat xs⟩ else noMat
theorem kerS_length {P : Int} {R C : Nat} {xs : List Int} : (kerS P R C xs).length = kerN P R C xs * C := spanL_length kerL_length
theorem kerN_le {P : Int} {R C : Nat} {xs : List Int} : kerN P R C xs ≤ C := (redTo_pv (P := P) (R := nullN P R C xs) (C := C) (xs := kerL P R C xs) C).1
theorem kerL_res {P : Int} {R C : Nat} {xs : List Int} (hp : 2 ≤ P) : Res (kerL P R C xs) P := kerTo_res hp C
theorem kerS_res {P : Int} {R C : Nat} {xs : List Int} (hp : 2 ≤ P) : Res (kerS P R C xs) P := spanL_res hp (kerL_res hp)
theorem ker_span {P : Int} {R C : Nat} {xs : List Int} (hp : IsP P) (hl : xs.length = R * C) (hx : Res xs P) : kerN P (redM P R C xs).pv.length C (spanL P R C xs) = kerN P R C xs ∧ kerS P (redM P R C xs).pv.length C (spanL P R C xs) = kerS P R C xs := by
  obtain ⟨h1, h2⟩ := kerL_span hp hl hx
  simp only [kerN, kerS, h1, h2, and_self]

set_option maxRecDepth 100000 in
set_option maxHeartbeats 3200000 in
theorem kernelOf_impl {P R C : Int} {a0 oa n : Nat} {xs : List Int} {w : World} {p r q : Int} {d : List Int} (h : Reads w (some ⟨a0, oa, none⟩) n xs) (hm : n ≤ 1048576) (hM : kerM P R C xs = ⟨p, r, q, d⟩) :
    Calls Try.prog 31 #[.agg #[.int .i64 P, .int .i64 R, .int .i64 C, .slice (some ⟨a0, oa, none⟩) n n]] w fun e w' => ∃ v, e = .returned v ∧ Rmat w w' v p r q d ∧ Ext w w' := by
  have HR := Lib.hid h
  have hm1 : n ≤ maxLen := by unfold maxLen; omega
  clear h
  rcases h1 : mok P R C xs with _ | _
  · simp only [kerM, h1, noMat, Bool.false_eq_true, if_false, Mat.mk.injEq] at hM
    obtain ⟨rfl, rfl, rfl, rfl⟩ := hM
    go_enter Try.func31, Try.ntmps31
    have A0_1 := Lib.hid ((cells_new' w #[.int .i64 P, .int .i64 R, .int .i64 C, .slice (some ⟨a0, oa, none⟩) n n] 26 (w.heap.size) (by simp)).ext ((Ext.refl _).alloc (.cells #[.int .i64 0, .int .i64 0, .int .i64 0, .slice none 0 0] 26)))
    have R_2 := Lib.hid (cells_new' (w.alloc (.cells #[.int .i64 P, .int .i64 R, .int .i64 C, .slice (some ⟨a0, oa, none⟩) n n] 26)) #[.int .i64 0, .int .i64 0, .int .i64 0, .slice none 0 0] 26 (w.heap.size + 1) (by simp))
    have E_3 := Lib.hid (((Ext.refl w).alloc (.cells #[.int .i64 P, .int .i64 R, .int .i64 C, .slice (some ⟨a0, oa, none⟩) n n] 26)).alloc (.cells #[.int .i64 0, .int .i64 0, .int .i64 0, .slice none 0 0] 26))
    have lA0 := A0_1.out.1
    have qA00 := A0_1.out.2 0 _ rfl
    have qA01 := A0_1.out.2 1 _ rfl
    have qA02 := A0_1.out.2 2 _ rfl
    have qA03 := A0_1.out.2 3 _ rfl
    try simp only [World.size_alloc] at lA0
    go_wp2_with fail
    refine (matrixOk_impl _ _ _ _ _ _ xs _ (HR.out.ext E_3.out) hm1).mono ?_
    rintro e w_4 ⟨rfl, h_4⟩
    clear lA0 qA00 qA01 qA02 qA03
    have A0_5 := Lib.hid (A0_1.out.ext h_4)
    clear A0_1
    have R_6 := Lib.hid (R_2.out.ext h_4)
    clear R_2
    have E_7 := Lib.hid (E_3.out.trans h_4)
    clear E_3
    rw [h1]
    have lR := R_6.out.1
    have qR0 := R_6.out.2 0 _ rfl
    have qR1 := R_6.out.2 1 _ rfl
    have qR2 := R_6.out.2 2 _ rfl
    have qR3 := R_6.out.2 3 _ rfl
    have tR := R_6.out.3
    try simp only [World.size_alloc] at lR
    go_wp2
    refine bodyPost_ret (v := .agg #[.int .i64 0, .int .i64 0, .int .i64 0, .slice none 0 0]) (by simp [results, Try.results31, go_sem, qR0, qR1, qR2, qR3]) rfl ⟨_, rfl, ⟨_, _, _, rfl, own_nil _ _ _, by omega⟩, ext4 E_7.out (by omega) _ _ _ _⟩
  simp only [kerM, h1, if_true, Mat.mk.injEq] at hM
  obtain ⟨rfl, rfl, rfl, rfl⟩ := hM
  have hl := mok_len h1
  have hx := mok_res h1
  have hp := mok_lo h1
  have hp2 := mok_hi h1
  have hpr := (mok_iff.1 h1).1
  have hq1 := inB_iff.1 (mok_iff.1 h1).2.1
  have hq2 := inB_iff.1 (mok_iff.1 h1).2.2.1
  have HM1 := Lib.hid h1
  obtain ⟨R, rfl⟩ := Int.eq_ofNat_of_zero_le hq1.1
  obtain ⟨C, rfl⟩ := Int.eq_ofNat_of_zero_le hq2.1
  have hR : R ≤ 40 := by omega
  have hC : C ≤ 40 := by omega
  have hn1 : n = R * C := by rw [HR.out.1, ← Int.natCast_mul] at hl; omega
  have HN := Lib.hid hn1
  have HX := Lib.hid hx
  have HPR := Lib.hid hpr
  have hRb : R ≤ 1048576 := by omega
  have hCb : C ≤ 1048576 := by omega
  clear hl hx hpr hq1 hq2 h1 hn1
  simp only [Int.toNat_natCast]
  have HSL : Hid ((kerS P R C xs).length = kerN P R C xs * C) := kerS_length
  have hkb : kerN P R C xs * C ≤ 1048576 := Nat.le_trans (Nat.mul_le_mul (Nat.le_trans kerN_le hC) hC) (by decide)
  go_enter Try.func31, Try.ntmps31
  have A0_1 := Lib.hid ((cells_new' w #[.int .i64 P, .int .i64 R, .int .i64 C, .slice (some ⟨a0, oa, none⟩) n n] 26 (w.heap.size) (by simp)).ext ((Ext.refl _).alloc (.cells #[.int .i64 0, .int .i64 0, .int .i64 0, .slice none 0 0] 26)))
  have R_2 := Lib.hid (cells_new' (w.alloc (.cells #[.int .i64 P, .int .i64 R, .int .i64 C, .slice (some ⟨a0, oa, none⟩) n n] 26)) #[.int .i64 0, .int .i64 0, .int .i64 0, .slice none 0 0] 26 (w.heap.size + 1) (by simp))
  have E_3 := Lib.hid (((Ext.refl w).alloc (.cells #[.int .i64 P, .int .i64 R, .int .i64 C, .slice (some ⟨a0, oa, none⟩) n n] 26)).alloc (.cells #[.int .i64 0, .int .i64 0, .int .i64 0, .slice none 0 0] 26))
  have lA0 := A0_1.out.1
  have qA00 := A0_1.out.2 0 _ rfl
  have qA01 := A0_1.out.2 1 _ rfl
  have qA02 := A0_1.out.2 2 _ rfl
  have qA03 := A0_1.out.2 3 _ rfl
  try simp only [World.size_alloc] at lA0
  go_wp2_with fail
  refine (matrixOk_impl _ _ _ _ _ _ xs _ (HR.out.ext E_3.out) hm1).mono ?_
  rintro e w_4 ⟨rfl, h_4⟩
  clear lA0 qA00 qA01 qA02 qA03
  have A0_5 := Lib.hid (A0_1.out.ext h_4)
  clear A0_1
  have R_6 := Lib.hid (R_2.out.ext h_4)
  clear R_2
  have E_7 := Lib.hid (E_3.out.trans h_4)
  clear E_3
  rw [HM1.out]
  have l_R := R_6.out.1
  have lA0 := A0_5.out.1
  have qA00 := A0_5.out.2 0 _ rfl
  have qA01 := A0_5.out.2 1 _ rfl
  have qA02 := A0_5.out.2 2 _ rfl
  have qA03 := A0_5.out.2 3 _ rfl
  try simp only [World.size_alloc] at lA0
  go_wp2_with fail
  refine (kernel_impl P R C n n _ xs _ (HR.out.ext E_7.out) HN.out hm hRb (by omega) hp hp2 HX.out).mono ?_
  rintro e w_8 ⟨b, rfl, hb1, hb2, hh, h_8⟩
  clear lA0 qA00 qA01 qA02 qA03
  have A0_9 := Lib.hid (A0_5.out.ext h_8)
  clear A0_5
  have R_10 := Lib.hid (R_6.out.ext h_8)
  clear R_6
  have E_11 := Lib.hid (E_7.out.trans h_8)
  clear E_7
  have HH := Lib.hid hh
  clear hh
  have lR := R_10.out.1
  have qR0 := R_10.out.2 0 _ rfl
  have qR1 := R_10.out.2 1 _ rfl
  have qR2 := R_10.out.2 2 _ rfl
  have qR3 := R_10.out.2 3 _ rfl
  have tR := R_10.out.3
  try simp only [World.size_alloc] at lR
  go_wp2
  refine bodyPost_ret (v := .agg #[.int .i64 P, .int .i64 (kerN P R C xs : Nat), .int .i64 C, .slice (some ⟨b, 0, none⟩) (kerN P R C xs * C) (kerN P R C xs * C)]) (by simp [results, Try.results31, go_sem, qR0, qR1, qR2, qR3]) rfl ⟨_, rfl, ⟨_, _, _, rfl, ?_, by omega⟩, ext4 E_11.out (by omega) _ _ _ _⟩
  exact Own.mono (own4 (HH.out.own (lo := w.heap.size + 1 + 1) (hi := w_8.heap.size) (by omega) (by omega) HSL.out) (by omega) _ _ _ _) (by omega) (by simp)

set_option maxRecDepth 100000 in
set_option maxHeartbeats 3200000 in
theorem kernelOf_spec {P R C : Int} {a : Addr} {n c : Nat} {xs : List Int} {w : World} {p r q : Int} {d : List Int} (h : Reads w (some a) n xs) (hm : n ≤ 1048576) (hM : kerM P R C xs = ⟨p, r, q, d⟩) :
    Calls Try.prog 30 #[.agg #[.int .i64 P, .int .i64 R, .int .i64 C, .slice (some a) n c]] w fun e w' => ∃ v, e = .returned v ∧ Rmat w w' v p r q d ∧ Ext w w' := by
  have HR := Lib.hid h
  have hm1 : n ≤ maxLen := by unfold maxLen; omega
  clear h
  rcases h1 : mok P R C xs with _ | _
  · simp only [kerM, h1, noMat, Bool.false_eq_true, if_false, Mat.mk.injEq] at hM
    obtain ⟨rfl, rfl, rfl, rfl⟩ := hM
    go_enter Try.func30, Try.ntmps30
    have A0_1 := Lib.hid ((cells_new' w #[.int .i64 P, .int .i64 R, .int .i64 C, .slice (some a) n c] 26 (w.heap.size) (by simp)).ext ((Ext.refl _).alloc (.cells #[.int .i64 0, .int .i64 0, .int .i64 0, .slice none 0 0] 26)))
    have R_2 := Lib.hid (cells_new' (w.alloc (.cells #[.int .i64 P, .int .i64 R, .int .i64 C, .slice (some a) n c] 26)) #[.int .i64 0, .int .i64 0, .int .i64 0, .slice none 0 0] 26 (w.heap.size + 1) (by simp))
    have E_3 := Lib.hid (((Ext.refl w).alloc (.cells #[.int .i64 P, .int .i64 R, .int .i64 C, .slice (some a) n c] 26)).alloc (.cells #[.int .i64 0, .int .i64 0, .int .i64 0, .slice none 0 0] 26))
    have lA0 := A0_1.out.1
    have qA00 := A0_1.out.2 0 _ rfl
    have qA01 := A0_1.out.2 1 _ rfl
    have qA02 := A0_1.out.2 2 _ rfl
    have qA03 := A0_1.out.2 3 _ rfl
    try simp only [World.size_alloc] at lA0
    go_wp2_with fail
    refine (matrixOk_spec _ _ _ _ _ _ xs _ (HR.out.ext E_3.out) hm1).mono ?_
    rintro e w_4 ⟨rfl, h_4⟩
    clear lA0 qA00 qA01 qA02 qA03
    have A0_5 := Lib.hid (A0_1.out.ext h_4)
    clear A0_1
    have R_6 := Lib.hid (R_2.out.ext h_4)
    clear R_2
    have E_7 := Lib.hid (E_3.out.trans h_4)
    clear E_3
    rw [h1]
    have lR := R_6.out.1
    have qR0 := R_6.out.2 0 _ rfl
    have qR1 := R_6.out.2 1 _ rfl
    have qR2 := R_6.out.2 2 _ rfl
    have qR3 := R_6.out.2 3 _ rfl
    have tR := R_6.out.3
    try simp only [World.size_alloc] at lR
    go_wp2
    refine bodyPost_ret (v := .agg #[.int .i64 0, .int .i64 0, .int .i64 0, .slice none 0 0]) (by simp [results, Try.results30, go_sem, qR0, qR1, qR2, qR3]) rfl ⟨_, rfl, ⟨_, _, _, rfl, own_nil _ _ _, by omega⟩, ext4 E_7.out (by omega) _ _ _ _⟩
  simp only [kerM, h1, if_true, Mat.mk.injEq] at hM
  obtain ⟨rfl, rfl, rfl, rfl⟩ := hM
  have hl := mok_len h1
  have hx := mok_res h1
  have hp := mok_lo h1
  have hp2 := mok_hi h1
  have hpr := (mok_iff.1 h1).1
  have hq1 := inB_iff.1 (mok_iff.1 h1).2.1
  have hq2 := inB_iff.1 (mok_iff.1 h1).2.2.1
  have HM1 := Lib.hid h1
  obtain ⟨R, rfl⟩ := Int.eq_ofNat_of_zero_le hq1.1
  obtain ⟨C, rfl⟩ := Int.eq_ofNat_of_zero_le hq2.1
  have hR : R ≤ 40 := by omega
  have hC : C ≤ 40 := by omega
  have hn1 : n = R * C := by rw [HR.out.1, ← Int.natCast_mul] at hl; omega
  have HN := Lib.hid hn1
  have HX := Lib.hid hx
  have HPR := Lib.hid hpr
  have hRb : R ≤ 1048576 := by omega
  have hCb : C ≤ 1048576 := by omega
  clear hl hx hpr hq1 hq2 h1 hn1
  simp only [Int.toNat_natCast]
  have HSL : Hid ((kerS P R C xs).length = kerN P R C xs * C) := kerS_length
  have hkb : kerN P R C xs * C ≤ 1048576 := Nat.le_trans (Nat.mul_le_mul (Nat.le_trans kerN_le hC) hC) (by decide)
  go_enter Try.func30, Try.ntmps30
  have A0_1 := Lib.hid ((cells_new' w #[.int .i64 P, .int .i64 R, .int .i64 C, .slice (some a) n c] 26 (w.heap.size) (by simp)).ext ((Ext.refl _).alloc (.cells #[.int .i64 0, .int .i64 0, .int .i64 0, .slice none 0 0] 26)))
  have R_2 := Lib.hid (cells_new' (w.alloc (.cells #[.int .i64 P, .int .i64 R, .int .i64 C, .slice (some a) n c] 26)) #[.int .i64 0, .int .i64 0, .int .i64 0, .slice none 0 0] 26 (w.heap.size + 1) (by simp))
  have E_3 := Lib.hid (((Ext.refl w).alloc (.cells #[.int .i64 P, .int .i64 R, .int .i64 C, .slice (some a) n c] 26)).alloc (.cells #[.int .i64 0, .int .i64 0, .int .i64 0, .slice none 0 0] 26))
  have lA0 := A0_1.out.1
  have qA00 := A0_1.out.2 0 _ rfl
  have qA01 := A0_1.out.2 1 _ rfl
  have qA02 := A0_1.out.2 2 _ rfl
  have qA03 := A0_1.out.2 3 _ rfl
  try simp only [World.size_alloc] at lA0
  go_wp2_with fail
  refine (matrixOk_spec _ _ _ _ _ _ xs _ (HR.out.ext E_3.out) hm1).mono ?_
  rintro e w_4 ⟨rfl, h_4⟩
  clear lA0 qA00 qA01 qA02 qA03
  have A0_5 := Lib.hid (A0_1.out.ext h_4)
  clear A0_1
  have R_6 := Lib.hid (R_2.out.ext h_4)
  clear R_2
  have E_7 := Lib.hid (E_3.out.trans h_4)
  clear E_3
  rw [HM1.out]
  have l_R := R_6.out.1
  have lA0 := A0_5.out.1
  have qA00 := A0_5.out.2 0 _ rfl
  have qA01 := A0_5.out.2 1 _ rfl
  have qA02 := A0_5.out.2 2 _ rfl
  have qA03 := A0_5.out.2 3 _ rfl
  try simp only [World.size_alloc] at lA0
  go_wp2_with fail
  refine (l1Kernel_spec P R C n c _ xs _ HPR.out (HR.out.ext E_7.out) HN.out hm hRb (by omega) HX.out (by simp)).mono ?_
  rintro e w_8 ⟨b, c2, rfl, hb1, hb2, hh, h_8, hcc⟩
  clear lA0 qA00 qA01 qA02 qA03
  have A0_9 := Lib.hid (A0_5.out.ext h_8)
  clear A0_5
  have R_10 := Lib.hid (R_6.out.ext h_8)
  clear R_6
  have E_11 := Lib.hid (E_7.out.trans h_8)
  clear E_7
  have HH := Lib.hid hh
  clear hh
  have HCC := Lib.hid hcc
  clear hcc
  have lR := R_10.out.1
  have qR0 := R_10.out.2 0 _ rfl
  have qR1 := R_10.out.2 1 _ rfl
  have qR2 := R_10.out.2 2 _ rfl
  have qR3 := R_10.out.2 3 _ rfl
  have tR := R_10.out.3
  try simp only [World.size_alloc] at lR
  go_wp2
  refine bodyPost_ret (v := .agg #[.int .i64 P, .int .i64 (kerN P R C xs : Nat), .int .i64 C, .slice (some ⟨b, 0, none⟩) (kerN P R C xs * C) c2]) (by simp [results, Try.results30, go_sem, qR0, qR1, qR2, qR3]) rfl ⟨_, rfl, ⟨_, _, _, rfl, ?_, by omega⟩, ext4 E_11.out (by omega) _ _ _ _⟩
  exact Own.mono (own4 (HH.out.own (lo := w.heap.size + 1 + 1) (hi := w_8.heap.size) (by omega) (by omega) HSL.out) (by omega) _ _ _ _) (by omega) (by simp)

/-- What two spaces have in common. -/
noncomputable def meetN (P : Int) (R R' C : Nat) (xs ys : List Int) : Nat := kerN P (kerN P R C xs + kerN P R' C ys) C (kerS P R C xs ++ kerS P R' C ys)
noncomputable def meetS (P : Int) (R R' C : Nat) (xs ys : List Int) : List Int := kerS P (kerN P R C xs + kerN P R' C ys) C (kerS P R C xs ++ kerS P R' C ys)
noncomputable def meetM (P R C : Int) (xs : List Int) (P' R' C' : Int) (xs' : List Int) : Mat × Bool :=
  if bothM P R C xs P' R' C' xs' then (⟨P, (meetN P R.toNat R'.toNat C.toNat xs xs' : Nat), C, meetS P R.toNat R'.toNat C.toNat xs xs'⟩, true) else (noMat, false)

set_option maxRecDepth 100000 in
set_option maxHeartbeats 6400000 in
theorem meetSpaces_impl {P R C P' R' C' : Int} {a0 oa b0 ob n n' : Nat} {xs xs' : List Int} {w : World} {p r q : Int} {d : List Int} {ok : Bool} (h : Reads w (some ⟨a0, oa, none⟩) n xs) (hm : n ≤ 1048576) (h' : Reads w (some ⟨b0, ob, none⟩) n' xs') (hm' : n' ≤ 1048576) (hM : meetM P R C xs P' R' C' xs' = (⟨p, r, q, d⟩, ok)) :
    Calls Try.prog 33 #[.agg #[.int .i64 P, .int .i64 R, .int .i64 C, .slice (some ⟨a0, oa, none⟩) n n], .agg #[(.int .i64 P'), (.int .i64 R'), (.int .i64 C'), (.slice (some ⟨b0, ob, none⟩) n' n')]] w fun e w' => ∃ v, e = .returned (.tuple #[v, .bool ok]) ∧ Rmat w w' v p r q d ∧ Ext w w' := by
  have HR := Lib.hid h
  have HR' := Lib.hid h'
  clear h h'
  rcases hB : bothM P R C xs P' R' C' xs' with _ | _
  · simp only [meetM, hB, noMat, Bool.false_eq_true, if_false, Prod.mk.injEq, Mat.mk.injEq] at hM
    obtain ⟨⟨rfl, rfl, rfl, rfl⟩, rfl⟩ := hM
    have HB := Lib.hid hB
    clear hB
    go_enter Try.func33, Try.ntmps33
    have A0_1 := Lib.hid (((cells_new' w #[.int .i64 P, .int .i64 R, .int .i64 C, .slice (some ⟨a0, oa, none⟩) n n] 26 (w.heap.size) (by simp)).ext ((Ext.refl _).alloc (.cells #[(.int .i64 P'), (.int .i64 R'), (.int .i64 C'), (.slice (some ⟨b0, ob, none⟩) n' n')] 26))).ext ((Ext.refl _).alloc (.cells #[.int .i64 0, .int .i64 0, .int .i64 0, .slice none 0 0] 26)))
    have A1_2 := Lib.hid ((cells_new' (w.alloc (.cells #[.int .i64 P, .int .i64 R, .int .i64 C, .slice (some ⟨a0, oa, none⟩) n n] 26)) #[(.int .i64 P'), (.int .i64 R'), (.int .i64 C'), (.slice (some ⟨b0, ob, none⟩) n' n')] 26 (w.heap.size + 1) (by simp)).ext ((Ext.refl _).alloc (.cells #[.int .i64 0, .int .i64 0, .int .i64 0, .slice none 0 0] 26)))
    have R_3 := Lib.hid (cells_new' ((w.alloc (.cells #[.int .i64 P, .int .i64 R, .int .i64 C, .slice (some ⟨a0, oa, none⟩) n n] 26)).alloc (.cells #[(.int .i64 P'), (.int .i64 R'), (.int .i64 C'), (.slice (some ⟨b0, ob, none⟩) n' n')] 26)) #[.int .i64 0, .int .i64 0, .int .i64 0, .slice none 0 0] 26 (w.heap.size + 1 + 1) (by simp))
    have E_4 := Lib.hid ((((Ext.refl w).alloc (.cells #[.int .i64 P, .int .i64 R, .int .i64 C, .slice (some ⟨a0, oa, none⟩) n n] 26)).alloc (.cells #[(.int .i64 P'), (.int .i64 R'), (.int .i64 C'), (.slice (some ⟨b0, ob, none⟩) n' n')] 26)).alloc (.cells #[.int .i64 0, .int .i64 0, .int .i64 0, .slice none 0 0] 26))
    have lA0 := A0_1.out.1
    have qA00 := A0_1.out.2 0 _ rfl
    have qA01 := A0_1.out.2 1 _ rfl
    have qA02 := A0_1.out.2 2 _ rfl
    have qA03 := A0_1.out.2 3 _ rfl
    have lA1 := A1_2.out.1
    have qA10 := A1_2.out.2 0 _ rfl
    have qA11 := A1_2.out.2 1 _ rfl
    have qA12 := A1_2.out.2 2 _ rfl
    have qA13 := A1_2.out.2 3 _ rfl
    try simp only [World.size_alloc] at lA0 lA1
    go_wp2_with fail
    refine (both_impl (HR.out.ext E_4.out) hm (HR'.out.ext E_4.out) hm' HB.out).mono ?_
    rintro e w_5 ⟨rfl, h_5⟩
    clear lA0 qA00 qA01 qA02 qA03 lA1 qA10 qA11 qA12 qA13
    have A0_6 := Lib.hid (A0_1.out.ext h_5)
    clear A0_1
    have A1_7 := Lib.hid (A1_2.out.ext h_5)
    clear A1_2
    have R_8 := Lib.hid (R_3.out.ext h_5)
    clear R_3
    have E_9 := Lib.hid (E_4.out.trans h_5)
    clear E_4
    have lA0 := A0_6.out.1
    have qA00 := A0_6.out.2 0 _ rfl
    have qA01 := A0_6.out.2 1 _ rfl
    have qA02 := A0_6.out.2 2 _ rfl
    have qA03 := A0_6.out.2 3 _ rfl
    have lA1 := A1_7.out.1
    have qA10 := A1_7.out.2 0 _ rfl
    have qA11 := A1_7.out.2 1 _ rfl
    have qA12 := A1_7.out.2 2 _ rfl
    have qA13 := A1_7.out.2 3 _ rfl
    try simp only [World.size_alloc] at lA0 lA1
    have lR := R_8.out.1
    have qR0 := R_8.out.2 0 _ rfl
    have qR1 := R_8.out.2 1 _ rfl
    have qR2 := R_8.out.2 2 _ rfl
    have qR3 := R_8.out.2 3 _ rfl
    have tR := R_8.out.3
    try simp only [World.size_alloc] at lA0 lA1 lR
    go_wp2
    refine bodyPost_ret (v := .tuple #[.agg #[.int .i64 0, .int .i64 0, .int .i64 0, .slice none 0 0], .bool false]) (by simp [results, Try.results33, go_sem, qR0, qR1, qR2, qR3]) rfl ⟨_, rfl, ⟨_, _, _, rfl, own_nil _ _ _, by omega⟩, ext4 E_9.out (by omega) _ _ _ _⟩
  simp only [meetM, hB, if_true, Prod.mk.injEq, Mat.mk.injEq] at hM
  obtain ⟨⟨rfl, rfl, rfl, rfl⟩, rfl⟩ := hM
  obtain ⟨h1, h2, e1, e2⟩ := both_parts hB
  have HB := Lib.hid hB
  clear hB
  obtain rfl : P = P' := e1
  obtain rfl : C = C' := e2
  have hl1 := mok_len h1
  have hl2 := mok_len h2
  have hp := mok_lo h1
  have hp2 := mok_hi h1
  have HPR := Lib.hid (mok_iff.1 h1).1
  have HX := Lib.hid (mok_res h1)
  have HY := Lib.hid (mok_res h2)
  have hq1 := inB_iff.1 (mok_iff.1 h1).2.1
  have hq2 := inB_iff.1 (mok_iff.1 h1).2.2.1
  have hq3 := inB_iff.1 (mok_iff.1 h2).2.1
  obtain ⟨R, rfl⟩ := Int.eq_ofNat_of_zero_le hq1.1
  obtain ⟨C, rfl⟩ := Int.eq_ofNat_of_zero_le hq2.1
  obtain ⟨R', rfl⟩ := Int.eq_ofNat_of_zero_le hq3.1
  have hR : R ≤ 40 := by omega
  have hC : C ≤ 40 := by omega
  have hR' : R' ≤ 40 := by omega
  have HN : Hid (n = R * C) := by rw [HR.out.1, ← Int.natCast_mul] at hl1; show n = R * C; omega
  have HN' : Hid (n' = R' * C) := by rw [HR'.out.1, ← Int.natCast_mul] at hl2; show n' = R' * C; omega
  simp only [Int.toNat_natCast]
  have ha1 : (kerS P R C xs).length = kerN P R C xs * C := kerS_length
  have ha2 : (kerS P R' C xs').length = kerN P R' C xs' * C := kerS_length
  have hn1 : kerN P R C xs ≤ 40 := Nat.le_trans kerN_le hC
  have hn2 : kerN P R' C xs' ≤ 40 := Nat.le_trans kerN_le hC
  have HRA : Hid (Res (kerS P R C xs ++ kerS P R' C xs') P) := res_append (kerS_res hp) (kerS_res hp)
  have HRA1 : Hid (Res (kerS P R C xs) P) := kerS_res hp
  have HRA2 : Hid (Res (kerS P R' C xs') P) := kerS_res hp
  have HLA : Hid ((kerS P R C xs ++ kerS P R' C xs').length = (kerN P R C xs + kerN P R' C xs') * C) := by rw [Hid, List.length_append, ha1, ha2, Nat.add_mul]
  have HMN : Hid (meetN P R R' C xs xs' = kerN P (kerN P R C xs + kerN P R' C xs') C (kerS P R C xs ++ kerS P R' C xs')) := rfl
  have HMS : Hid (meetS P R R' C xs xs' = kerS P (kerN P R C xs + kerN P R' C xs') C (kerS P R C xs ++ kerS P R' C xs')) := rfl
  have HSL : Hid ((meetS P R R' C xs xs').length = meetN P R R' C xs xs' * C) := kerS_length
  have hmb : meetN P R R' C xs xs' * C ≤ 1600 := Nat.mul_le_mul (Nat.le_trans kerN_le hC) hC
  have HKS := Lib.hid (ker_span (P := P) (R := kerN P R C xs + kerN P R' C xs') (C := C) (xs := kerS P R C xs ++ kerS P R' C xs') (isP_iff.1 HPR.out) HLA.out HRA.out)
  have HA1 := Lib.hid ha1
  have HA2 := Lib.hid ha2
  clear hl1 hl2 hq1 hq2 hq3 h1 h2 ha1 ha2
  generalize meetN P R R' C xs xs' = MN at *
  generalize meetS P R R' C xs xs' = MS at *
  generalize hE1 : kerN P R C xs = N1 at *
  generalize hE2 : kerN P R' C xs' = N2 at *
  generalize hE3 : kerS P R C xs = S1 at *
  generalize hE4 : kerS P R' C xs' = S2 at *
  have HE1 := Lib.hid hE1
  have HE2 := Lib.hid hE2
  have HE3 := Lib.hid hE3
  have HE4 := Lib.hid hE4
  clear hE1 hE2 hE3 hE4
  have hb1 : N1 * C ≤ 1600 := Nat.mul_le_mul hn1 hC
  have hb2 : N2 * C ≤ 1600 := Nat.mul_le_mul hn2 hC
  have HK1 : Hid (∀ w3, Ext w w3 → Calls Try.prog 70 #[.agg #[.int .i64 P, .int .i64 R, .int .i64 C, .slice (some ⟨a0, oa, none⟩) n n]] w3 fun e w' => ∃ b, e = .returned (.agg #[.int .i64 P, .int .i64 (N1 : Nat), .int .i64 C, .slice (some ⟨b, 0, none⟩) (N1 * C) (N1 * C)]) ∧ w3.heap.size ≤ b ∧ b < w'.heap.size ∧ Has w' b S1 ∧ Ext w3 w') := fun w3 hE => by
    have := kernel_impl P R C n n _ xs w3 (HR.out.ext hE) HN.out hm (by omega) (by omega) hp hp2 HX.out
    rw [HE1.out, HE3.out] at this
    exact this
  have HK2 : Hid (∀ w3, Ext w w3 → Calls Try.prog 70 #[.agg #[.int .i64 P, .int .i64 R', .int .i64 C, .slice (some ⟨b0, ob, none⟩) n' n']] w3 fun e w' => ∃ b, e = .returned (.agg #[.int .i64 P, .int .i64 (N2 : Nat), .int .i64 C, .slice (some ⟨b, 0, none⟩) (N2 * C) (N2 * C)]) ∧ w3.heap.size ≤ b ∧ b < w'.heap.size ∧ Has w' b S2 ∧ Ext w3 w') := fun w3 hE => by
    have := kernel_impl P R' C n' n' _ xs' w3 (HR'.out.ext hE) HN'.out hm' (by omega) (by omega) hp hp2 HY.out
    rw [HE2.out, HE4.out] at this
    exact this
  have HKL : Hid (∀ w3 b, Has w3 b (S1 ++ S2) → Calls Try.prog 70 #[.agg #[.int .i64 P, .int .i64 ((N1 : Int) + (N2 : Int)), .int .i64 C, .slice (some ⟨b, 0, none⟩) (N1 * C + N2 * C) (N1 * C + N2 * C)]] w3 fun e w' => ∃ b, e = .returned (.agg #[.int .i64 P, .int .i64 (MN : Nat), .int .i64 C, .slice (some ⟨b, 0, none⟩) (MN * C) (MN * C)]) ∧ w3.heap.size ≤ b ∧ b < w'.heap.size ∧ Has w' b MS ∧ Ext w3 w') := fun w3 b hh => by
    have := kernel_impl P (N1 + N2) C (N1 * C + N2 * C) (N1 * C + N2 * C) (some ⟨b, 0, none⟩) (S1 ++ S2) w3 (hh.reads (by rw [HLA.out, Nat.add_mul])) (by rw [Nat.add_mul]) (by omega) (by omega) (by omega) hp hp2 HRA.out
    rw [← HMN.out, ← HMS.out, Int.natCast_add] at this
    exact this
  go_enter Try.func33, Try.ntmps33
  have A0_1 := Lib.hid (((cells_new' w #[.int .i64 P, .int .i64 R, .int .i64 C, .slice (some ⟨a0, oa, none⟩) n n] 26 (w.heap.size) (by simp)).ext ((Ext.refl _).alloc (.cells #[.int .i64 P, .int .i64 R', .int .i64 C, .slice (some ⟨b0, ob, none⟩) n' n'] 26))).ext ((Ext.refl _).alloc (.cells #[.int .i64 0, .int .i64 0, .int .i64 0, .slice none 0 0] 26)))
  have A1_2 := Lib.hid ((cells_new' (w.alloc (.cells #[.int .i64 P, .int .i64 R, .int .i64 C, .slice (some ⟨a0, oa, none⟩) n n] 26)) #[.int .i64 P, .int .i64 R', .int .i64 C, .slice (some ⟨b0, ob, none⟩) n' n'] 26 (w.heap.size + 1) (by simp)).ext ((Ext.refl _).alloc (.cells #[.int .i64 0, .int .i64 0, .int .i64 0, .slice none 0 0] 26)))
  have R_3 := Lib.hid (cells_new' ((w.alloc (.cells #[.int .i64 P, .int .i64 R, .int .i64 C, .slice (some ⟨a0, oa, none⟩) n n] 26)).alloc (.cells #[.int .i64 P, .int .i64 R', .int .i64 C, .slice (some ⟨b0, ob, none⟩) n' n'] 26)) #[.int .i64 0, .int .i64 0, .int .i64 0, .slice none 0 0] 26 (w.heap.size + 1 + 1) (by simp))
  have E_4 := Lib.hid ((((Ext.refl w).alloc (.cells #[.int .i64 P, .int .i64 R, .int .i64 C, .slice (some ⟨a0, oa, none⟩) n n] 26)).alloc (.cells #[.int .i64 P, .int .i64 R', .int .i64 C, .slice (some ⟨b0, ob, none⟩) n' n'] 26)).alloc (.cells #[.int .i64 0, .int .i64 0, .int .i64 0, .slice none 0 0] 26))
  have lA0 := A0_1.out.1
  have qA00 := A0_1.out.2 0 _ rfl
  have qA01 := A0_1.out.2 1 _ rfl
  have qA02 := A0_1.out.2 2 _ rfl
  have qA03 := A0_1.out.2 3 _ rfl
  have lA1 := A1_2.out.1
  have qA10 := A1_2.out.2 0 _ rfl
  have qA11 := A1_2.out.2 1 _ rfl
  have qA12 := A1_2.out.2 2 _ rfl
  have qA13 := A1_2.out.2 3 _ rfl
  try simp only [World.size_alloc] at lA0 lA1
  go_wp2_with fail
  refine (both_impl (HR.out.ext E_4.out) hm (HR'.out.ext E_4.out) hm' HB.out).mono ?_
  rintro e w_5 ⟨rfl, h_5⟩
  clear lA0 qA00 qA01 qA02 qA03 lA1 qA10 qA11 qA12 qA13
  have A0_6 := Lib.hid (A0_1.out.ext h_5)
  clear A0_1
  have A1_7 := Lib.hid (A1_2.out.ext h_5)
  clear A1_2
  have R_8 := Lib.hid (R_3.out.ext h_5)
  clear R_3
  have E_9 := Lib.hid (E_4.out.trans h_5)
  clear E_4
  have HE0 := Lib.hid E_9.out
  have lA0 := A0_6.out.1
  have qA00 := A0_6.out.2 0 _ rfl
  have qA01 := A0_6.out.2 1 _ rfl
  have qA02 := A0_6.out.2 2 _ rfl
  have qA03 := A0_6.out.2 3 _ rfl
  have lA1 := A1_7.out.1
  have qA10 := A1_7.out.2 0 _ rfl
  have qA11 := A1_7.out.2 1 _ rfl
  have qA12 := A1_7.out.2 2 _ rfl
  have qA13 := A1_7.out.2 3 _ rfl
  have lR := R_8.out.1
  have qR0 := R_8.out.2 0 _ rfl
  have qR1 := R_8.out.2 1 _ rfl
  have qR2 := R_8.out.2 2 _ rfl
  have qR3 := R_8.out.2 3 _ rfl
  have tR := R_8.out.3
  try simp only [World.size_alloc] at lA0 lA1 lR
  go_wp2_with fail
  go_region_held3 (fun w' => Ext w w' ∧ w.heap.size + 1 + 1 ≤ w'.heap.size ∧ ∀ b o, b < w.heap.size + 1 + 1 → w'.cell? ⟨b, o, none⟩ = w_5.cell? ⟨b, o, none⟩) (first | assumption | (with_reducible exact KeptR.call ‹Ext w _ ∧ w.heap.size + 1 + 1 ≤ _ ∧ _› ‹Ext _ _›) | exact ⟨HE0.out, Nat.le_of_lt lR, fun _ _ _ => rfl⟩ | exact ⟨HE0.out.drew, Nat.le_of_lt lR, fun _ _ _ => rfl⟩ | (with_reducible exact KeptR.set4 ‹Ext w _ ∧ w.heap.size + 1 + 1 ≤ _ ∧ _› (by omega) _ _ _ _)) (first
    | (go_at_call_of 70 (Value.slice (some ⟨a0, oa, none⟩) n n); refine (HK1.out _ (And.left ‹Ext w _ ∧ w.heap.size + 1 + 1 ≤ _ ∧ _›)).mono ?_; rintro e w1 ⟨b1, rfl, u1, v1, hh1, h1⟩)
    | (go_at_call_of 70 (Value.slice (some ⟨b0, ob, none⟩) n' n'); refine (HK2.out _ (And.left ‹Ext w _ ∧ w.heap.size + 1 + 1 ≤ _ ∧ _›)).mono ?_; rintro e w2 ⟨b2, rfl, u2, v2, hh2, h2⟩)
    | (go_at_call 74; refine (joinRows_impl P P C N1 N2 C (N1 * C) (N2 * C) _ _ _ _ S1 S2 _ (Has.reads (Has.ext hh1 (by with_reducible first | exact Ext.refl _ | exact h2)) HA1.out) (Has.reads (Has.ext hh2 (by with_reducible first | exact Ext.refl _ | exact h1)) HA2.out) rfl rfl (by omega) (by omega) (by omega)).mono ?_; rintro e w3 ⟨b3, rfl, u3, v3, hh3, h3⟩)
    | (go_at_call 70; refine (HKL.out _ b3 hh3).mono ?_; rintro e w4 ⟨b4, rfl, u4, v4, hh4, h4⟩; have ch4 : Ext w_5 w4 := (((by with_reducible first | exact ((Ext.refl _).drew.trans h1).trans h2 | exact ((Ext.refl _).drew.trans h2).trans h1) : Ext w_5 _).trans h3).trans h4; have c1 : w4.cell? ⟨w.heap.size + 1 + 1, 0, none⟩ = some (.int .i64 0) := (ch4.cells _ 0 lR).trans qR0; have c2 : w4.cell? ⟨w.heap.size + 1 + 1, 1, none⟩ = some (.int .i64 0) := (ch4.cells _ 1 lR).trans qR1; have c3 : w4.cell? ⟨w.heap.size + 1 + 1, 2, none⟩ = some (.int .i64 0) := (ch4.cells _ 2 lR).trans qR2; have c4 : w4.cell? ⟨w.heap.size + 1 + 1, 3, none⟩ = some (.slice none 0 0) := (ch4.cells _ 3 lR).trans qR3; have f1 : ∀ j, w4.frozen? ⟨w.heap.size + 1 + 1, j, none⟩ = false := fun j => (ch4.frees _ j lR).trans (tR j); have l4 := Nat.lt_of_lt_of_le lR ch4.le))
  all_goals
    have hx := (And.left ‹Ext w _ ∧ w.heap.size + 1 + 1 ≤ _ ∧ _›)
    have HX4 := Lib.hid hx
    have HH4 := Lib.hid hh4
    have hlo : w.heap.size + 1 + 1 + 1 ≤ b4 := by have := h3.le; have := lR; have e1 := ((by with_reducible first | exact ((Ext.refl _).drew.trans h1).trans h2 | exact ((Ext.refl _).drew.trans h2).trans h1) : Ext w_5 _).le; omega
    have HV4 := Lib.hid v4
    clear hx hh4 v4
    go_wp2
    refine bodyPost_ret (v := .tuple #[.agg #[.int .i64 P, .int .i64 (MN : Nat), .int .i64 C, .slice (some ⟨b4, 0, none⟩) (MN * C) (MN * C)], .bool true]) (by simp [results, Try.results33, go_sem, c1, c2, c3, c4]) rfl ⟨_, rfl, ⟨_, _, _, rfl, ?_, by omega⟩, HX4.out⟩
    exact Own.mono (own4 (HH4.out.own (lo := w.heap.size + 1 + 1 + 1) (hi := w4.heap.size) hlo HV4.out HSL.out) (by omega) _ _ _ _) (by omega) (by simp)

set_option maxRecDepth 100000 in
set_option maxHeartbeats 6400000 in
theorem l1Meet_spec (P : Int) (R R' C a0 oa b0 ob n n' : Nat) (xs xs' : List Int) (w : World) (h : Reads w (some ⟨a0, oa, none⟩) n xs) (h' : Reads w (some ⟨b0, ob, none⟩) n' xs') (hn : n = R * C) (hn' : n' = R' * C) (hR : R ≤ 40) (hR' : R' ≤ 40) (hC : C ≤ 40) (hpr : isP P = true) (hx : Res xs P) (hy : Res xs' P) :
    Calls Try.prog 72 #[.agg #[.int .i64 P, .int .i64 R, .int .i64 C, .slice (some ⟨a0, oa, none⟩) n n], .agg #[.int .i64 P, .int .i64 R', .int .i64 C, .slice (some ⟨b0, ob, none⟩) n' n']] w fun e w' => ∃ b d, e = .returned (.agg #[.int .i64 P, .int .i64 (meetN P R R' C xs xs' : Nat), .int .i64 C, .slice (some ⟨b, 0, none⟩) (meetN P R R' C xs xs' * C) d]) ∧ w.heap.size ≤ b ∧ b < w'.heap.size ∧ Has w' b (meetS P R R' C xs xs') ∧ Ext w w' := by
  have HR := Lib.hid h
  have HR' := Lib.hid h'
  clear h h'
  have HN := Lib.hid hn
  have HN' := Lib.hid hn'
  have HPR := Lib.hid hpr
  have HX := Lib.hid hx
  have HY := Lib.hid hy
  have hp := isP_lo hpr
  have hp2 := isP_hi hpr
  have hm : n ≤ 1048576 := by have := mul40 hR hC; omega
  have hm' : n' ≤ 1048576 := by have := mul40 hR' hC; omega
  clear hn hn' hpr hx hy
  have ha1 : (kerS P R C xs).length = kerN P R C xs * C := kerS_length
  have ha2 : (kerS P R' C xs').length = kerN P R' C xs' * C := kerS_length
  have hn1 : kerN P R C xs ≤ 40 := Nat.le_trans kerN_le hC
  have hn2 : kerN P R' C xs' ≤ 40 := Nat.le_trans kerN_le hC
  have HRA : Hid (Res (kerS P R C xs ++ kerS P R' C xs') P) := res_append (kerS_res hp) (kerS_res hp)
  have HRA1 : Hid (Res (kerS P R C xs) P) := kerS_res hp
  have HRA2 : Hid (Res (kerS P R' C xs') P) := kerS_res hp
  have HLA : Hid ((kerS P R C xs ++ kerS P R' C xs').length = (kerN P R C xs + kerN P R' C xs') * C) := by rw [Hid, List.length_append, ha1, ha2, Nat.add_mul]
  have HMN : Hid (meetN P R R' C xs xs' = kerN P (kerN P R C xs + kerN P R' C xs') C (kerS P R C xs ++ kerS P R' C xs')) := rfl
  have HMS : Hid (meetS P R R' C xs xs' = kerS P (kerN P R C xs + kerN P R' C xs') C (kerS P R C xs ++ kerS P R' C xs')) := rfl
  have HSL : Hid ((meetS P R R' C xs xs').length = meetN P R R' C xs xs' * C) := kerS_length
  have hmb : meetN P R R' C xs xs' * C ≤ 1600 := Nat.mul_le_mul (Nat.le_trans kerN_le hC) hC
  have HKS := Lib.hid (ker_span (P := P) (R := kerN P R C xs + kerN P R' C xs') (C := C) (xs := kerS P R C xs ++ kerS P R' C xs') (isP_iff.1 HPR.out) HLA.out HRA.out)
  have HA1 := Lib.hid ha1
  have HA2 := Lib.hid ha2
  clear ha1 ha2
  generalize meetN P R R' C xs xs' = MN at *
  generalize meetS P R R' C xs xs' = MS at *
  generalize hE1 : kerN P R C xs = N1 at *
  generalize hE2 : kerN P R' C xs' = N2 at *
  generalize hE3 : kerS P R C xs = S1 at *
  generalize hE4 : kerS P R' C xs' = S2 at *
  have HE1 := Lib.hid hE1
  have HE2 := Lib.hid hE2
  have HE3 := Lib.hid hE3
  have HE4 := Lib.hid hE4
  clear hE1 hE2 hE3 hE4
  have hb1 : N1 * C ≤ 1600 := Nat.mul_le_mul hn1 hC
  have hb2 : N2 * C ≤ 1600 := Nat.mul_le_mul hn2 hC
  have HK1 : Hid (∀ w3, Ext w w3 → Calls Try.prog 69 #[.agg #[.int .i64 P, .int .i64 R, .int .i64 C, .slice (some ⟨a0, oa, none⟩) n n]] w3 fun e w' => ∃ b c', e = .returned (.agg #[.int .i64 P, .int .i64 (N1 : Nat), .int .i64 C, .slice (some ⟨b, 0, none⟩) (N1 * C) c']) ∧ w3.heap.size ≤ b ∧ b < w'.heap.size ∧ Has w' b S1 ∧ Ext w3 w' ∧ N1 * C ≤ c') := fun w3 hE => by
    have := l1Kernel_spec P R C n n _ xs w3 HPR.out (HR.out.ext hE) HN.out hm (by omega) (by omega) HX.out (by simp)
    rw [HE1.out, HE3.out] at this
    exact this
  have HK2 : Hid (∀ w3, Ext w w3 → Calls Try.prog 69 #[.agg #[.int .i64 P, .int .i64 R', .int .i64 C, .slice (some ⟨b0, ob, none⟩) n' n']] w3 fun e w' => ∃ b c', e = .returned (.agg #[.int .i64 P, .int .i64 (N2 : Nat), .int .i64 C, .slice (some ⟨b, 0, none⟩) (N2 * C) c']) ∧ w3.heap.size ≤ b ∧ b < w'.heap.size ∧ Has w' b S2 ∧ Ext w3 w' ∧ N2 * C ≤ c') := fun w3 hE => by
    have := l1Kernel_spec P R' C n' n' _ xs' w3 HPR.out (HR'.out.ext hE) HN'.out hm' (by omega) (by omega) HY.out (by simp)
    rw [HE2.out, HE4.out] at this
    exact this
  have HSPL : Hid ((spanL P (N1 + N2) C (S1 ++ S2)).length = (redM P (N1 + N2) C (S1 ++ S2)).pv.length * C) := spanL_length HLA.out
  have HSPR : Hid (Res (spanL P (N1 + N2) C (S1 ++ S2)) P) := spanL_res hp HRA.out
  have hkj : (redM P (N1 + N2) C (S1 ++ S2)).pv.length ≤ 40 := Nat.le_trans (redTo_pv (P := P) (R := N1 + N2) (C := C) (xs := S1 ++ S2) C).1 hC
  have HKJ : Hid ((redM P (N1 + N2) C (S1 ++ S2)).pv.length * C ≤ 1048576) := Nat.le_trans (Nat.mul_le_mul hkj hC) (by decide)
  go_enter Try.func72, Try.ntmps72
  have A0_1 := Lib.hid (((cells_new' w #[.int .i64 P, .int .i64 R, .int .i64 C, .slice (some ⟨a0, oa, none⟩) n n] 26 (w.heap.size) (by simp)).ext ((Ext.refl _).alloc (.cells #[.int .i64 P, .int .i64 R', .int .i64 C, .slice (some ⟨b0, ob, none⟩) n' n'] 26))).ext ((Ext.refl _).alloc (.cells #[.int .i64 0, .int .i64 0, .int .i64 0, .slice none 0 0] 26)))
  have A1_2 := Lib.hid ((cells_new' (w.alloc (.cells #[.int .i64 P, .int .i64 R, .int .i64 C, .slice (some ⟨a0, oa, none⟩) n n] 26)) #[.int .i64 P, .int .i64 R', .int .i64 C, .slice (some ⟨b0, ob, none⟩) n' n'] 26 (w.heap.size + 1) (by simp)).ext ((Ext.refl _).alloc (.cells #[.int .i64 0, .int .i64 0, .int .i64 0, .slice none 0 0] 26)))
  have R_3 := Lib.hid (cells_new' ((w.alloc (.cells #[.int .i64 P, .int .i64 R, .int .i64 C, .slice (some ⟨a0, oa, none⟩) n n] 26)).alloc (.cells #[.int .i64 P, .int .i64 R', .int .i64 C, .slice (some ⟨b0, ob, none⟩) n' n'] 26)) #[.int .i64 0, .int .i64 0, .int .i64 0, .slice none 0 0] 26 (w.heap.size + 1 + 1) (by simp))
  have E_4 := Lib.hid ((((Ext.refl w).alloc (.cells #[.int .i64 P, .int .i64 R, .int .i64 C, .slice (some ⟨a0, oa, none⟩) n n] 26)).alloc (.cells #[.int .i64 P, .int .i64 R', .int .i64 C, .slice (some ⟨b0, ob, none⟩) n' n'] 26)).alloc (.cells #[.int .i64 0, .int .i64 0, .int .i64 0, .slice none 0 0] 26))
  have HE0 := Lib.hid E_4.out
  go_wp2_with fail
  generalize (((w.alloc (.cells #[.int .i64 P, .int .i64 R, .int .i64 C, .slice (some ⟨a0, oa, none⟩) n n] 26)).alloc (.cells #[.int .i64 P, .int .i64 R', .int .i64 C, .slice (some ⟨b0, ob, none⟩) n' n'] 26)).alloc (.cells #[.int .i64 0, .int .i64 0, .int .i64 0, .slice none 0 0] 26)) = W0 at *
  have lA0 := A0_1.out.1
  have qA00 := A0_1.out.2 0 _ rfl
  have qA01 := A0_1.out.2 1 _ rfl
  have qA02 := A0_1.out.2 2 _ rfl
  have qA03 := A0_1.out.2 3 _ rfl
  have lA1 := A1_2.out.1
  have qA10 := A1_2.out.2 0 _ rfl
  have qA11 := A1_2.out.2 1 _ rfl
  have qA12 := A1_2.out.2 2 _ rfl
  have qA13 := A1_2.out.2 3 _ rfl
  have lR := R_3.out.1
  have qR0 := R_3.out.2 0 _ rfl
  have qR1 := R_3.out.2 1 _ rfl
  have qR2 := R_3.out.2 2 _ rfl
  have qR3 := R_3.out.2 3 _ rfl
  have tR := R_3.out.3
  try simp only [World.size_alloc] at lA0 lA1 lR
  go_region_held3 (fun w' => Ext w w' ∧ w.heap.size + 1 + 1 ≤ w'.heap.size ∧ ∀ b o, b < w.heap.size + 1 + 1 → w'.cell? ⟨b, o, none⟩ = W0.cell? ⟨b, o, none⟩) (first | assumption | (with_reducible exact KeptR.call ‹Ext w _ ∧ w.heap.size + 1 + 1 ≤ _ ∧ _› ‹Ext _ _›) | exact ⟨HE0.out, Nat.le_of_lt lR, fun _ _ _ => rfl⟩ | exact ⟨HE0.out.drew, Nat.le_of_lt lR, fun _ _ _ => rfl⟩ | (with_reducible exact KeptR.set4 ‹Ext w _ ∧ w.heap.size + 1 + 1 ≤ _ ∧ _› (by omega) _ _ _ _)) (first
    | (go_at_call_of 69 (Value.slice (some ⟨a0, oa, none⟩) n n); refine (HK1.out _ (And.left ‹Ext w _ ∧ w.heap.size + 1 + 1 ≤ _ ∧ _›)).mono ?_; rintro e w1 ⟨b1, d1, rfl, u1, v1, hh1, h1, k1⟩)
    | (go_at_call_of 69 (Value.slice (some ⟨b0, ob, none⟩) n' n'); refine (HK2.out _ (And.left ‹Ext w _ ∧ w.heap.size + 1 + 1 ≤ _ ∧ _›)).mono ?_; rintro e w2 ⟨b2, d2, rfl, u2, v2, hh2, h2, k2⟩)
    | (go_at_call 111; refine (l1Join_spec P P C N1 N2 C (N1 * C) (N2 * C) d1 d2 _ _ S1 S2 _ (Has.reads (Has.ext hh1 (by with_reducible first | exact Ext.refl _ | exact h2)) HA1.out) (Has.reads (Has.ext hh2 (by with_reducible first | exact Ext.refl _ | exact h1)) HA2.out) rfl rfl (by omega) (by omega) (by omega) HPR.out HRA1.out HRA2.out).mono ?_; rintro e w3 ⟨b3, d3, rfl, u3, v3, hh3, h3⟩)
    | (go_at_call 69; refine (l1Kernel_spec P (redM P (N1 + N2) C (S1 ++ S2)).pv.length C ((redM P (N1 + N2) C (S1 ++ S2)).pv.length * C) d3 _ (spanL P (N1 + N2) C (S1 ++ S2)) _ HPR.out (hh3.reads HSPL.out) rfl HKJ.out (by omega) (by omega) HSPR.out (by simp)).mono ?_; rw [HKS.out.1, HKS.out.2, ← HMN.out, ← HMS.out]; rintro e w4 ⟨b4, d4, rfl, u4, v4, hh4, h4, k4⟩; have ch4 : Ext W0 w4 := (((by with_reducible first | exact ((Ext.refl _).drew.trans h1).trans h2 | exact ((Ext.refl _).drew.trans h2).trans h1) : Ext W0 _).trans h3).trans h4; have c1 : w4.cell? ⟨w.heap.size + 1 + 1, 0, none⟩ = some (.int .i64 0) := (ch4.cells _ 0 lR).trans qR0; have c2 : w4.cell? ⟨w.heap.size + 1 + 1, 1, none⟩ = some (.int .i64 0) := (ch4.cells _ 1 lR).trans qR1; have c3 : w4.cell? ⟨w.heap.size + 1 + 1, 2, none⟩ = some (.int .i64 0) := (ch4.cells _ 2 lR).trans qR2; have c4 : w4.cell? ⟨w.heap.size + 1 + 1, 3, none⟩ = some (.slice none 0 0) := (ch4.cells _ 3 lR).trans qR3; have f1 : ∀ j, w4.frozen? ⟨w.heap.size + 1 + 1, j, none⟩ = false := fun j => (ch4.frees _ j lR).trans (tR j); have l4 := Nat.lt_of_lt_of_le lR ch4.le))
  all_goals
    have hx := (And.left ‹Ext w _ ∧ w.heap.size + 1 + 1 ≤ _ ∧ _›)
    have HX4 := Lib.hid hx
    have HH4 := Lib.hid hh4
    have hlo : w.heap.size + 1 + 1 + 1 ≤ b4 := by have := h3.le; have := lR; have e1 := ((by with_reducible first | exact ((Ext.refl _).drew.trans h1).trans h2 | exact ((Ext.refl _).drew.trans h2).trans h1) : Ext W0 _).le; omega
    have HV4 := Lib.hid v4
    clear hx hh4 v4
    go_wp2
    refine bodyPost_ret (v := .agg #[.int .i64 P, .int .i64 (MN : Nat), .int .i64 C, .slice (some ⟨b4, 0, none⟩) (MN * C) d4]) (by simp [results, Try.results72, go_sem, c1, c2, c3, c4]) rfl ⟨b4, d4, rfl, by omega, ?_, ?_, HX4.out⟩
    · have := HV4.out; simpa using this
    · repeat with_reducible (first | exact HH4.out | refine Has.setOther ?_ (by simp <;> omega) _)

set_option maxRecDepth 100000 in
set_option maxHeartbeats 6400000 in
theorem meetSpaces_spec {P R C P' R' C' : Int} {a0 oa b0 ob n n' : Nat} {xs xs' : List Int} {w : World} {p r q : Int} {d : List Int} {ok : Bool} (h : Reads w (some ⟨a0, oa, none⟩) n xs) (hm : n ≤ 1048576) (h' : Reads w (some ⟨b0, ob, none⟩) n' xs') (hm' : n' ≤ 1048576) (hM : meetM P R C xs P' R' C' xs' = (⟨p, r, q, d⟩, ok)) :
    Calls Try.prog 32 #[.agg #[.int .i64 P, .int .i64 R, .int .i64 C, .slice (some ⟨a0, oa, none⟩) n n], .agg #[(.int .i64 P'), (.int .i64 R'), (.int .i64 C'), (.slice (some ⟨b0, ob, none⟩) n' n')]] w fun e w' => ∃ v, e = .returned (.tuple #[v, .bool ok]) ∧ Rmat w w' v p r q d ∧ Ext w w' := by
  have HR := Lib.hid h
  have HR' := Lib.hid h'
  clear h h'
  rcases hB : bothM P R C xs P' R' C' xs' with _ | _
  · simp only [meetM, hB, noMat, Bool.false_eq_true, if_false, Prod.mk.injEq, Mat.mk.injEq] at hM
    obtain ⟨⟨rfl, rfl, rfl, rfl⟩, rfl⟩ := hM
    have HB := Lib.hid hB
    clear hB
    go_enter Try.func32, Try.ntmps32
    have A0_1 := Lib.hid (((cells_new' w #[.int .i64 P, .int .i64 R, .int .i64 C, .slice (some ⟨a0, oa, none⟩) n n] 26 (w.heap.size) (by simp)).ext ((Ext.refl _).alloc (.cells #[(.int .i64 P'), (.int .i64 R'), (.int .i64 C'), (.slice (some ⟨b0, ob, none⟩) n' n')] 26))).ext ((Ext.refl _).alloc (.cells #[.int .i64 0, .int .i64 0, .int .i64 0, .slice none 0 0] 26)))
    have A1_2 := Lib.hid ((cells_new' (w.alloc (.cells #[.int .i64 P, .int .i64 R, .int .i64 C, .slice (some ⟨a0, oa, none⟩) n n] 26)) #[(.int .i64 P'), (.int .i64 R'), (.int .i64 C'), (.slice (some ⟨b0, ob, none⟩) n' n')] 26 (w.heap.size + 1) (by simp)).ext ((Ext.refl _).alloc (.cells #[.int .i64 0, .int .i64 0, .int .i64 0, .slice none 0 0] 26)))
    have R_3 := Lib.hid (cells_new' ((w.alloc (.cells #[.int .i64 P, .int .i64 R, .int .i64 C, .slice (some ⟨a0, oa, none⟩) n n] 26)).alloc (.cells #[(.int .i64 P'), (.int .i64 R'), (.int .i64 C'), (.slice (some ⟨b0, ob, none⟩) n' n')] 26)) #[.int .i64 0, .int .i64 0, .int .i64 0, .slice none 0 0] 26 (w.heap.size + 1 + 1) (by simp))
    have E_4 := Lib.hid ((((Ext.refl w).alloc (.cells #[.int .i64 P, .int .i64 R, .int .i64 C, .slice (some ⟨a0, oa, none⟩) n n] 26)).alloc (.cells #[(.int .i64 P'), (.int .i64 R'), (.int .i64 C'), (.slice (some ⟨b0, ob, none⟩) n' n')] 26)).alloc (.cells #[.int .i64 0, .int .i64 0, .int .i64 0, .slice none 0 0] 26))
    have lA0 := A0_1.out.1
    have qA00 := A0_1.out.2 0 _ rfl
    have qA01 := A0_1.out.2 1 _ rfl
    have qA02 := A0_1.out.2 2 _ rfl
    have qA03 := A0_1.out.2 3 _ rfl
    have lA1 := A1_2.out.1
    have qA10 := A1_2.out.2 0 _ rfl
    have qA11 := A1_2.out.2 1 _ rfl
    have qA12 := A1_2.out.2 2 _ rfl
    have qA13 := A1_2.out.2 3 _ rfl
    try simp only [World.size_alloc] at lA0 lA1
    go_wp2_with fail
    refine (both_spec (HR.out.ext E_4.out) hm (HR'.out.ext E_4.out) hm' HB.out).mono ?_
    rintro e w_5 ⟨rfl, h_5⟩
    clear lA0 qA00 qA01 qA02 qA03 lA1 qA10 qA11 qA12 qA13
    have A0_6 := Lib.hid (A0_1.out.ext h_5)
    clear A0_1
    have A1_7 := Lib.hid (A1_2.out.ext h_5)
    clear A1_2
    have R_8 := Lib.hid (R_3.out.ext h_5)
    clear R_3
    have E_9 := Lib.hid (E_4.out.trans h_5)
    clear E_4
    have lA0 := A0_6.out.1
    have qA00 := A0_6.out.2 0 _ rfl
    have qA01 := A0_6.out.2 1 _ rfl
    have qA02 := A0_6.out.2 2 _ rfl
    have qA03 := A0_6.out.2 3 _ rfl
    have lA1 := A1_7.out.1
    have qA10 := A1_7.out.2 0 _ rfl
    have qA11 := A1_7.out.2 1 _ rfl
    have qA12 := A1_7.out.2 2 _ rfl
    have qA13 := A1_7.out.2 3 _ rfl
    try simp only [World.size_alloc] at lA0 lA1
    have lR := R_8.out.1
    have qR0 := R_8.out.2 0 _ rfl
    have qR1 := R_8.out.2 1 _ rfl
    have qR2 := R_8.out.2 2 _ rfl
    have qR3 := R_8.out.2 3 _ rfl
    have tR := R_8.out.3
    try simp only [World.size_alloc] at lA0 lA1 lR
    go_wp2
    refine bodyPost_ret (v := .tuple #[.agg #[.int .i64 0, .int .i64 0, .int .i64 0, .slice none 0 0], .bool false]) (by simp [results, Try.results32, go_sem, qR0, qR1, qR2, qR3]) rfl ⟨_, rfl, ⟨_, _, _, rfl, own_nil _ _ _, by omega⟩, ext4 E_9.out (by omega) _ _ _ _⟩
  simp only [meetM, hB, if_true, Prod.mk.injEq, Mat.mk.injEq] at hM
  obtain ⟨⟨rfl, rfl, rfl, rfl⟩, rfl⟩ := hM
  obtain ⟨h1, h2, e1, e2⟩ := both_parts hB
  have HB := Lib.hid hB
  clear hB
  obtain rfl : P = P' := e1
  obtain rfl : C = C' := e2
  have hl1 := mok_len h1
  have hl2 := mok_len h2
  have hp := mok_lo h1
  have hp2 := mok_hi h1
  have HPR := Lib.hid (mok_iff.1 h1).1
  have HX := Lib.hid (mok_res h1)
  have HY := Lib.hid (mok_res h2)
  have hq1 := inB_iff.1 (mok_iff.1 h1).2.1
  have hq2 := inB_iff.1 (mok_iff.1 h1).2.2.1
  have hq3 := inB_iff.1 (mok_iff.1 h2).2.1
  obtain ⟨R, rfl⟩ := Int.eq_ofNat_of_zero_le hq1.1
  obtain ⟨C, rfl⟩ := Int.eq_ofNat_of_zero_le hq2.1
  obtain ⟨R', rfl⟩ := Int.eq_ofNat_of_zero_le hq3.1
  have hR : R ≤ 40 := by omega
  have hC : C ≤ 40 := by omega
  have hR' : R' ≤ 40 := by omega
  have HN : Hid (n = R * C) := by rw [HR.out.1, ← Int.natCast_mul] at hl1; show n = R * C; omega
  have HN' : Hid (n' = R' * C) := by rw [HR'.out.1, ← Int.natCast_mul] at hl2; show n' = R' * C; omega
  simp only [Int.toNat_natCast]
  clear hl1 hl2 hq1 hq2 hq3 h1 h2
  have HSL : Hid ((meetS P R R' C xs xs').length = meetN P R R' C xs xs' * C) := kerS_length
  have hmb : meetN P R R' C xs xs' * C ≤ 1600 := Nat.mul_le_mul (Nat.le_trans kerN_le hC) hC
  go_enter Try.func32, Try.ntmps32
  have A0_1 := Lib.hid (((cells_new' w #[.int .i64 P, .int .i64 R, .int .i64 C, .slice (some ⟨a0, oa, none⟩) n n] 26 (w.heap.size) (by simp)).ext ((Ext.refl _).alloc (.cells #[.int .i64 P, .int .i64 R', .int .i64 C, .slice (some ⟨b0, ob, none⟩) n' n'] 26))).ext ((Ext.refl _).alloc (.cells #[.int .i64 0, .int .i64 0, .int .i64 0, .slice none 0 0] 26)))
  have A1_2 := Lib.hid ((cells_new' (w.alloc (.cells #[.int .i64 P, .int .i64 R, .int .i64 C, .slice (some ⟨a0, oa, none⟩) n n] 26)) #[.int .i64 P, .int .i64 R', .int .i64 C, .slice (some ⟨b0, ob, none⟩) n' n'] 26 (w.heap.size + 1) (by simp)).ext ((Ext.refl _).alloc (.cells #[.int .i64 0, .int .i64 0, .int .i64 0, .slice none 0 0] 26)))
  have R_3 := Lib.hid (cells_new' ((w.alloc (.cells #[.int .i64 P, .int .i64 R, .int .i64 C, .slice (some ⟨a0, oa, none⟩) n n] 26)).alloc (.cells #[.int .i64 P, .int .i64 R', .int .i64 C, .slice (some ⟨b0, ob, none⟩) n' n'] 26)) #[.int .i64 0, .int .i64 0, .int .i64 0, .slice none 0 0] 26 (w.heap.size + 1 + 1) (by simp))
  have E_4 := Lib.hid ((((Ext.refl w).alloc (.cells #[.int .i64 P, .int .i64 R, .int .i64 C, .slice (some ⟨a0, oa, none⟩) n n] 26)).alloc (.cells #[.int .i64 P, .int .i64 R', .int .i64 C, .slice (some ⟨b0, ob, none⟩) n' n'] 26)).alloc (.cells #[.int .i64 0, .int .i64 0, .int .i64 0, .slice none 0 0] 26))
  have lA0 := A0_1.out.1
  have qA00 := A0_1.out.2 0 _ rfl
  have qA01 := A0_1.out.2 1 _ rfl
  have qA02 := A0_1.out.2 2 _ rfl
  have qA03 := A0_1.out.2 3 _ rfl
  have lA1 := A1_2.out.1
  have qA10 := A1_2.out.2 0 _ rfl
  have qA11 := A1_2.out.2 1 _ rfl
  have qA12 := A1_2.out.2 2 _ rfl
  have qA13 := A1_2.out.2 3 _ rfl
  try simp only [World.size_alloc] at lA0 lA1
  go_wp2_with fail
  refine (both_spec (HR.out.ext E_4.out) hm (HR'.out.ext E_4.out) hm' HB.out).mono ?_
  rintro e w_5 ⟨rfl, h_5⟩
  clear lA0 qA00 qA01 qA02 qA03 lA1 qA10 qA11 qA12 qA13
  have A0_6 := Lib.hid (A0_1.out.ext h_5)
  clear A0_1
  have A1_7 := Lib.hid (A1_2.out.ext h_5)
  clear A1_2
  have R_8 := Lib.hid (R_3.out.ext h_5)
  clear R_3
  have E_9 := Lib.hid (E_4.out.trans h_5)
  clear E_4
  have l_R := R_8.out.1
  have lA0 := A0_6.out.1
  have qA00 := A0_6.out.2 0 _ rfl
  have qA01 := A0_6.out.2 1 _ rfl
  have qA02 := A0_6.out.2 2 _ rfl
  have qA03 := A0_6.out.2 3 _ rfl
  have lA1 := A1_7.out.1
  have qA10 := A1_7.out.2 0 _ rfl
  have qA11 := A1_7.out.2 1 _ rfl
  have qA12 := A1_7.out.2 2 _ rfl
  have qA13 := A1_7.out.2 3 _ rfl
  try simp only [World.size_alloc] at lA0 lA1
  go_wp2_with fail
  refine (l1Meet_spec P R R' C _ _ _ _ n n' xs xs' _ (HR.out.ext E_9.out) (HR'.out.ext E_9.out) HN.out HN'.out hR hR' hC HPR.out HX.out HY.out).mono ?_
  rintro e w_10 ⟨b, d2, rfl, hb1, hb2, hh, h_10⟩
  clear lA0 qA00 qA01 qA02 qA03 lA1 qA10 qA11 qA12 qA13
  have A0_11 := Lib.hid (A0_6.out.ext h_10)
  clear A0_6
  have A1_12 := Lib.hid (A1_7.out.ext h_10)
  clear A1_7
  have R_13 := Lib.hid (R_8.out.ext h_10)
  clear R_8
  have E_14 := Lib.hid (E_9.out.trans h_10)
  clear E_9
  have HH := Lib.hid hh
  clear hh
  have lR := R_13.out.1
  have qR0 := R_13.out.2 0 _ rfl
  have qR1 := R_13.out.2 1 _ rfl
  have qR2 := R_13.out.2 2 _ rfl
  have qR3 := R_13.out.2 3 _ rfl
  have tR := R_13.out.3
  try simp only [World.size_alloc] at lR
  go_wp2
  refine bodyPost_ret (v := .tuple #[.agg #[.int .i64 P, .int .i64 (meetN P R R' C xs xs' : Nat), .int .i64 C, .slice (some ⟨b, 0, none⟩) (meetN P R R' C xs xs' * C) d2], .bool true]) (by simp [results, Try.results32, go_sem, qR0, qR1, qR2, qR3]) rfl ⟨_, rfl, ⟨_, _, _, rfl, ?_, by omega⟩, ext4 E_14.out (by omega) _ _ _ _⟩
  exact Own.mono (own4 (HH.out.own (lo := w.heap.size + 1 + 1 + 1) (hi := w_10.heap.size) (by omega) (by omega) HSL.out) (by omega) _ _ _ _) (by omega) (by simp)
end Go.Proofs.Ytafeognjplphhaa
