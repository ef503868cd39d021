/-
  SolveMatrix of both texts.
-/
import Derived.Test.YtafeognjplphhaaSolveS
namespace Go.Proofs.Ytafeognjplphhaa
open Go.ChangeShapes Go.WideShapes Go.ChangeAt Go.RowKit
set_option linter.unusedVariables false

def Rints (w w' : World) (v : Value) (xs : List Int) : Prop := ∃ a n c, v = .slice a n c ∧ Own w' w.heap.size w'.heap.size a n xs ∧ n ≤ 1048576
noncomputable def solveM (P R C : Int) (xs vs : List Int) : List Int × Bool :=
  if mok P R C xs && (((vs.length : Int) == R) && resB vs P) then (if solOk P R.toNat C.toNat xs vs then (solL P R.toNat C.toNat xs vs, true) else ([], false)) else ([], false)
theorem solL_length {P : Int} {R C : Nat} {xs vs : List Int} : (solL P R C xs vs).length = C := solTo_length ..

set_option maxRecDepth 100000 in
set_option maxHeartbeats 3200000 in
theorem solveMatrix_spec {P R C : Int} {a av : Addr} {n c nv cv : Nat} {xs vs : List Int} {w : World} {d : List Int} {ok : Bool} (h : Reads w (some a) n xs) (hm : n ≤ 1048576) (h' : Reads w (some av) nv vs) (hm' : nv ≤ 1048576) (hM : solveM P R C xs vs = (d, ok)) :
    Calls Try.prog 22 #[.agg #[.int .i64 P, .int .i64 R, .int .i64 C, .slice (some a) n c], .slice (some av) nv cv] w fun e w' => ∃ v, e = .returned (.tuple #[v, .bool ok]) ∧ Rints w w' v d ∧ Ext w w' := by
  have HR := Lib.hid h
  have HV := Lib.hid h'
  have hm1 : n ≤ maxLen := by unfold maxLen; omega
  have hm2 : nv ≤ maxLen := by unfold maxLen; omega
  clear h h'
  have FIN : ∀ (w1 : World) (e : Ending), e = .returned (.tuple #[.slice none 0 0, .bool false]) → Ext w w1 → ∃ v, e = .returned (.tuple #[v, .bool false]) ∧ Rints w w1 v [] ∧ Ext w w1 := fun w1 e he hE => ⟨_, he, ⟨none, 0, 0, rfl, own_nil _ _ _, by omega⟩, hE⟩
  have HFIN := Lib.hid FIN
  clear FIN
  rcases h1 : mok P R C xs with _ | _
  · simp only [solveM, h1, Bool.false_and, Bool.false_eq_true, if_false, Prod.mk.injEq] at hM
    obtain ⟨rfl, rfl⟩ := hM
    go_enter Try.func22, Try.ntmps22
    have A0_1 := Lib.hid (cells_new' w #[.int .i64 P, .int .i64 R, .int .i64 C, .slice (some a) n c] 26 (w.heap.size) (by simp))
    have E_2 := Lib.hid ((Ext.refl w).alloc (.cells #[.int .i64 P, .int .i64 R, .int .i64 C, .slice (some a) n c] 26))
    have lA0 := A0_1.out.1
    have qA00 := A0_1.out.2 0 _ rfl
    have qA01 := A0_1.out.2 1 _ rfl
    have qA02 := A0_1.out.2 2 _ rfl
    have qA03 := A0_1.out.2 3 _ rfl
    try simp only [World.size_alloc] at lA0
    go_wp2_with fail
    refine (matrixOk_spec _ _ _ _ _ _ xs _ (HR.out.ext E_2.out) hm1).mono ?_
    rintro e w_3 ⟨rfl, h_3⟩
    clear lA0 qA00 qA01 qA02 qA03
    have A0_4 := Lib.hid (A0_1.out.ext h_3)
    clear A0_1
    have E_5 := Lib.hid (E_2.out.trans h_3)
    clear E_2
    rw [h1]
    go_wp2
    go_ret2
    exact HFIN.out _ _ rfl E_5.out
  have hp := mok_lo h1
  have hp2 := mok_hi h1
  have hl1 := mok_len h1
  have HPR := Lib.hid (mok_iff.1 h1).1
  have HX := Lib.hid (mok_res h1)
  have hq1 := inB_iff.1 (mok_iff.1 h1).2.1
  have hq2 := inB_iff.1 (mok_iff.1 h1).2.2.1
  have H1 := Lib.hid h1
  simp only [solveM, h1, Bool.true_and] at hM
  obtain ⟨R, rfl⟩ := Int.eq_ofNat_of_zero_le hq1.1
  obtain ⟨C, rfl⟩ := Int.eq_ofNat_of_zero_le hq2.1
  have hR : R ≤ 40 := by omega
  have hC : C ≤ 40 := by omega
  have HN : Hid (n = R * C) := by rw [HR.out.1, ← Int.natCast_mul] at hl1; show n = R * C; omega
  simp only [Int.toNat_natCast] at hM
  clear hl1 hq1 hq2 h1
  have hvl := HV.out.1
  rw [hvl] at hM
  clear hvl
  by_cases hn : nv = R
  case neg =>
    have hb : ((nv : Int) == (R : Int)) = false := by simp; omega
    have hb2 : ((nv : Int) != (R : Int)) = true := by simp; omega
    simp only [hb, Bool.false_and, Bool.false_eq_true, if_false, Prod.mk.injEq] at hM
    obtain ⟨rfl, rfl⟩ := hM
    clear hb hn
    go_enter Try.func22, Try.ntmps22
    have A0_1 := Lib.hid (cells_new' w #[.int .i64 P, .int .i64 R, .int .i64 C, .slice (some a) n c] 26 (w.heap.size) (by simp))
    have E_2 := Lib.hid ((Ext.refl w).alloc (.cells #[.int .i64 P, .int .i64 R, .int .i64 C, .slice (some a) n c] 26))
    have lA0 := A0_1.out.1
    have qA00 := A0_1.out.2 0 _ rfl
    have qA01 := A0_1.out.2 1 _ rfl
    have qA02 := A0_1.out.2 2 _ rfl
    have qA03 := A0_1.out.2 3 _ rfl
    try simp only [World.size_alloc] at lA0
    go_wp2_with fail
    refine (matrixOk_spec _ _ _ _ _ _ xs _ (HR.out.ext E_2.out) hm1).mono ?_
    rintro e w_3 ⟨rfl, h_3⟩
    clear lA0 qA00 qA01 qA02 qA03
    have A0_4 := Lib.hid (A0_1.out.ext h_3)
    clear A0_1
    have E_5 := Lib.hid (E_2.out.trans h_3)
    clear E_2
    rw [H1.out]
    have lA0 := A0_4.out.1
    have qA00 := A0_4.out.2 0 _ rfl
    have qA01 := A0_4.out.2 1 _ rfl
    have qA02 := A0_4.out.2 2 _ rfl
    have qA03 := A0_4.out.2 3 _ rfl
    try simp only [World.size_alloc] at lA0
    go_wp2
    go_ret2
    exact HFIN.out _ _ rfl E_5.out
  subst hn
  simp only [beq_self_eq_true, Bool.true_and] at hM
  rcases hv : resB vs P with _ | _
  · simp only [hv, Bool.false_eq_true, if_false, Prod.mk.injEq] at hM
    obtain ⟨rfl, rfl⟩ := hM
    have H2 := Lib.hid hv
    clear hv
    go_enter Try.func22, Try.ntmps22
    have A0_1 := Lib.hid (cells_new' w #[.int .i64 P, .int .i64 nv, .int .i64 C, .slice (some a) n c] 26 (w.heap.size) (by simp))
    have E_2 := Lib.hid ((Ext.refl w).alloc (.cells #[.int .i64 P, .int .i64 nv, .int .i64 C, .slice (some a) n c] 26))
    have lA0 := A0_1.out.1
    have qA00 := A0_1.out.2 0 _ rfl
    have qA01 := A0_1.out.2 1 _ rfl
    have qA02 := A0_1.out.2 2 _ rfl
    have qA03 := A0_1.out.2 3 _ rfl
    try simp only [World.size_alloc] at lA0
    go_wp2_with fail
    refine (matrixOk_spec _ _ _ _ _ _ xs _ (HR.out.ext E_2.out) hm1).mono ?_
    rintro e w_3 ⟨rfl, h_3⟩
    clear lA0 qA00 qA01 qA02 qA03
    have A0_4 := Lib.hid (A0_1.out.ext h_3)
    clear A0_1
    have E_5 := Lib.hid (E_2.out.trans h_3)
    clear E_2
    rw [H1.out]
    have lA0 := A0_4.out.1
    have qA00 := A0_4.out.2 0 _ rfl
    have qA01 := A0_4.out.2 1 _ rfl
    have qA02 := A0_4.out.2 2 _ rfl
    have qA03 := A0_4.out.2 3 _ rfl
    try simp only [World.size_alloc] at lA0
    go_wp2_with fail
    refine (l1Residues_spec _ _ _ vs _ _ (HV.out.ext E_5.out) hm2).mono ?_
    rintro e w' ⟨rfl, rfl⟩
    rw [H2.out]
    go_wp2
    go_ret2
    exact HFIN.out _ _ rfl E_5.out
  have H2 := Lib.hid hv
  simp only [hv, if_true] at hM
  have hy : Res vs P := by simpa [resB] using hv
  have HY := Lib.hid hy
  clear hy
  have HM := Lib.hid hM
  clear hM hv
  go_enter Try.func22, Try.ntmps22
  have A0_1 := Lib.hid (cells_new' w #[.int .i64 P, .int .i64 nv, .int .i64 C, .slice (some a) n c] 26 (w.heap.size) (by simp))
  have E_2 := Lib.hid ((Ext.refl w).alloc (.cells #[.int .i64 P, .int .i64 nv, .int .i64 C, .slice (some a) n c] 26))
  have lA0 := A0_1.out.1
  have qA00 := A0_1.out.2 0 _ rfl
  have qA01 := A0_1.out.2 1 _ rfl
  have qA02 := A0_1.out.2 2 _ rfl
  have qA03 := A0_1.out.2 3 _ rfl
  try simp only [World.size_alloc] at lA0
  go_wp2_with fail
  refine (matrixOk_spec _ _ _ _ _ _ xs _ (HR.out.ext E_2.out) hm1).mono ?_
  rintro e w_3 ⟨rfl, h_3⟩
  clear lA0 qA00 qA01 qA02 qA03
  have A0_4 := Lib.hid (A0_1.out.ext h_3)
  clear A0_1
  have E_5 := Lib.hid (E_2.out.trans h_3)
  clear E_2
  rw [H1.out]
  have lA0 := A0_4.out.1
  have qA00 := A0_4.out.2 0 _ rfl
  have qA01 := A0_4.out.2 1 _ rfl
  have qA02 := A0_4.out.2 2 _ rfl
  have qA03 := A0_4.out.2 3 _ rfl
  try simp only [World.size_alloc] at lA0
  go_wp2_with fail
  refine (l1Residues_spec _ _ _ vs _ _ (HV.out.ext E_5.out) hm2).mono ?_
  rintro e w' ⟨rfl, rfl⟩
  rw [H2.out]
  clear lA0 qA00 qA01 qA02 qA03
  have lA0 := A0_4.out.1
  have qA00 := A0_4.out.2 0 _ rfl
  have qA01 := A0_4.out.2 1 _ rfl
  have qA02 := A0_4.out.2 2 _ rfl
  have qA03 := A0_4.out.2 3 _ rfl
  try simp only [World.size_alloc] at lA0
  go_wp2_with fail
  refine (l1Solve_spec P nv C n _ _ _ _ xs vs _ HPR.out (HR.out.ext E_5.out) (HV.out.ext E_5.out) HN.out (by omega) (by omega) HX.out HY.out).mono ?_
  rintro e w_6 ⟨s, m, cc, rfl, ho, h_6⟩
  clear lA0 qA00 qA01 qA02 qA03
  have E2 := Lib.hid (E_5.out.trans h_6)
  have HO := Lib.hid (ho.mono E_5.out.le (Nat.le_refl _))
  clear ho h_6
  go_wp2
  go_ret2
  have hM := HM.out
  rcases hok : solOk P nv C xs vs with _ | _
  · rw [hok] at hM
    simp only [Bool.false_eq_true, if_false, Prod.mk.injEq] at hM
    obtain ⟨rfl, rfl⟩ := hM
    have ho := HO.out
    rw [hok] at ho
    simp only [Bool.false_eq_true, if_false] at ho
    exact ⟨_, rfl, ⟨_, _, _, rfl, ho, by have := ho.1; simp at this; omega⟩, E2.out⟩
  · rw [hok] at hM
    simp only [if_true, Prod.mk.injEq] at hM
    obtain ⟨rfl, rfl⟩ := hM
    have ho := HO.out
    rw [hok] at ho
    simp only [if_true] at ho
    exact ⟨_, rfl, ⟨_, _, _, rfl, ho, by have := ho.1; rw [solL_length] at this; omega⟩, E2.out⟩

set_option maxRecDepth 100000 in
set_option maxHeartbeats 3200000 in
theorem solveMatrix_impl {P R C : Int} {a0 oa b0 ob n nv : Nat} {xs vs : List Int} {w : World} {d : List Int} {ok : Bool} (h : Reads w (some ⟨a0, oa, none⟩) n xs) (hm : n ≤ 1048576) (h' : Reads w (some ⟨b0, ob, none⟩) nv vs) (hm' : nv ≤ 1048576) (hM : solveM P R C xs vs = (d, ok)) :
    Calls Try.prog 24 #[.agg #[.int .i64 P, .int .i64 R, .int .i64 C, .slice (some ⟨a0, oa, none⟩) n n], .slice (some ⟨b0, ob, none⟩) nv nv] w fun e w' => ∃ v, e = .returned (.tuple #[v, .bool ok]) ∧ Rints w w' v d ∧ Ext w w' := by
  have HR := Lib.hid h
  have HV := Lib.hid h'
  have hm1 : n ≤ maxLen := by unfold maxLen; omega
  have hm2 : nv ≤ maxLen := by unfold maxLen; omega
  clear h h'
  have FIN : ∀ (w1 : World) (e : Ending), e = .returned (.tuple #[.slice none 0 0, .bool false]) → Ext w w1 → ∃ v, e = .returned (.tuple #[v, .bool false]) ∧ Rints w w1 v [] ∧ Ext w w1 := fun w1 e he hE => ⟨_, he, ⟨none, 0, 0, rfl, own_nil _ _ _, by omega⟩, hE⟩
  have HFIN := Lib.hid FIN
  clear FIN
  rcases h1 : mok P R C xs with _ | _
  · simp only [solveM, h1, Bool.false_and, Bool.false_eq_true, if_false, Prod.mk.injEq] at hM
    obtain ⟨rfl, rfl⟩ := hM
    go_enter Try.func24, Try.ntmps24
    have A0_1 := Lib.hid (cells_new' w #[.int .i64 P, .int .i64 R, .int .i64 C, .slice (some ⟨a0, oa, none⟩) n n] 26 (w.heap.size) (by simp))
    have E_2 := Lib.hid ((Ext.refl w).alloc (.cells #[.int .i64 P, .int .i64 R, .int .i64 C, .slice (some ⟨a0, oa, none⟩) n n] 26))
    have lA0 := A0_1.out.1
    have qA00 := A0_1.out.2 0 _ rfl
    have qA01 := A0_1.out.2 1 _ rfl
    have qA02 := A0_1.out.2 2 _ rfl
    have qA03 := A0_1.out.2 3 _ rfl
    try simp only [World.size_alloc] at lA0
    go_wp2_with fail
    refine (matrixOk_impl _ _ _ _ _ _ xs _ (HR.out.ext E_2.out) hm1).mono ?_
    rintro e w_3 ⟨rfl, h_3⟩
    clear lA0 qA00 qA01 qA02 qA03
    have A0_4 := Lib.hid (A0_1.out.ext h_3)
    clear A0_1
    have E_5 := Lib.hid (E_2.out.trans h_3)
    clear E_2
    rw [h1]
    go_wp2
    go_ret2
    exact HFIN.out _ _ rfl E_5.out
  have hp := mok_lo h1
  have hp2 := mok_hi h1
  have hl1 := mok_len h1
  have HPR := Lib.hid (mok_iff.1 h1).1
  have HX := Lib.hid (mok_res h1)
  have hq1 := inB_iff.1 (mok_iff.1 h1).2.1
  have hq2 := inB_iff.1 (mok_iff.1 h1).2.2.1
  have H1 := Lib.hid h1
  simp only [solveM, h1, Bool.true_and] at hM
  obtain ⟨R, rfl⟩ := Int.eq_ofNat_of_zero_le hq1.1
  obtain ⟨C, rfl⟩ := Int.eq_ofNat_of_zero_le hq2.1
  have hR : R ≤ 40 := by omega
  have hC : C ≤ 40 := by omega
  have HN : Hid (n = R * C) := by rw [HR.out.1, ← Int.natCast_mul] at hl1; show n = R * C; omega
  simp only [Int.toNat_natCast] at hM
  clear hl1 hq1 hq2 h1
  have hvl := HV.out.1
  rw [hvl] at hM
  clear hvl
  rcases hv : (((nv : Int) == (R : Int)) && resB vs P) with _ | _
  · simp only [hv, Bool.false_eq_true, if_false, Prod.mk.injEq] at hM
    obtain ⟨rfl, rfl⟩ := hM
    have H2 := Lib.hid hv
    clear hv
    go_enter Try.func24, Try.ntmps24
    have A0_1 := Lib.hid (cells_new' w #[.int .i64 P, .int .i64 R, .int .i64 C, .slice (some ⟨a0, oa, none⟩) n n] 26 (w.heap.size) (by simp))
    have E_2 := Lib.hid ((Ext.refl w).alloc (.cells #[.int .i64 P, .int .i64 R, .int .i64 C, .slice (some ⟨a0, oa, none⟩) n n] 26))
    have lA0 := A0_1.out.1
    have qA00 := A0_1.out.2 0 _ rfl
    have qA01 := A0_1.out.2 1 _ rfl
    have qA02 := A0_1.out.2 2 _ rfl
    have qA03 := A0_1.out.2 3 _ rfl
    try simp only [World.size_alloc] at lA0
    go_wp2_with fail
    refine (matrixOk_impl _ _ _ _ _ _ xs _ (HR.out.ext E_2.out) hm1).mono ?_
    rintro e w_3 ⟨rfl, h_3⟩
    clear lA0 qA00 qA01 qA02 qA03
    have A0_4 := Lib.hid (A0_1.out.ext h_3)
    clear A0_1
    have E_5 := Lib.hid (E_2.out.trans h_3)
    clear E_2
    rw [H1.out]
    have lA0 := A0_4.out.1
    have qA00 := A0_4.out.2 0 _ rfl
    have qA01 := A0_4.out.2 1 _ rfl
    have qA02 := A0_4.out.2 2 _ rfl
    have qA03 := A0_4.out.2 3 _ rfl
    try simp only [World.size_alloc] at lA0
    go_wp2_with fail
    refine (isVector_impl _ _ _ vs _ _ _ (HV.out.ext E_5.out) hm2).mono ?_
    rintro e w' ⟨rfl, rfl⟩
    rw [H2.out]
    go_wp2
    go_ret2
    exact HFIN.out _ _ rfl E_5.out
  have H2 := Lib.hid hv
  simp only [hv, if_true] at hM
  simp only [Bool.and_eq_true, beq_iff_eq] at hv
  obtain ⟨hv1, hv2⟩ := hv
  have hn : nv = R := by omega
  have hy : Res vs P := by simpa [resB] using hv2
  have HY := Lib.hid hy
  clear hy
  have HM := Lib.hid hM
  clear hM hv1 hv2
  subst hn
  go_enter Try.func24, Try.ntmps24
  have A0_1 := Lib.hid (cells_new' w #[.int .i64 P, .int .i64 nv, .int .i64 C, .slice (some ⟨a0, oa, none⟩) n n] 26 (w.heap.size) (by simp))
  have E_2 := Lib.hid ((Ext.refl w).alloc (.cells #[.int .i64 P, .int .i64 nv, .int .i64 C, .slice (some ⟨a0, oa, none⟩) n n] 26))
  have lA0 := A0_1.out.1
  have qA00 := A0_1.out.2 0 _ rfl
  have qA01 := A0_1.out.2 1 _ rfl
  have qA02 := A0_1.out.2 2 _ rfl
  have qA03 := A0_1.out.2 3 _ rfl
  try simp only [World.size_alloc] at lA0
  go_wp2_with fail
  refine (matrixOk_impl _ _ _ _ _ _ xs _ (HR.out.ext E_2.out) hm1).mono ?_
  rintro e w_3 ⟨rfl, h_3⟩
  clear lA0 qA00 qA01 qA02 qA03
  have A0_4 := Lib.hid (A0_1.out.ext h_3)
  clear A0_1
  have E_5 := Lib.hid (E_2.out.trans h_3)
  clear E_2
  rw [H1.out]
  have lA0 := A0_4.out.1
  have qA00 := A0_4.out.2 0 _ rfl
  have qA01 := A0_4.out.2 1 _ rfl
  have qA02 := A0_4.out.2 2 _ rfl
  have qA03 := A0_4.out.2 3 _ rfl
  try simp only [World.size_alloc] at lA0
  go_wp2_with fail
  refine (isVector_impl _ _ _ vs _ _ _ (HV.out.ext E_5.out) hm2).mono ?_
  rintro e w' ⟨rfl, rfl⟩
  rw [H2.out]
  clear lA0 qA00 qA01 qA02 qA03
  have lA0 := A0_4.out.1
  have qA00 := A0_4.out.2 0 _ rfl
  have qA01 := A0_4.out.2 1 _ rfl
  have qA02 := A0_4.out.2 2 _ rfl
  have qA03 := A0_4.out.2 3 _ rfl
  try simp only [World.size_alloc] at lA0
  go_wp2_with fail
  refine (solve_impl P nv C n _ _ _ _ xs vs _ hp hp2 (HR.out.ext E_5.out) (HV.out.ext E_5.out) HN.out (by omega) (by omega) HX.out HY.out).mono ?_
  rintro e w_6 ⟨s, m, cc, rfl, ho, h_6⟩
  clear lA0 qA00 qA01 qA02 qA03
  have E2 := Lib.hid (E_5.out.trans h_6)
  have HO := Lib.hid (ho.mono E_5.out.le (Nat.le_refl _))
  clear ho h_6
  go_wp2
  go_ret2
  have hM := HM.out
  rcases hok : solOk P nv C xs vs with _ | _
  · rw [hok] at hM
    simp only [Bool.false_eq_true, if_false, Prod.mk.injEq] at hM
    obtain ⟨rfl, rfl⟩ := hM
    have ho := HO.out
    rw [hok] at ho
    simp only [Bool.false_eq_true, if_false] at ho
    exact ⟨_, rfl, ⟨_, _, _, rfl, ho, by have := ho.1; simp at this; omega⟩, E2.out⟩
  · rw [hok] at hM
    simp only [if_true, Prod.mk.injEq] at hM
    obtain ⟨rfl, rfl⟩ := hM
    have ho := HO.out
    rw [hok] at ho
    simp only [if_true] at ho
    exact ⟨_, rfl, ⟨_, _, _, rfl, ho, by have := ho.1; rw [solL_length] at this; omega⟩, E2.out⟩
end Go.Proofs.Ytafeognjplphhaa
