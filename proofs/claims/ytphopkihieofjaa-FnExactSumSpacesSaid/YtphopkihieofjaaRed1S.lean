/-
  The span, the rank, the determinant and the reduction, of the specification.
-/
import Derived.Test.YtphopkihieofjaaRed1
import Derived.Test.YtphopkihieofjaaRedS
namespace Go.Proofs.Ytphopkihieofjaa
open Go.RowKit
set_option linter.unusedVariables false

theorem slice_mat (b n c2 k : Nat) (h : k ≤ c2) (w : World) : True := trivial
set_option maxRecDepth 100000 in
set_option maxHeartbeats 6400000 in
theorem l1Span_spec (P : Int) (R C n c : Nat) (a : Option Addr) (xs : List Int) (w : World) (hr : Reads w a n xs) (hn : n = R * C) (hb : n ≤ 1048576) (hR : R ≤ 1048576) (hC : C ≤ 1048576) (hpr : isP P = true) (hx : Res xs P) (ha : a = none → n = 0 ∧ c = 0) :
    Calls Try.prog 58 #[.agg #[.int .i64 P, .int .i64 R, .int .i64 C, .slice a n c]] w fun e w' => ∃ b c', e = .returned (.agg #[.int .i64 P, .int .i64 ((redM P R C xs).pv.length : Nat), .int .i64 C, .slice (some ⟨b, 0, none⟩) ((redM P R C xs).pv.length * C) c']) ∧ w.heap.size ≤ b ∧ b < w'.heap.size ∧ Has w' b (spanL P R C xs) ∧ Ext w w' ∧ (redM P R C xs).pv.length * C ≤ c' := by
  have HR := Lib.hid hr
  have HN := Lib.hid hn
  have HX := Lib.hid hx
  have HPR := Lib.hid hpr
  have HA := Lib.hid ha
  have hk : (redM P R C xs).pv.length * C ≤ n := spanK_le hn
  obtain ⟨g0, g1, g2⟩ := prodN (redM P R C xs).pv.length C _ rfl (Nat.le_trans hk hb)
  have G2 := Lib.hid g2
  have HK : Hid (spanL P R C xs = (redM P R C xs).m.take ((redM P R C xs).pv.length * C)) := rfl
  clear hr hn hx hpr ha g2
  go_enter Try.func58, Try.ntmps58
  have A0_1 := Lib.hid ((cells_new' w #[.int .i64 P, .int .i64 R, .int .i64 C, .slice a n c] 26 (w.heap.size) (by simp)).ext ((Ext.refl _).alloc (.cells #[.int .i64 0, .int .i64 0, .int .i64 0, .slice none 0 0] 26)))
  have R_2 := Lib.hid (cells_new' (w.alloc (.cells #[.int .i64 P, .int .i64 R, .int .i64 C, .slice a n c] 26)) #[.int .i64 0, .int .i64 0, .int .i64 0, .slice none 0 0] 26 (w.heap.size + 1) (by simp))
  have E_3 := Lib.hid (((Ext.refl w).alloc (.cells #[.int .i64 P, .int .i64 R, .int .i64 C, .slice a n c] 26)).alloc (.cells #[.int .i64 0, .int .i64 0, .int .i64 0, .slice none 0 0] 26))
  have lA0 := A0_1.out.1
  have qA00 := A0_1.out.2 0 _ rfl
  have qA01 := A0_1.out.2 1 _ rfl
  have qA02 := A0_1.out.2 2 _ rfl
  have qA03 := A0_1.out.2 3 _ rfl
  try simp only [World.size_alloc] at lA0
  go_wp2_with fail
  have l_R := Lib.hid R_2.out.1
  refine (l1Reduce_spec P R C n c a xs _ (HR.out.ext E_3.out) HN.out hb hR hC HPR.out HX.out HA.out).mono ?_
  rintro e w_4 ⟨b, c2, a2, cap, mid, rfl, hb1, hb2, hb3, hh, hpo, h_4, hcc⟩
  clear lA0 qA00 qA01 qA02 qA03
  have A0_5 := Lib.hid (A0_1.out.ext h_4)
  clear A0_1
  have R_6 := Lib.hid (R_2.out.ext h_4)
  clear R_2
  have E_7 := Lib.hid (E_3.out.trans h_4)
  clear E_3
  have hbR : Hid (w.heap.size + 1 < b) := Nat.lt_of_lt_of_le l_R.out hb1
  have hbM : Hid (b < w_4.heap.size) := Nat.lt_of_lt_of_le hb2 hb3
  clear hb1 hb2 hb3 hpo l_R
  have HH := Lib.hid (hh.alloc (.cells #[.int .i64 P, .int .i64 R, .int .i64 C, .slice (some ⟨b, 0, none⟩) n c2] 26))
  clear hh h_4
  have P_8 := (Ext.refl w_4).alloc (.cells #[.int .i64 P, .int .i64 R, .int .i64 C, .slice (some ⟨b, 0, none⟩) n c2] 26)
  have A0_9 := Lib.hid (A0_5.out.ext P_8)
  clear A0_5
  have R_10 := Lib.hid (R_6.out.ext P_8)
  clear R_6
  have E_11 := Lib.hid (E_7.out.trans P_8)
  clear E_7
  clear P_8
  have M_12 := Lib.hid (cells_new w_4 #[.int .i64 P, .int .i64 R, .int .i64 C, .slice (some ⟨b, 0, none⟩) n c2] 26)
  go_upto_region 2 with fail
  generalize hW1 : (w_4.alloc (.cells #[.int .i64 P, .int .i64 R, .int .i64 C, .slice (some ⟨b, 0, none⟩) n c2] 26)) = W1 at *
  clear hW1
  generalize w_4.heap.size = B1 at *
  have HHk : Hid (Has W1 b (spanL P R C xs)) := by rw [HK.out]; exact HH.out.take _
  have hkc : (redM P R C xs).pv.length * C ≤ c2 := Nat.le_trans hk hcc
  generalize hkk : (redM P R C xs).pv.length = k at *
  have HKK := Lib.hid hkk
  clear hkk HH HK
  have nRB : w.heap.size + 1 ≠ B1 := by have := hbR.out; have := hbM.out; omega
  have lM := M_12.out.1
  have qM0 := M_12.out.2 0 _ rfl
  have qM1 := M_12.out.2 1 _ rfl
  have qM2 := M_12.out.2 2 _ rfl
  have qM3 := M_12.out.2 3 _ rfl
  have lR := R_10.out.1
  have qR0 := R_10.out.2 0 _ rfl
  have qR1 := R_10.out.2 1 _ rfl
  have qR2 := R_10.out.2 2 _ rfl
  have qR3 := R_10.out.2 3 _ rfl
  have tR := R_10.out.3
  try simp only [World.size_alloc] at lM lR
  have tM := M_12.out.3
  have lR := R_10.out.1
  have e1 : (k : Int) * (C : Int) = ((k * C : Nat) : Int) := by simp
  have g3 : (k : Int) * (C : Int) ≤ (c2 : Int) := by rw [e1]; omega
  clear e1
  go_wp2
  refine bodyPost_ret (v := .agg #[.int .i64 P, .int .i64 k, .int .i64 C, .slice (some ⟨b, 0, none⟩) (k * C) c2]) (by simp [results, Try.results58, go_sem, qR0, qR1, qR2, qR3]) rfl ⟨b, c2, by rw [HKK.out], by have := hbR.out; omega, ?_, ?_, ?_, by rw [HKK.out]; exact hkc⟩
  · have := hbM.out; have := lM; simp; omega
  · have := hbM.out; have := hbR.out
    repeat with_reducible (first | exact HHk.out | refine Has.setOther ?_ (by simp <;> omega) _)
  · have := hbM.out; have := hbR.out
    exact ext4 ((E_11.out.setCell (p := ⟨B1, 1, none⟩) (by simp; omega) _).setCell (p := ⟨B1, 3, none⟩) (by simp; omega) _) (by omega) _ _ _ _

set_option maxRecDepth 100000 in
set_option maxHeartbeats 3200000 in
theorem spanOf_spec {P R C : Int} {a : Addr} {n c : Nat} {xs : List Int} {w : World} {p r q : Int} {d : List Int} (h : Reads w (some a) n xs) (hm : n ≤ 1048576) (hM : spanM P R C xs = ⟨p, r, q, d⟩) :
    Calls Try.prog 31 #[.agg #[.int .i64 P, .int .i64 R, .int .i64 C, .slice (some a) n c]] w fun e w' => ∃ v, e = .returned v ∧ Rmat w w' v p r q d ∧ Ext w w' := by
  have HR := Lib.hid h
  have hm1 : n ≤ maxLen := by unfold maxLen; omega
  clear h
  rcases h1 : mok P R C xs with _ | _
  · simp only [spanM, h1, noMat, Bool.false_eq_true, if_false, Mat.mk.injEq] at hM
    obtain ⟨rfl, rfl, rfl, rfl⟩ := hM
    go_enter Try.func31, Try.ntmps31
    have A0_1 := Lib.hid ((cells_new' w #[.int .i64 P, .int .i64 R, .int .i64 C, .slice (some a) n c] 26 (w.heap.size) (by simp)).ext ((Ext.refl _).alloc (.cells #[.int .i64 0, .int .i64 0, .int .i64 0, .slice none 0 0] 26)))
    have R_2 := Lib.hid (cells_new' (w.alloc (.cells #[.int .i64 P, .int .i64 R, .int .i64 C, .slice (some a) n c] 26)) #[.int .i64 0, .int .i64 0, .int .i64 0, .slice none 0 0] 26 (w.heap.size + 1) (by simp))
    have E_3 := Lib.hid (((Ext.refl w).alloc (.cells #[.int .i64 P, .int .i64 R, .int .i64 C, .slice (some a) n c] 26)).alloc (.cells #[.int .i64 0, .int .i64 0, .int .i64 0, .slice none 0 0] 26))
    have lA0 := A0_1.out.1
    have qA00 := A0_1.out.2 0 _ rfl
    have qA01 := A0_1.out.2 1 _ rfl
    have qA02 := A0_1.out.2 2 _ rfl
    have qA03 := A0_1.out.2 3 _ rfl
    try simp only [World.size_alloc] at lA0
    go_wp2_with fail
    refine (matrixOk_spec _ _ _ _ _ _ xs _ (HR.out.ext E_3.out) hm1).mono ?_
    rintro e w_4 ⟨rfl, h_4⟩
    clear lA0 qA00 qA01 qA02 qA03
    have A0_5 := Lib.hid (A0_1.out.ext h_4)
    clear A0_1
    have R_6 := Lib.hid (R_2.out.ext h_4)
    clear R_2
    have E_7 := Lib.hid (E_3.out.trans h_4)
    clear E_3
    rw [h1]
    have lR := R_6.out.1
    have qR0 := R_6.out.2 0 _ rfl
    have qR1 := R_6.out.2 1 _ rfl
    have qR2 := R_6.out.2 2 _ rfl
    have qR3 := R_6.out.2 3 _ rfl
    have tR := R_6.out.3
    try simp only [World.size_alloc] at lR
    go_wp2
    refine bodyPost_ret (v := .agg #[.int .i64 0, .int .i64 0, .int .i64 0, .slice none 0 0]) (by simp [results, Try.results31, go_sem, qR0, qR1, qR2, qR3]) rfl ⟨_, rfl, ⟨_, _, _, rfl, own_nil _ _ _, by omega⟩, ext4 E_7.out (by omega) _ _ _ _⟩
  simp only [spanM, h1, if_true, Mat.mk.injEq] at hM
  obtain ⟨rfl, rfl, rfl, rfl⟩ := hM
  have hl := mok_len h1
  have hx := mok_res h1
  have hp := mok_lo h1
  have hp2 := mok_hi h1
  have hpr := (mok_iff.1 h1).1
  have hq1 := inB_iff.1 (mok_iff.1 h1).2.1
  have hq2 := inB_iff.1 (mok_iff.1 h1).2.2.1
  have HM1 := Lib.hid h1
  obtain ⟨R, rfl⟩ := Int.eq_ofNat_of_zero_le hq1.1
  obtain ⟨C, rfl⟩ := Int.eq_ofNat_of_zero_le hq2.1
  have hR : R ≤ 40 := by omega
  have hC : C ≤ 40 := by omega
  have hn1 : n = R * C := by rw [HR.out.1, ← Int.natCast_mul] at hl; omega
  have HN := Lib.hid hn1
  have HX := Lib.hid hx
  have HPR := Lib.hid hpr
  have hRb : R ≤ 1048576 := by omega
  have hCb : C ≤ 1048576 := by omega
  clear hl hx hpr hq1 hq2 h1 hn1
  simp only [Int.toNat_natCast]
  go_enter Try.func31, Try.ntmps31
  have A0_1 := Lib.hid ((cells_new' w #[.int .i64 P, .int .i64 R, .int .i64 C, .slice (some a) n c] 26 (w.heap.size) (by simp)).ext ((Ext.refl _).alloc (.cells #[.int .i64 0, .int .i64 0, .int .i64 0, .slice none 0 0] 26)))
  have R_2 := Lib.hid (cells_new' (w.alloc (.cells #[.int .i64 P, .int .i64 R, .int .i64 C, .slice (some a) n c] 26)) #[.int .i64 0, .int .i64 0, .int .i64 0, .slice none 0 0] 26 (w.heap.size + 1) (by simp))
  have E_3 := Lib.hid (((Ext.refl w).alloc (.cells #[.int .i64 P, .int .i64 R, .int .i64 C, .slice (some a) n c] 26)).alloc (.cells #[.int .i64 0, .int .i64 0, .int .i64 0, .slice none 0 0] 26))
  have lA0 := A0_1.out.1
  have qA00 := A0_1.out.2 0 _ rfl
  have qA01 := A0_1.out.2 1 _ rfl
  have qA02 := A0_1.out.2 2 _ rfl
  have qA03 := A0_1.out.2 3 _ rfl
  try simp only [World.size_alloc] at lA0
  go_wp2_with fail
  refine (matrixOk_spec _ _ _ _ _ _ xs _ (HR.out.ext E_3.out) hm1).mono ?_
  rintro e w_4 ⟨rfl, h_4⟩
  clear lA0 qA00 qA01 qA02 qA03
  have A0_5 := Lib.hid (A0_1.out.ext h_4)
  clear A0_1
  have R_6 := Lib.hid (R_2.out.ext h_4)
  clear R_2
  have E_7 := Lib.hid (E_3.out.trans h_4)
  clear E_3
  rw [HM1.out]
  have l_R := Lib.hid R_6.out.1
  have lA0 := A0_5.out.1
  have qA00 := A0_5.out.2 0 _ rfl
  have qA01 := A0_5.out.2 1 _ rfl
  have qA02 := A0_5.out.2 2 _ rfl
  have qA03 := A0_5.out.2 3 _ rfl
  try simp only [World.size_alloc] at lA0
  go_wp2_with fail
  refine (l1Span_spec P R C n c _ xs _ (HR.out.ext E_7.out) HN.out hm hRb hCb HPR.out HX.out (by simp)).mono ?_
  rintro e w_8 ⟨b, c2, rfl, hb1, hb2, hh, h_8, hcc⟩
  clear lA0 qA00 qA01 qA02 qA03
  have A0_9 := Lib.hid (A0_5.out.ext h_8)
  clear A0_5
  have R_10 := Lib.hid (R_6.out.ext h_8)
  clear R_6
  have E_11 := Lib.hid (E_7.out.trans h_8)
  clear E_7
  have hK := spanK_le (P := P) (xs := xs) HN.out
  have HH := Lib.hid hh
  clear hh hcc
  have HSL : Hid ((spanL P R C xs).length = (redM P R C xs).pv.length * C) := spanL_length (by rw [HR.out.1]; exact HN.out)
  have lR := R_10.out.1
  have qR0 := R_10.out.2 0 _ rfl
  have qR1 := R_10.out.2 1 _ rfl
  have qR2 := R_10.out.2 2 _ rfl
  have qR3 := R_10.out.2 3 _ rfl
  have tR := R_10.out.3
  try simp only [World.size_alloc] at lR
  go_wp2
  refine bodyPost_ret (v := .agg #[.int .i64 P, .int .i64 ((redM P R C xs).pv.length : Nat), .int .i64 C, .slice (some ⟨b, 0, none⟩) ((redM P R C xs).pv.length * C) c2]) (by simp [results, Try.results31, go_sem, qR0, qR1, qR2, qR3]) rfl ⟨_, rfl, ⟨_, _, _, rfl, ?_, by omega⟩, ext4 E_11.out (by omega) _ _ _ _⟩
  exact Own.mono (own4 (HH.out.own (lo := w.heap.size + 1 + 1) (hi := w_8.heap.size) (by have := l_R.out; omega) (by omega) HSL.out) (by omega) _ _ _ _) (by omega) (by simp)

set_option maxRecDepth 100000 in
set_option maxHeartbeats 3200000 in
theorem rankOf_spec {P R C : Int} {a : Addr} {n c : Nat} {xs : List Int} {w : World} {i : Int} (h : Reads w (some a) n xs) (hm : n ≤ 1048576) (hM : rankM P R C xs = i) :
    Calls Try.prog 27 #[.agg #[.int .i64 P, .int .i64 R, .int .i64 C, .slice (some a) n c]] w fun e w' => e = .returned (.int .i64 i) ∧ Ext w w' := by
  have HR := Lib.hid h
  have hm1 : n ≤ maxLen := by unfold maxLen; omega
  clear h
  rcases h1 : mok P R C xs with _ | _
  · simp only [rankM, h1, Bool.false_eq_true, if_false] at hM
    subst hM
    go_enter Try.func27, Try.ntmps27
    have A0_1 := Lib.hid (cells_new' w #[.int .i64 P, .int .i64 R, .int .i64 C, .slice (some a) n c] 26 (w.heap.size) (by simp))
    have E_2 := Lib.hid ((Ext.refl w).alloc (.cells #[.int .i64 P, .int .i64 R, .int .i64 C, .slice (some a) n c] 26))
    have lA0 := A0_1.out.1
    have qA00 := A0_1.out.2 0 _ rfl
    have qA01 := A0_1.out.2 1 _ rfl
    have qA02 := A0_1.out.2 2 _ rfl
    have qA03 := A0_1.out.2 3 _ rfl
    try simp only [World.size_alloc] at lA0
    go_wp2_with fail
    refine (matrixOk_spec _ _ _ _ _ _ xs _ (HR.out.ext E_2.out) hm1).mono ?_
    rintro e w_3 ⟨rfl, h_3⟩
    clear lA0 qA00 qA01 qA02 qA03
    have A0_4 := Lib.hid (A0_1.out.ext h_3)
    clear A0_1
    have E_5 := Lib.hid (E_2.out.trans h_3)
    clear E_2
    rw [h1]
    have lA0 := A0_4.out.1
    have qA00 := A0_4.out.2 0 _ rfl
    have qA01 := A0_4.out.2 1 _ rfl
    have qA02 := A0_4.out.2 2 _ rfl
    have qA03 := A0_4.out.2 3 _ rfl
    try simp only [World.size_alloc] at lA0
    go_wp2
    go_ret
    exact ⟨rfl, E_5.out⟩
  simp only [rankM, h1, if_true] at hM
  have hl := mok_len h1
  have hx := mok_res h1
  have hp := mok_lo h1
  have hp2 := mok_hi h1
  have hpr := (mok_iff.1 h1).1
  have hq1 := inB_iff.1 (mok_iff.1 h1).2.1
  have hq2 := inB_iff.1 (mok_iff.1 h1).2.2.1
  have HM1 := Lib.hid h1
  obtain ⟨R, rfl⟩ := Int.eq_ofNat_of_zero_le hq1.1
  obtain ⟨C, rfl⟩ := Int.eq_ofNat_of_zero_le hq2.1
  have hR : R ≤ 40 := by omega
  have hC : C ≤ 40 := by omega
  have hn1 : n = R * C := by rw [HR.out.1, ← Int.natCast_mul] at hl; omega
  have HN := Lib.hid hn1
  have HX := Lib.hid hx
  have HPR := Lib.hid hpr
  have hRb : R ≤ 1048576 := by omega
  have hCb : C ≤ 1048576 := by omega
  clear hl hx hpr hq1 hq2 h1 hn1
  simp only [Int.toNat_natCast] at hM
  have HI := Lib.hid hM
  clear hM
  go_enter Try.func27, Try.ntmps27
  have A0_1 := Lib.hid (cells_new' w #[.int .i64 P, .int .i64 R, .int .i64 C, .slice (some a) n c] 26 (w.heap.size) (by simp))
  have E_2 := Lib.hid ((Ext.refl w).alloc (.cells #[.int .i64 P, .int .i64 R, .int .i64 C, .slice (some a) n c] 26))
  have lA0 := A0_1.out.1
  have qA00 := A0_1.out.2 0 _ rfl
  have qA01 := A0_1.out.2 1 _ rfl
  have qA02 := A0_1.out.2 2 _ rfl
  have qA03 := A0_1.out.2 3 _ rfl
  try simp only [World.size_alloc] at lA0
  go_wp2_with fail
  refine (matrixOk_spec _ _ _ _ _ _ xs _ (HR.out.ext E_2.out) hm1).mono ?_
  rintro e w_3 ⟨rfl, h_3⟩
  clear lA0 qA00 qA01 qA02 qA03
  have A0_4 := Lib.hid (A0_1.out.ext h_3)
  clear A0_1
  have E_5 := Lib.hid (E_2.out.trans h_3)
  clear E_2
  rw [HM1.out]
  have lA0 := A0_4.out.1
  have qA00 := A0_4.out.2 0 _ rfl
  have qA01 := A0_4.out.2 1 _ rfl
  have qA02 := A0_4.out.2 2 _ rfl
  have qA03 := A0_4.out.2 3 _ rfl
  try simp only [World.size_alloc] at lA0
  go_wp2_with fail
  refine (l1Reduce_spec P R C n c _ xs _ (HR.out.ext E_5.out) HN.out hm hRb hCb HPR.out HX.out (by simp)).mono ?_
  rintro e w_6 ⟨b, c2, a2, cap, mid, rfl, hb1, hb2, hb3, hh, hpo, h_6, hcc⟩
  clear lA0 qA00 qA01 qA02 qA03
  have A0_7 := Lib.hid (A0_4.out.ext h_6)
  clear A0_4
  have E_8 := Lib.hid (E_5.out.trans h_6)
  clear E_5
  clear hh hpo
  go_wp2
  go_ret
  exact ⟨ret_int HI.out, E_8.out.alloc _⟩

set_option maxRecDepth 100000 in
set_option maxHeartbeats 6400000 in
theorem determinantOf_spec {P R C : Int} {a : Addr} {n c : Nat} {xs : List Int} {w : World} {i : Int} {ok : Bool} (h : Reads w (some a) n xs) (hm : n ≤ 1048576) (hM : detM P R C xs = (i, ok)) :
    Calls Try.prog 29 #[.agg #[.int .i64 P, .int .i64 R, .int .i64 C, .slice (some a) n c]] w fun e w' => e = .returned (.tuple #[.int .i64 i, .bool ok]) ∧ Ext w w' := by
  have HR := Lib.hid h
  have hm1 : n ≤ maxLen := by unfold maxLen; omega
  clear h
  rcases h1 : mok P R C xs with _ | _
  · simp only [detM, h1, Bool.false_and, Bool.false_eq_true, if_false, Prod.mk.injEq] at hM
    obtain ⟨rfl, rfl⟩ := hM
    go_enter Try.func29, Try.ntmps29
    have A0_1 := Lib.hid (cells_new' w #[.int .i64 P, .int .i64 R, .int .i64 C, .slice (some a) n c] 26 (w.heap.size) (by simp))
    have E_2 := Lib.hid ((Ext.refl w).alloc (.cells #[.int .i64 P, .int .i64 R, .int .i64 C, .slice (some a) n c] 26))
    have lA0 := A0_1.out.1
    have qA00 := A0_1.out.2 0 _ rfl
    have qA01 := A0_1.out.2 1 _ rfl
    have qA02 := A0_1.out.2 2 _ rfl
    have qA03 := A0_1.out.2 3 _ rfl
    try simp only [World.size_alloc] at lA0
    go_wp2_with fail
    refine (matrixOk_spec _ _ _ _ _ _ xs _ (HR.out.ext E_2.out) hm1).mono ?_
    rintro e w_3 ⟨rfl, h_3⟩
    clear lA0 qA00 qA01 qA02 qA03
    have A0_4 := Lib.hid (A0_1.out.ext h_3)
    clear A0_1
    have E_5 := Lib.hid (E_2.out.trans h_3)
    clear E_2
    rw [h1]
    have lA0 := A0_4.out.1
    have qA00 := A0_4.out.2 0 _ rfl
    have qA01 := A0_4.out.2 1 _ rfl
    have qA02 := A0_4.out.2 2 _ rfl
    have qA03 := A0_4.out.2 3 _ rfl
    try simp only [World.size_alloc] at lA0
    go_wp2
    go_ret2
    exact ⟨rfl, E_5.out⟩
  by_cases e1 : R = C
  case neg =>
    have hb0 : (R == C) = false := by simpa using e1
    have hb2 : (R != C) = true := by simpa using e1
    simp only [detM, h1, hb0, Bool.and_false, Bool.false_eq_true, if_false, Prod.mk.injEq] at hM
    obtain ⟨rfl, rfl⟩ := hM
    clear e1
    go_enter Try.func29, Try.ntmps29
    have A0_1 := Lib.hid (cells_new' w #[.int .i64 P, .int .i64 R, .int .i64 C, .slice (some a) n c] 26 (w.heap.size) (by simp))
    have E_2 := Lib.hid ((Ext.refl w).alloc (.cells #[.int .i64 P, .int .i64 R, .int .i64 C, .slice (some a) n c] 26))
    have lA0 := A0_1.out.1
    have qA00 := A0_1.out.2 0 _ rfl
    have qA01 := A0_1.out.2 1 _ rfl
    have qA02 := A0_1.out.2 2 _ rfl
    have qA03 := A0_1.out.2 3 _ rfl
    try simp only [World.size_alloc] at lA0
    go_wp2_with fail
    refine (matrixOk_spec _ _ _ _ _ _ xs _ (HR.out.ext E_2.out) hm1).mono ?_
    rintro e w_3 ⟨rfl, h_3⟩
    clear lA0 qA00 qA01 qA02 qA03
    have A0_4 := Lib.hid (A0_1.out.ext h_3)
    clear A0_1
    have E_5 := Lib.hid (E_2.out.trans h_3)
    clear E_2
    rw [h1]
    have lA0 := A0_4.out.1
    have qA00 := A0_4.out.2 0 _ rfl
    have qA01 := A0_4.out.2 1 _ rfl
    have qA02 := A0_4.out.2 2 _ rfl
    have qA03 := A0_4.out.2 3 _ rfl
    try simp only [World.size_alloc] at lA0
    go_wp2
    go_ret2
    exact ⟨rfl, E_5.out⟩
  subst e1
  have hbb : (R == R) = true := by simp
  simp only [detM, h1, hbb, Bool.and_self, if_true] at hM
  clear hbb
  have hl := mok_len h1
  have hx := mok_res h1
  have hp := mok_lo h1
  have hp2 := mok_hi h1
  have hpr := (mok_iff.1 h1).1
  have hq1 := inB_iff.1 (mok_iff.1 h1).2.1
  have hq2 := inB_iff.1 (mok_iff.1 h1).2.2.1
  have HM1 := Lib.hid h1
  obtain ⟨R, rfl⟩ := Int.eq_ofNat_of_zero_le hq1.1
  have hR : R ≤ 40 := by omega
  have hC : R ≤ 40 := by omega
  have hn1 : n = R * R := by rw [HR.out.1, ← Int.natCast_mul] at hl; omega
  have HN := Lib.hid hn1
  have HX := Lib.hid hx
  have HPR := Lib.hid hpr
  have hRb : R ≤ 1048576 := by omega
  have hCb : R ≤ 1048576 := by omega
  clear hl hx hpr hq1 hq2 h1 hn1
  simp only [Int.toNat_natCast] at hM
  have HI := Lib.hid hM
  clear hM
  go_enter Try.func29, Try.ntmps29
  have A0_1 := Lib.hid (cells_new' w #[.int .i64 P, .int .i64 R, .int .i64 R, .slice (some a) n c] 26 (w.heap.size) (by simp))
  have E_2 := Lib.hid ((Ext.refl w).alloc (.cells #[.int .i64 P, .int .i64 R, .int .i64 R, .slice (some a) n c] 26))
  have lA0 := A0_1.out.1
  have qA00 := A0_1.out.2 0 _ rfl
  have qA01 := A0_1.out.2 1 _ rfl
  have qA02 := A0_1.out.2 2 _ rfl
  have qA03 := A0_1.out.2 3 _ rfl
  try simp only [World.size_alloc] at lA0
  go_wp2_with fail
  refine (matrixOk_spec _ _ _ _ _ _ xs _ (HR.out.ext E_2.out) hm1).mono ?_
  rintro e w_3 ⟨rfl, h_3⟩
  clear lA0 qA00 qA01 qA02 qA03
  have A0_4 := Lib.hid (A0_1.out.ext h_3)
  clear A0_1
  have E_5 := Lib.hid (E_2.out.trans h_3)
  clear E_2
  rw [HM1.out]
  have lA0 := A0_4.out.1
  have qA00 := A0_4.out.2 0 _ rfl
  have qA01 := A0_4.out.2 1 _ rfl
  have qA02 := A0_4.out.2 2 _ rfl
  have qA03 := A0_4.out.2 3 _ rfl
  try simp only [World.size_alloc] at lA0
  go_wp2_with fail
  refine (l1Reduce_spec P R R n c _ xs _ (HR.out.ext E_5.out) HN.out hm hRb hCb HPR.out HX.out (by simp)).mono ?_
  rintro e w_6 ⟨b, c2, a2, cap, mid, rfl, hb1, hb2, hb3, hh, hpo, h_6, hcc⟩
  clear lA0 qA00 qA01 qA02 qA03
  have A0_7 := Lib.hid (A0_4.out.ext h_6)
  clear A0_4
  have E_8 := Lib.hid (E_5.out.trans h_6)
  clear E_5
  clear hh hpo
  have lA0 := A0_7.out.1
  have qA00 := A0_7.out.2 0 _ rfl
  have qA01 := A0_7.out.2 1 _ rfl
  have qA02 := A0_7.out.2 2 _ rfl
  have qA03 := A0_7.out.2 3 _ rfl
  try simp only [World.size_alloc] at lA0
  have hE9 := Lib.hid (E_8.out.alloc (.cells #[.int .i64 P, .int .i64 R, .int .i64 R, .slice (some ⟨b, 0, none⟩) n c2] 26))
  by_cases hk : (redM P R R xs).pv.length < R
  · have hi := HI.out
    rw [if_pos hk, Prod.mk.injEq] at hi
    obtain ⟨rfl, rfl⟩ := hi
    go_wp2
    go_ret2
    exact ⟨rfl, hE9.out⟩
  · have hi := HI.out
    rw [if_neg hk, Prod.mk.injEq] at hi
    obtain ⟨rfl, rfl⟩ := hi
    go_wp2
    go_ret2
    exact ⟨rfl, hE9.out⟩

set_option maxRecDepth 100000 in
set_option maxHeartbeats 6400000 in
theorem reduceMatrix_spec {P R C : Int} {a : Addr} {n c : Nat} {xs : List Int} {w : World} {p r q : Int} {d d2 : List Int} (h : Reads w (some a) n xs) (hm : n ≤ 1048576) (hM : reduceM P R C xs = (⟨p, r, q, d⟩, d2)) :
    Calls Try.prog 22 #[.agg #[.int .i64 P, .int .i64 R, .int .i64 C, .slice (some a) n c]] w fun e w' => ∃ v a' c', e = .returned (.tuple #[v, .slice a' d2.length c']) ∧ ∃ mid, (w.heap.size ≤ mid ∧ mid ≤ w'.heap.size) ∧ (∃ a2 n2 c2, v = .agg #[.int .i64 p, .int .i64 r, .int .i64 q, .slice a2 n2 c2] ∧ Own w' w.heap.size mid a2 n2 d ∧ n2 ≤ 1048576) ∧ Own w' mid w'.heap.size a' d2.length d2 ∧ d2.length ≤ 1048576 ∧ Ext w w' := by
  have HR := Lib.hid h
  have hm1 : n ≤ maxLen := by unfold maxLen; omega
  clear h
  rcases h1 : mok P R C xs with _ | _
  · simp only [reduceM, h1, noMat, Bool.false_eq_true, if_false, Prod.mk.injEq, Mat.mk.injEq] at hM
    obtain ⟨⟨rfl, rfl, rfl, rfl⟩, rfl⟩ := hM
    go_enter Try.func22, Try.ntmps22
    have A0_1 := Lib.hid ((cells_new' w #[.int .i64 P, .int .i64 R, .int .i64 C, .slice (some a) n c] 26 (w.heap.size) (by simp)).ext ((Ext.refl _).alloc (.cells #[.int .i64 0, .int .i64 0, .int .i64 0, .slice none 0 0] 26)))
    have R_2 := Lib.hid (cells_new' (w.alloc (.cells #[.int .i64 P, .int .i64 R, .int .i64 C, .slice (some a) n c] 26)) #[.int .i64 0, .int .i64 0, .int .i64 0, .slice none 0 0] 26 (w.heap.size + 1) (by simp))
    have E_3 := Lib.hid (((Ext.refl w).alloc (.cells #[.int .i64 P, .int .i64 R, .int .i64 C, .slice (some a) n c] 26)).alloc (.cells #[.int .i64 0, .int .i64 0, .int .i64 0, .slice none 0 0] 26))
    have lA0 := A0_1.out.1
    have qA00 := A0_1.out.2 0 _ rfl
    have qA01 := A0_1.out.2 1 _ rfl
    have qA02 := A0_1.out.2 2 _ rfl
    have qA03 := A0_1.out.2 3 _ rfl
    try simp only [World.size_alloc] at lA0
    go_wp2_with fail
    refine (matrixOk_spec _ _ _ _ _ _ xs _ (HR.out.ext E_3.out) hm1).mono ?_
    rintro e w_4 ⟨rfl, h_4⟩
    clear lA0 qA00 qA01 qA02 qA03
    have A0_5 := Lib.hid (A0_1.out.ext h_4)
    clear A0_1
    have R_6 := Lib.hid (R_2.out.ext h_4)
    clear R_2
    have E_7 := Lib.hid (E_3.out.trans h_4)
    clear E_3
    rw [h1]
    have lR := R_6.out.1
    have qR0 := R_6.out.2 0 _ rfl
    have qR1 := R_6.out.2 1 _ rfl
    have qR2 := R_6.out.2 2 _ rfl
    have qR3 := R_6.out.2 3 _ rfl
    have tR := R_6.out.3
    try simp only [World.size_alloc] at lR
    go_wp2
    refine bodyPost_ret (v := .tuple #[.agg #[.int .i64 0, .int .i64 0, .int .i64 0, .slice none 0 0], .slice none 0 0]) (by simp [results, Try.results22, go_sem, qR0, qR1, qR2, qR3]) rfl ⟨_, none, 0, rfl, w.heap.size, ?_, ⟨_, _, _, rfl, own_nil _ _ _, by omega⟩, own_nil _ _ _, by simp, ext4 E_7.out (by omega) _ _ _ _⟩
    exact ⟨Nat.le_refl _, by have := E_7.out.le; simpa using this⟩
  simp only [reduceM, h1, if_true, Prod.mk.injEq, Mat.mk.injEq] at hM
  obtain ⟨⟨rfl, rfl, rfl, rfl⟩, rfl⟩ := hM
  have hl := mok_len h1
  have hx := mok_res h1
  have hp := mok_lo h1
  have hp2 := mok_hi h1
  have hpr := (mok_iff.1 h1).1
  have hq1 := inB_iff.1 (mok_iff.1 h1).2.1
  have hq2 := inB_iff.1 (mok_iff.1 h1).2.2.1
  have HM1 := Lib.hid h1
  obtain ⟨R, rfl⟩ := Int.eq_ofNat_of_zero_le hq1.1
  obtain ⟨C, rfl⟩ := Int.eq_ofNat_of_zero_le hq2.1
  have hR : R ≤ 40 := by omega
  have hC : C ≤ 40 := by omega
  have hn1 : n = R * C := by rw [HR.out.1, ← Int.natCast_mul] at hl; omega
  have HN := Lib.hid hn1
  have HX := Lib.hid hx
  have HPR := Lib.hid hpr
  have hRb : R ≤ 1048576 := by omega
  have hCb : C ≤ 1048576 := by omega
  clear hl hx hpr hq1 hq2 h1 hn1
  simp only [Int.toNat_natCast]
  have HLm : Hid ((redM P R C xs).m.length = n) := by rw [Hid, redM, redTo_length]; exact HR.out.1
  go_enter Try.func22, Try.ntmps22
  have A0_1 := Lib.hid ((cells_new' w #[.int .i64 P, .int .i64 R, .int .i64 C, .slice (some a) n c] 26 (w.heap.size) (by simp)).ext ((Ext.refl _).alloc (.cells #[.int .i64 0, .int .i64 0, .int .i64 0, .slice none 0 0] 26)))
  have R_2 := Lib.hid (cells_new' (w.alloc (.cells #[.int .i64 P, .int .i64 R, .int .i64 C, .slice (some a) n c] 26)) #[.int .i64 0, .int .i64 0, .int .i64 0, .slice none 0 0] 26 (w.heap.size + 1) (by simp))
  have E_3 := Lib.hid (((Ext.refl w).alloc (.cells #[.int .i64 P, .int .i64 R, .int .i64 C, .slice (some a) n c] 26)).alloc (.cells #[.int .i64 0, .int .i64 0, .int .i64 0, .slice none 0 0] 26))
  have lA0 := A0_1.out.1
  have qA00 := A0_1.out.2 0 _ rfl
  have qA01 := A0_1.out.2 1 _ rfl
  have qA02 := A0_1.out.2 2 _ rfl
  have qA03 := A0_1.out.2 3 _ rfl
  try simp only [World.size_alloc] at lA0
  go_wp2_with fail
  refine (matrixOk_spec _ _ _ _ _ _ xs _ (HR.out.ext E_3.out) hm1).mono ?_
  rintro e w_4 ⟨rfl, h_4⟩
  clear lA0 qA00 qA01 qA02 qA03
  have A0_5 := Lib.hid (A0_1.out.ext h_4)
  clear A0_1
  have R_6 := Lib.hid (R_2.out.ext h_4)
  clear R_2
  have E_7 := Lib.hid (E_3.out.trans h_4)
  clear E_3
  rw [HM1.out]
  have l_R := Lib.hid R_6.out.1
  have lA0 := A0_5.out.1
  have qA00 := A0_5.out.2 0 _ rfl
  have qA01 := A0_5.out.2 1 _ rfl
  have qA02 := A0_5.out.2 2 _ rfl
  have qA03 := A0_5.out.2 3 _ rfl
  try simp only [World.size_alloc] at lA0
  go_wp2_with fail
  refine (l1Reduce_spec P R C n c _ xs _ (HR.out.ext E_7.out) HN.out hm hRb hCb HPR.out HX.out (by simp)).mono ?_
  rintro e w_8 ⟨b, c2, a2, cap, mid, rfl, hb1, hb2, hb3, hh, hpo, h_8, hcc⟩
  clear lA0 qA00 qA01 qA02 qA03
  have A0_9 := Lib.hid (A0_5.out.ext h_8)
  clear A0_5
  have R_10 := Lib.hid (R_6.out.ext h_8)
  clear R_6
  have E_11 := Lib.hid (E_7.out.trans h_8)
  clear E_7
  have HH := Lib.hid hh
  have HP := Lib.hid hpo
  have hbR : Hid (w.heap.size + 1 < b) := Nat.lt_of_lt_of_le l_R.out hb1
  clear hh hpo hb1 l_R
  have lR := R_10.out.1
  have qR0 := R_10.out.2 0 _ rfl
  have qR1 := R_10.out.2 1 _ rfl
  have qR2 := R_10.out.2 2 _ rfl
  have qR3 := R_10.out.2 3 _ rfl
  have tR := R_10.out.3
  try simp only [World.size_alloc] at lR
  have lR := R_10.out.1
  go_wp2
  refine bodyPost_ret (v := .tuple #[.agg #[.int .i64 P, .int .i64 R, .int .i64 C, .slice (some ⟨b, 0, none⟩) n c2], .slice a2 (redM P R C xs).pv.length cap]) (by simp [results, Try.results22, go_sem, qR0, qR1, qR2, qR3, lR]) rfl ⟨_, a2, cap, by rw [pvI_length], mid, ?_, ⟨_, _, _, rfl, ?_, by omega⟩, ?_, ?_, (ext4 E_11.out (by omega) _ _ _ _).alloc _⟩
  · exact ⟨by have := hbR.out; omega, by simp; omega⟩
  · exact ((own4 (HH.out.own (lo := w.heap.size + 1 + 1) (hi := mid) (by have := hbR.out; omega) hb2 HLm.out) (by omega) _ _ _ _).ext ((Ext.refl _).alloc _)).mono (by omega) (Nat.le_refl _)
  · rw [pvI_length]; exact ((own4 HP.out (by have := hbR.out; omega) _ _ _ _).ext ((Ext.refl _).alloc _)).mono (Nat.le_refl _) (by simp)
  · rw [pvI_length]; have := (redM_k (P := P) (R := R) (C := C) (xs := xs)).1; omega

/-- Results in blocks between two heap sizes. -/
def Rmat2 (w' : World) (lo hi : Nat) (v : Value) (P R C : Int) (xs : List Int) : Prop := ∃ a n c, v = .agg #[.int .i64 P, .int .i64 R, .int .i64 C, .slice a n c] ∧ Own w' lo hi a n xs ∧ n ≤ 1048576
def Rints2 (w' : World) (lo hi : Nat) (v : Value) (xs : List Int) : Prop := ∃ a n c, v = .slice a n c ∧ Own w' lo hi a n xs ∧ n ≤ 1048576

set_option maxRecDepth 100000 in
set_option maxHeartbeats 3200000 in
theorem reduceMatrix_spec2 {P R C : Int} {a : Addr} {n c : Nat} {xs : List Int} {w : World} {p r q : Int} {d d2 : List Int} (h : Reads w (some a) n xs) (hm : n ≤ 1048576) (hM : reduceM P R C xs = (⟨p, r, q, d⟩, d2)) :
    Calls Try.prog 22 #[.agg #[.int .i64 P, .int .i64 R, .int .i64 C, .slice (some a) n c]] w fun e w' => ∃ v u mid, e = .returned (.tuple #[v, u]) ∧ (w.heap.size ≤ mid ∧ mid ≤ w'.heap.size) ∧ Rmat2 w' w.heap.size mid v p r q d ∧ Rints2 w' mid w'.heap.size u d2 ∧ Ext w w' :=
  (reduceMatrix_spec h hm hM).mono fun e w' ⟨v, a', c', he, mid, h1, ⟨a2, n2, c2, h2, h3, h4⟩, h5, h6, h7⟩ => ⟨v, _, mid, he, h1, ⟨a2, n2, c2, h2, h3, h4⟩, ⟨a', _, c', rfl, h5, h6⟩, h7⟩

set_option maxRecDepth 100000 in
set_option maxHeartbeats 3200000 in
theorem reduceMatrix_impl2 {P R C : Int} {a0 oa n : Nat} {xs : List Int} {w : World} {p r q : Int} {d d2 : List Int} (h : Reads w (some ⟨a0, oa, none⟩) n xs) (hm : n ≤ 1048576) (hM : reduceM P R C xs = (⟨p, r, q, d⟩, d2)) :
    Calls Try.prog 23 #[.agg #[.int .i64 P, .int .i64 R, .int .i64 C, .slice (some ⟨a0, oa, none⟩) n n]] w fun e w' => ∃ v u mid, e = .returned (.tuple #[v, u]) ∧ (w.heap.size ≤ mid ∧ mid ≤ w'.heap.size) ∧ Rmat2 w' w.heap.size mid v p r q d ∧ Rints2 w' mid w'.heap.size u d2 ∧ Ext w w' :=
  (reduceMatrix_impl h hm hM).mono fun e w' ⟨v, a', c', he, mid, h1, ⟨a2, n2, c2, h2, h3, h4⟩, h5, h6, h7⟩ => ⟨v, _, mid, he, h1, ⟨a2, n2, c2, h2, h3, h4⟩, ⟨a', _, c', rfl, h5, h6⟩, h7⟩
end Go.Proofs.Ytphopkihieofjaa
