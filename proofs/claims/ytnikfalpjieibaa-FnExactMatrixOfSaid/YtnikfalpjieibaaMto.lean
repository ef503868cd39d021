/-
  MatrixOf of both texts.
-/
import Derived.Test.YtnikfalpjieibaaDui
import Derived.Test.YtnikfalpjieibaaMs2
import Derived.Test.YtnikfalpjieibaaBr
namespace Go.Proofs.Ytnikfalpjieibaa
open Go.ChangeShapes Go.WideShapes Go.ChangeAt Go.RowKit
set_option linter.unusedVariables false
set_option linter.unusedSimpArgs false

/-- The model. -/
noncomputable def matO (P D : Int) (l : List Int) (ms : List Mat) (xs : List Int) : Mat × Bool := if modB P D l ms && vecB P D xs then (⟨P, szM ms, szM ms, smK P (szM ms * szM ms) ms xs D.toNat⟩, true) else (noMat, false)
theorem vecB_parts {P D : Int} {xs : List Int} (h : vecB P D xs = true) : (xs.length : Int) = D ∧ Res xs P := by
  simp only [vecB, Bool.and_eq_true, beq_iff_eq] at h
  exact ⟨h.1, resB_iff.1 h.2⟩

set_option maxRecDepth 100000 in
set_option maxHeartbeats 3200000 in
theorem matrixOfT_impl {P D : Int} {a0 oa n g k bx ox m : Nat} {l : List Int} {ms : List Mat} {xs : List Int} {w : World} {p r q : Int} {d : List Int} {ok : Bool} (hT : Reads w (some ⟨a0, oa, none⟩) n l) (hm0 : n ≤ 1048576) (hm : MatsI w g k ms) (hk : k ≤ 1048576) (hX : Reads w (some ⟨bx, ox, none⟩) m xs) (hx : m ≤ 1048576) (hM : matO P D l ms xs = (⟨p, r, q, d⟩, ok)) :
    Calls Try.prog 22 #[.agg #[.int .i64 P, .int .i64 D, .slice (some ⟨a0, oa, none⟩) n n], .slice (some ⟨g, 0, none⟩) k k, .slice (some ⟨bx, ox, none⟩) m m] w fun e w' => ∃ v, e = .returned (.tuple #[v, .bool ok]) ∧ Rmat w w' v p r q d ∧ Ext w w' := by
  have HT := Lib.hid hT
  have HMM := Lib.hid hm
  have HX := Lib.hid hX
  have HVB : Hid (vecB P D xs = (((m : Int) == D) && resB xs P)) := by rw [Hid, vecB, hX.1]
  clear hT hm hX
  rcases h0 : modB P D l ms with _ | _
  · have H0 := Lib.hid h0
    simp only [matO, h0, noMat, Bool.false_and, Bool.and_false, Bool.false_eq_true, if_false, Prod.mk.injEq, Mat.mk.injEq] at hM
    obtain ⟨⟨rfl, rfl, rfl, rfl⟩, rfl⟩ := hM
    clear h0 HVB
    go_enter Try.func22, Try.ntmps22
    have A0_1 := Lib.hid ((cells_new' w #[.int .i64 P, .int .i64 D, .slice (some ⟨a0, oa, none⟩) n n] 29 (w.heap.size) (by simp)).ext ((Ext.refl _).alloc (.cells #[.int .i64 0, .int .i64 0, .int .i64 0, .slice none 0 0] 37)))
    have R_2 := Lib.hid (cells_new' (w.alloc (.cells #[.int .i64 P, .int .i64 D, .slice (some ⟨a0, oa, none⟩) n n] 29)) #[.int .i64 0, .int .i64 0, .int .i64 0, .slice none 0 0] 37 (w.heap.size + 1) (by simp))
    have E_3 := Lib.hid (((Ext.refl w).alloc (.cells #[.int .i64 P, .int .i64 D, .slice (some ⟨a0, oa, none⟩) n n] 29)).alloc (.cells #[.int .i64 0, .int .i64 0, .int .i64 0, .slice none 0 0] 37))
    have lA0 := A0_1.out.1
    have qA00 := A0_1.out.2 0 _ rfl
    have qA01 := A0_1.out.2 1 _ rfl
    have qA02 := A0_1.out.2 2 _ rfl
    try simp only [World.size_alloc] at lA0
    go_wp2_with fail
    refine (wrapModule_impl P _ a0 oa n g k l ms _ (HT.out.ext E_3.out) hm0 (HMM.out.ext E_3.out) hk).mono ?_
    rintro e w_4 (⟨hf, ⟨v, rfl⟩, h_4⟩ | ⟨hf, h_4⟩)
    clear lA0 qA00 qA01 qA02
    case inr => exact absurd (H0.out.symm.trans hf) (by simp)
    clear hf
    have A0_5 := Lib.hid (A0_1.out.ext h_4)
    clear A0_1
    have R_6 := Lib.hid (R_2.out.ext h_4)
    clear R_2
    have E_7 := Lib.hid (E_3.out.trans h_4)
    clear E_3
    have lR := R_6.out.1
    have qR0 := R_6.out.2 0 _ rfl
    have qR1 := R_6.out.2 1 _ rfl
    have qR2 := R_6.out.2 2 _ rfl
    have qR3 := R_6.out.2 3 _ rfl
    have tR := R_6.out.3
    try simp only [World.size_alloc] at lR
    go_wp2
    refine bodyPost_ret (v := .tuple #[.agg #[.int .i64 0, .int .i64 0, .int .i64 0, .slice none 0 0], .bool false]) (by simp [results, Try.results22, go_sem, qR0, qR1, qR2, qR3]) rfl ⟨_, rfl, ⟨_, _, _, rfl, own_nil _ _ _, by omega⟩, ext4 E_7.out (by omega) _ _ _ _⟩
  obtain ⟨d', S, rfl, _, hP⟩ := mod_parts h0 HT.out.1
  have H0 := Lib.hid h0
  rcases hv : vecB P (d' : Int) xs with _ | _
  · have HV := Lib.hid hv
    simp only [matO, h0, hv, noMat, Bool.false_and, Bool.and_false, Bool.false_eq_true, if_false, Prod.mk.injEq, Mat.mk.injEq] at hM
    obtain ⟨⟨rfl, rfl, rfl, rfl⟩, rfl⟩ := hM
    have HP := Lib.hid hP
    clear h0 hv hP
    go_enter Try.func22, Try.ntmps22
    have A0_1 := Lib.hid ((cells_new' w #[.int .i64 P, .int .i64 d', .slice (some ⟨a0, oa, none⟩) n n] 29 (w.heap.size) (by simp)).ext ((Ext.refl _).alloc (.cells #[.int .i64 0, .int .i64 0, .int .i64 0, .slice none 0 0] 37)))
    have R_2 := Lib.hid (cells_new' (w.alloc (.cells #[.int .i64 P, .int .i64 d', .slice (some ⟨a0, oa, none⟩) n n] 29)) #[.int .i64 0, .int .i64 0, .int .i64 0, .slice none 0 0] 37 (w.heap.size + 1) (by simp))
    have E_3 := Lib.hid (((Ext.refl w).alloc (.cells #[.int .i64 P, .int .i64 d', .slice (some ⟨a0, oa, none⟩) n n] 29)).alloc (.cells #[.int .i64 0, .int .i64 0, .int .i64 0, .slice none 0 0] 37))
    have lA0 := A0_1.out.1
    have qA00 := A0_1.out.2 0 _ rfl
    have qA01 := A0_1.out.2 1 _ rfl
    have qA02 := A0_1.out.2 2 _ rfl
    try simp only [World.size_alloc] at lA0
    go_wp2_with fail
    refine (wrapModule_impl P _ a0 oa n g k l ms _ (HT.out.ext E_3.out) hm0 (HMM.out.ext E_3.out) hk).mono ?_
    rintro e w_4 (⟨hf, _⟩ | ⟨hf, d9, S9, BM, BL, e9, hP9, rfl, hb, hbl, hlo, h_4⟩)
    clear lA0 qA00 qA01 qA02
    case inl => exact absurd (H0.out.symm.trans hf) (by simp)
    obtain ⟨rfl, rfl⟩ : d' = d9 ∧ S = S9 := ⟨by omega, HP.out.szM.symm.trans hP9.szM⟩
    clear hf hP9 e9 hlo
    have A0_5 := Lib.hid (A0_1.out.ext h_4)
    clear A0_1
    have R_6 := Lib.hid (R_2.out.ext h_4)
    clear R_2
    have E_7 := Lib.hid (E_3.out.trans h_4)
    clear E_3
    have M_8 := Lib.hid hb
    have L_9 := Lib.hid hbl
    clear hb hbl
    have lM := M_8.out.1
    have qM0 := M_8.out.2 0 _ rfl
    have qM1 := M_8.out.2 1 _ rfl
    have qM2 := M_8.out.2 2 _ rfl
    try simp only [World.size_alloc] at lM
    go_wp2_with fail
    refine (hasElement_impl P d' BL m m _ (some ⟨bx, ox, none⟩) xs _ L_9.out (HX.out.ext E_7.out) hx).mono ?_
    rintro e w_10 ⟨rfl, h_10⟩
    clear lM qM0 qM1 qM2
    have A0_11 := Lib.hid (A0_5.out.ext h_10)
    clear A0_5
    have R_12 := Lib.hid (R_6.out.ext h_10)
    clear R_6
    have M_13 := Lib.hid (M_8.out.ext h_10)
    clear M_8
    have L_14 := Lib.hid (L_9.out.ext h_10)
    clear L_9
    have E_15 := Lib.hid (E_7.out.trans h_10)
    clear E_7
    rw [← HVB.out, HV.out]
    have lR := R_12.out.1
    have qR0 := R_12.out.2 0 _ rfl
    have qR1 := R_12.out.2 1 _ rfl
    have qR2 := R_12.out.2 2 _ rfl
    have qR3 := R_12.out.2 3 _ rfl
    have tR := R_12.out.3
    try simp only [World.size_alloc] at lR
    go_wp2
    refine bodyPost_ret (v := .tuple #[.agg #[.int .i64 0, .int .i64 0, .int .i64 0, .slice none 0 0], .bool false]) (by simp [results, Try.results22, go_sem, qR0, qR1, qR2, qR3]) rfl ⟨_, rfl, ⟨_, _, _, rfl, own_nil _ _ _, by omega⟩, ext4 E_15.out (by omega) _ _ _ _⟩
  simp only [matO, h0, hv, Bool.and_self, if_true, hP.szM, Int.toNat_natCast, Prod.mk.injEq, Mat.mk.injEq] at hM
  obtain ⟨⟨rfl, rfl, rfl, rfl⟩, rfl⟩ := hM
  obtain ⟨hxl, hxr⟩ := vecB_parts hv
  obtain rfl : m = d' := by rw [HX.out.1] at hxl; omega
  have HP := Lib.hid hP
  have HKD : Hid (k = m) := by rw [Hid, ← hm_len HMM.out, hP.cnt]
  have HXR := Lib.hid hxr
  have hp := isP_lo hP.alg.pr
  have hp2 := isP_hi hP.alg.pr
  have hD := hP.alg.dim
  have hS := hP.sz
  have hSS : S * S ≤ 900 := Nat.mul_le_mul hS hS
  have HV := Lib.hid hv
  clear h0 hv hP hxl hxr
  go_enter Try.func22, Try.ntmps22
  have A0_1 := Lib.hid ((cells_new' w #[.int .i64 P, .int .i64 m, .slice (some ⟨a0, oa, none⟩) n n] 29 (w.heap.size) (by simp)).ext ((Ext.refl _).alloc (.cells #[.int .i64 0, .int .i64 0, .int .i64 0, .slice none 0 0] 37)))
  have R_2 := Lib.hid (cells_new' (w.alloc (.cells #[.int .i64 P, .int .i64 m, .slice (some ⟨a0, oa, none⟩) n n] 29)) #[.int .i64 0, .int .i64 0, .int .i64 0, .slice none 0 0] 37 (w.heap.size + 1) (by simp))
  have E_3 := Lib.hid (((Ext.refl w).alloc (.cells #[.int .i64 P, .int .i64 m, .slice (some ⟨a0, oa, none⟩) n n] 29)).alloc (.cells #[.int .i64 0, .int .i64 0, .int .i64 0, .slice none 0 0] 37))
  have lA0 := A0_1.out.1
  have qA00 := A0_1.out.2 0 _ rfl
  have qA01 := A0_1.out.2 1 _ rfl
  have qA02 := A0_1.out.2 2 _ rfl
  try simp only [World.size_alloc] at lA0
  go_wp2_with fail
  refine (wrapModule_impl P _ a0 oa n g k l ms _ (HT.out.ext E_3.out) hm0 (HMM.out.ext E_3.out) hk).mono ?_
  rintro e w_4 (⟨hf, _⟩ | ⟨hf, d9, S9, BM, BL, e9, hP9, rfl, hb, hbl, hlo, h_4⟩)
  clear lA0 qA00 qA01 qA02
  case inl => exact absurd (H0.out.symm.trans hf) (by simp)
  obtain ⟨rfl, rfl⟩ : m = d9 ∧ S = S9 := ⟨by omega, HP.out.szM.symm.trans hP9.szM⟩
  have HLOW : Hid (w.heap.size + 1 + 1 ≤ BM) := by simp at hlo; exact hlo
  clear hf hP9 e9 hlo
  have A0_5 := Lib.hid (A0_1.out.ext h_4)
  clear A0_1
  have R_6 := Lib.hid (R_2.out.ext h_4)
  clear R_2
  have E_7 := Lib.hid (E_3.out.trans h_4)
  clear E_3
  have M_8 := Lib.hid hb
  have L_9 := Lib.hid hbl
  clear hb hbl
  have lM := M_8.out.1
  have qM0 := M_8.out.2 0 _ rfl
  have qM1 := M_8.out.2 1 _ rfl
  have qM2 := M_8.out.2 2 _ rfl
  try simp only [World.size_alloc] at lM
  go_wp2_with fail
  refine (hasElement_impl P m BL m m _ (some ⟨bx, ox, none⟩) xs _ L_9.out (HX.out.ext E_7.out) hx).mono ?_
  rintro e w_10 ⟨rfl, h_10⟩
  clear lM qM0 qM1 qM2
  have A0_11 := Lib.hid (A0_5.out.ext h_10)
  clear A0_5
  have R_12 := Lib.hid (R_6.out.ext h_10)
  clear R_6
  have M_13 := Lib.hid (M_8.out.ext h_10)
  clear M_8
  have L_14 := Lib.hid (L_9.out.ext h_10)
  clear L_9
  have E_15 := Lib.hid (E_7.out.trans h_10)
  clear E_7
  rw [← HVB.out, HV.out]
  have hbm9 := M_13.out.1
  go_wp2_with fail
  refine (matrixOf_impl P m S BM BL g k n n a0 oa bx ox m xs ms _ M_13.out L_14.out (HMM.out.ext E_15.out) (HX.out.ext E_15.out) HKD.out hD hS (fun i hi => HP.out.len hi) (fun i hi => HP.out.res hi) hp hp2 HXR.out).mono ?_
  rintro e w_16 ⟨b, rfl, hb1, hb2, hh, h_16⟩
  have A0_17 := Lib.hid (A0_11.out.ext h_16)
  clear A0_11
  have R_18 := Lib.hid (R_12.out.ext h_16)
  clear R_12
  have M_19 := Lib.hid (M_13.out.ext h_16)
  clear M_13
  have L_20 := Lib.hid (L_14.out.ext h_16)
  clear L_14
  have E_21 := Lib.hid (E_15.out.trans h_16)
  clear E_15
  have HH := Lib.hid hh
  clear hh
  have hwr := R_18.out.1
  have hbw : w.heap.size + 1 + 1 ≤ b := by have := HLOW.out; omega
  have lR := R_18.out.1
  have qR0 := R_18.out.2 0 _ rfl
  have qR1 := R_18.out.2 1 _ rfl
  have qR2 := R_18.out.2 2 _ rfl
  have qR3 := R_18.out.2 3 _ rfl
  have tR := R_18.out.3
  try simp only [World.size_alloc] at lR
  go_wp2
  refine bodyPost_ret (v := .tuple #[.agg #[.int .i64 P, .int .i64 S, .int .i64 S, .slice (some ⟨b, 0, none⟩) (S * S) (S * S)], .bool true]) (by simp [results, Try.results22, go_sem, qR0, qR1, qR2, qR3]) rfl ⟨_, rfl, ⟨_, _, _, rfl, ?_, by omega⟩, ext4 E_21.out (by omega) _ _ _ _⟩
  exact Own.mono (own4 (HH.out.own (lo := w.heap.size + 1 + 1) (hi := w_16.heap.size) hbw hb2 (smK_length _)) (by omega) _ _ _ _) (by omega) (by simp)

set_option maxRecDepth 100000 in
set_option maxHeartbeats 3200000 in
theorem matrixOfT_spec {P D : Int} {a0 oa n g k bx ox m : Nat} {l : List Int} {ms : List Mat} {xs : List Int} {w : World} {p r q : Int} {d : List Int} {ok : Bool} (hT : Reads w (some ⟨a0, oa, none⟩) n l) (hm0 : n ≤ 1048576) (hm : MatsI w g k ms) (hk : k ≤ 1048576) (hX : Reads w (some ⟨bx, ox, none⟩) m xs) (hx : m ≤ 1048576) (hM : matO P D l ms xs = (⟨p, r, q, d⟩, ok)) :
    Calls Try.prog 20 #[.agg #[.int .i64 P, .int .i64 D, .slice (some ⟨a0, oa, none⟩) n n], .slice (some ⟨g, 0, none⟩) k k, .slice (some ⟨bx, ox, none⟩) m m] w fun e w' => ∃ v, e = .returned (.tuple #[v, .bool ok]) ∧ Rmat w w' v p r q d ∧ Ext w w' := by
  have HT := Lib.hid hT
  have HMM := Lib.hid hm
  have HX := Lib.hid hX
  have HVB : Hid (vecB P D xs = (((m : Int) == D) && resB xs P)) := by rw [Hid, vecB, hX.1]
  clear hT hm hX
  rcases h0 : modB P D l ms with _ | _
  · have H0 := Lib.hid h0
    simp only [matO, h0, noMat, Bool.false_and, Bool.and_false, Bool.false_eq_true, if_false, Prod.mk.injEq, Mat.mk.injEq] at hM
    obtain ⟨⟨rfl, rfl, rfl, rfl⟩, rfl⟩ := hM
    clear h0 HVB
    go_enter Try.func20, Try.ntmps20
    have A0_1 := Lib.hid ((cells_new' w #[.int .i64 P, .int .i64 D, .slice (some ⟨a0, oa, none⟩) n n] 29 (w.heap.size) (by simp)).ext ((Ext.refl _).alloc (.cells #[.int .i64 0, .int .i64 0, .int .i64 0, .slice none 0 0] 37)))
    have R_2 := Lib.hid (cells_new' (w.alloc (.cells #[.int .i64 P, .int .i64 D, .slice (some ⟨a0, oa, none⟩) n n] 29)) #[.int .i64 0, .int .i64 0, .int .i64 0, .slice none 0 0] 37 (w.heap.size + 1) (by simp))
    have E_3 := Lib.hid (((Ext.refl w).alloc (.cells #[.int .i64 P, .int .i64 D, .slice (some ⟨a0, oa, none⟩) n n] 29)).alloc (.cells #[.int .i64 0, .int .i64 0, .int .i64 0, .slice none 0 0] 37))
    have lA0 := A0_1.out.1
    have qA00 := A0_1.out.2 0 _ rfl
    have qA01 := A0_1.out.2 1 _ rfl
    have qA02 := A0_1.out.2 2 _ rfl
    try simp only [World.size_alloc] at lA0
    go_wp2_with fail
    refine (isModule_spec (HT.out.ext E_3.out) hm0 (HMM.out.ext E_3.out) hk H0.out).mono ?_
    rintro e w_4 ⟨rfl, h_4⟩
    clear lA0 qA00 qA01 qA02
    have A0_5 := Lib.hid (A0_1.out.ext h_4)
    clear A0_1
    have R_6 := Lib.hid (R_2.out.ext h_4)
    clear R_2
    have E_7 := Lib.hid (E_3.out.trans h_4)
    clear E_3
    have lR := R_6.out.1
    have qR0 := R_6.out.2 0 _ rfl
    have qR1 := R_6.out.2 1 _ rfl
    have qR2 := R_6.out.2 2 _ rfl
    have qR3 := R_6.out.2 3 _ rfl
    have tR := R_6.out.3
    try simp only [World.size_alloc] at lR
    go_wp2
    refine bodyPost_ret (v := .tuple #[.agg #[.int .i64 0, .int .i64 0, .int .i64 0, .slice none 0 0], .bool false]) (by simp [results, Try.results20, go_sem, qR0, qR1, qR2, qR3]) rfl ⟨_, rfl, ⟨_, _, _, rfl, own_nil _ _ _, by omega⟩, ext4 E_7.out (by omega) _ _ _ _⟩
  obtain ⟨d', S, rfl, _, hP⟩ := mod_parts h0 HT.out.1
  have H0 := Lib.hid h0
  rcases hv : vecB P (d' : Int) xs with _ | _
  · have HV := Lib.hid hv
    simp only [matO, h0, hv, noMat, Bool.false_and, Bool.and_false, Bool.false_eq_true, if_false, Prod.mk.injEq, Mat.mk.injEq] at hM
    obtain ⟨⟨rfl, rfl, rfl, rfl⟩, rfl⟩ := hM
    clear h0 hv hP
    go_enter Try.func20, Try.ntmps20
    have A0_1 := Lib.hid ((cells_new' w #[.int .i64 P, .int .i64 d', .slice (some ⟨a0, oa, none⟩) n n] 29 (w.heap.size) (by simp)).ext ((Ext.refl _).alloc (.cells #[.int .i64 0, .int .i64 0, .int .i64 0, .slice none 0 0] 37)))
    have R_2 := Lib.hid (cells_new' (w.alloc (.cells #[.int .i64 P, .int .i64 d', .slice (some ⟨a0, oa, none⟩) n n] 29)) #[.int .i64 0, .int .i64 0, .int .i64 0, .slice none 0 0] 37 (w.heap.size + 1) (by simp))
    have E_3 := Lib.hid (((Ext.refl w).alloc (.cells #[.int .i64 P, .int .i64 d', .slice (some ⟨a0, oa, none⟩) n n] 29)).alloc (.cells #[.int .i64 0, .int .i64 0, .int .i64 0, .slice none 0 0] 37))
    have lA0 := A0_1.out.1
    have qA00 := A0_1.out.2 0 _ rfl
    have qA01 := A0_1.out.2 1 _ rfl
    have qA02 := A0_1.out.2 2 _ rfl
    try simp only [World.size_alloc] at lA0
    go_wp2_with fail
    refine (isModule_spec (HT.out.ext E_3.out) hm0 (HMM.out.ext E_3.out) hk H0.out).mono ?_
    rintro e w_4 ⟨rfl, h_4⟩
    clear lA0 qA00 qA01 qA02
    have A0_5 := Lib.hid (A0_1.out.ext h_4)
    clear A0_1
    have R_6 := Lib.hid (R_2.out.ext h_4)
    clear R_2
    have E_7 := Lib.hid (E_3.out.trans h_4)
    clear E_3
    have lA0 := A0_5.out.1
    have qA00 := A0_5.out.2 0 _ rfl
    have qA01 := A0_5.out.2 1 _ rfl
    have qA02 := A0_5.out.2 2 _ rfl
    try simp only [World.size_alloc] at lA0
    go_wp2_with fail
    refine (l2Vector_spec P d' a0 oa n n m m (some ⟨bx, ox, none⟩) xs _ (HX.out.ext E_7.out) (by unfold maxLen; omega)).mono ?_
    rintro e w_8 ⟨rfl, h_8⟩
    clear lA0 qA00 qA01 qA02
    have A0_9 := Lib.hid (A0_5.out.ext h_8)
    clear A0_5
    have R_10 := Lib.hid (R_6.out.ext h_8)
    clear R_6
    have E_11 := Lib.hid (E_7.out.trans h_8)
    clear E_7
    rw [← HVB.out, HV.out]
    have lR := R_10.out.1
    have qR0 := R_10.out.2 0 _ rfl
    have qR1 := R_10.out.2 1 _ rfl
    have qR2 := R_10.out.2 2 _ rfl
    have qR3 := R_10.out.2 3 _ rfl
    have tR := R_10.out.3
    try simp only [World.size_alloc] at lR
    go_wp2
    refine bodyPost_ret (v := .tuple #[.agg #[.int .i64 0, .int .i64 0, .int .i64 0, .slice none 0 0], .bool false]) (by simp [results, Try.results20, go_sem, qR0, qR1, qR2, qR3]) rfl ⟨_, rfl, ⟨_, _, _, rfl, own_nil _ _ _, by omega⟩, ext4 E_11.out (by omega) _ _ _ _⟩
  simp only [matO, h0, hv, Bool.and_self, if_true, hP.szM, Int.toNat_natCast, Prod.mk.injEq, Mat.mk.injEq] at hM
  obtain ⟨⟨rfl, rfl, rfl, rfl⟩, rfl⟩ := hM
  obtain ⟨hxl, hxr⟩ := vecB_parts hv
  obtain rfl : m = d' := by rw [HX.out.1] at hxl; omega
  have HP := Lib.hid hP
  have HKD : Hid (k = m) := by rw [Hid, ← hm_len HMM.out, hP.cnt]
  have HXR := Lib.hid hxr
  have hp := isP_lo hP.alg.pr
  have hp2 := isP_hi hP.alg.pr
  have hD := hP.alg.dim
  have hS := hP.sz
  have hSS : S * S ≤ 900 := Nat.mul_le_mul hS hS
  have HV := Lib.hid hv
  clear h0 hv hP hxl hxr
  go_enter Try.func20, Try.ntmps20
  have A0_1 := Lib.hid ((cells_new' w #[.int .i64 P, .int .i64 m, .slice (some ⟨a0, oa, none⟩) n n] 29 (w.heap.size) (by simp)).ext ((Ext.refl _).alloc (.cells #[.int .i64 0, .int .i64 0, .int .i64 0, .slice none 0 0] 37)))
  have R_2 := Lib.hid (cells_new' (w.alloc (.cells #[.int .i64 P, .int .i64 m, .slice (some ⟨a0, oa, none⟩) n n] 29)) #[.int .i64 0, .int .i64 0, .int .i64 0, .slice none 0 0] 37 (w.heap.size + 1) (by simp))
  have E_3 := Lib.hid (((Ext.refl w).alloc (.cells #[.int .i64 P, .int .i64 m, .slice (some ⟨a0, oa, none⟩) n n] 29)).alloc (.cells #[.int .i64 0, .int .i64 0, .int .i64 0, .slice none 0 0] 37))
  have lA0 := A0_1.out.1
  have qA00 := A0_1.out.2 0 _ rfl
  have qA01 := A0_1.out.2 1 _ rfl
  have qA02 := A0_1.out.2 2 _ rfl
  try simp only [World.size_alloc] at lA0
  go_wp2_with fail
  refine (isModule_spec (HT.out.ext E_3.out) hm0 (HMM.out.ext E_3.out) hk H0.out).mono ?_
  rintro e w_4 ⟨rfl, h_4⟩
  clear lA0 qA00 qA01 qA02
  have A0_5 := Lib.hid (A0_1.out.ext h_4)
  clear A0_1
  have R_6 := Lib.hid (R_2.out.ext h_4)
  clear R_2
  have E_7 := Lib.hid (E_3.out.trans h_4)
  clear E_3
  have lA0 := A0_5.out.1
  have qA00 := A0_5.out.2 0 _ rfl
  have qA01 := A0_5.out.2 1 _ rfl
  have qA02 := A0_5.out.2 2 _ rfl
  try simp only [World.size_alloc] at lA0
  go_wp2_with fail
  refine (l2Vector_spec P m a0 oa n n m m (some ⟨bx, ox, none⟩) xs _ (HX.out.ext E_7.out) (by unfold maxLen; omega)).mono ?_
  rintro e w_8 ⟨rfl, h_8⟩
  clear lA0 qA00 qA01 qA02
  have A0_9 := Lib.hid (A0_5.out.ext h_8)
  clear A0_5
  have R_10 := Lib.hid (R_6.out.ext h_8)
  clear R_6
  have E_11 := Lib.hid (E_7.out.trans h_8)
  clear E_7
  rw [← HVB.out, HV.out]
  have lw9 := E_11.out.le
  have lr9 := R_10.out.1
  have lA0 := A0_9.out.1
  have qA00 := A0_9.out.2 0 _ rfl
  have qA01 := A0_9.out.2 1 _ rfl
  have qA02 := A0_9.out.2 2 _ rfl
  try simp only [World.size_alloc] at lA0
  go_wp2_with fail
  refine (l10Sum_spec P m S g k bx ox m (.slice (some ⟨a0, oa, none⟩) n n) xs ms _ (HMM.out.ext E_11.out) (HX.out.ext E_11.out) HKD.out HP.out.pos hD hS (fun i hi => HP.out.at_ i hi) (fun i hi => HP.out.len hi) (fun i hi => HP.out.res hi) hp hp2 HXR.out).mono ?_
  rintro e w_12 ⟨b, c, rfl, hb1, hb2, hh, h_12⟩
  clear lA0 qA00 qA01 qA02
  have A0_13 := Lib.hid (A0_9.out.ext h_12)
  clear A0_9
  have R_14 := Lib.hid (R_10.out.ext h_12)
  clear R_10
  have E_15 := Lib.hid (E_11.out.trans h_12)
  clear E_11
  have HH := Lib.hid hh
  clear hh
  have hbw : w.heap.size + 1 + 1 ≤ b := by omega
  clear lw9 lr9
  have lR := R_14.out.1
  have qR0 := R_14.out.2 0 _ rfl
  have qR1 := R_14.out.2 1 _ rfl
  have qR2 := R_14.out.2 2 _ rfl
  have qR3 := R_14.out.2 3 _ rfl
  have tR := R_14.out.3
  try simp only [World.size_alloc] at lR
  go_wp2
  refine bodyPost_ret (v := .tuple #[.agg #[.int .i64 P, .int .i64 S, .int .i64 S, .slice (some ⟨b, 0, none⟩) (S * S) c], .bool true]) (by simp [results, Try.results20, go_sem, qR0, qR1, qR2, qR3]) rfl ⟨_, rfl, ⟨_, _, _, rfl, ?_, by omega⟩, ext4 E_15.out (by omega) _ _ _ _⟩
  exact Own.mono (own4 (HH.out.own (lo := w.heap.size + 1 + 1) (hi := w_12.heap.size) hbw hb2 (smK_length _)) (by omega) _ _ _ _) (by omega) (by simp)
end Go.Proofs.Ytnikfalpjieibaa
