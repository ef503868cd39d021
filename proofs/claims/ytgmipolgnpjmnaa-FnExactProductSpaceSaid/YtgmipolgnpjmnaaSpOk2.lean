/-
  SpaceOk of both texts.
-/
import Derived.Test.YtgmipolgnpjmnaaSpOk
import Derived.Deep.RegionWith
namespace Go.Proofs.Ytgmipolgnpjmnaa
open Go.RowKit
set_option linter.unusedVariables false

noncomputable def spB (P : Int) (R C : Nat) (xs : List Int) : Bool := @decide (IsSp P R C xs) (Classical.propDecidable _)
noncomputable def spaceM (P R C : Int) (xs : List Int) : Bool := mok P R C xs && spB P R.toNat C.toNat xs
theorem rowsB_sp {P : Int} {R C : Nat} {xs : List Int} (hp : IsP P) (hl : xs.length = R * C) (hx : Res xs P) : rowsB R C xs = spB P R C xs := by
  have h := rowsOk_iff hp hl hx
  by_cases e : IsSp P R C xs
  · rw [rowsB_true (h.2 e)]; simp [spB, e]
  · have : ¬ ∀ r, r < R → RowOk R C xs r := fun h2 => e (h.1 h2)
    simp only [rowsB, spB, e, decide_false, decide_eq_false_iff_not]; exact this
theorem drewN_ext {w : World} (m : Nat) : Ext w (w.drewN m) := below_drewN m

set_option maxRecDepth 100000 in
set_option maxHeartbeats 3200000 in
theorem pivotsOf_impl {P R C : Int} {a0 oa n : Nat} {xs : List Int} {w : World}  (h : Reads w (some ⟨a0, oa, none⟩) n xs) (hm : n ≤ 1048576)  :
    Calls Try.prog 148 #[.agg #[.int .i64 P, .int .i64 R, .int .i64 C, .slice (some ⟨a0, oa, none⟩) n n]] w fun e w' => PvPost w R.toNat C.toNat xs (spaceM P R C xs) e w' := by
  have HR := Lib.hid h
  have hm1 : n ≤ maxLen := by unfold maxLen; omega
  clear h
  rcases h1 : mok P R C xs with _ | _
  · have HS : Hid (spaceM P R C xs = false) := by simp [Hid, spaceM, h1]
    go_enter Try.func148, Try.ntmps148
    have A0_1 := Lib.hid (cells_new' w #[.int .i64 P, .int .i64 R, .int .i64 C, .slice (some ⟨a0, oa, none⟩) n n] 36 (w.heap.size) (by simp))
    have E_2 := Lib.hid ((Ext.refl w).alloc (.cells #[.int .i64 P, .int .i64 R, .int .i64 C, .slice (some ⟨a0, oa, none⟩) n n] 36))
    have lA0 := A0_1.out.1
    have qA00 := A0_1.out.2 0 _ rfl
    have qA01 := A0_1.out.2 1 _ rfl
    have qA02 := A0_1.out.2 2 _ rfl
    have qA03 := A0_1.out.2 3 _ rfl
    try simp only [World.size_alloc] at lA0
    go_wp2_with fail
    refine (matrixOk_impl _ _ _ _ _ _ xs _ (HR.out.ext E_2.out) hm1).mono ?_
    rintro e w_3 ⟨rfl, h_3⟩
    clear lA0 qA00 qA01 qA02 qA03
    have A0_4 := Lib.hid (A0_1.out.ext h_3)
    clear A0_1
    have E_5 := Lib.hid (E_2.out.trans h_3)
    clear E_2
    rw [h1]
    go_wp2
    go_ret2
    rw [HS.out]
    exact ⟨none, 0, 0, rfl, fun h => by simp at h, fun _ => ⟨rfl, rfl, rfl⟩, E_5.out⟩
  have hl := mok_len h1
  have hx := mok_res h1
  have hp := mok_lo h1
  have hp2 := mok_hi h1
  have hpr := (mok_iff.1 h1).1
  have hq1 := inB_iff.1 (mok_iff.1 h1).2.1
  have hq2 := inB_iff.1 (mok_iff.1 h1).2.2.1
  have HM1 := Lib.hid h1
  obtain ⟨R, rfl⟩ := Int.eq_ofNat_of_zero_le hq1.1
  obtain ⟨C, rfl⟩ := Int.eq_ofNat_of_zero_le hq2.1
  have hR : R ≤ 40 := by omega
  have hC : C ≤ 40 := by omega
  have hn1 : n = R * C := by rw [HR.out.1, ← Int.natCast_mul] at hl; omega
  have HN := Lib.hid hn1
  have HX := Lib.hid hx
  have HPR := Lib.hid hpr
  have hRb : R ≤ 1048576 := by omega
  have hCb : C ≤ 1048576 := by omega
  clear hl hx hpr hq1 hq2 h1 hn1
  have e := rowsB_sp (isP_iff.1 HPR.out) (show xs.length = R * C by rw [HR.out.1]; exact HN.out) HX.out
  have h := pivotsOf_main P R C _ _ n xs w HR.out HN.out hm hR hC HM1.out HX.out
  rw [e] at h
  have e2 : spaceM P (R : Int) (C : Int) xs = spB P R C xs := by rw [spaceM, HM1.out, Bool.true_and, Int.toNat_natCast, Int.toNat_natCast]
  rw [e2]
  exact h

set_option maxRecDepth 100000 in
set_option maxHeartbeats 3200000 in
theorem spaceOk_impl {P R C : Int} {a0 oa n : Nat} {xs : List Int} {w : World} {i : Bool} (h : Reads w (some ⟨a0, oa, none⟩) n xs) (hm : n ≤ 1048576) (hM : spaceM P R C xs = i) :
    Calls Try.prog 116 #[.agg #[.int .i64 P, .int .i64 R, .int .i64 C, .slice (some ⟨a0, oa, none⟩) n n]] w fun e w' => e = .returned (.bool i) ∧ Ext w w' := by
  have HR := Lib.hid h
  have hm1 : n ≤ maxLen := by unfold maxLen; omega
  clear h
  have HI := Lib.hid hM
  clear hM
  go_enter Try.func116, Try.ntmps116
  have A0_1 := Lib.hid (cells_new' w #[.int .i64 P, .int .i64 R, .int .i64 C, .slice (some ⟨a0, oa, none⟩) n n] 36 (w.heap.size) (by simp))
  have E_2 := Lib.hid ((Ext.refl w).alloc (.cells #[.int .i64 P, .int .i64 R, .int .i64 C, .slice (some ⟨a0, oa, none⟩) n n] 36))
  have lA0 := A0_1.out.1
  have qA00 := A0_1.out.2 0 _ rfl
  have qA01 := A0_1.out.2 1 _ rfl
  have qA02 := A0_1.out.2 2 _ rfl
  have qA03 := A0_1.out.2 3 _ rfl
  try simp only [World.size_alloc] at lA0
  go_wp2_with fail
  refine (pivotsOf_impl (HR.out.ext E_2.out) hm).mono ?_
  rintro e w_3 ⟨pa, pm, pc, rfl, _, _, h_3⟩
  clear lA0 qA00 qA01 qA02 qA03
  have A0_4 := Lib.hid (A0_1.out.ext h_3)
  clear A0_1
  have E_5 := Lib.hid (E_2.out.trans h_3)
  clear E_2
  go_wp2
  go_ret
  exact ⟨ret_bool HI.out, E_5.out⟩

noncomputable def eqSB (R K : Nat) (xs ys : List Int) : Bool := decide (R = K) && sameB xs ys
set_option maxRecDepth 100000 in
set_option maxHeartbeats 3200000 in
theorem l1Equal_spec (P C : Int) (R K n n' c c' : Nat) (a a' : Option Addr) (xs ys : List Int) (w : World) (hr : Reads w a n xs) (hr' : Reads w a' n' ys) (hm : n ≤ 1048576) (hm' : n' ≤ 1048576) :
    Calls Try.prog 147 #[.agg #[.int .i64 P, .int .i64 R, .int .i64 C, .slice a n c], .agg #[.int .i64 P, .int .i64 K, .int .i64 C, .slice a' n' c']] w fun e w' => e = .returned (.bool (eqSB R K xs ys)) ∧ Ext w w' := by
  have HR := Lib.hid hr
  have HR' := Lib.hid hr'
  clear hr hr'
  by_cases hRK : R = K
  case neg =>
    have hb : ((R : Int) == (K : Int)) = false := by simp; omega
    have HF : Hid (eqSB R K xs ys = false) := by simp [Hid, eqSB, hRK]
    clear hRK
    go_enter Try.func147, Try.ntmps147
    have A0_1 := Lib.hid ((cells_new' w #[.int .i64 P, .int .i64 R, .int .i64 C, .slice a n c] 36 (w.heap.size) (by simp)).ext ((Ext.refl _).alloc (.cells #[.int .i64 P, .int .i64 K, .int .i64 C, .slice a' n' c'] 36)))
    have A1_2 := Lib.hid (cells_new' (w.alloc (.cells #[.int .i64 P, .int .i64 R, .int .i64 C, .slice a n c] 36)) #[.int .i64 P, .int .i64 K, .int .i64 C, .slice a' n' c'] 36 (w.heap.size + 1) (by simp))
    have E_3 := Lib.hid (((Ext.refl w).alloc (.cells #[.int .i64 P, .int .i64 R, .int .i64 C, .slice a n c] 36)).alloc (.cells #[.int .i64 P, .int .i64 K, .int .i64 C, .slice a' n' c'] 36))
    have lA0 := A0_1.out.1
    have qA00 := A0_1.out.2 0 _ rfl
    have qA01 := A0_1.out.2 1 _ rfl
    have qA02 := A0_1.out.2 2 _ rfl
    have qA03 := A0_1.out.2 3 _ rfl
    have lA1 := A1_2.out.1
    have qA10 := A1_2.out.2 0 _ rfl
    have qA11 := A1_2.out.2 1 _ rfl
    have qA12 := A1_2.out.2 2 _ rfl
    have qA13 := A1_2.out.2 3 _ rfl
    try simp only [World.size_alloc] at lA0 lA1
    go_wp2
    go_ret
    exact ⟨ret_bool HF.out.symm, E_3.out⟩
  subst hRK
  have HF : Hid (eqSB R R xs ys = sameB xs ys) := by simp [Hid, eqSB]
  go_enter Try.func147, Try.ntmps147
  have A0_1 := Lib.hid ((cells_new' w #[.int .i64 P, .int .i64 R, .int .i64 C, .slice a n c] 36 (w.heap.size) (by simp)).ext ((Ext.refl _).alloc (.cells #[.int .i64 P, .int .i64 R, .int .i64 C, .slice a' n' c'] 36)))
  have A1_2 := Lib.hid (cells_new' (w.alloc (.cells #[.int .i64 P, .int .i64 R, .int .i64 C, .slice a n c] 36)) #[.int .i64 P, .int .i64 R, .int .i64 C, .slice a' n' c'] 36 (w.heap.size + 1) (by simp))
  have E_3 := Lib.hid (((Ext.refl w).alloc (.cells #[.int .i64 P, .int .i64 R, .int .i64 C, .slice a n c] 36)).alloc (.cells #[.int .i64 P, .int .i64 R, .int .i64 C, .slice a' n' c'] 36))
  have lA0 := A0_1.out.1
  have qA00 := A0_1.out.2 0 _ rfl
  have qA01 := A0_1.out.2 1 _ rfl
  have qA02 := A0_1.out.2 2 _ rfl
  have qA03 := A0_1.out.2 3 _ rfl
  have lA1 := A1_2.out.1
  have qA10 := A1_2.out.2 0 _ rfl
  have qA11 := A1_2.out.2 1 _ rfl
  have qA12 := A1_2.out.2 2 _ rfl
  have qA13 := A1_2.out.2 3 _ rfl
  try simp only [World.size_alloc] at lA0 lA1
  go_wp2_with fail
  refine (l1Same_spec _ _ _ _ _ _ xs ys _ (HR.out.ext E_3.out) (HR'.out.ext E_3.out) hm hm').mono ?_
  rintro e w_4 ⟨rfl, mq, rfl⟩
  have E2 := Lib.hid (E_3.out.trans (drewN_ext mq))
  generalize sameB xs ys = bq at HF ⊢
  go_wp2
  go_ret
  exact ⟨ret_bool HF.out.symm, E2.out⟩

set_option maxRecDepth 100000 in
set_option maxHeartbeats 6400000 in
theorem spaceOk_spec {P R C : Int} {a : Addr} {n c : Nat} {xs : List Int} {w : World} {i : Bool} (h : Reads w (some a) n xs) (hm : n ≤ 1048576) (hM : spaceM P R C xs = i) :
    Calls Try.prog 113 #[.agg #[.int .i64 P, .int .i64 R, .int .i64 C, .slice (some a) n c]] w fun e w' => e = .returned (.bool i) ∧ Ext w w' := by
  have HR := Lib.hid h
  have hm1 : n ≤ maxLen := by unfold maxLen; omega
  clear h
  subst hM
  rcases h1 : mok P R C xs with _ | _
  · have HS : Hid (spaceM P R C xs = false) := by simp [Hid, spaceM, h1]
    go_enter Try.func113, Try.ntmps113
    have A0_1 := Lib.hid (cells_new' w #[.int .i64 P, .int .i64 R, .int .i64 C, .slice (some a) n c] 36 (w.heap.size) (by simp))
    have E_2 := Lib.hid ((Ext.refl w).alloc (.cells #[.int .i64 P, .int .i64 R, .int .i64 C, .slice (some a) n c] 36))
    have HMK : Hid (∀ w1, Ext (w.alloc (.cells #[.int .i64 P, .int .i64 R, .int .i64 C, .slice (some a) n c] 36)) w1 → Calls Try.prog 119 #[.agg #[.int .i64 P, .int .i64 R, .int .i64 C, .slice (some a) n c]] w1 fun e w' => e = .returned (.bool false) ∧ Ext w1 w') := fun w1 hE => by have := matrixOk_spec P R C _ n c xs w1 (HR.out.ext (E_2.out.trans hE)) hm1; rw [h1] at this; exact this
    have lA0 := A0_1.out.1
    have qA00 := A0_1.out.2 0 _ rfl
    have qA01 := A0_1.out.2 1 _ rfl
    have qA02 := A0_1.out.2 2 _ rfl
    have qA03 := A0_1.out.2 3 _ rfl
    try simp only [World.size_alloc] at lA0
    go_wp2_with fail
    go_region_with ((go_at_call 119; refine (HMK.out _ (Ext.refl _).drew).mono ?_; rintro e w8 ⟨rfl, h8⟩))
    all_goals
      have E2 := Lib.hid (E_2.out.trans ((Ext.refl _).drew.trans h8))
      go_wp2
      refine bodyPost_ret (v := .bool false) (by simp [results, Try.results113, go_sem]) rfl ⟨ret_bool HS.out.symm, E2.out⟩
  have hl := mok_len h1
  have hx := mok_res h1
  have hp := mok_lo h1
  have hp2 := mok_hi h1
  have hpr := (mok_iff.1 h1).1
  have hq1 := inB_iff.1 (mok_iff.1 h1).2.1
  have hq2 := inB_iff.1 (mok_iff.1 h1).2.2.1
  have HM1 := Lib.hid h1
  obtain ⟨R, rfl⟩ := Int.eq_ofNat_of_zero_le hq1.1
  obtain ⟨C, rfl⟩ := Int.eq_ofNat_of_zero_le hq2.1
  have hR : R ≤ 40 := by omega
  have hC : C ≤ 40 := by omega
  have hn1 : n = R * C := by rw [HR.out.1, ← Int.natCast_mul] at hl; omega
  have HN := Lib.hid hn1
  have HX := Lib.hid hx
  have HPR := Lib.hid hpr
  have hRb : R ≤ 1048576 := by omega
  have hCb : C ≤ 1048576 := by omega
  clear hl hx hpr hq1 hq2 h1 hn1
  go_enter Try.func113, Try.ntmps113
  have A0_1 := Lib.hid (cells_new' w #[.int .i64 P, .int .i64 R, .int .i64 C, .slice (some a) n c] 36 (w.heap.size) (by simp))
  have E_2 := Lib.hid ((Ext.refl w).alloc (.cells #[.int .i64 P, .int .i64 R, .int .i64 C, .slice (some a) n c] 36))
  have HMK : Hid (∀ w1, Ext (w.alloc (.cells #[.int .i64 P, .int .i64 R, .int .i64 C, .slice (some a) n c] 36)) w1 → Calls Try.prog 119 #[.agg #[.int .i64 P, .int .i64 R, .int .i64 C, .slice (some a) n c]] w1 fun e w' => e = .returned (.bool true) ∧ Ext w1 w') := fun w1 hE => by have := matrixOk_spec P R C _ n c xs w1 (HR.out.ext (E_2.out.trans hE)) hm1; rw [HM1.out] at this; exact this
  have HSP : Hid (∀ w1, Ext (w.alloc (.cells #[.int .i64 P, .int .i64 R, .int .i64 C, .slice (some a) n c] 36)) w1 → Calls Try.prog 114 #[.agg #[.int .i64 P, .int .i64 R, .int .i64 C, .slice (some a) n c]] w1 fun e w' => ∃ b c', e = .returned (.agg #[.int .i64 P, .int .i64 ((redM P R C xs).pv.length : Nat), .int .i64 C, .slice (some ⟨b, 0, none⟩) ((redM P R C xs).pv.length * C) c']) ∧ w1.heap.size ≤ b ∧ b < w'.heap.size ∧ Has w' b (spanL P R C xs) ∧ Ext w1 w' ∧ (redM P R C xs).pv.length * C ≤ c') := fun w1 hE =>
    l1Span_spec P R C n c _ xs w1 (HR.out.ext (E_2.out.trans hE)) HN.out hm hRb hCb HPR.out HX.out (by simp)
  have HSL : Hid ((spanL P R C xs).length = (redM P R C xs).pv.length * C) := spanL_length (by rw [HR.out.1]; exact HN.out)
  have hK := spanK_le (P := P) (xs := xs) HN.out
  have HF : Hid (spaceM P R C xs = eqSB R (redM P R C xs).pv.length xs (spanL P R C xs)) := by
    rw [Hid, spaceM, HM1.out, Bool.true_and, Int.toNat_natCast, Int.toNat_natCast]
    by_cases hs : IsSp P R C xs
    · have e1 : decide (R = (redM P R C xs).pv.length) = true := decide_eq_true hs.1.symm
      have e2 : decide (xs = spanL P R C xs) = true := decide_eq_true hs.2.symm
      rw [show spB P R C xs = true by simp [spB, hs], eqSB, sameB, e1, e2]
      rfl
    · have h2 : ¬ (R = (redM P R C xs).pv.length ∧ xs = spanL P R C xs) := fun h => hs ⟨h.1.symm, h.2.symm⟩
      simp only [spB, eqSB, sameB, hs, decide_false]
      rw [← Bool.decide_and, decide_eq_false h2]
  generalize spaceM P R C xs = sv at HF
  have lA0 := A0_1.out.1
  have qA00 := A0_1.out.2 0 _ rfl
  have qA01 := A0_1.out.2 1 _ rfl
  have qA02 := A0_1.out.2 2 _ rfl
  have qA03 := A0_1.out.2 3 _ rfl
  try simp only [World.size_alloc] at lA0
  go_wp2_with fail
  have lA1 : w.heap.size < ((w.alloc (.cells #[.int .i64 P, .int .i64 R, .int .i64 C, .slice (some a) n c] 36))).drew.heap.size := by simp
  have lA2 : w.heap.size < ((w.alloc (.cells #[.int .i64 P, .int .i64 R, .int .i64 C, .slice (some a) n c] 36))).heap.size := by simp
  go_region_with (first
    | (go_at_call 119; refine (HMK.out _ (Ext.refl _).drew).mono ?_; rintro e w8 ⟨rfl, h8⟩; have k8 := (Ext.refl (w.alloc (.cells #[.int .i64 P, .int .i64 R, .int .i64 C, .slice (some a) n c] 36))).drew.trans h8; have a0 : w8.cell? ⟨w.heap.size, 0, none⟩ = some (.int .i64 P) := (k8.cells _ 0 lA2).trans qA00; have a1 : w8.cell? ⟨w.heap.size, 1, none⟩ = some (.int .i64 R) := (k8.cells _ 1 lA2).trans qA01; have a2 : w8.cell? ⟨w.heap.size, 2, none⟩ = some (.int .i64 C) := (k8.cells _ 2 lA2).trans qA02; have a3 : w8.cell? ⟨w.heap.size, 3, none⟩ = some (.slice (some a) n c) := (k8.cells _ 3 lA2).trans qA03; have l8 := Nat.lt_of_lt_of_le lA1 h8.le)
    | (go_at_call 114; refine (HSP.out _ k8).mono ?_; rintro e w9 ⟨b, c9, rfl, hb1, hb2, hh, h9, hcc⟩; have k9 := k8.trans h9; have b0 : w9.cell? ⟨w.heap.size, 0, none⟩ = some (.int .i64 P) := (k9.cells _ 0 lA2).trans qA00; have b1 : w9.cell? ⟨w.heap.size, 1, none⟩ = some (.int .i64 R) := (k9.cells _ 1 lA2).trans qA01; have b2 : w9.cell? ⟨w.heap.size, 2, none⟩ = some (.int .i64 C) := (k9.cells _ 2 lA2).trans qA02; have b3 : w9.cell? ⟨w.heap.size, 3, none⟩ = some (.slice (some a) n c) := (k9.cells _ 3 lA2).trans qA03; have l9 := Nat.lt_of_lt_of_le l8 h9.le)
    | (go_at_call 147; refine (l1Equal_spec P C R (redM P R C xs).pv.length n _ c _ _ _ xs (spanL P R C xs) _ (HR.out.ext (E_2.out.trans k9)) (hh.reads HSL.out) hm (by omega)).mono ?_; rintro e w10 ⟨rfl, h10⟩))
  all_goals
    have E2 := Lib.hid (E_2.out.trans (k9.trans h10))
    generalize eqSB R (redM P R C xs).pv.length xs (spanL P R C xs) = bq at HF ⊢
    go_wp2
    go_ret
    exact ⟨ret_bool HF.out.symm, E2.out⟩
end Go.Proofs.Ytgmipolgnpjmnaa
