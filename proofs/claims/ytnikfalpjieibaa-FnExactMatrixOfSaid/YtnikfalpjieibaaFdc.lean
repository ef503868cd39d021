/-
  Lists of matrices: DualModule, its closure.
-/
import Derived.Test.YtnikfalpjieibaaMs1
import Derived.Test.YtnikfalpjieibaaMd3
import Derived.Test.YtnikfalpjieibaaFed
import Derived.Test.YtnikfalpjieibaaScale
import Derived.Test.YtnikfalpjieibaaTm
import Derived.Test.YtnikfalpjieibaaCs
namespace Go.Proofs.Ytnikfalpjieibaa
open Go.ChangeShapes Go.WideShapes Go.ChangeAt Go.RowKit
set_option linter.unusedVariables false
set_option linter.unusedSimpArgs false

set_option maxRecDepth 100000 in
set_option maxHeartbeats 3200000 in
theorem scaleMatrix_yes (P R C m : Int) (a : Addr) (n c : Nat) (xs : List Int) (w : World) (h : Reads w (some a) n xs) (hm : n ≤ 1048576) (h1 : mok P R C xs = true) :
    Calls Try.prog 73 #[.agg #[.int .i64 P, .int .i64 R, .int .i64 C, .slice (some a) n c], .int .i64 m] w fun e w' => ∃ b, e = .returned (.agg #[.int .i64 P, .int .i64 R, .int .i64 C, .slice (some ⟨b, 0, none⟩) n n]) ∧ w.heap.size ≤ b ∧ b < w'.heap.size ∧ Has w' b (scaleL P (m % P) xs) ∧ Ext w w' := by
  have HR := Lib.hid h
  have hm1 : n ≤ maxLen := by unfold maxLen; omega
  clear h
  have hl1 := mok_len h1
  have hr1 := mok_res h1
  have hp1 := mok_lo h1
  have hp2 := mok_hi h1
  have hnn : (n : Int) = R * C := by have := HR.out.1; omega
  have HD := Lib.hid (scaleL_length P (m % P) xs)
  have HX := Lib.hid hr1
  have HN := Lib.hid hnn
  clear hl1 hr1 hnn
  go_enter Try.func73, Try.ntmps73
  have A0_1 := Lib.hid ((cells_new' w #[.int .i64 P, .int .i64 R, .int .i64 C, .slice (some a) n c] 37 (w.heap.size) (by simp)).ext ((Ext.refl _).alloc (.cells #[.int .i64 0, .int .i64 0, .int .i64 0, .slice none 0 0] 37)))
  have R_2 := Lib.hid (cells_new' (w.alloc (.cells #[.int .i64 P, .int .i64 R, .int .i64 C, .slice (some a) n c] 37)) #[.int .i64 0, .int .i64 0, .int .i64 0, .slice none 0 0] 37 (w.heap.size + 1) (by simp))
  have E_3 := Lib.hid (((Ext.refl w).alloc (.cells #[.int .i64 P, .int .i64 R, .int .i64 C, .slice (some a) n c] 37)).alloc (.cells #[.int .i64 0, .int .i64 0, .int .i64 0, .slice none 0 0] 37))
  have lA0 := A0_1.out.1
  have qA00 := A0_1.out.2 0 _ rfl
  have qA01 := A0_1.out.2 1 _ rfl
  have qA02 := A0_1.out.2 2 _ rfl
  have qA03 := A0_1.out.2 3 _ rfl
  try simp only [World.size_alloc] at lA0
  go_wp2_with fail
  refine (matrixOk_impl _ _ _ _ _ _ xs _ (HR.out.ext E_3.out) hm1).mono ?_
  rintro e w_4 ⟨rfl, h_4⟩
  clear lA0 qA00 qA01 qA02 qA03
  have A0_5 := Lib.hid (A0_1.out.ext h_4)
  clear A0_1
  have R_6 := Lib.hid (R_2.out.ext h_4)
  clear R_2
  have E_7 := Lib.hid (E_3.out.trans h_4)
  clear E_3
  have HN2 : Hid ((R * C).toNat = n) := by have := HN.out; rw [Hid]; omega
  have g0 : 0 ≤ R * C := by have := HN.out; omega
  have g1 : R * C ≤ 1048576 := by have := HN.out; omega
  have z0 := Int.emod_nonneg m (show P ≠ 0 by omega)
  have z1 := Int.emod_lt_of_pos m (show 0 < P by omega)
  have lA0 := A0_5.out.1
  have qA00 := A0_5.out.2 0 _ rfl
  have qA01 := A0_5.out.2 1 _ rfl
  have qA02 := A0_5.out.2 2 _ rfl
  have qA03 := A0_5.out.2 3 _ rfl
  have lR := R_6.out.1
  have qR0 := R_6.out.2 0 _ rfl
  have qR1 := R_6.out.2 1 _ rfl
  have qR2 := R_6.out.2 2 _ rfl
  have qR3 := R_6.out.2 3 _ rfl
  have tR := R_6.out.3
  try simp only [World.size_alloc] at lA0 lR
  go_wp2_with fail
  go_region_held3 (fun w' => Ext w w' ∧ w.heap.size + 1 ≤ w'.heap.size ∧ ∀ b o, b < w.heap.size + 1 → w'.cell? ⟨b, o, none⟩ = w_4.cell? ⟨b, o, none⟩) (first | (with_reducible exact KeptR.call ‹Ext w _ ∧ w.heap.size + 1 ≤ _ ∧ _› ‹Ext _ _›) | exact ⟨E_7.out, Nat.le_of_lt lR, fun _ _ _ => rfl⟩ | exact ⟨E_7.out.drew, Nat.le_of_lt lR, fun _ _ _ => rfl⟩ | assumption | (with_reducible exact KeptR.set4 ‹Ext w _ ∧ w.heap.size + 1 ≤ _ ∧ _› (Nat.le_succ _) _ _ _ _)) (first
    | (go_at_call 69; refine (zeros_impl _ _ _ _ g0 g1).mono ?_; rintro e w2 ⟨b2, rfl, hb1, hb2, hh2, hE2⟩; rw [HN2.out] at hh2 ⊢)
    | (go_at_call 110; refine (residue_impl _ _ _ hp1 hp2).mono ?_; rintro e w' ⟨rfl, rfl⟩)
    | (go_at_call 82; refine (addMultiple_impl _ _ _ _ _ _ _ _ _ _ (List.replicate n 0) _ _ xs _ (hh2.reads (by simp)) (HR.out.ext (And.left ‹Ext w _ ∧ w.heap.size + 1 ≤ _ ∧ _›)) hm HN.out hp1 hp2 (res_zeros _ _ hp1) HX.out z0 z1).mono ?_; rintro e w3 ⟨b, rfl, hb3, hb4, hh, hE⟩; have c1 : w3.cell? ⟨w.heap.size + 1, 0, none⟩ = some (.int .i64 0) := (hE.cells _ 0 (Nat.lt_of_lt_of_le lR hE2.le)).trans ((hE2.cells _ 0 lR).trans qR0); have c2 : w3.cell? ⟨w.heap.size + 1, 1, none⟩ = some (.int .i64 0) := (hE.cells _ 1 (Nat.lt_of_lt_of_le lR hE2.le)).trans ((hE2.cells _ 1 lR).trans qR1); have c3 : w3.cell? ⟨w.heap.size + 1, 2, none⟩ = some (.int .i64 0) := (hE.cells _ 2 (Nat.lt_of_lt_of_le lR hE2.le)).trans ((hE2.cells _ 2 lR).trans qR2); have c4 : w3.cell? ⟨w.heap.size + 1, 3, none⟩ = some (.slice none 0 0) := (hE.cells _ 3 (Nat.lt_of_lt_of_le lR hE2.le)).trans ((hE2.cells _ 3 lR).trans qR3); have f1 : ∀ j, w3.frozen? ⟨w.heap.size + 1, j, none⟩ = false := fun j => (hE.frees _ j (Nat.lt_of_lt_of_le lR hE2.le)).trans ((hE2.frees _ j lR).trans (tR j))))
  have hx := (‹Ext w _ ∧ w.heap.size + 1 ≤ _ ∧ _› : Ext w _ ∧ w.heap.size + 1 ≤ _ ∧ _).1
  have HH := Lib.hid hh
  have hb5 := Nat.lt_of_lt_of_le (Nat.lt_of_lt_of_le lR hE2.le) hb3
  clear hh
  go_wp2
  refine bodyPost_ret (v := .agg #[.int .i64 P, .int .i64 R, .int .i64 C, .slice (some ⟨b, 0, none⟩) n n]) (by simp [results, Try.results73, go_sem, c1, c2, c3, c4]) rfl ⟨b, rfl, by omega, by simpa using hb4, ?_, hx⟩
  have e1 : addL P (m % P) (List.replicate n 0) xs = scaleL P (m % P) xs := by rw [← HR.out.1]; exact addL_zeros _ _ _
  have hh := HH.out
  rw [e1] at hh
  exact ha4 hh (by omega) _ _ _ _

set_option maxRecDepth 100000 in
set_option maxHeartbeats 3200000 in
theorem dualModule_clo (P : Int) (S k F0 g i : Nat) (ms : List Mat) (w : World) (hf : Cells w F0 [.slice (some ⟨g, 0, none⟩) k k]) (hm : MatsI w g k ms) (hS : S ≤ 30) (hi : i < k) (he : mt ms i = ⟨P, S, S, (mt ms i).d⟩) (hl : (mt ms i).d.length = S * S) (ho : mok P S S (mt ms i).d = true) :
    Calls Try.prog 72 #[.int .i64 i, .pointer (some ⟨F0, 0, none⟩)] w fun e w' => ∃ b, e = .returned (.agg #[.int .i64 P, .int .i64 S, .int .i64 S, .slice (some ⟨b, 0, none⟩) (S * S) (S * S)]) ∧ Own w' w.heap.size w'.heap.size (some ⟨b, 0, none⟩) (S * S) (scaleL P ((-1) % P) (transTo (mt ms i).d S S S)) ∧ Ext w w' := by
  have hdd : S * S ≤ 900 := Nat.mul_le_mul hS hS
  have hp := mok_lo ho
  have hp2 := mok_hi ho
  have hiI : (i : Int) < (k : Int) := by omega
  have HOT : Hid (mok P S S (transTo (mt ms i).d S S S) = true) := mok_true ⟨(mok_iff.1 ho).1, (mok_iff.1 ho).2.1, (mok_iff.1 ho).2.2.1, by rw [transTo_length, Int.natCast_mul], resB_true (transTo_res hp (mok_res ho) S)⟩
  have R0 := Lib.hid (cells_new w #[.int .i64 0, .int .i64 0, .int .i64 0, .slice none 0 0] 37)
  have E0 := Lib.hid ((Ext.refl w).alloc (.cells #[.int .i64 0, .int .i64 0, .int .i64 0, .slice none 0 0] 37))
  have HF := hf.ext E0.out
  have lF := HF.1
  have qF := HF.2 0 _ rfl
  have HM := hm.ext E0.out
  have lG := HM.lt
  obtain ⟨bj, c0, c1, c2, c3, hrd⟩ := HM.cells hi he hl
  have HRD := Lib.hid hrd
  clear hf HF hm HM hrd ho he hl
  go_enter Try.func72, Try.ntmps72
  go_wp2_with fail
  refine (transpose_impl P S S bj 0 (S * S) (S * S) (mt ms i).d _ HRD.out rfl (by omega) (by omega) (by omega) (Nat.le_refl _) (by unfold maxLen; omega)).mono ?_
  rintro e w1 ⟨b1, rfl, hb1, hb1b, k1, h1⟩
  clear lF qF lG c0 c1 c2 c3
  have K1 := Lib.hid k1
  clear k1
  go_wp2_with fail
  refine (scaleMatrix_yes P S S (-1) ⟨b1, 0, none⟩ (S * S) (S * S) (transTo (mt ms i).d S S S) _ (K1.out.reads (transTo_length _ _ _ _)) (by omega) HOT.out).mono ?_
  rintro e w2 ⟨b, rfl, hb2, hb2b, hh, h2⟩
  have X2 := Lib.hid ((E0.out.trans h1).trans h2)
  have M1 := (R0.out.ext h1).ext h2
  have lN := M1.1
  have f0 := M1.2 0 _ rfl
  have f1 := M1.2 1 _ rfl
  have f2 := M1.2 2 _ rfl
  have f3 := M1.2 3 _ rfl
  have tN := M1.3
  have hbw : w.heap.size + 1 ≤ b := by have := (R0.out.ext h1).1; omega
  have HH := Lib.hid hh
  clear M1 h1 h2 hh
  go_wp2
  refine bodyPost_ret (v := .agg #[.int .i64 P, .int .i64 S, .int .i64 S, .slice (some ⟨b, 0, none⟩) (S * S) (S * S)]) (by simp [results, Try.results72, go_sem, f0, f1, f2, f3]) rfl ⟨b, rfl, ?_, ext4 X2.out (Nat.le_refl _) _ _ _ _⟩
  exact (own4 ((HH.out.own (lo := w.heap.size + 1) hbw hb2b (by rw [scaleL_length, transTo_length]))) (by omega) _ _ _ _).mono (by omega) (by simp)
end Go.Proofs.Ytnikfalpjieibaa
