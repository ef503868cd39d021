/-
  Extensions of the program.
-/
import Derived.Test.YtapaopapgnfdkaaGrt
import Derived.Test.YtapaopapgnfdkaaFrmI
import Derived.Test.YtapaopapgnfdkaaFrmS
import Derived.RegionTactic
namespace Go.Proofs.Ytapaopapgnfdkaa
open Go.ChangeShapes Go.WideShapes Go.ChangeAt Go.RowKit
set_option linter.unusedVariables false
set_option linter.unusedSimpArgs false

noncomputable def semM (P D : Int) (l : List Int) (P1 R1 C1 : Int) (ds : List Int) : Alg × Bool :=
  if derF P D l P1 R1 C1 ds && decide (D + 1 ≤ 28) then (⟨P, D + 1, smJ P D.toNat ds (grT D.toNat l) D.toNat⟩, true) else (noAlg, false)

set_option maxRecDepth 100000 in
set_option maxHeartbeats 6400000 in
theorem semidirectBy_impl {P D : Int} {a0 oa n : Nat} {l : List Int} {P1 R1 C1 : Int} {f0 fo nf : Nat} {ds : List Int} {w : World} {p d : Int} {xs : List Int} {ok : Bool} (hT : Reads w (some ⟨a0, oa, none⟩) n l) (hm0 : n ≤ 1048576) (hX : Reads w (some ⟨f0, fo, none⟩) nf ds) (hm1 : nf ≤ 1048576) (hM : semM P D l P1 R1 C1 ds = (⟨p, d, xs⟩, ok)) :
    Calls Try.prog 27 #[.agg #[.int .i64 P, .int .i64 D, .slice (some ⟨a0, oa, none⟩) n n], .agg #[.int .i64 P1, .int .i64 R1, .int .i64 C1, .slice (some ⟨f0, fo, none⟩) nf nf]] w fun e w' => ∃ v, e = .returned (.tuple #[v, .bool ok]) ∧ Ralg w w' v p d xs ∧ Ext w w' := by
  have HT := Lib.hid hT
  have HX := Lib.hid hX
  by_cases h3 : D + 1 ≤ 28
  case neg =>
    have h4 : decide (D + 1 ≤ 28) = false := by simpa using h3
    simp only [semM, h4, noAlg, Bool.false_and, Bool.and_false, Bool.false_eq_true, if_false, Prod.mk.injEq, Alg.mk.injEq] at hM
    obtain ⟨⟨rfl, rfl, rfl⟩, rfl⟩ := hM
    have h5 : (28 : Int) ≤ D := by omega
    clear hT hX h4 h3
    go_enter Try.func27, Try.ntmps27
    have A0_1 := Lib.hid (((cells_new' w #[.int .i64 P, .int .i64 D, .slice (some ⟨a0, oa, none⟩) n n] 28 (w.heap.size) (by simp)).ext ((Ext.refl _).alloc (.cells #[.int .i64 P1, .int .i64 R1, .int .i64 C1, .slice (some ⟨f0, fo, none⟩) nf nf] 40))).ext ((Ext.refl _).alloc (.cells #[.int .i64 0, .int .i64 0, .slice none 0 0] 28)))
    have A1_2 := Lib.hid ((cells_new' (w.alloc (.cells #[.int .i64 P, .int .i64 D, .slice (some ⟨a0, oa, none⟩) n n] 28)) #[.int .i64 P1, .int .i64 R1, .int .i64 C1, .slice (some ⟨f0, fo, none⟩) nf nf] 40 (w.heap.size + 1) (by simp)).ext ((Ext.refl _).alloc (.cells #[.int .i64 0, .int .i64 0, .slice none 0 0] 28)))
    have R_3 := Lib.hid (cells_new' ((w.alloc (.cells #[.int .i64 P, .int .i64 D, .slice (some ⟨a0, oa, none⟩) n n] 28)).alloc (.cells #[.int .i64 P1, .int .i64 R1, .int .i64 C1, .slice (some ⟨f0, fo, none⟩) nf nf] 40)) #[.int .i64 0, .int .i64 0, .slice none 0 0] 28 (w.heap.size + 1 + 1) (by simp))
    have E_4 := Lib.hid ((((Ext.refl w).alloc (.cells #[.int .i64 P, .int .i64 D, .slice (some ⟨a0, oa, none⟩) n n] 28)).alloc (.cells #[.int .i64 P1, .int .i64 R1, .int .i64 C1, .slice (some ⟨f0, fo, none⟩) nf nf] 40)).alloc (.cells #[.int .i64 0, .int .i64 0, .slice none 0 0] 28))
    have lA0 := A0_1.out.1
    have qA00 := A0_1.out.2 0 _ rfl
    have qA01 := A0_1.out.2 1 _ rfl
    have qA02 := A0_1.out.2 2 _ rfl
    have lA1 := A1_2.out.1
    have qA10 := A1_2.out.2 0 _ rfl
    have qA11 := A1_2.out.2 1 _ rfl
    have qA12 := A1_2.out.2 2 _ rfl
    have qA13 := A1_2.out.2 3 _ rfl
    try simp only [World.size_alloc] at lA0 lA1
    have r0 := R_3.out.2 0 _ rfl
    have r1 := R_3.out.2 1 _ rfl
    have r2 := R_3.out.2 2 _ rfl
    have tR := R_3.out.3
    have lR := R_3.out.1
    go_wp2
    refine bodyPost_ret (v := .tuple #[.agg #[.int .i64 0, .int .i64 0, .slice none 0 0], .bool false]) (by simp [results, Try.results27, go_sem, r0, r1, r2]) rfl ⟨_, rfl, ⟨_, _, _, rfl, own_nil _ _ _, by omega⟩, ?_⟩
    first
      | (with_reducible exact ext3 E_4.out (by omega) _ _ _)
      | (with_reducible repeat (first | exact Ext.refl _ | refine Ext.alloc ?_ _))
  rcases h1 : derF P D l P1 R1 C1 ds with _ | _
  · simp only [semM, h1, noAlg, Bool.false_and, Bool.and_false, Bool.false_eq_true, if_false, Prod.mk.injEq, Alg.mk.injEq] at hM
    obtain ⟨⟨rfl, rfl, rfl⟩, rfl⟩ := hM
    have H1 := Lib.hid h1
    have h5 : ¬ (28 : Int) ≤ D := by omega
    clear h1 hT hX
    go_enter Try.func27, Try.ntmps27
    have A0_1 := Lib.hid (((cells_new' w #[.int .i64 P, .int .i64 D, .slice (some ⟨a0, oa, none⟩) n n] 28 (w.heap.size) (by simp)).ext ((Ext.refl _).alloc (.cells #[.int .i64 P1, .int .i64 R1, .int .i64 C1, .slice (some ⟨f0, fo, none⟩) nf nf] 40))).ext ((Ext.refl _).alloc (.cells #[.int .i64 0, .int .i64 0, .slice none 0 0] 28)))
    have A1_2 := Lib.hid ((cells_new' (w.alloc (.cells #[.int .i64 P, .int .i64 D, .slice (some ⟨a0, oa, none⟩) n n] 28)) #[.int .i64 P1, .int .i64 R1, .int .i64 C1, .slice (some ⟨f0, fo, none⟩) nf nf] 40 (w.heap.size + 1) (by simp)).ext ((Ext.refl _).alloc (.cells #[.int .i64 0, .int .i64 0, .slice none 0 0] 28)))
    have R_3 := Lib.hid (cells_new' ((w.alloc (.cells #[.int .i64 P, .int .i64 D, .slice (some ⟨a0, oa, none⟩) n n] 28)).alloc (.cells #[.int .i64 P1, .int .i64 R1, .int .i64 C1, .slice (some ⟨f0, fo, none⟩) nf nf] 40)) #[.int .i64 0, .int .i64 0, .slice none 0 0] 28 (w.heap.size + 1 + 1) (by simp))
    have E_4 := Lib.hid ((((Ext.refl w).alloc (.cells #[.int .i64 P, .int .i64 D, .slice (some ⟨a0, oa, none⟩) n n] 28)).alloc (.cells #[.int .i64 P1, .int .i64 R1, .int .i64 C1, .slice (some ⟨f0, fo, none⟩) nf nf] 40)).alloc (.cells #[.int .i64 0, .int .i64 0, .slice none 0 0] 28))
    have lA0 := A0_1.out.1
    have qA00 := A0_1.out.2 0 _ rfl
    have qA01 := A0_1.out.2 1 _ rfl
    have qA02 := A0_1.out.2 2 _ rfl
    have lA1 := A1_2.out.1
    have qA10 := A1_2.out.2 0 _ rfl
    have qA11 := A1_2.out.2 1 _ rfl
    have qA12 := A1_2.out.2 2 _ rfl
    have qA13 := A1_2.out.2 3 _ rfl
    try simp only [World.size_alloc] at lA0 lA1
    go_wp2_with fail
    refine (isDerivation_impl (HT.out.ext E_4.out) hm0 (HX.out.ext E_4.out) hm1 H1.out).mono ?_
    rintro e w_5 ⟨rfl, h_5⟩
    clear lA0 qA00 qA01 qA02 lA1 qA10 qA11 qA12 qA13
    have A0_6 := Lib.hid (A0_1.out.ext h_5)
    clear A0_1
    have A1_7 := Lib.hid (A1_2.out.ext h_5)
    clear A1_2
    have R_8 := Lib.hid (R_3.out.ext h_5)
    clear R_3
    have E_9 := Lib.hid (E_4.out.trans h_5)
    clear E_4
    have lA0 := A0_6.out.1
    have qA00 := A0_6.out.2 0 _ rfl
    have qA01 := A0_6.out.2 1 _ rfl
    have qA02 := A0_6.out.2 2 _ rfl
    have lA1 := A1_7.out.1
    have qA10 := A1_7.out.2 0 _ rfl
    have qA11 := A1_7.out.2 1 _ rfl
    have qA12 := A1_7.out.2 2 _ rfl
    have qA13 := A1_7.out.2 3 _ rfl
    try simp only [World.size_alloc] at lA0 lA1
    have r0 := R_8.out.2 0 _ rfl
    have r1 := R_8.out.2 1 _ rfl
    have r2 := R_8.out.2 2 _ rfl
    have tR := R_8.out.3
    have lR := R_8.out.1
    go_wp2
    refine bodyPost_ret (v := .tuple #[.agg #[.int .i64 0, .int .i64 0, .slice none 0 0], .bool false]) (by simp [results, Try.results27, go_sem, r0, r1, r2]) rfl ⟨_, rfl, ⟨_, _, _, rfl, own_nil _ _ _, by omega⟩, ?_⟩
    first
      | (with_reducible exact ext3 E_9.out (by omega) _ _ _)
      | (with_reducible repeat (first | exact Ext.refl _ | refine Ext.alloc ?_ _))
  have H1 := Lib.hid h1
  have hz0 : algB P D l = true := by simp only [derF, Bool.and_eq_true] at h1; exact h1.1
  obtain ⟨D, rfl, hA⟩ := algB_parts hz0 hT.1
  have h5 : ¬ (28 : Int) ≤ (D : Int) := by omega
  have hz1 : formB P D P1 R1 C1 ds = true := by simp only [derF, Bool.and_eq_true] at h1; exact h1.2.1
  have h4 : decide ((D : Int) + 1 ≤ 28) = true := by simpa using h3
  simp only [semM, h1, h4, Bool.and_self, if_true, Prod.mk.injEq, Alg.mk.injEq] at hM
  obtain ⟨⟨rfl, rfl, rfl⟩, rfl⟩ := hM
  obtain ⟨rfl, rfl, rfl, hnf, hx1⟩ := formB_parts hz1 hX.1
  simp only [Int.toNat_natCast]
  have hD : D + 1 ≤ 28 := by omega
  have h27 : D * D ≤ 784 := Nat.mul_le_mul (show D ≤ 28 by omega) (show D ≤ 28 by omega)
  have hm28 := cube28 hD
  have hp := isP_lo hA.pr
  have hp2 := isP_hi hA.pr
  have HNF := Lib.hid hnf
  have HX1 := Lib.hid hx1
  have hTL : ∀ k, (smJ P1 D ds (grT D l) k).length = ((D + 1) * (D + 1) * (D + 1)) := fun k => by rw [smJ_length, grT_length]
  have HTL := Lib.hid hTL
  have HDL : Hid (ds.length = D * D) := by rw [Hid, hX.1, hnf]
  have HOM : Hid (∀ w1, Ext w w1 → Calls Try.prog 76 #[.agg #[.int .i64 P1, .int .i64 D, .slice (some ⟨a0, oa, none⟩) n n]] w1 fun e w' => ∃ B b, e = .returned (.pointer (some ⟨B, 0, none⟩)) ∧ Cells w' B [.int .i64 P1, .int .i64 ((D + 1 : Nat) : Int), .slice (some ⟨b, 0, none⟩) ((D + 1) * (D + 1) * (D + 1)) ((D + 1) * (D + 1) * (D + 1))] ∧ w1.heap.size ≤ b ∧ b < w'.heap.size ∧ Has w' b (smJ P1 D ds (grT D l) 0) ∧ Ext w1 w' ∧ w1.heap.size ≤ B ∧ B ≠ b) := fun w1 h => oneMore_impl P1 D a0 oa n l w1 (hT.ext h) hA.len hD
  have hfb : 0 < nf → f0 < w.heap.size := fun h => by
    rcases hX.2 with h2 | ⟨b3, o3, h2, hb3, _⟩
    · omega
    · simp only [Option.some.injEq, Addr.mk.injEq, and_true] at h2
      omega
  have HFB := Lib.hid hfb
  clear hT hX hA h1 hz0 hz1 hnf hx1 hTL hfb h4 h3
  go_enter Try.func27, Try.ntmps27
  have A0_1 := Lib.hid (((cells_new' w #[.int .i64 P1, .int .i64 D, .slice (some ⟨a0, oa, none⟩) n n] 28 (w.heap.size) (by simp)).ext ((Ext.refl _).alloc (.cells #[.int .i64 P1, .int .i64 D, .int .i64 D, .slice (some ⟨f0, fo, none⟩) nf nf] 40))).ext ((Ext.refl _).alloc (.cells #[.int .i64 0, .int .i64 0, .slice none 0 0] 28)))
  have A1_2 := Lib.hid ((cells_new' (w.alloc (.cells #[.int .i64 P1, .int .i64 D, .slice (some ⟨a0, oa, none⟩) n n] 28)) #[.int .i64 P1, .int .i64 D, .int .i64 D, .slice (some ⟨f0, fo, none⟩) nf nf] 40 (w.heap.size + 1) (by simp)).ext ((Ext.refl _).alloc (.cells #[.int .i64 0, .int .i64 0, .slice none 0 0] 28)))
  have R_3 := Lib.hid (cells_new' ((w.alloc (.cells #[.int .i64 P1, .int .i64 D, .slice (some ⟨a0, oa, none⟩) n n] 28)).alloc (.cells #[.int .i64 P1, .int .i64 D, .int .i64 D, .slice (some ⟨f0, fo, none⟩) nf nf] 40)) #[.int .i64 0, .int .i64 0, .slice none 0 0] 28 (w.heap.size + 1 + 1) (by simp))
  have E_4 := Lib.hid ((((Ext.refl w).alloc (.cells #[.int .i64 P1, .int .i64 D, .slice (some ⟨a0, oa, none⟩) n n] 28)).alloc (.cells #[.int .i64 P1, .int .i64 D, .int .i64 D, .slice (some ⟨f0, fo, none⟩) nf nf] 40)).alloc (.cells #[.int .i64 0, .int .i64 0, .slice none 0 0] 28))
  have lA0 := A0_1.out.1
  have qA00 := A0_1.out.2 0 _ rfl
  have qA01 := A0_1.out.2 1 _ rfl
  have qA02 := A0_1.out.2 2 _ rfl
  have lA1 := A1_2.out.1
  have qA10 := A1_2.out.2 0 _ rfl
  have qA11 := A1_2.out.2 1 _ rfl
  have qA12 := A1_2.out.2 2 _ rfl
  have qA13 := A1_2.out.2 3 _ rfl
  try simp only [World.size_alloc] at lA0 lA1
  go_wp2_with fail
  refine (isDerivation_impl (HT.out.ext E_4.out) hm0 (HX.out.ext E_4.out) hm1 H1.out).mono ?_
  rintro e w_5 ⟨rfl, h_5⟩
  clear lA0 qA00 qA01 qA02 lA1 qA10 qA11 qA12 qA13
  have A0_6 := Lib.hid (A0_1.out.ext h_5)
  clear A0_1
  have A1_7 := Lib.hid (A1_2.out.ext h_5)
  clear A1_2
  have R_8 := Lib.hid (R_3.out.ext h_5)
  clear R_3
  have E_9 := Lib.hid (E_4.out.trans h_5)
  clear E_4
  have lA0 := A0_6.out.1
  have qA00 := A0_6.out.2 0 _ rfl
  have qA01 := A0_6.out.2 1 _ rfl
  have qA02 := A0_6.out.2 2 _ rfl
  have lA1 := A1_7.out.1
  have qA10 := A1_7.out.2 0 _ rfl
  have qA11 := A1_7.out.2 1 _ rfl
  have qA12 := A1_7.out.2 2 _ rfl
  have qA13 := A1_7.out.2 3 _ rfl
  try simp only [World.size_alloc] at lA0 lA1
  go_wp2_with fail
  refine (HOM.out _ E_9.out).mono ?_
  rintro e w_10 ⟨BL, b, rfl, hcl, hbl, hbl2, hh, h_10, hBl, hBn⟩
  clear lA0 qA00 qA01 qA02 lA1 qA10 qA11 qA12 qA13
  have hszw := E_9.out.le
  have lRx := R_8.out.1
  have A0_11 := Lib.hid (A0_6.out.ext h_10)
  clear A0_6
  have A1_12 := Lib.hid (A1_7.out.ext h_10)
  clear A1_7
  have R_13 := Lib.hid (R_8.out.ext h_10)
  clear R_8
  have E_14 := Lib.hid (E_9.out.trans h_10)
  clear E_9
  have C_15 := Lib.hid hcl
  have H0 := Lib.hid hh
  clear hcl hh
  generalize hW : w_10 = W at *
  have hfr := E_14.out
  have HXW := Lib.hid (HX.out.ext hfr)
  have HWB : Hid (w.heap.size + 1 + 1 < b ∧ BL ≠ b ∧ w.heap.size + 1 + 1 < W.heap.size ∧ w.heap.size + 1 + 1 < BL) := ⟨by omega, hBn, by omega, by omega⟩
  clear hW hfr h_10 hbl hBl hBn hszw lRx
  have G0 : Hid (W.grownBy W (some b)) := grownBy_refl _ _
  have HK : Hid (∀ wr, W.grownBy wr (some b) → Cells wr w.heap.size [.int .i64 P1, .int .i64 D, .slice (some ⟨a0, oa, none⟩) n n] ∧ Cells wr (w.heap.size + 1) [.int .i64 P1, .int .i64 D, .int .i64 D, .slice (some ⟨f0, fo, none⟩) nf nf] ∧ Cells wr (w.heap.size + 1 + 1) [.int .i64 0, .int .i64 0, .slice none 0 0] ∧ Cells wr BL [.int .i64 P1, .int .i64 ((D + 1 : Nat) : Int), .slice (some ⟨b, 0, none⟩) ((D + 1) * (D + 1) * (D + 1)) ((D + 1) * (D + 1) * (D + 1))] ∧ Ext w wr ∧ (0 < nf → Reads wr (some ⟨f0, fo, none⟩) nf ds)) := fun wr h => by
    have q := HWB.out
    refine ⟨A0_11.out.grown h (fun k hk => by simp at hk; omega), A1_12.out.grown h (fun k hk => by simp at hk; omega), R_13.out.grown h (fun k hk => by simp at hk; omega), C_15.out.grown h (fun k hk => by simp at hk; omega), E_14.out.grown h (fun k hk => by simp at hk; omega), fun h0 => HXW.out.other h (by have := HFB.out h0; omega)⟩
  have lA := A0_11.out.1
  have a1' := A0_11.out.2 1 _ rfl
  clear A0_11 A1_12 R_13 C_15 E_14
  go_wp2_with fail
  clear lA a1'
  go_loopw [22, 7] (fun z _ wr => ∃ i : Nat, i ≤ D ∧ z = .int .i64 i ∧ Hid (W.grownBy wr (some b)) ∧ Hid (Has wr b (smJ P1 D ds (grT D l) i))) (fun z _ _ => D - (intOf z).toNat)
  case atStart => exact ⟨0, by omega, rfl, G0, H0⟩
  case round =>
    clear G0 H0
    obtain ⟨i, hi, rfl, hG, hH⟩ := hrel
    have KK := HK.out _ hG.out
    by_cases hlt : i < D
    · have hnf0 : 0 < nf := by rw [HNF.out]; exact Nat.mul_pos (by omega) (by omega)
      have lA := KK.1.1
      have a1' := KK.1.2 1 _ rfl
      have lF := KK.2.1.1
      have f0' := KK.2.1.2 0 _ rfl
      have f1' := KK.2.1.2 1 _ rfl
      have f2' := KK.2.1.2 2 _ rfl
      have f3' := KK.2.1.2 3 _ rfl
      have hrow : (i + 1) * D ≤ nf := by rw [HNF.out]; exact Nat.mul_le_mul_right D hlt
      have HRW : Hid (∀ wx, Calls Try.prog 78 #[.agg #[.int .i64 P1, .int .i64 D, .int .i64 D, .slice (some ⟨f0, fo, none⟩) nf nf], .int .i64 i] wx fun e w' => e = .returned (.slice (some ⟨f0, fo + i * D, none⟩) D (nf - i * D)) ∧ Ext wx w') := fun wx => rowOf_impl P1 D D i f0 fo nf wx hrow hm1 (by omega)
      have HRR : Hid (Reads wr (some ⟨f0, fo + i * D, none⟩) D (rowL D ds i)) := reads_row (KK.2.2.2.2.2 hnf0) HNF.out hlt
      have hne0 : f0 ≠ b := by have := HFB.out hnf0; have := HWB.out; omega
      have nA : w.heap.size ≠ b := by have := HWB.out; omega
      have nF : w.heap.size + 1 ≠ b := by have := HWB.out; omega
      have nL : BL ≠ b := HWB.out.2.1
      have HSB : Hid (∀ wx, Ext wr wx → Calls Try.prog 77 #[.pointer (some ⟨BL, 0, none⟩), .int .i64 D, .int .i64 i, .slice (some ⟨f0, fo + i * D, none⟩) D (nf - i * D)] wx fun e w' => e = .returned (.tuple #[]) ∧ Has w' b (smJ P1 D ds (grT D l) (i + 1)) ∧ wx.grownBy w' (some b)) := fun wx h => by
        have h9 := setBracket_impl P1 (D + 1) ((D + 1) * (D + 1) * (D + 1)) D (nf - i * D) BL b f0 (fo + i * D) D i (smJ P1 D ds (grT D l) i) (rowL D ds i) wx (KK.2.2.2.1.ext h) hD rfl (by omega) (by omega) (hH.out.ext h) (HTL.out i) (HRR.out.ext h) (by omega) (rowR_res (by omega) HX1.out i) hp hp2 ⟨HWB.out.2.1, hne0⟩
        rwa [sbT_sm hlt (HTL.out i) HDL.out] at h9
      clear KK hrow
      go_wp2_with fail
      go_region_held3 (fun w' => wr.grownBy w' (some b) ∧ ∀ B o, B ≠ b → B < wr.heap.size → w'.cell? ⟨B, o, none⟩ = wr.cell? ⟨B, o, none⟩) (first | assumption | exact keptB_refl _ _ | exact keptB_drew | (with_reducible exact keptB_call ‹wr.grownBy _ (some b) ∧ _› ‹Ext _ _›) | (with_reducible exact keptB_grown ‹wr.grownBy _ (some b) ∧ _› ‹World.grownBy _ _ _›) | (with_reducible exact keptB_set ‹wr.grownBy _ (some b) ∧ _› _ _)) (first
        | (go_at_call 78; (with_reducible refine (HRW.out _).mono ?_); rintro e w3 ⟨rfl, h3⟩)
        | (go_at_call 77; (with_reducible refine (HSB.out _ ((Ext.refl _).drew.trans h3)).mono ?_); rintro e w4 ⟨rfl, k4, g4⟩))
      have G4 := Lib.hid (grownBy_trans (grownBy_ext hG.out ((Ext.refl _).drew.trans h3)) g4)
      have K4 := Lib.hid k4
      clear hG hH h3 k4 g4 lA a1' lF f0' f1' f2' f3' HRW HRR HSB
      go_wp2
      exact ⟨⟨i + 1, by omega, by simp, G4, K4⟩, by simp [intOf]; omega⟩
    · obtain rfl : D = i := by omega
      obtain ⟨KA, KF, KR, KC, KE, _⟩ := KK
      have r0 := KR.2 0 _ rfl
      have r1 := KR.2 1 _ rfl
      have r2 := KR.2 2 _ rfl
      have tR := KR.3
      have lR := KR.1
      have lC := KC.1
      have s0 := KC.2 0 _ rfl
      have s1 := KC.2 1 _ rfl
      have s2 := KC.2 2 _ rfl
      have hwb := HWB.out
      have hltb := hH.out.lt
      have HKE := Lib.hid KE
      have hcast : ((D + 1 : Nat) : Int) = (D : Int) + 1 := by simp
      clear KA KF KR KC KE
      generalize hD1 : ((D + 1 : Nat) : Int) = D1 at *
      have HCT := Lib.hid hcast
      clear hD1 hcast
      go_wp2
      refine bodyPost_ret (v := .tuple #[.agg #[.int .i64 P1, .int .i64 D1, .slice (some ⟨b, 0, none⟩) ((D + 1) * (D + 1) * (D + 1)) ((D + 1) * (D + 1) * (D + 1))], .bool true]) (by simp [results, Try.results27, go_sem, r0, r1, r2]) rfl ⟨_, rfl, ⟨some ⟨b, 0, none⟩, ((D + 1) * (D + 1) * (D + 1)), ((D + 1) * (D + 1) * (D + 1)), by rw [← HCT.out], ?_, by omega⟩, ext3 HKE.out (by omega) _ _ _⟩
      exact Own.mono (own3 (hH.out.own (lo := w.heap.size + 1 + 1 + 1) (hi := wr.heap.size) (by omega) hltb (HTL.out _)) (by omega) _ _ _) (by omega) (by simp)
end Go.Proofs.Ytapaopapgnfdkaa
