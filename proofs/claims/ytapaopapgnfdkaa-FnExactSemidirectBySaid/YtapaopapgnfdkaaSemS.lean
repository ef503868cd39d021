/-
  Extensions of the specification.
-/
import Derived.Test.YtapaopapgnfdkaaGrt
import Derived.Test.YtapaopapgnfdkaaSemI
import Derived.RegionTactic
namespace Go.Proofs.Ytapaopapgnfdkaa
open Go.ChangeShapes Go.WideShapes Go.ChangeAt Go.RowKit
set_option linter.unusedVariables false
set_option linter.unusedSimpArgs false


set_option maxRecDepth 100000 in
set_option maxHeartbeats 6400000 in
theorem semidirectBy_spec {P D : Int} {a0 oa n : Nat} {l : List Int} {P1 R1 C1 : Int} {f0 fo nf : Nat} {ds : List Int} {w : World} {p d : Int} {xs : List Int} {ok : Bool} (hT : Reads w (some ⟨a0, oa, none⟩) n l) (hm0 : n ≤ 1048576) (hX : Reads w (some ⟨f0, fo, none⟩) nf ds) (hm1 : nf ≤ 1048576) (hM : semM P D l P1 R1 C1 ds = (⟨p, d, xs⟩, ok)) :
    Calls Try.prog 25 #[.agg #[.int .i64 P, .int .i64 D, .slice (some ⟨a0, oa, none⟩) n n], .agg #[.int .i64 P1, .int .i64 R1, .int .i64 C1, .slice (some ⟨f0, fo, none⟩) nf nf]] w fun e w' => ∃ v, e = .returned (.tuple #[v, .bool ok]) ∧ Ralg w w' v p d xs ∧ Ext w w' := by
  have HT := Lib.hid hT
  have HX := Lib.hid hX
  rcases h1 : derF P D l P1 R1 C1 ds with _ | _
  · simp only [semM, h1, noAlg, Bool.false_and, Bool.and_false, Bool.false_eq_true, if_false, Prod.mk.injEq, Alg.mk.injEq] at hM
    obtain ⟨⟨rfl, rfl, rfl⟩, rfl⟩ := hM
    have H1 := Lib.hid h1
    clear h1 hT hX
    go_enter Try.func25, Try.ntmps25
    have A0_1 := Lib.hid (((cells_new' w #[.int .i64 P, .int .i64 D, .slice (some ⟨a0, oa, none⟩) n n] 28 (w.heap.size) (by simp)).ext ((Ext.refl _).alloc (.cells #[.int .i64 P1, .int .i64 R1, .int .i64 C1, .slice (some ⟨f0, fo, none⟩) nf nf] 40))).ext ((Ext.refl _).alloc (.cells #[.int .i64 0, .int .i64 0, .slice none 0 0] 28)))
    have A1_2 := Lib.hid ((cells_new' (w.alloc (.cells #[.int .i64 P, .int .i64 D, .slice (some ⟨a0, oa, none⟩) n n] 28)) #[.int .i64 P1, .int .i64 R1, .int .i64 C1, .slice (some ⟨f0, fo, none⟩) nf nf] 40 (w.heap.size + 1) (by simp)).ext ((Ext.refl _).alloc (.cells #[.int .i64 0, .int .i64 0, .slice none 0 0] 28)))
    have R_3 := Lib.hid (cells_new' ((w.alloc (.cells #[.int .i64 P, .int .i64 D, .slice (some ⟨a0, oa, none⟩) n n] 28)).alloc (.cells #[.int .i64 P1, .int .i64 R1, .int .i64 C1, .slice (some ⟨f0, fo, none⟩) nf nf] 40)) #[.int .i64 0, .int .i64 0, .slice none 0 0] 28 (w.heap.size + 1 + 1) (by simp))
    have E_4 := Lib.hid ((((Ext.refl w).alloc (.cells #[.int .i64 P, .int .i64 D, .slice (some ⟨a0, oa, none⟩) n n] 28)).alloc (.cells #[.int .i64 P1, .int .i64 R1, .int .i64 C1, .slice (some ⟨f0, fo, none⟩) nf nf] 40)).alloc (.cells #[.int .i64 0, .int .i64 0, .slice none 0 0] 28))
    have lA0 := A0_1.out.1
    have qA00 := A0_1.out.2 0 _ rfl
    have qA01 := A0_1.out.2 1 _ rfl
    have qA02 := A0_1.out.2 2 _ rfl
    have lA1 := A1_2.out.1
    have qA10 := A1_2.out.2 0 _ rfl
    have qA11 := A1_2.out.2 1 _ rfl
    have qA12 := A1_2.out.2 2 _ rfl
    have qA13 := A1_2.out.2 3 _ rfl
    try simp only [World.size_alloc] at lA0 lA1
    go_wp2_with fail
    refine (isDerivation_spec (HT.out.ext E_4.out) hm0 (HX.out.ext E_4.out) hm1 H1.out).mono ?_
    rintro e w_5 ⟨rfl, h_5⟩
    clear lA0 qA00 qA01 qA02 lA1 qA10 qA11 qA12 qA13
    have A0_6 := Lib.hid (A0_1.out.ext h_5)
    clear A0_1
    have A1_7 := Lib.hid (A1_2.out.ext h_5)
    clear A1_2
    have R_8 := Lib.hid (R_3.out.ext h_5)
    clear R_3
    have E_9 := Lib.hid (E_4.out.trans h_5)
    clear E_4
    have lA0 := A0_6.out.1
    have qA00 := A0_6.out.2 0 _ rfl
    have qA01 := A0_6.out.2 1 _ rfl
    have qA02 := A0_6.out.2 2 _ rfl
    have lA1 := A1_7.out.1
    have qA10 := A1_7.out.2 0 _ rfl
    have qA11 := A1_7.out.2 1 _ rfl
    have qA12 := A1_7.out.2 2 _ rfl
    have qA13 := A1_7.out.2 3 _ rfl
    try simp only [World.size_alloc] at lA0 lA1
    have r0 := R_8.out.2 0 _ rfl
    have r1 := R_8.out.2 1 _ rfl
    have r2 := R_8.out.2 2 _ rfl
    have tR := R_8.out.3
    have lR := R_8.out.1
    go_wp2
    refine bodyPost_ret (v := .tuple #[.agg #[.int .i64 0, .int .i64 0, .slice none 0 0], .bool false]) (by simp [results, Try.results25, go_sem, r0, r1, r2]) rfl ⟨_, rfl, ⟨_, _, _, rfl, own_nil _ _ _, by omega⟩, ?_⟩
    first
      | (with_reducible exact ext3 E_9.out (by omega) _ _ _)
      | (with_reducible repeat (first | exact Ext.refl _ | refine Ext.alloc ?_ _))
  have hz0 : algB P D l = true := by simp only [derF, Bool.and_eq_true] at h1; exact h1.1
  obtain ⟨D, rfl, hA⟩ := algB_parts hz0 hT.1
  have hDD := hA.dim
  by_cases h3 : (D : Int) + 1 ≤ 28
  case neg =>
    have h4 : decide ((D : Int) + 1 ≤ 28) = false := by simpa using h3
    simp only [semM, h4, noAlg, Bool.false_and, Bool.and_false, Bool.false_eq_true, if_false, Prod.mk.injEq, Alg.mk.injEq] at hM
    obtain ⟨⟨rfl, rfl, rfl⟩, rfl⟩ := hM
    have H1 := Lib.hid h1
    have v0 : IntKind.i64.wrap ((D : Int) + 1) = (D : Int) + 1 := IntWalk.i64_in _ ⟨by omega, by omega⟩
    have h5 : (28 : Int) < (D : Int) + 1 := by omega
    clear h1 hT hX hz0 hA h4 h3 hDD
    go_enter Try.func25, Try.ntmps25
    have A0_1 := Lib.hid (((cells_new' w #[.int .i64 P, .int .i64 D, .slice (some ⟨a0, oa, none⟩) n n] 28 (w.heap.size) (by simp)).ext ((Ext.refl _).alloc (.cells #[.int .i64 P1, .int .i64 R1, .int .i64 C1, .slice (some ⟨f0, fo, none⟩) nf nf] 40))).ext ((Ext.refl _).alloc (.cells #[.int .i64 0, .int .i64 0, .slice none 0 0] 28)))
    have A1_2 := Lib.hid ((cells_new' (w.alloc (.cells #[.int .i64 P, .int .i64 D, .slice (some ⟨a0, oa, none⟩) n n] 28)) #[.int .i64 P1, .int .i64 R1, .int .i64 C1, .slice (some ⟨f0, fo, none⟩) nf nf] 40 (w.heap.size + 1) (by simp)).ext ((Ext.refl _).alloc (.cells #[.int .i64 0, .int .i64 0, .slice none 0 0] 28)))
    have R_3 := Lib.hid (cells_new' ((w.alloc (.cells #[.int .i64 P, .int .i64 D, .slice (some ⟨a0, oa, none⟩) n n] 28)).alloc (.cells #[.int .i64 P1, .int .i64 R1, .int .i64 C1, .slice (some ⟨f0, fo, none⟩) nf nf] 40)) #[.int .i64 0, .int .i64 0, .slice none 0 0] 28 (w.heap.size + 1 + 1) (by simp))
    have E_4 := Lib.hid ((((Ext.refl w).alloc (.cells #[.int .i64 P, .int .i64 D, .slice (some ⟨a0, oa, none⟩) n n] 28)).alloc (.cells #[.int .i64 P1, .int .i64 R1, .int .i64 C1, .slice (some ⟨f0, fo, none⟩) nf nf] 40)).alloc (.cells #[.int .i64 0, .int .i64 0, .slice none 0 0] 28))
    have lA0 := A0_1.out.1
    have qA00 := A0_1.out.2 0 _ rfl
    have qA01 := A0_1.out.2 1 _ rfl
    have qA02 := A0_1.out.2 2 _ rfl
    have lA1 := A1_2.out.1
    have qA10 := A1_2.out.2 0 _ rfl
    have qA11 := A1_2.out.2 1 _ rfl
    have qA12 := A1_2.out.2 2 _ rfl
    have qA13 := A1_2.out.2 3 _ rfl
    try simp only [World.size_alloc] at lA0 lA1
    go_wp2_with fail
    refine (isDerivation_spec (HT.out.ext E_4.out) hm0 (HX.out.ext E_4.out) hm1 H1.out).mono ?_
    rintro e w_5 ⟨rfl, h_5⟩
    clear lA0 qA00 qA01 qA02 lA1 qA10 qA11 qA12 qA13
    have A0_6 := Lib.hid (A0_1.out.ext h_5)
    clear A0_1
    have A1_7 := Lib.hid (A1_2.out.ext h_5)
    clear A1_2
    have R_8 := Lib.hid (R_3.out.ext h_5)
    clear R_3
    have E_9 := Lib.hid (E_4.out.trans h_5)
    clear E_4
    have h6 := h5
    have lA0 := A0_6.out.1
    have qA00 := A0_6.out.2 0 _ rfl
    have qA01 := A0_6.out.2 1 _ rfl
    have qA02 := A0_6.out.2 2 _ rfl
    have lA1 := A1_7.out.1
    have qA10 := A1_7.out.2 0 _ rfl
    have qA11 := A1_7.out.2 1 _ rfl
    have qA12 := A1_7.out.2 2 _ rfl
    have qA13 := A1_7.out.2 3 _ rfl
    try simp only [World.size_alloc] at lA0 lA1
    have r0 := R_8.out.2 0 _ rfl
    have r1 := R_8.out.2 1 _ rfl
    have r2 := R_8.out.2 2 _ rfl
    have tR := R_8.out.3
    have lR := R_8.out.1
    go_wp2
    refine bodyPost_ret (v := .tuple #[.agg #[.int .i64 0, .int .i64 0, .slice none 0 0], .bool false]) (by simp [results, Try.results25, go_sem, r0, r1, r2]) rfl ⟨_, rfl, ⟨_, _, _, rfl, own_nil _ _ _, by omega⟩, ?_⟩
    first
      | (with_reducible exact ext3 E_9.out (by omega) _ _ _)
      | (with_reducible repeat (first | exact Ext.refl _ | refine Ext.alloc ?_ _))
  have H1 := Lib.hid h1
  have hz1 : formB P D P1 R1 C1 ds = true := by simp only [derF, Bool.and_eq_true] at h1; exact h1.2.1
  have h4 : decide ((D : Int) + 1 ≤ 28) = true := by simpa using h3
  simp only [semM, h1, h4, Bool.and_self, if_true, Prod.mk.injEq, Alg.mk.injEq] at hM
  obtain ⟨⟨rfl, rfl, rfl⟩, rfl⟩ := hM
  obtain ⟨rfl, rfl, rfl, hnf, hx1⟩ := formB_parts hz1 hX.1
  simp only [Int.toNat_natCast]
  have hD : D + 1 ≤ 28 := by omega
  have h27 : D * D ≤ 784 := Nat.mul_le_mul (show D ≤ 28 by omega) (show D ≤ 28 by omega)
  have hm28 := cube28 hD
  have hp := isP_lo hA.pr
  have hp2 := isP_hi hA.pr
  have HNF := Lib.hid hnf
  have HX1 := Lib.hid hx1
  have hTL : ∀ k, (smJ P1 D ds (grT D l) k).length = ((D + 1) * (D + 1) * (D + 1)) := fun k => by rw [smJ_length, grT_length]
  have HTL := Lib.hid hTL
  have HDL : Hid (ds.length = D * D) := by rw [Hid, hX.1, hnf]
  have HGW : Hid (∀ w1, Ext w w1 → Calls Try.prog 72 #[.agg #[.int .i64 P1, .int .i64 D, .slice (some ⟨a0, oa, none⟩) n n]] w1 fun e w' => ∃ b, e = .returned (.agg #[.int .i64 P1, .int .i64 ((D + 1 : Nat) : Int), .slice (some ⟨b, 0, none⟩) ((D + 1) * (D + 1) * (D + 1)) ((D + 1) * (D + 1) * (D + 1))]) ∧ w1.heap.size ≤ b ∧ b < w'.heap.size ∧ Has w' b (smJ P1 D ds (grT D l) 0) ∧ Ext w1 w') := fun w1 h => l3Grow_spec P1 D a0 oa n l w1 (hT.ext h) hA.len hD hA.pr
  have hfb : 0 < nf → f0 < w.heap.size := fun h => by
    rcases hX.2 with h2 | ⟨b3, o3, h2, hb3, _⟩
    · omega
    · simp only [Option.some.injEq, Addr.mk.injEq, and_true] at h2
      omega
  have HFB := Lib.hid hfb
  obtain ⟨M, hMc⟩ : ∃ M, (D + 1) * (D + 1) * (D + 1) = M := ⟨_, rfl⟩
  have HMC := Lib.hid hMc
  have hM28 : M ≤ 21952 := by rw [← hMc]; exact hm28
  have hcast : ((D + 1 : Nat) : Int) = (D : Int) + 1 := by simp
  have v0 : IntKind.i64.wrap ((D : Int) + 1) = (D : Int) + 1 := IntWalk.i64_in _ ⟨by omega, by omega⟩
  have h5 : ¬ (28 : Int) < (D : Int) + 1 := by omega
  rw [hcast, hMc] at HGW
  rw [hMc] at HTL
  clear hT hX hA h1 hz0 hz1 hnf hx1 hTL hfb h4 h3 hMc hm28 hcast
  go_enter Try.func25, Try.ntmps25
  have A0_1 := Lib.hid (((cells_new' w #[.int .i64 P1, .int .i64 D, .slice (some ⟨a0, oa, none⟩) n n] 28 (w.heap.size) (by simp)).ext ((Ext.refl _).alloc (.cells #[.int .i64 P1, .int .i64 D, .int .i64 D, .slice (some ⟨f0, fo, none⟩) nf nf] 40))).ext ((Ext.refl _).alloc (.cells #[.int .i64 0, .int .i64 0, .slice none 0 0] 28)))
  have A1_2 := Lib.hid ((cells_new' (w.alloc (.cells #[.int .i64 P1, .int .i64 D, .slice (some ⟨a0, oa, none⟩) n n] 28)) #[.int .i64 P1, .int .i64 D, .int .i64 D, .slice (some ⟨f0, fo, none⟩) nf nf] 40 (w.heap.size + 1) (by simp)).ext ((Ext.refl _).alloc (.cells #[.int .i64 0, .int .i64 0, .slice none 0 0] 28)))
  have R_3 := Lib.hid (cells_new' ((w.alloc (.cells #[.int .i64 P1, .int .i64 D, .slice (some ⟨a0, oa, none⟩) n n] 28)).alloc (.cells #[.int .i64 P1, .int .i64 D, .int .i64 D, .slice (some ⟨f0, fo, none⟩) nf nf] 40)) #[.int .i64 0, .int .i64 0, .slice none 0 0] 28 (w.heap.size + 1 + 1) (by simp))
  have E_4 := Lib.hid ((((Ext.refl w).alloc (.cells #[.int .i64 P1, .int .i64 D, .slice (some ⟨a0, oa, none⟩) n n] 28)).alloc (.cells #[.int .i64 P1, .int .i64 D, .int .i64 D, .slice (some ⟨f0, fo, none⟩) nf nf] 40)).alloc (.cells #[.int .i64 0, .int .i64 0, .slice none 0 0] 28))
  have lA0 := A0_1.out.1
  have qA00 := A0_1.out.2 0 _ rfl
  have qA01 := A0_1.out.2 1 _ rfl
  have qA02 := A0_1.out.2 2 _ rfl
  have lA1 := A1_2.out.1
  have qA10 := A1_2.out.2 0 _ rfl
  have qA11 := A1_2.out.2 1 _ rfl
  have qA12 := A1_2.out.2 2 _ rfl
  have qA13 := A1_2.out.2 3 _ rfl
  try simp only [World.size_alloc] at lA0 lA1
  go_wp2_with fail
  refine (isDerivation_spec (HT.out.ext E_4.out) hm0 (HX.out.ext E_4.out) hm1 H1.out).mono ?_
  rintro e w_5 ⟨rfl, h_5⟩
  clear lA0 qA00 qA01 qA02 lA1 qA10 qA11 qA12 qA13
  have A0_6 := Lib.hid (A0_1.out.ext h_5)
  clear A0_1
  have A1_7 := Lib.hid (A1_2.out.ext h_5)
  clear A1_2
  have R_8 := Lib.hid (R_3.out.ext h_5)
  clear R_3
  have E_9 := Lib.hid (E_4.out.trans h_5)
  clear E_4
  have lA0 := A0_6.out.1
  have qA00 := A0_6.out.2 0 _ rfl
  have qA01 := A0_6.out.2 1 _ rfl
  have qA02 := A0_6.out.2 2 _ rfl
  have lA1 := A1_7.out.1
  have qA10 := A1_7.out.2 0 _ rfl
  have qA11 := A1_7.out.2 1 _ rfl
  have qA12 := A1_7.out.2 2 _ rfl
  have qA13 := A1_7.out.2 3 _ rfl
  try simp only [World.size_alloc] at lA0 lA1
  go_wp2_with fail
  refine (HGW.out _ E_9.out).mono ?_
  rintro e w_10 ⟨b, rfl, hbl, hbl2, hh, h_10⟩
  clear lA0 qA00 qA01 qA02 lA1 qA10 qA11 qA12 qA13
  have hszw := E_9.out.le
  have lRx := R_8.out.1
  have A0_11 := Lib.hid (A0_6.out.ext h_10)
  clear A0_6
  have A1_12 := Lib.hid (A1_7.out.ext h_10)
  clear A1_7
  have R_13 := Lib.hid (R_8.out.ext h_10)
  clear R_8
  have E_14 := Lib.hid (E_9.out.trans h_10)
  clear E_9
  have P_15 := (Ext.refl w_10).alloc (.cells #[.int .i64 P1, .int .i64 ((D : Int) + 1), .slice (some ⟨b, 0, none⟩) M M] 28)
  have A0_16 := Lib.hid (A0_11.out.ext P_15)
  clear A0_11
  have A1_17 := Lib.hid (A1_12.out.ext P_15)
  clear A1_12
  have R_18 := Lib.hid (R_13.out.ext P_15)
  clear R_13
  have E_19 := Lib.hid (E_14.out.trans P_15)
  clear E_14
  clear P_15
  have C_20 := Lib.hid (cells_new w_10 #[.int .i64 P1, .int .i64 ((D : Int) + 1), .slice (some ⟨b, 0, none⟩) M M] 28)
  have H0 := Lib.hid (hh.alloc (.cells #[.int .i64 P1, .int .i64 ((D : Int) + 1), .slice (some ⟨b, 0, none⟩) M M] 28))
  have hfr := E_19.out
  have HXW := Lib.hid (HX.out.ext hfr)
  have HWB : Hid (w.heap.size + 1 + 1 < b ∧ b < w_10.heap.size ∧ w.heap.size + 1 + 1 < w_10.heap.size) := ⟨by omega, by omega, by omega⟩
  have lA := A0_16.out.1
  have a1' := A0_16.out.2 1 _ rfl
  try simp only [World.size_alloc] at lA
  clear hh hfr h_10 hbl hszw lRx
  go_wp2_with fail
  clear lA a1'
  generalize hWx : (w_10.alloc (.cells #[.int .i64 P1, .int .i64 ((D : Int) + 1), .slice (some ⟨b, 0, none⟩) M M] 28)) = W at *
  generalize hCB : w_10.heap.size = CB at *
  have G0 : Hid (W.grownBy W (some b)) := grownBy_refl _ _
  have HK : Hid (∀ wr, W.grownBy wr (some b) → Cells wr w.heap.size [.int .i64 P1, .int .i64 D, .slice (some ⟨a0, oa, none⟩) n n] ∧ Cells wr (w.heap.size + 1) [.int .i64 P1, .int .i64 D, .int .i64 D, .slice (some ⟨f0, fo, none⟩) nf nf] ∧ Cells wr (w.heap.size + 1 + 1) [.int .i64 0, .int .i64 0, .slice none 0 0] ∧ Cells wr CB [.int .i64 P1, .int .i64 ((D : Int) + 1), .slice (some ⟨b, 0, none⟩) M M] ∧ Ext w wr ∧ (0 < nf → Reads wr (some ⟨f0, fo, none⟩) nf ds)) := fun wr h => by
    have q := HWB.out
    refine ⟨A0_16.out.grown h (fun k hk => by simp at hk; omega), A1_17.out.grown h (fun k hk => by simp at hk; omega), R_18.out.grown h (fun k hk => by simp at hk; omega), C_20.out.grown h (fun k hk => by simp at hk; omega), E_19.out.grown h (fun k hk => by simp at hk; omega), fun h0 => HXW.out.other h (by have := HFB.out h0; omega)⟩
  clear A0_16 A1_17 R_18 C_20 E_19 hWx hCB
  go_loopw [8, 9, 10] (fun z _ _ wr => ∃ i : Nat, i ≤ D ∧ z = .int .i64 i ∧ Hid (W.grownBy wr (some b)) ∧ Hid (Has wr b (smJ P1 D ds (grT D l) i))) (fun z _ _ _ => D - (intOf z).toNat)
  case atStart => exact ⟨0, by omega, rfl, G0, H0⟩
  case round =>
    clear G0 H0
    obtain ⟨i, hi, rfl, hG, hH⟩ := hrel
    by_cases hlt : i < D
    · have hnf0 : 0 < nf := by rw [HNF.out]; exact Nat.mul_pos (by omega) (by omega)
      have hne0 : f0 ≠ b := by have := HFB.out hnf0; have := HWB.out; omega
      have nA : w.heap.size ≠ b := by have := HWB.out; omega
      have nF : w.heap.size + 1 ≠ b := by have := HWB.out; omega
      have nC : CB ≠ b := by have := HWB.out; omega
      have hH0 : Hid (Has wr b (smK P1 D ds i (smJ P1 D ds (grT D l) i) 0)) := hH
      clear hH
      go_wp2_with fail
      go_loopw [9, 10] (fun z _ wr => ∃ j : Nat, j ≤ D ∧ z = .int .i64 j ∧ Hid (W.grownBy wr (some b)) ∧ Hid (Has wr b (smK P1 D ds i (smJ P1 D ds (grT D l) i) j))) (fun z _ _ => D - (intOf z).toNat)
      case atStart => exact ⟨0, by omega, rfl, hG, hH0⟩
      case round =>
        clear hG hH0
        obtain ⟨j, hj, rfl, hG, hH⟩ := hrel
        have KK := HK.out _ hG.out
        by_cases hlt2 : j < D
        · have hat : i * D + j < nf := by rw [HNF.out]; have := row_lt (C := D) hlt; omega
          have HAT : Hid (∀ wx, Ext wr wx → Calls Try.prog 73 #[.agg #[.int .i64 P1, .int .i64 D, .int .i64 D, .slice (some ⟨f0, fo, none⟩) nf nf], .int .i64 i, .int .i64 j] wx fun e w' => e = .returned (.int .i64 (at2 D ds i j)) ∧ Ext wx w') := fun wx h => l1At_spec P1 D D i j (some ⟨f0, fo, none⟩) nf nf ds wx ((KK.2.2.2.2.2 hnf0).ext h) hat hm1
          have hlen : Hid ((smK P1 D ds i (smJ P1 D ds (grT D l) i) j).length = M) := by rw [Hid, smK_length]; exact HTL.out i
          have hb9 := HX1.out (i * D + j) (by rw [HDL.out]; have := row_lt (C := D) hlt; omega)
          have hb8 : 0 ≤ at2 D ds i j ∧ at2 D ds i j < P1 := hb9
          have hq := nw_lt hlt (show j ≤ D by omega)
          rw [HMC.out] at hq
          have HQ := Lib.hid hq
          have hqq : nwA D i = (D * (D + 1) + i) * (D + 1) := rfl
          have hqr : nwB D i = (i * (D + 1) + D) * (D + 1) := rfl
          have vneg : IntKind.i64.wrap (-at2 D ds i j) = -at2 D ds i j := IntWalk.i64_in _ ⟨by omega, by omega⟩
          have e1a : (D : Int) * ((D : Int) + 1) = ((D * (D + 1) : Nat) : Int) := by simp
          have e1b : ((D : Int) * ((D : Int) + 1) + (i : Int)) * ((D : Int) + 1) = (((D * (D + 1) + i) * (D + 1) : Nat) : Int) := by simp
          have e1c : D * (D + 1) ≤ 784 := Nat.mul_le_mul (show D ≤ 28 by omega) hD
          have w1a : IntKind.i64.wrap ((D : Int) * ((D : Int) + 1)) = (D : Int) * ((D : Int) + 1) := IntWalk.i64_in _ ⟨by omega, by omega⟩
          have w1b : IntKind.i64.wrap ((D : Int) * ((D : Int) + 1) + (i : Int)) = (D : Int) * ((D : Int) + 1) + (i : Int) := IntWalk.i64_in _ ⟨by omega, by omega⟩
          have w1c : IntKind.i64.wrap (((D : Int) * ((D : Int) + 1) + (i : Int)) * ((D : Int) + 1)) = ((D : Int) * ((D : Int) + 1) + (i : Int)) * ((D : Int) + 1) := IntWalk.i64_in _ ⟨by omega, by omega⟩
          have w1d : IntKind.i64.wrap (((D : Int) * ((D : Int) + 1) + (i : Int)) * ((D : Int) + 1) + (j : Int)) = ((D : Int) * ((D : Int) + 1) + (i : Int)) * ((D : Int) + 1) + (j : Int) := IntWalk.i64_in _ ⟨by omega, by omega⟩
          have w1e : (((D : Int) * ((D : Int) + 1) + (i : Int)) * ((D : Int) + 1) + (j : Int)).toNat = nwA D i + j := by (try unfold nwA); (try unfold nwB); omega
          have w1f : 0 ≤ ((D : Int) * ((D : Int) + 1) + (i : Int)) * ((D : Int) + 1) + (j : Int) := by omega
          have w1g : ((D : Int) * ((D : Int) + 1) + (i : Int)) * ((D : Int) + 1) + (j : Int) < (M : Int) := by omega
          clear e1a e1b e1c
          have e2a : (i : Int) * ((D : Int) + 1) = ((i * (D + 1) : Nat) : Int) := by simp
          have e2b : ((i : Int) * ((D : Int) + 1) + (D : Int)) * ((D : Int) + 1) = (((i * (D + 1) + D) * (D + 1) : Nat) : Int) := by simp
          have e2c : i * (D + 1) ≤ 784 := Nat.mul_le_mul (show i ≤ 28 by omega) hD
          have w2a : IntKind.i64.wrap ((i : Int) * ((D : Int) + 1)) = (i : Int) * ((D : Int) + 1) := IntWalk.i64_in _ ⟨by omega, by omega⟩
          have w2b : IntKind.i64.wrap ((i : Int) * ((D : Int) + 1) + (D : Int)) = (i : Int) * ((D : Int) + 1) + (D : Int) := IntWalk.i64_in _ ⟨by omega, by omega⟩
          have w2c : IntKind.i64.wrap (((i : Int) * ((D : Int) + 1) + (D : Int)) * ((D : Int) + 1)) = ((i : Int) * ((D : Int) + 1) + (D : Int)) * ((D : Int) + 1) := IntWalk.i64_in _ ⟨by omega, by omega⟩
          have w2d : IntKind.i64.wrap (((i : Int) * ((D : Int) + 1) + (D : Int)) * ((D : Int) + 1) + (j : Int)) = ((i : Int) * ((D : Int) + 1) + (D : Int)) * ((D : Int) + 1) + (j : Int) := IntWalk.i64_in _ ⟨by omega, by omega⟩
          have w2e : (((i : Int) * ((D : Int) + 1) + (D : Int)) * ((D : Int) + 1) + (j : Int)).toNat = nwB D i + j := by (try unfold nwA); (try unfold nwB); omega
          have w2f : 0 ≤ ((i : Int) * ((D : Int) + 1) + (D : Int)) * ((D : Int) + 1) + (j : Int) := by omega
          have w2g : ((i : Int) * ((D : Int) + 1) + (D : Int)) * ((D : Int) + 1) + (j : Int) < (M : Int) := by omega
          clear e2a e2b e2c
          have HMD : Hid (∀ wx, Calls Try.prog 74 #[.int .i64 (-at2 D ds i j), .int .i64 P1] wx fun e w' => e = .returned (.int .i64 (-at2 D ds i j % P1)) ∧ Ext wx w') := fun wx => (l1Mod_spec (-at2 D ds i j) P1 wx hp hp2).mono (fun e w' ⟨h1, h2⟩ => ⟨h1, h2 ▸ Ext.refl _⟩)
          have HEZ : Hid ((0 - at2 D ds i j) % P1 = -at2 D ds i j % P1) := by rw [Hid, Int.zero_sub]
          clear hb9 hb8 hq hat hqq hqr
          have laa := KK.1.1
          have aa0 := KK.1.2 0 _ rfl
          have aa1 := KK.1.2 1 _ rfl
          have aa2 := KK.1.2 2 _ rfl
          have lff := KK.2.1.1
          have ff0 := KK.2.1.2 0 _ rfl
          have ff1 := KK.2.1.2 1 _ rfl
          have ff2 := KK.2.1.2 2 _ rfl
          have ff3 := KK.2.1.2 3 _ rfl
          have lcc := KK.2.2.2.1.1
          have cc0 := KK.2.2.2.1.2 0 _ rfl
          have cc1 := KK.2.2.2.1.2 1 _ rfl
          have cc2 := KK.2.2.2.1.2 2 _ rfl
          clear KK
          go_wp2_with fail
          refine (HAT.out _ (Ext.refl _)).mono ?_
          rintro e w3 ⟨rfl, h3⟩
          have hG3 := Lib.hid (grownBy_ext hG.out h3)
          have hJ := hH.out.ext h3
          have c1 := hJ.cell (nwA D i + j) (by rw [hlen.out]; exact HQ.out.1)
          have f1 := hJ.free (nwA D i + j)
          have KK := HK.out _ hG3.out
          clear laa aa0 aa1 aa2 lff ff0 ff1 ff2 ff3 lcc cc0 cc1 cc2
          have lcc := KK.2.2.2.1.1
          have cc0 := KK.2.2.2.1.2 0 _ rfl
          have cc1 := KK.2.2.2.1.2 1 _ rfl
          have cc2 := KK.2.2.2.1.2 2 _ rfl
          clear KK
          go_upto_region 13 with fail
          have H5 : Hid (Has (w3.setCell ⟨b, nwA D i + j, none⟩ (.int .i64 (at2 D ds i j))) b ((smK P1 D ds i (smJ P1 D ds (grT D l) i) j).set (nwA D i + j) (at2 D ds i j))) := hJ.set (nwA D i + j) (by rw [hlen.out]; exact HQ.out.1) (at2 D ds i j)
          have G5 := Lib.hid (grownBy_set (p := ⟨b, nwA D i + j, none⟩) hG3.out rfl (.int .i64 (at2 D ds i j)))
          clear hG hH lcc cc0 cc1 cc2 h3 HAT hG3 hJ c1 f1
          generalize (w3.setCell ⟨b, nwA D i + j, none⟩ (.int .i64 (at2 D ds i j))) = W5 at *
          have KK := HK.out _ G5.out
          have laa := KK.1.1
          have aa0 := KK.1.2 0 _ rfl
          have aa1 := KK.1.2 1 _ rfl
          have aa2 := KK.1.2 2 _ rfl
          have lcc := KK.2.2.2.1.1
          have cc0 := KK.2.2.2.1.2 0 _ rfl
          have cc1 := KK.2.2.2.1.2 1 _ rfl
          have cc2 := KK.2.2.2.1.2 2 _ rfl
          clear KK
          go_region_held3 (fun w' => W5.grownBy w' (some b) ∧ ∀ B o, B ≠ b → B < W5.heap.size → w'.cell? ⟨B, o, none⟩ = W5.cell? ⟨B, o, none⟩) (first | assumption | exact keptB_refl _ _ | exact keptB_drew | (with_reducible exact keptB_call ‹W5.grownBy _ (some b) ∧ _› ‹Ext _ _›) | (with_reducible exact keptB_grown ‹W5.grownBy _ (some b) ∧ _› ‹World.grownBy _ _ _›) | (with_reducible exact keptB_set ‹W5.grownBy _ (some b) ∧ _› _ _)) (first
            | (go_at_call 74; (with_reducible refine (HMD.out _).mono ?_); rintro e w4 ⟨rfl, h4⟩; have hJ := H5.out.ext ((Ext.refl _).drew.trans h4); have c1 := hJ.cell (nwB D i + j) (by rw [List.length_set, hlen.out]; exact HQ.out.2.1); have f1 := hJ.free (nwB D i + j)))
          have G6 := Lib.hid (grownBy_set (p := ⟨b, nwB D i + j, none⟩) (grownBy_ext G5.out ((Ext.refl _).drew.trans h4)) rfl (.int .i64 (-at2 D ds i j % P1)))
          have K6 : Hid (Has (w4.setCell ⟨b, nwB D i + j, none⟩ (.int .i64 (-at2 D ds i j % P1))) b (smK P1 D ds i (smJ P1 D ds (grT D l) i) (j + 1))) := by
            rw [Hid, smK, HEZ.out]
            exact hJ.set (nwB D i + j) (by rw [List.length_set, hlen.out]; exact HQ.out.2.1) (-at2 D ds i j % P1)
          clear h4 hJ c1 f1 laa aa0 aa1 aa2 lcc cc0 cc1 cc2 HMD H5 G5
          go_wp2
          exact ⟨⟨j + 1, by omega, by simp, G6, K6⟩, by simp [intOf]; omega⟩
        · obtain rfl : D = j := by omega
          have hH2 : Hid (Has wr b (smJ P1 D ds (grT D l) (i + 1))) := hH
          clear hH KK
          go_wp2
          exact ⟨⟨i + 1, by omega, by simp, hG, hH2⟩, by simp [intOf]; omega⟩
    · obtain rfl : D = i := by omega
      obtain ⟨KA, KF, KR, KC, KE, _⟩ := HK.out _ hG.out
      have r0 := KR.2 0 _ rfl
      have r1 := KR.2 1 _ rfl
      have r2 := KR.2 2 _ rfl
      have tR := KR.3
      have lR := KR.1
      have lC := KC.1
      have s0 := KC.2 0 _ rfl
      have s1 := KC.2 1 _ rfl
      have s2 := KC.2 2 _ rfl
      have hwb := HWB.out
      have hltb := hH.out.lt
      have HKE := Lib.hid KE
      clear KA KF KR KC KE
      go_wp2
      refine bodyPost_ret (v := .tuple #[.agg #[.int .i64 P1, .int .i64 ((D : Int) + 1), .slice (some ⟨b, 0, none⟩) M M], .bool true]) (by simp [results, Try.results25, go_sem, r0, r1, r2]) rfl ⟨_, rfl, ⟨some ⟨b, 0, none⟩, M, M, rfl, ?_, by omega⟩, ext3 HKE.out (by omega) _ _ _⟩
      exact Own.mono (own3 (hH.out.own (lo := w.heap.size + 1 + 1 + 1) (hi := wr.heap.size) (by omega) hltb (HTL.out _)) (by omega) _ _ _) (by omega) (by simp)
end Go.Proofs.Ytapaopapgnfdkaa
