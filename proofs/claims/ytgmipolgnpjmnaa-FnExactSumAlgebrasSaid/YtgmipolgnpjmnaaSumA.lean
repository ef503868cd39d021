/-
  Sums of algebras: both texts.
-/
import Derived.Test.YtgmipolgnpjmnaaPlc
import Derived.Test.YtgmipolgnpjmnaaAlgE
namespace Go.Proofs.Ytgmipolgnpjmnaa
open Go.ChangeShapes Go.WideShapes Go.ChangeAt Go.RowKit
set_option linter.unusedVariables false
set_option linter.unusedSimpArgs false

noncomputable def sumT (da db : Nat) (l l' : List Int) : List Int := piTo (da + db) da db l' (piTo (da + db) 0 da l (List.replicate ((da + db) * (da + db) * (da + db)) 0) da) db
noncomputable def sumB (P D : Int) (l : List Int) (P' D' : Int) (l' : List Int) : Bool := algB P D l && (algB P' D' l' && ((P == P') && decide (D + D' ≤ 28)))
noncomputable def sumA (P D : Int) (l : List Int) (P' D' : Int) (l' : List Int) : Alg × Bool :=
  if sumB P D l P' D' l' then (⟨P, D + D', sumT D.toNat D'.toNat l l'⟩, true) else (noAlg, false)
set_option maxHeartbeats 400000 in
theorem newLie2 (P D : Int) (w : World) (h : inB D 0 28 = true) :
    Calls Try.prog 54 #[.int .i64 P, .int .i64 D] w fun e w' => ∃ B b, e = .returned (.pointer (some ⟨B, 0, none⟩)) ∧ Cells w' B [.int .i64 P, .int .i64 D, .slice (some ⟨b, 0, none⟩) (D * D * D).toNat (D * D * D).toNat] ∧ w.heap.size ≤ b ∧ b < w'.heap.size ∧ Has w' b (List.replicate (D * D * D).toNat 0) ∧ Ext w w' ∧ w.heap.size ≤ B ∧ B ≠ b := by
  obtain ⟨v1, v2, g0, g1⟩ := cubeI h
  have hmk := make_intsz (D * D * D) g0 g1
  clear h g0 g1
  go_enter Try.func54, Try.ntmps54
  go_wp2
  go_ret
  exact ⟨w.heap.size + 1, w.heap.size, rfl, cells_new' _ _ _ _ (by simp), Nat.le_refl _, by simp; omega, (Has.new w _).ext ((Ext.refl _).alloc _), ((Ext.refl _).alloc _).alloc _, by omega, by omega⟩

set_option maxRecDepth 100000 in
set_option maxHeartbeats 6400000 in
theorem sumAlgebras_impl {P D : Int} {a0 oa n : Nat} {l : List Int} {P' D' : Int} {b0 ob n' : Nat} {l' : List Int} {w : World} {p d : Int} {xs : List Int} {ok : Bool} (hT : Reads w (some ⟨a0, oa, none⟩) n l) (hm : n ≤ 1048576) (hT' : Reads w (some ⟨b0, ob, none⟩) n' l') (hm' : n' ≤ 1048576) (hM : sumA P D l P' D' l' = (⟨p, d, xs⟩, ok)) :
    Calls Try.prog 18 #[.agg #[.int .i64 P, .int .i64 D, .slice (some ⟨a0, oa, none⟩) n n], .agg #[(.int .i64 P'), (.int .i64 D'), (.slice (some ⟨b0, ob, none⟩) n' n')]] w fun e w' => ∃ v, e = .returned (.tuple #[v, .bool ok]) ∧ Ralg w w' v p d xs ∧ Ext w w' := by
  have HT := Lib.hid hT
  have HT' := Lib.hid hT'
  have FAIL : sumB P D l P' D' l' = false → p = 0 ∧ d = 0 ∧ xs = [] ∧ ok = false := fun hn => by
    simp only [sumA, hn, noAlg, Bool.false_eq_true, if_false, Prod.mk.injEq, Alg.mk.injEq] at hM
    obtain ⟨⟨rfl, rfl, rfl⟩, rfl⟩ := hM
    exact ⟨rfl, rfl, rfl, rfl⟩
  have HB : sumB P D l P' D' l' = (algB P D l && (algB P' D' l' && ((P == P') && decide (D + D' ≤ 28)))) := rfl
  rcases h0 : algB P D l with _ | _
  · obtain ⟨rfl, rfl, rfl, rfl⟩ := FAIL (by rw [HB, h0]; rfl)
    have H0 := Lib.hid h0
    clear FAIL HB h0 hM hT hT'
    go_enter Try.func18, Try.ntmps18
    have A0_1 := Lib.hid (((cells_new' w #[.int .i64 P, .int .i64 D, .slice (some ⟨a0, oa, none⟩) n n] 26 (w.heap.size) (by simp)).ext ((Ext.refl _).alloc (.cells #[(.int .i64 P'), (.int .i64 D'), (.slice (some ⟨b0, ob, none⟩) n' n')] 26))).ext ((Ext.refl _).alloc (.cells #[.int .i64 0, .int .i64 0, .slice none 0 0] 26)))
    have A1_2 := Lib.hid ((cells_new' (w.alloc (.cells #[.int .i64 P, .int .i64 D, .slice (some ⟨a0, oa, none⟩) n n] 26)) #[(.int .i64 P'), (.int .i64 D'), (.slice (some ⟨b0, ob, none⟩) n' n')] 26 (w.heap.size + 1) (by simp)).ext ((Ext.refl _).alloc (.cells #[.int .i64 0, .int .i64 0, .slice none 0 0] 26)))
    have R_3 := Lib.hid (cells_new' ((w.alloc (.cells #[.int .i64 P, .int .i64 D, .slice (some ⟨a0, oa, none⟩) n n] 26)).alloc (.cells #[(.int .i64 P'), (.int .i64 D'), (.slice (some ⟨b0, ob, none⟩) n' n')] 26)) #[.int .i64 0, .int .i64 0, .slice none 0 0] 26 (w.heap.size + 1 + 1) (by simp))
    have E_4 := Lib.hid ((((Ext.refl w).alloc (.cells #[.int .i64 P, .int .i64 D, .slice (some ⟨a0, oa, none⟩) n n] 26)).alloc (.cells #[(.int .i64 P'), (.int .i64 D'), (.slice (some ⟨b0, ob, none⟩) n' n')] 26)).alloc (.cells #[.int .i64 0, .int .i64 0, .slice none 0 0] 26))
    have lA0 := A0_1.out.1
    have qA00 := A0_1.out.2 0 _ rfl
    have qA01 := A0_1.out.2 1 _ rfl
    have qA02 := A0_1.out.2 2 _ rfl
    have lA1 := A1_2.out.1
    have qA10 := A1_2.out.2 0 _ rfl
    have qA11 := A1_2.out.2 1 _ rfl
    have qA12 := A1_2.out.2 2 _ rfl
    try simp only [World.size_alloc] at lA0 lA1
    go_wp2_with fail
    refine (wrap_impl _ _ a0 oa n n l _ (HT.out.ext E_4.out) hm (Nat.le_refl _) (by unfold maxLen; omega)).mono ?_
    rintro e w_5 ⟨BA, rfl, hb, hlo, h_5⟩
    clear lA0 qA00 qA01 qA02 lA1 qA10 qA11 qA12
    have A0_6 := Lib.hid (A0_1.out.ext h_5)
    clear A0_1
    have A1_7 := Lib.hid (A1_2.out.ext h_5)
    clear A1_2
    have R_8 := Lib.hid (R_3.out.ext h_5)
    clear R_3
    have E_9 := Lib.hid (E_4.out.trans h_5)
    clear E_4
    have B1_10 := Lib.hid hb
    clear hb
    rw [H0.out]
    try simp only [World.size_alloc] at hlo
    have HLO := Lib.hid hlo
    clear hlo
    rcases h1 : algB P' D' l' with _ | _
    · have H1 := Lib.hid h1
      clear h1
      have lA0 := A0_6.out.1
      have qA00 := A0_6.out.2 0 _ rfl
      have qA01 := A0_6.out.2 1 _ rfl
      have qA02 := A0_6.out.2 2 _ rfl
      have lA1 := A1_7.out.1
      have qA10 := A1_7.out.2 0 _ rfl
      have qA11 := A1_7.out.2 1 _ rfl
      have qA12 := A1_7.out.2 2 _ rfl
      try simp only [World.size_alloc] at lA0 lA1
      go_wp2_with fail
      refine (wrap_impl _ _ b0 ob n' n' l' _ (HT'.out.ext E_9.out) hm' (Nat.le_refl _) (by unfold maxLen; omega)).mono ?_
      rintro e w_11 ⟨BB, rfl, hb, hlo, h_11⟩
      clear lA0 qA00 qA01 qA02 lA1 qA10 qA11 qA12
      have A0_12 := Lib.hid (A0_6.out.ext h_11)
      clear A0_6
      have A1_13 := Lib.hid (A1_7.out.ext h_11)
      clear A1_7
      have R_14 := Lib.hid (R_8.out.ext h_11)
      clear R_8
      have B1_15 := Lib.hid (B1_10.out.ext h_11)
      clear B1_10
      have E_16 := Lib.hid (E_9.out.trans h_11)
      clear E_9
      have B2_17 := Lib.hid hb
      clear hb
      rw [H1.out]
      try simp only [World.size_alloc] at hlo
      have HLO2 := Lib.hid hlo
      clear hlo
      have lA0 := A0_12.out.1
      have qA00 := A0_12.out.2 0 _ rfl
      have qA01 := A0_12.out.2 1 _ rfl
      have qA02 := A0_12.out.2 2 _ rfl
      have lA1 := A1_13.out.1
      have qA10 := A1_13.out.2 0 _ rfl
      have qA11 := A1_13.out.2 1 _ rfl
      have qA12 := A1_13.out.2 2 _ rfl
      try simp only [World.size_alloc] at lA0 lA1
      have r0 := R_14.out.2 0 _ rfl
      have r1 := R_14.out.2 1 _ rfl
      have r2 := R_14.out.2 2 _ rfl
      have tR := R_14.out.3
      have lR := R_14.out.1
      go_wp2
      refine bodyPost_ret (v := .tuple #[.agg #[.int .i64 0, .int .i64 0, .slice none 0 0], .bool false]) (by simp [results, Try.results18, go_sem, r0, r1, r2]) rfl ⟨_, rfl, ⟨_, _, _, rfl, own_nil _ _ _, by omega⟩, ext3 E_16.out (by omega) _ _ _⟩
    · have H1 := Lib.hid h1
      clear h1
      have lA0 := A0_6.out.1
      have qA00 := A0_6.out.2 0 _ rfl
      have qA01 := A0_6.out.2 1 _ rfl
      have qA02 := A0_6.out.2 2 _ rfl
      have lA1 := A1_7.out.1
      have qA10 := A1_7.out.2 0 _ rfl
      have qA11 := A1_7.out.2 1 _ rfl
      have qA12 := A1_7.out.2 2 _ rfl
      try simp only [World.size_alloc] at lA0 lA1
      go_wp2_with fail
      refine (wrap_impl _ _ b0 ob n' n' l' _ (HT'.out.ext E_9.out) hm' (Nat.le_refl _) (by unfold maxLen; omega)).mono ?_
      rintro e w_11 ⟨BB, rfl, hb, hlo, h_11⟩
      clear lA0 qA00 qA01 qA02 lA1 qA10 qA11 qA12
      have A0_12 := Lib.hid (A0_6.out.ext h_11)
      clear A0_6
      have A1_13 := Lib.hid (A1_7.out.ext h_11)
      clear A1_7
      have R_14 := Lib.hid (R_8.out.ext h_11)
      clear R_8
      have B1_15 := Lib.hid (B1_10.out.ext h_11)
      clear B1_10
      have E_16 := Lib.hid (E_9.out.trans h_11)
      clear E_9
      have B2_17 := Lib.hid hb
      clear hb
      rw [H1.out]
      try simp only [World.size_alloc] at hlo
      have HLO2 := Lib.hid hlo
      clear hlo
      have lA0 := A0_12.out.1
      have qA00 := A0_12.out.2 0 _ rfl
      have qA01 := A0_12.out.2 1 _ rfl
      have qA02 := A0_12.out.2 2 _ rfl
      have lA1 := A1_13.out.1
      have qA10 := A1_13.out.2 0 _ rfl
      have qA11 := A1_13.out.2 1 _ rfl
      have qA12 := A1_13.out.2 2 _ rfl
      try simp only [World.size_alloc] at lA0 lA1
      have r0 := R_14.out.2 0 _ rfl
      have r1 := R_14.out.2 1 _ rfl
      have r2 := R_14.out.2 2 _ rfl
      have tR := R_14.out.3
      have lR := R_14.out.1
      go_wp2
      refine bodyPost_ret (v := .tuple #[.agg #[.int .i64 0, .int .i64 0, .slice none 0 0], .bool false]) (by simp [results, Try.results18, go_sem, r0, r1, r2]) rfl ⟨_, rfl, ⟨_, _, _, rfl, own_nil _ _ _, by omega⟩, ext3 E_16.out (by omega) _ _ _⟩
  have H0 := Lib.hid h0
  rcases h1 : algB P' D' l' with _ | _
  · obtain ⟨rfl, rfl, rfl, rfl⟩ := FAIL (by rw [HB, h0, h1]; rfl)
    have H1 := Lib.hid h1
    clear FAIL HB h0 h1 hM hT hT'
    go_enter Try.func18, Try.ntmps18
    have A0_1 := Lib.hid (((cells_new' w #[.int .i64 P, .int .i64 D, .slice (some ⟨a0, oa, none⟩) n n] 26 (w.heap.size) (by simp)).ext ((Ext.refl _).alloc (.cells #[(.int .i64 P'), (.int .i64 D'), (.slice (some ⟨b0, ob, none⟩) n' n')] 26))).ext ((Ext.refl _).alloc (.cells #[.int .i64 0, .int .i64 0, .slice none 0 0] 26)))
    have A1_2 := Lib.hid ((cells_new' (w.alloc (.cells #[.int .i64 P, .int .i64 D, .slice (some ⟨a0, oa, none⟩) n n] 26)) #[(.int .i64 P'), (.int .i64 D'), (.slice (some ⟨b0, ob, none⟩) n' n')] 26 (w.heap.size + 1) (by simp)).ext ((Ext.refl _).alloc (.cells #[.int .i64 0, .int .i64 0, .slice none 0 0] 26)))
    have R_3 := Lib.hid (cells_new' ((w.alloc (.cells #[.int .i64 P, .int .i64 D, .slice (some ⟨a0, oa, none⟩) n n] 26)).alloc (.cells #[(.int .i64 P'), (.int .i64 D'), (.slice (some ⟨b0, ob, none⟩) n' n')] 26)) #[.int .i64 0, .int .i64 0, .slice none 0 0] 26 (w.heap.size + 1 + 1) (by simp))
    have E_4 := Lib.hid ((((Ext.refl w).alloc (.cells #[.int .i64 P, .int .i64 D, .slice (some ⟨a0, oa, none⟩) n n] 26)).alloc (.cells #[(.int .i64 P'), (.int .i64 D'), (.slice (some ⟨b0, ob, none⟩) n' n')] 26)).alloc (.cells #[.int .i64 0, .int .i64 0, .slice none 0 0] 26))
    have lA0 := A0_1.out.1
    have qA00 := A0_1.out.2 0 _ rfl
    have qA01 := A0_1.out.2 1 _ rfl
    have qA02 := A0_1.out.2 2 _ rfl
    have lA1 := A1_2.out.1
    have qA10 := A1_2.out.2 0 _ rfl
    have qA11 := A1_2.out.2 1 _ rfl
    have qA12 := A1_2.out.2 2 _ rfl
    try simp only [World.size_alloc] at lA0 lA1
    go_wp2_with fail
    refine (wrap_impl _ _ a0 oa n n l _ (HT.out.ext E_4.out) hm (Nat.le_refl _) (by unfold maxLen; omega)).mono ?_
    rintro e w_5 ⟨BA, rfl, hb, hlo, h_5⟩
    clear lA0 qA00 qA01 qA02 lA1 qA10 qA11 qA12
    have A0_6 := Lib.hid (A0_1.out.ext h_5)
    clear A0_1
    have A1_7 := Lib.hid (A1_2.out.ext h_5)
    clear A1_2
    have R_8 := Lib.hid (R_3.out.ext h_5)
    clear R_3
    have E_9 := Lib.hid (E_4.out.trans h_5)
    clear E_4
    have B1_10 := Lib.hid hb
    clear hb
    rw [H0.out]
    try simp only [World.size_alloc] at hlo
    have HLO := Lib.hid hlo
    clear hlo
    have lA0 := A0_6.out.1
    have qA00 := A0_6.out.2 0 _ rfl
    have qA01 := A0_6.out.2 1 _ rfl
    have qA02 := A0_6.out.2 2 _ rfl
    have lA1 := A1_7.out.1
    have qA10 := A1_7.out.2 0 _ rfl
    have qA11 := A1_7.out.2 1 _ rfl
    have qA12 := A1_7.out.2 2 _ rfl
    try simp only [World.size_alloc] at lA0 lA1
    go_wp2_with fail
    refine (wrap_impl _ _ b0 ob n' n' l' _ (HT'.out.ext E_9.out) hm' (Nat.le_refl _) (by unfold maxLen; omega)).mono ?_
    rintro e w_11 ⟨BB, rfl, hb, hlo, h_11⟩
    clear lA0 qA00 qA01 qA02 lA1 qA10 qA11 qA12
    have A0_12 := Lib.hid (A0_6.out.ext h_11)
    clear A0_6
    have A1_13 := Lib.hid (A1_7.out.ext h_11)
    clear A1_7
    have R_14 := Lib.hid (R_8.out.ext h_11)
    clear R_8
    have B1_15 := Lib.hid (B1_10.out.ext h_11)
    clear B1_10
    have E_16 := Lib.hid (E_9.out.trans h_11)
    clear E_9
    have B2_17 := Lib.hid hb
    clear hb
    rw [H1.out]
    try simp only [World.size_alloc] at hlo
    have HLO2 := Lib.hid hlo
    clear hlo
    have lA0 := A0_12.out.1
    have qA00 := A0_12.out.2 0 _ rfl
    have qA01 := A0_12.out.2 1 _ rfl
    have qA02 := A0_12.out.2 2 _ rfl
    have lA1 := A1_13.out.1
    have qA10 := A1_13.out.2 0 _ rfl
    have qA11 := A1_13.out.2 1 _ rfl
    have qA12 := A1_13.out.2 2 _ rfl
    try simp only [World.size_alloc] at lA0 lA1
    have r0 := R_14.out.2 0 _ rfl
    have r1 := R_14.out.2 1 _ rfl
    have r2 := R_14.out.2 2 _ rfl
    have tR := R_14.out.3
    have lR := R_14.out.1
    go_wp2
    refine bodyPost_ret (v := .tuple #[.agg #[.int .i64 0, .int .i64 0, .slice none 0 0], .bool false]) (by simp [results, Try.results18, go_sem, r0, r1, r2]) rfl ⟨_, rfl, ⟨_, _, _, rfl, own_nil _ _ _, by omega⟩, ext3 E_16.out (by omega) _ _ _⟩
  have H1 := Lib.hid h1
  by_cases h2 : P = P'
  case neg =>
    obtain ⟨rfl, rfl, rfl, rfl⟩ := FAIL (by rw [HB, h0, h1]; simp [h2])
    have hpp : (P != P') = true := by simpa using h2
    clear FAIL HB h0 h1 h2 hM hT hT'
    go_enter Try.func18, Try.ntmps18
    have A0_1 := Lib.hid (((cells_new' w #[.int .i64 P, .int .i64 D, .slice (some ⟨a0, oa, none⟩) n n] 26 (w.heap.size) (by simp)).ext ((Ext.refl _).alloc (.cells #[(.int .i64 P'), (.int .i64 D'), (.slice (some ⟨b0, ob, none⟩) n' n')] 26))).ext ((Ext.refl _).alloc (.cells #[.int .i64 0, .int .i64 0, .slice none 0 0] 26)))
    have A1_2 := Lib.hid ((cells_new' (w.alloc (.cells #[.int .i64 P, .int .i64 D, .slice (some ⟨a0, oa, none⟩) n n] 26)) #[(.int .i64 P'), (.int .i64 D'), (.slice (some ⟨b0, ob, none⟩) n' n')] 26 (w.heap.size + 1) (by simp)).ext ((Ext.refl _).alloc (.cells #[.int .i64 0, .int .i64 0, .slice none 0 0] 26)))
    have R_3 := Lib.hid (cells_new' ((w.alloc (.cells #[.int .i64 P, .int .i64 D, .slice (some ⟨a0, oa, none⟩) n n] 26)).alloc (.cells #[(.int .i64 P'), (.int .i64 D'), (.slice (some ⟨b0, ob, none⟩) n' n')] 26)) #[.int .i64 0, .int .i64 0, .slice none 0 0] 26 (w.heap.size + 1 + 1) (by simp))
    have E_4 := Lib.hid ((((Ext.refl w).alloc (.cells #[.int .i64 P, .int .i64 D, .slice (some ⟨a0, oa, none⟩) n n] 26)).alloc (.cells #[(.int .i64 P'), (.int .i64 D'), (.slice (some ⟨b0, ob, none⟩) n' n')] 26)).alloc (.cells #[.int .i64 0, .int .i64 0, .slice none 0 0] 26))
    have lA0 := A0_1.out.1
    have qA00 := A0_1.out.2 0 _ rfl
    have qA01 := A0_1.out.2 1 _ rfl
    have qA02 := A0_1.out.2 2 _ rfl
    have lA1 := A1_2.out.1
    have qA10 := A1_2.out.2 0 _ rfl
    have qA11 := A1_2.out.2 1 _ rfl
    have qA12 := A1_2.out.2 2 _ rfl
    try simp only [World.size_alloc] at lA0 lA1
    go_wp2_with fail
    refine (wrap_impl _ _ a0 oa n n l _ (HT.out.ext E_4.out) hm (Nat.le_refl _) (by unfold maxLen; omega)).mono ?_
    rintro e w_5 ⟨BA, rfl, hb, hlo, h_5⟩
    clear lA0 qA00 qA01 qA02 lA1 qA10 qA11 qA12
    have A0_6 := Lib.hid (A0_1.out.ext h_5)
    clear A0_1
    have A1_7 := Lib.hid (A1_2.out.ext h_5)
    clear A1_2
    have R_8 := Lib.hid (R_3.out.ext h_5)
    clear R_3
    have E_9 := Lib.hid (E_4.out.trans h_5)
    clear E_4
    have B1_10 := Lib.hid hb
    clear hb
    rw [H0.out]
    try simp only [World.size_alloc] at hlo
    have HLO := Lib.hid hlo
    clear hlo
    have lA0 := A0_6.out.1
    have qA00 := A0_6.out.2 0 _ rfl
    have qA01 := A0_6.out.2 1 _ rfl
    have qA02 := A0_6.out.2 2 _ rfl
    have lA1 := A1_7.out.1
    have qA10 := A1_7.out.2 0 _ rfl
    have qA11 := A1_7.out.2 1 _ rfl
    have qA12 := A1_7.out.2 2 _ rfl
    try simp only [World.size_alloc] at lA0 lA1
    go_wp2_with fail
    refine (wrap_impl _ _ b0 ob n' n' l' _ (HT'.out.ext E_9.out) hm' (Nat.le_refl _) (by unfold maxLen; omega)).mono ?_
    rintro e w_11 ⟨BB, rfl, hb, hlo, h_11⟩
    clear lA0 qA00 qA01 qA02 lA1 qA10 qA11 qA12
    have A0_12 := Lib.hid (A0_6.out.ext h_11)
    clear A0_6
    have A1_13 := Lib.hid (A1_7.out.ext h_11)
    clear A1_7
    have R_14 := Lib.hid (R_8.out.ext h_11)
    clear R_8
    have B1_15 := Lib.hid (B1_10.out.ext h_11)
    clear B1_10
    have E_16 := Lib.hid (E_9.out.trans h_11)
    clear E_9
    have B2_17 := Lib.hid hb
    clear hb
    rw [H1.out]
    try simp only [World.size_alloc] at hlo
    have HLO2 := Lib.hid hlo
    clear hlo
    have lA0 := A0_12.out.1
    have qA00 := A0_12.out.2 0 _ rfl
    have qA01 := A0_12.out.2 1 _ rfl
    have qA02 := A0_12.out.2 2 _ rfl
    have lA1 := A1_13.out.1
    have qA10 := A1_13.out.2 0 _ rfl
    have qA11 := A1_13.out.2 1 _ rfl
    have qA12 := A1_13.out.2 2 _ rfl
    try simp only [World.size_alloc] at lA0 lA1
    have r0 := R_14.out.2 0 _ rfl
    have r1 := R_14.out.2 1 _ rfl
    have r2 := R_14.out.2 2 _ rfl
    have tR := R_14.out.3
    have lR := R_14.out.1
    go_wp2
    refine bodyPost_ret (v := .tuple #[.agg #[.int .i64 0, .int .i64 0, .slice none 0 0], .bool false]) (by simp [results, Try.results18, go_sem, r0, r1, r2]) rfl ⟨_, rfl, ⟨_, _, _, rfl, own_nil _ _ _, by omega⟩, ext3 E_16.out (by omega) _ _ _⟩
  subst h2
  obtain ⟨da, rfl, hA⟩ := algB_parts h0 hT.1
  obtain ⟨db, rfl, hA'⟩ := algB_parts h1 hT'.1
  have hda := hA.dim
  have hdb := hA'.dim
  have hpp : (P != P) = false := by simp
  by_cases h3 : (da : Int) + (db : Int) ≤ 28
  case neg =>
    obtain ⟨rfl, rfl, rfl, rfl⟩ := FAIL (by rw [HB, h0, h1]; simp [h3])
    clear FAIL HB h0 h1 hM hT hT' hA hA'
    go_enter Try.func18, Try.ntmps18
    have A0_1 := Lib.hid (((cells_new' w #[.int .i64 P, .int .i64 da, .slice (some ⟨a0, oa, none⟩) n n] 26 (w.heap.size) (by simp)).ext ((Ext.refl _).alloc (.cells #[(.int .i64 P), (.int .i64 db), (.slice (some ⟨b0, ob, none⟩) n' n')] 26))).ext ((Ext.refl _).alloc (.cells #[.int .i64 0, .int .i64 0, .slice none 0 0] 26)))
    have A1_2 := Lib.hid ((cells_new' (w.alloc (.cells #[.int .i64 P, .int .i64 da, .slice (some ⟨a0, oa, none⟩) n n] 26)) #[(.int .i64 P), (.int .i64 db), (.slice (some ⟨b0, ob, none⟩) n' n')] 26 (w.heap.size + 1) (by simp)).ext ((Ext.refl _).alloc (.cells #[.int .i64 0, .int .i64 0, .slice none 0 0] 26)))
    have R_3 := Lib.hid (cells_new' ((w.alloc (.cells #[.int .i64 P, .int .i64 da, .slice (some ⟨a0, oa, none⟩) n n] 26)).alloc (.cells #[(.int .i64 P), (.int .i64 db), (.slice (some ⟨b0, ob, none⟩) n' n')] 26)) #[.int .i64 0, .int .i64 0, .slice none 0 0] 26 (w.heap.size + 1 + 1) (by simp))
    have E_4 := Lib.hid ((((Ext.refl w).alloc (.cells #[.int .i64 P, .int .i64 da, .slice (some ⟨a0, oa, none⟩) n n] 26)).alloc (.cells #[(.int .i64 P), (.int .i64 db), (.slice (some ⟨b0, ob, none⟩) n' n')] 26)).alloc (.cells #[.int .i64 0, .int .i64 0, .slice none 0 0] 26))
    have lA0 := A0_1.out.1
    have qA00 := A0_1.out.2 0 _ rfl
    have qA01 := A0_1.out.2 1 _ rfl
    have qA02 := A0_1.out.2 2 _ rfl
    have lA1 := A1_2.out.1
    have qA10 := A1_2.out.2 0 _ rfl
    have qA11 := A1_2.out.2 1 _ rfl
    have qA12 := A1_2.out.2 2 _ rfl
    try simp only [World.size_alloc] at lA0 lA1
    go_wp2_with fail
    refine (wrap_impl _ _ a0 oa n n l _ (HT.out.ext E_4.out) hm (Nat.le_refl _) (by unfold maxLen; omega)).mono ?_
    rintro e w_5 ⟨BA, rfl, hb, hlo, h_5⟩
    clear lA0 qA00 qA01 qA02 lA1 qA10 qA11 qA12
    have A0_6 := Lib.hid (A0_1.out.ext h_5)
    clear A0_1
    have A1_7 := Lib.hid (A1_2.out.ext h_5)
    clear A1_2
    have R_8 := Lib.hid (R_3.out.ext h_5)
    clear R_3
    have E_9 := Lib.hid (E_4.out.trans h_5)
    clear E_4
    have B1_10 := Lib.hid hb
    clear hb
    rw [H0.out]
    try simp only [World.size_alloc] at hlo
    have HLO := Lib.hid hlo
    clear hlo
    have lA0 := A0_6.out.1
    have qA00 := A0_6.out.2 0 _ rfl
    have qA01 := A0_6.out.2 1 _ rfl
    have qA02 := A0_6.out.2 2 _ rfl
    have lA1 := A1_7.out.1
    have qA10 := A1_7.out.2 0 _ rfl
    have qA11 := A1_7.out.2 1 _ rfl
    have qA12 := A1_7.out.2 2 _ rfl
    try simp only [World.size_alloc] at lA0 lA1
    go_wp2_with fail
    refine (wrap_impl _ _ b0 ob n' n' l' _ (HT'.out.ext E_9.out) hm' (Nat.le_refl _) (by unfold maxLen; omega)).mono ?_
    rintro e w_11 ⟨BB, rfl, hb, hlo, h_11⟩
    clear lA0 qA00 qA01 qA02 lA1 qA10 qA11 qA12
    have A0_12 := Lib.hid (A0_6.out.ext h_11)
    clear A0_6
    have A1_13 := Lib.hid (A1_7.out.ext h_11)
    clear A1_7
    have R_14 := Lib.hid (R_8.out.ext h_11)
    clear R_8
    have B1_15 := Lib.hid (B1_10.out.ext h_11)
    clear B1_10
    have E_16 := Lib.hid (E_9.out.trans h_11)
    clear E_9
    have B2_17 := Lib.hid hb
    clear hb
    rw [H1.out]
    try simp only [World.size_alloc] at hlo
    have HLO2 := Lib.hid hlo
    clear hlo
    have lA0 := A0_12.out.1
    have qA00 := A0_12.out.2 0 _ rfl
    have qA01 := A0_12.out.2 1 _ rfl
    have qA02 := A0_12.out.2 2 _ rfl
    have lA1 := A1_13.out.1
    have qA10 := A1_13.out.2 0 _ rfl
    have qA11 := A1_13.out.2 1 _ rfl
    have qA12 := A1_13.out.2 2 _ rfl
    try simp only [World.size_alloc] at lA0 lA1
    have r0 := R_14.out.2 0 _ rfl
    have r1 := R_14.out.2 1 _ rfl
    have r2 := R_14.out.2 2 _ rfl
    have tR := R_14.out.3
    have lR := R_14.out.1
    go_wp2
    refine bodyPost_ret (v := .tuple #[.agg #[.int .i64 0, .int .i64 0, .slice none 0 0], .bool false]) (by simp [results, Try.results18, go_sem, r0, r1, r2]) rfl ⟨_, rfl, ⟨_, _, _, rfl, own_nil _ _ _, by omega⟩, ext3 E_16.out (by omega) _ _ _⟩
  have hsb : sumB P da l P db l' = true := by rw [HB, h0, h1]; simp [h3]
  simp only [sumA, hsb, if_true, Prod.mk.injEq, Alg.mk.injEq, Int.toNat_natCast] at hM
  obtain ⟨⟨rfl, rfl, rfl⟩, rfl⟩ := hM
  have hab : da + db ≤ 28 := by omega
  have hc28 := cube28 hab
  have hLEN : Hid ((sumT da db l l').length = (da + db) * (da + db) * (da + db)) := by rw [Hid, sumT, piTo_length, piTo_length]; simp
  have HST : Hid (sumT da db l l' = piTo (da + db) da db l' (piTo (da + db) 0 da l (List.replicate ((da + db) * (da + db) * (da + db)) 0) da) db) := rfl
  have HAL := Lib.hid hA.len
  have HBL := Lib.hid hA'.len
  have hin : inB ((da : Int) + (db : Int)) 0 28 = true := inB_iff.2 ⟨by omega, h3⟩
  have HNL : Hid (∀ w1, Calls Try.prog 54 #[.int .i64 P, .int .i64 ((da : Int) + (db : Int))] w1 fun e w' => ∃ B b, e = .returned (.pointer (some ⟨B, 0, none⟩)) ∧ Cells w' B [.int .i64 P, .int .i64 ((da : Int) + (db : Int)), .slice (some ⟨b, 0, none⟩) ((da + db) * (da + db) * (da + db)) ((da + db) * (da + db) * (da + db))] ∧ w1.heap.size ≤ b ∧ b < w'.heap.size ∧ Has w' b (List.replicate ((da + db) * (da + db) * (da + db)) 0) ∧ Ext w1 w' ∧ w1.heap.size ≤ B ∧ B ≠ b) := fun w1 => by
    have e9 : (((da : Int) + (db : Int)) * ((da : Int) + (db : Int)) * ((da : Int) + (db : Int))).toNat = (da + db) * (da + db) * (da + db) := by
      rw [← Int.natCast_add, ← Int.natCast_mul, ← Int.natCast_mul, Int.toNat_natCast]
    have h9 := newLie2 P ((da : Int) + (db : Int)) w1 hin
    rw [e9] at h9
    exact h9
  have HPL : Hid (∀ (w1 : World) (BL BP b p0 po np d off : Nat) (L xs : List Int), Cells w1 BL [.int .i64 P, .int .i64 ((da : Int) + (db : Int)), .slice (some ⟨b, 0, none⟩) ((da + db) * (da + db) * (da + db)) ((da + db) * (da + db) * (da + db))] → Cells w1 BP [.int .i64 P, .int .i64 d, .slice (some ⟨p0, po, none⟩) np np] → np = d * d * d → off + d ≤ da + db → np ≤ 1048576 → Has w1 b L → L.length = (da + db) * (da + db) * (da + db) → Reads w1 (some ⟨p0, po, none⟩) np xs → BL ≠ b → BP ≠ b → (0 < np → p0 ≠ b) → Calls Try.prog 55 #[.pointer (some ⟨BL, 0, none⟩), .pointer (some ⟨BP, 0, none⟩), .int .i64 off] w1 fun e w' => e = .returned (.tuple #[]) ∧ Has w' b (piTo (da + db) off d xs L d) ∧ w1.grownBy w' (some b)) := fun w1 BL BP b p0 po np d off L xs c1 c2 c3 c4 c5 c6 c7 c8 c9 c10 c11 =>
    place_impl P P (da + db) _ d np np BL BP b p0 po off L xs w1 (by simpa using c1) c2 hab rfl c3 (Nat.le_refl _) (by unfold maxLen; omega) c4 c6 c7 c8 ⟨c9, c10, c11⟩
  clear FAIL HB h0 h1 hT hT' hA hA' hsb hin
  go_enter Try.func18, Try.ntmps18
  have A0_1 := Lib.hid (((cells_new' w #[.int .i64 P, .int .i64 da, .slice (some ⟨a0, oa, none⟩) n n] 26 (w.heap.size) (by simp)).ext ((Ext.refl _).alloc (.cells #[(.int .i64 P), (.int .i64 db), (.slice (some ⟨b0, ob, none⟩) n' n')] 26))).ext ((Ext.refl _).alloc (.cells #[.int .i64 0, .int .i64 0, .slice none 0 0] 26)))
  have A1_2 := Lib.hid ((cells_new' (w.alloc (.cells #[.int .i64 P, .int .i64 da, .slice (some ⟨a0, oa, none⟩) n n] 26)) #[(.int .i64 P), (.int .i64 db), (.slice (some ⟨b0, ob, none⟩) n' n')] 26 (w.heap.size + 1) (by simp)).ext ((Ext.refl _).alloc (.cells #[.int .i64 0, .int .i64 0, .slice none 0 0] 26)))
  have R_3 := Lib.hid (cells_new' ((w.alloc (.cells #[.int .i64 P, .int .i64 da, .slice (some ⟨a0, oa, none⟩) n n] 26)).alloc (.cells #[(.int .i64 P), (.int .i64 db), (.slice (some ⟨b0, ob, none⟩) n' n')] 26)) #[.int .i64 0, .int .i64 0, .slice none 0 0] 26 (w.heap.size + 1 + 1) (by simp))
  have E_4 := Lib.hid ((((Ext.refl w).alloc (.cells #[.int .i64 P, .int .i64 da, .slice (some ⟨a0, oa, none⟩) n n] 26)).alloc (.cells #[(.int .i64 P), (.int .i64 db), (.slice (some ⟨b0, ob, none⟩) n' n')] 26)).alloc (.cells #[.int .i64 0, .int .i64 0, .slice none 0 0] 26))
  have lA0 := A0_1.out.1
  have qA00 := A0_1.out.2 0 _ rfl
  have qA01 := A0_1.out.2 1 _ rfl
  have qA02 := A0_1.out.2 2 _ rfl
  have lA1 := A1_2.out.1
  have qA10 := A1_2.out.2 0 _ rfl
  have qA11 := A1_2.out.2 1 _ rfl
  have qA12 := A1_2.out.2 2 _ rfl
  try simp only [World.size_alloc] at lA0 lA1
  go_wp2_with fail
  refine (wrap_impl _ _ a0 oa n n l _ (HT.out.ext E_4.out) hm (Nat.le_refl _) (by unfold maxLen; omega)).mono ?_
  rintro e w_5 ⟨BA, rfl, hb, hlo, h_5⟩
  clear lA0 qA00 qA01 qA02 lA1 qA10 qA11 qA12
  have A0_6 := Lib.hid (A0_1.out.ext h_5)
  clear A0_1
  have A1_7 := Lib.hid (A1_2.out.ext h_5)
  clear A1_2
  have R_8 := Lib.hid (R_3.out.ext h_5)
  clear R_3
  have E_9 := Lib.hid (E_4.out.trans h_5)
  clear E_4
  have B1_10 := Lib.hid hb
  clear hb
  rw [H0.out]
  try simp only [World.size_alloc] at hlo
  have HLO := Lib.hid hlo
  clear hlo
  have lA0 := A0_6.out.1
  have qA00 := A0_6.out.2 0 _ rfl
  have qA01 := A0_6.out.2 1 _ rfl
  have qA02 := A0_6.out.2 2 _ rfl
  have lA1 := A1_7.out.1
  have qA10 := A1_7.out.2 0 _ rfl
  have qA11 := A1_7.out.2 1 _ rfl
  have qA12 := A1_7.out.2 2 _ rfl
  try simp only [World.size_alloc] at lA0 lA1
  go_wp2_with fail
  refine (wrap_impl _ _ b0 ob n' n' l' _ (HT'.out.ext E_9.out) hm' (Nat.le_refl _) (by unfold maxLen; omega)).mono ?_
  rintro e w_11 ⟨BB, rfl, hb, hlo, h_11⟩
  clear lA0 qA00 qA01 qA02 lA1 qA10 qA11 qA12
  have A0_12 := Lib.hid (A0_6.out.ext h_11)
  clear A0_6
  have A1_13 := Lib.hid (A1_7.out.ext h_11)
  clear A1_7
  have R_14 := Lib.hid (R_8.out.ext h_11)
  clear R_8
  have B1_15 := Lib.hid (B1_10.out.ext h_11)
  clear B1_10
  have E_16 := Lib.hid (E_9.out.trans h_11)
  clear E_9
  have B2_17 := Lib.hid hb
  clear hb
  rw [H1.out]
  try simp only [World.size_alloc] at hlo
  have HLO2 := Lib.hid hlo
  clear hlo
  have lA0 := A0_12.out.1
  have qA00 := A0_12.out.2 0 _ rfl
  have qA01 := A0_12.out.2 1 _ rfl
  have qA02 := A0_12.out.2 2 _ rfl
  have lA1 := A1_13.out.1
  have qA10 := A1_13.out.2 0 _ rfl
  have qA11 := A1_13.out.2 1 _ rfl
  have qA12 := A1_13.out.2 2 _ rfl
  try simp only [World.size_alloc] at lA0 lA1
  go_wp2_with fail
  refine (HNL.out _).mono ?_
  rintro e w_18 ⟨BL, b, rfl, hcl, hbl, hbl2, hh, h_18, hBl, hBn⟩
  clear lA0 qA00 qA01 qA02 lA1 qA10 qA11 qA12
  have HRl := R_14.out.1
  have HB1l := B1_15.out.1
  have HB2l := B2_17.out.1
  have A0_19 := Lib.hid (A0_12.out.ext h_18)
  clear A0_12
  have A1_20 := Lib.hid (A1_13.out.ext h_18)
  clear A1_13
  have R_21 := Lib.hid (R_14.out.ext h_18)
  clear R_14
  have B1_22 := Lib.hid (B1_15.out.ext h_18)
  clear B1_15
  have B2_23 := Lib.hid (B2_17.out.ext h_18)
  clear B2_17
  have E_24 := Lib.hid (E_16.out.trans h_18)
  clear E_16
  have CL := Lib.hid hcl
  have H2 := Lib.hid hh
  clear hcl hh
  have RA := Lib.hid (HT.out.ext E_24.out)
  have hpa : Hid (0 < n → a0 ≠ b) := fun h9 => by
    rcases HT.out.2 with h | ⟨b3, o3, h, hb3, _⟩
    · omega
    · simp only [Option.some.injEq, Addr.mk.injEq, and_true] at h
      omega
  have hpb : Hid (0 < n' → b0 ≠ b) := fun h9 => by
    rcases HT'.out.2 with h | ⟨b3, o3, h, hb3, _⟩
    · omega
    · simp only [Option.some.injEq, Addr.mk.injEq, and_true] at h
      omega
  have HWB : Hid (w.heap.size + 1 + 1 < b) := by show _ < _; omega
  have HN1 : Hid (BA ≠ b ∧ BB ≠ b) := ⟨by omega, by omega⟩
  have HBN := Lib.hid hBn
  clear hBl hbl HB1l HB2l hBn h_18
  go_wp2_with fail
  refine (HPL.out _ BL BA b a0 oa n da 0 (List.replicate ((da + db) * (da + db) * (da + db)) 0) l CL.out B1_22.out HAL.out (by omega) hm H2.out (by simp) RA.out HBN.out HN1.out.1 hpa.out).mono ?_
  rintro e w7 ⟨rfl, hk7, g7⟩
  have A7 := Lib.hid (A1_20.out.grown g7 (fun z hz => by simp at hz; have := HWB.out; have := HN1.out; have := HBN.out; omega))
  have A6 := Lib.hid (A0_19.out.grown g7 (fun z hz => by simp at hz; have := HWB.out; have := HN1.out; have := HBN.out; omega))
  have R7 := Lib.hid (R_21.out.grown g7 (fun z hz => by simp at hz; have := HWB.out; have := HN1.out; have := HBN.out; omega))
  have C7 := Lib.hid (CL.out.grown g7 (fun z hz => by simp at hz; have := HWB.out; have := HN1.out; have := HBN.out; omega))
  have D7 := Lib.hid (B2_23.out.grown g7 (fun z hz => by simp at hz; have := HWB.out; have := HN1.out; have := HBN.out; omega))
  have E7 := Lib.hid (E_24.out.grown g7 (fun z hz => by simp at hz; have := HWB.out; have := HN1.out; have := HBN.out; omega))
  have H7 := Lib.hid hk7
  have RB := Lib.hid (HT'.out.ext E7.out)
  clear hk7 g7 CL H2 RA A0_19 A1_20 R_21 B1_22 B2_23 E_24
  have l6 := A6.out.1
  have q61 := A6.out.2 1 _ rfl
  go_wp2_with fail
  clear l6 q61
  refine (HPL.out _ BL BB b b0 ob n' db da (piTo (da + db) 0 da l (List.replicate ((da + db) * (da + db) * (da + db)) 0) da) l' C7.out D7.out HBL.out (by omega) hm' H7.out (by rw [piTo_length]; simp) RB.out HBN.out HN1.out.2 hpb.out).mono ?_
  rintro e w8 ⟨rfl, hk8, g8⟩
  rw [← HST.out] at hk8
  have R8 := Lib.hid (R7.out.grown g8 (fun z hz => by simp at hz; have := HWB.out; have := HN1.out; have := HBN.out; omega))
  have C8 := Lib.hid (C7.out.grown g8 (fun z hz => by simp at hz; have := HWB.out; have := HN1.out; have := HBN.out; omega))
  have E8 := Lib.hid (E7.out.grown g8 (fun z hz => by simp at hz; have := HWB.out; have := HN1.out; have := HBN.out; omega))
  have H8 := Lib.hid hk8
  clear hk8 g8 A7 A6 R7 C7 D7 E7 H7 RB
  have r0 := R8.out.2 0 _ rfl
  have r1 := R8.out.2 1 _ rfl
  have r2 := R8.out.2 2 _ rfl
  have tR := R8.out.3
  have lR := R8.out.1
  have lC := C8.out.1
  have s0 := C8.out.2 0 _ rfl
  have s1 := C8.out.2 1 _ rfl
  have s2 := C8.out.2 2 _ rfl
  have hwb := HWB.out
  have hlt := H8.out.lt
  go_wp2
  refine bodyPost_ret (v := .tuple #[.agg #[.int .i64 P, .int .i64 ((da : Int) + (db : Int)), .slice (some ⟨b, 0, none⟩) ((da + db) * (da + db) * (da + db)) ((da + db) * (da + db) * (da + db))], .bool true]) (by simp [results, Try.results18, go_sem, r0, r1, r2]) rfl ⟨_, rfl, ⟨_, _, _, rfl, ?_, by omega⟩, ext3 E8.out (by omega) _ _ _⟩
  exact Own.mono (own3 (H8.out.own (lo := w.heap.size + 1 + 1 + 1) (hi := w8.heap.size) (by omega) hlt hLEN.out) (by omega) _ _ _) (by omega) (by simp)

set_option maxRecDepth 100000 in
set_option maxHeartbeats 6400000 in
theorem sumAlgebras_spec {P D : Int} {a0 oa n : Nat} {l : List Int} {P' D' : Int} {b0 ob n' : Nat} {l' : List Int} {w : World} {p d : Int} {xs : List Int} {ok : Bool} (hT : Reads w (some ⟨a0, oa, none⟩) n l) (hm : n ≤ 1048576) (hT' : Reads w (some ⟨b0, ob, none⟩) n' l') (hm' : n' ≤ 1048576) (hM : sumA P D l P' D' l' = (⟨p, d, xs⟩, ok)) :
    Calls Try.prog 16 #[.agg #[.int .i64 P, .int .i64 D, .slice (some ⟨a0, oa, none⟩) n n], .agg #[(.int .i64 P'), (.int .i64 D'), (.slice (some ⟨b0, ob, none⟩) n' n')]] w fun e w' => ∃ v, e = .returned (.tuple #[v, .bool ok]) ∧ Ralg w w' v p d xs ∧ Ext w w' := by
  have HT := Lib.hid hT
  have HT' := Lib.hid hT'
  have FAIL : sumB P D l P' D' l' = false → p = 0 ∧ d = 0 ∧ xs = [] ∧ ok = false := fun hn => by
    simp only [sumA, hn, noAlg, Bool.false_eq_true, if_false, Prod.mk.injEq, Alg.mk.injEq] at hM
    obtain ⟨⟨rfl, rfl, rfl⟩, rfl⟩ := hM
    exact ⟨rfl, rfl, rfl, rfl⟩
  have HB : sumB P D l P' D' l' = (algB P D l && (algB P' D' l' && ((P == P') && decide (D + D' ≤ 28)))) := rfl
  rcases h0 : algB P D l with _ | _
  · obtain ⟨rfl, rfl, rfl, rfl⟩ := FAIL (by rw [HB, h0]; rfl)
    have H0 := Lib.hid h0
    clear FAIL HB h0 hM hT hT'
    go_enter Try.func16, Try.ntmps16
    have A0_1 := Lib.hid (((cells_new' w #[.int .i64 P, .int .i64 D, .slice (some ⟨a0, oa, none⟩) n n] 26 (w.heap.size) (by simp)).ext ((Ext.refl _).alloc (.cells #[(.int .i64 P'), (.int .i64 D'), (.slice (some ⟨b0, ob, none⟩) n' n')] 26))).ext ((Ext.refl _).alloc (.cells #[.int .i64 0, .int .i64 0, .slice none 0 0] 26)))
    have A1_2 := Lib.hid ((cells_new' (w.alloc (.cells #[.int .i64 P, .int .i64 D, .slice (some ⟨a0, oa, none⟩) n n] 26)) #[(.int .i64 P'), (.int .i64 D'), (.slice (some ⟨b0, ob, none⟩) n' n')] 26 (w.heap.size + 1) (by simp)).ext ((Ext.refl _).alloc (.cells #[.int .i64 0, .int .i64 0, .slice none 0 0] 26)))
    have R_3 := Lib.hid (cells_new' ((w.alloc (.cells #[.int .i64 P, .int .i64 D, .slice (some ⟨a0, oa, none⟩) n n] 26)).alloc (.cells #[(.int .i64 P'), (.int .i64 D'), (.slice (some ⟨b0, ob, none⟩) n' n')] 26)) #[.int .i64 0, .int .i64 0, .slice none 0 0] 26 (w.heap.size + 1 + 1) (by simp))
    have E_4 := Lib.hid ((((Ext.refl w).alloc (.cells #[.int .i64 P, .int .i64 D, .slice (some ⟨a0, oa, none⟩) n n] 26)).alloc (.cells #[(.int .i64 P'), (.int .i64 D'), (.slice (some ⟨b0, ob, none⟩) n' n')] 26)).alloc (.cells #[.int .i64 0, .int .i64 0, .slice none 0 0] 26))
    have lA0 := A0_1.out.1
    have qA00 := A0_1.out.2 0 _ rfl
    have qA01 := A0_1.out.2 1 _ rfl
    have qA02 := A0_1.out.2 2 _ rfl
    have lA1 := A1_2.out.1
    have qA10 := A1_2.out.2 0 _ rfl
    have qA11 := A1_2.out.2 1 _ rfl
    have qA12 := A1_2.out.2 2 _ rfl
    try simp only [World.size_alloc] at lA0 lA1
    go_wp2_with fail
    refine (algebraOk_spec (HT.out.ext E_4.out) hm H0.out).mono ?_
    rintro e w_5 ⟨rfl, h_5⟩
    clear lA0 qA00 qA01 qA02 lA1 qA10 qA11 qA12
    have A0_6 := Lib.hid (A0_1.out.ext h_5)
    clear A0_1
    have A1_7 := Lib.hid (A1_2.out.ext h_5)
    clear A1_2
    have R_8 := Lib.hid (R_3.out.ext h_5)
    clear R_3
    have E_9 := Lib.hid (E_4.out.trans h_5)
    clear E_4
    have lA0 := A0_6.out.1
    have qA00 := A0_6.out.2 0 _ rfl
    have qA01 := A0_6.out.2 1 _ rfl
    have qA02 := A0_6.out.2 2 _ rfl
    have lA1 := A1_7.out.1
    have qA10 := A1_7.out.2 0 _ rfl
    have qA11 := A1_7.out.2 1 _ rfl
    have qA12 := A1_7.out.2 2 _ rfl
    try simp only [World.size_alloc] at lA0 lA1
    have r0 := R_8.out.2 0 _ rfl
    have r1 := R_8.out.2 1 _ rfl
    have r2 := R_8.out.2 2 _ rfl
    have tR := R_8.out.3
    have lR := R_8.out.1
    go_wp2
    refine bodyPost_ret (v := .tuple #[.agg #[.int .i64 0, .int .i64 0, .slice none 0 0], .bool false]) (by simp [results, Try.results16, go_sem, r0, r1, r2]) rfl ⟨_, rfl, ⟨_, _, _, rfl, own_nil _ _ _, by omega⟩, ext3 E_9.out (by omega) _ _ _⟩
  have H0 := Lib.hid h0
  rcases h1 : algB P' D' l' with _ | _
  · obtain ⟨rfl, rfl, rfl, rfl⟩ := FAIL (by rw [HB, h0, h1]; rfl)
    have H1 := Lib.hid h1
    clear FAIL HB h0 h1 hM hT hT'
    go_enter Try.func16, Try.ntmps16
    have A0_1 := Lib.hid (((cells_new' w #[.int .i64 P, .int .i64 D, .slice (some ⟨a0, oa, none⟩) n n] 26 (w.heap.size) (by simp)).ext ((Ext.refl _).alloc (.cells #[(.int .i64 P'), (.int .i64 D'), (.slice (some ⟨b0, ob, none⟩) n' n')] 26))).ext ((Ext.refl _).alloc (.cells #[.int .i64 0, .int .i64 0, .slice none 0 0] 26)))
    have A1_2 := Lib.hid ((cells_new' (w.alloc (.cells #[.int .i64 P, .int .i64 D, .slice (some ⟨a0, oa, none⟩) n n] 26)) #[(.int .i64 P'), (.int .i64 D'), (.slice (some ⟨b0, ob, none⟩) n' n')] 26 (w.heap.size + 1) (by simp)).ext ((Ext.refl _).alloc (.cells #[.int .i64 0, .int .i64 0, .slice none 0 0] 26)))
    have R_3 := Lib.hid (cells_new' ((w.alloc (.cells #[.int .i64 P, .int .i64 D, .slice (some ⟨a0, oa, none⟩) n n] 26)).alloc (.cells #[(.int .i64 P'), (.int .i64 D'), (.slice (some ⟨b0, ob, none⟩) n' n')] 26)) #[.int .i64 0, .int .i64 0, .slice none 0 0] 26 (w.heap.size + 1 + 1) (by simp))
    have E_4 := Lib.hid ((((Ext.refl w).alloc (.cells #[.int .i64 P, .int .i64 D, .slice (some ⟨a0, oa, none⟩) n n] 26)).alloc (.cells #[(.int .i64 P'), (.int .i64 D'), (.slice (some ⟨b0, ob, none⟩) n' n')] 26)).alloc (.cells #[.int .i64 0, .int .i64 0, .slice none 0 0] 26))
    have lA0 := A0_1.out.1
    have qA00 := A0_1.out.2 0 _ rfl
    have qA01 := A0_1.out.2 1 _ rfl
    have qA02 := A0_1.out.2 2 _ rfl
    have lA1 := A1_2.out.1
    have qA10 := A1_2.out.2 0 _ rfl
    have qA11 := A1_2.out.2 1 _ rfl
    have qA12 := A1_2.out.2 2 _ rfl
    try simp only [World.size_alloc] at lA0 lA1
    go_wp2_with fail
    refine (algebraOk_spec (HT.out.ext E_4.out) hm H0.out).mono ?_
    rintro e w_5 ⟨rfl, h_5⟩
    clear lA0 qA00 qA01 qA02 lA1 qA10 qA11 qA12
    have A0_6 := Lib.hid (A0_1.out.ext h_5)
    clear A0_1
    have A1_7 := Lib.hid (A1_2.out.ext h_5)
    clear A1_2
    have R_8 := Lib.hid (R_3.out.ext h_5)
    clear R_3
    have E_9 := Lib.hid (E_4.out.trans h_5)
    clear E_4
    have lA0 := A0_6.out.1
    have qA00 := A0_6.out.2 0 _ rfl
    have qA01 := A0_6.out.2 1 _ rfl
    have qA02 := A0_6.out.2 2 _ rfl
    have lA1 := A1_7.out.1
    have qA10 := A1_7.out.2 0 _ rfl
    have qA11 := A1_7.out.2 1 _ rfl
    have qA12 := A1_7.out.2 2 _ rfl
    try simp only [World.size_alloc] at lA0 lA1
    go_wp2_with fail
    refine (algebraOk_spec (HT'.out.ext E_9.out) hm' H1.out).mono ?_
    rintro e w_10 ⟨rfl, h_10⟩
    clear lA0 qA00 qA01 qA02 lA1 qA10 qA11 qA12
    have A0_11 := Lib.hid (A0_6.out.ext h_10)
    clear A0_6
    have A1_12 := Lib.hid (A1_7.out.ext h_10)
    clear A1_7
    have R_13 := Lib.hid (R_8.out.ext h_10)
    clear R_8
    have E_14 := Lib.hid (E_9.out.trans h_10)
    clear E_9
    have lA0 := A0_11.out.1
    have qA00 := A0_11.out.2 0 _ rfl
    have qA01 := A0_11.out.2 1 _ rfl
    have qA02 := A0_11.out.2 2 _ rfl
    have lA1 := A1_12.out.1
    have qA10 := A1_12.out.2 0 _ rfl
    have qA11 := A1_12.out.2 1 _ rfl
    have qA12 := A1_12.out.2 2 _ rfl
    try simp only [World.size_alloc] at lA0 lA1
    have r0 := R_13.out.2 0 _ rfl
    have r1 := R_13.out.2 1 _ rfl
    have r2 := R_13.out.2 2 _ rfl
    have tR := R_13.out.3
    have lR := R_13.out.1
    go_wp2
    refine bodyPost_ret (v := .tuple #[.agg #[.int .i64 0, .int .i64 0, .slice none 0 0], .bool false]) (by simp [results, Try.results16, go_sem, r0, r1, r2]) rfl ⟨_, rfl, ⟨_, _, _, rfl, own_nil _ _ _, by omega⟩, ext3 E_14.out (by omega) _ _ _⟩
  have H1 := Lib.hid h1
  by_cases h2 : P = P'
  case neg =>
    obtain ⟨rfl, rfl, rfl, rfl⟩ := FAIL (by rw [HB, h0, h1]; simp [h2])
    have hpp : (P != P') = true := by simpa using h2
    clear FAIL HB h0 h1 h2 hM hT hT'
    go_enter Try.func16, Try.ntmps16
    have A0_1 := Lib.hid (((cells_new' w #[.int .i64 P, .int .i64 D, .slice (some ⟨a0, oa, none⟩) n n] 26 (w.heap.size) (by simp)).ext ((Ext.refl _).alloc (.cells #[(.int .i64 P'), (.int .i64 D'), (.slice (some ⟨b0, ob, none⟩) n' n')] 26))).ext ((Ext.refl _).alloc (.cells #[.int .i64 0, .int .i64 0, .slice none 0 0] 26)))
    have A1_2 := Lib.hid ((cells_new' (w.alloc (.cells #[.int .i64 P, .int .i64 D, .slice (some ⟨a0, oa, none⟩) n n] 26)) #[(.int .i64 P'), (.int .i64 D'), (.slice (some ⟨b0, ob, none⟩) n' n')] 26 (w.heap.size + 1) (by simp)).ext ((Ext.refl _).alloc (.cells #[.int .i64 0, .int .i64 0, .slice none 0 0] 26)))
    have R_3 := Lib.hid (cells_new' ((w.alloc (.cells #[.int .i64 P, .int .i64 D, .slice (some ⟨a0, oa, none⟩) n n] 26)).alloc (.cells #[(.int .i64 P'), (.int .i64 D'), (.slice (some ⟨b0, ob, none⟩) n' n')] 26)) #[.int .i64 0, .int .i64 0, .slice none 0 0] 26 (w.heap.size + 1 + 1) (by simp))
    have E_4 := Lib.hid ((((Ext.refl w).alloc (.cells #[.int .i64 P, .int .i64 D, .slice (some ⟨a0, oa, none⟩) n n] 26)).alloc (.cells #[(.int .i64 P'), (.int .i64 D'), (.slice (some ⟨b0, ob, none⟩) n' n')] 26)).alloc (.cells #[.int .i64 0, .int .i64 0, .slice none 0 0] 26))
    have lA0 := A0_1.out.1
    have qA00 := A0_1.out.2 0 _ rfl
    have qA01 := A0_1.out.2 1 _ rfl
    have qA02 := A0_1.out.2 2 _ rfl
    have lA1 := A1_2.out.1
    have qA10 := A1_2.out.2 0 _ rfl
    have qA11 := A1_2.out.2 1 _ rfl
    have qA12 := A1_2.out.2 2 _ rfl
    try simp only [World.size_alloc] at lA0 lA1
    go_wp2_with fail
    refine (algebraOk_spec (HT.out.ext E_4.out) hm H0.out).mono ?_
    rintro e w_5 ⟨rfl, h_5⟩
    clear lA0 qA00 qA01 qA02 lA1 qA10 qA11 qA12
    have A0_6 := Lib.hid (A0_1.out.ext h_5)
    clear A0_1
    have A1_7 := Lib.hid (A1_2.out.ext h_5)
    clear A1_2
    have R_8 := Lib.hid (R_3.out.ext h_5)
    clear R_3
    have E_9 := Lib.hid (E_4.out.trans h_5)
    clear E_4
    have lA0 := A0_6.out.1
    have qA00 := A0_6.out.2 0 _ rfl
    have qA01 := A0_6.out.2 1 _ rfl
    have qA02 := A0_6.out.2 2 _ rfl
    have lA1 := A1_7.out.1
    have qA10 := A1_7.out.2 0 _ rfl
    have qA11 := A1_7.out.2 1 _ rfl
    have qA12 := A1_7.out.2 2 _ rfl
    try simp only [World.size_alloc] at lA0 lA1
    go_wp2_with fail
    refine (algebraOk_spec (HT'.out.ext E_9.out) hm' H1.out).mono ?_
    rintro e w_10 ⟨rfl, h_10⟩
    clear lA0 qA00 qA01 qA02 lA1 qA10 qA11 qA12
    have A0_11 := Lib.hid (A0_6.out.ext h_10)
    clear A0_6
    have A1_12 := Lib.hid (A1_7.out.ext h_10)
    clear A1_7
    have R_13 := Lib.hid (R_8.out.ext h_10)
    clear R_8
    have E_14 := Lib.hid (E_9.out.trans h_10)
    clear E_9
    have lA0 := A0_11.out.1
    have qA00 := A0_11.out.2 0 _ rfl
    have qA01 := A0_11.out.2 1 _ rfl
    have qA02 := A0_11.out.2 2 _ rfl
    have lA1 := A1_12.out.1
    have qA10 := A1_12.out.2 0 _ rfl
    have qA11 := A1_12.out.2 1 _ rfl
    have qA12 := A1_12.out.2 2 _ rfl
    try simp only [World.size_alloc] at lA0 lA1
    have r0 := R_13.out.2 0 _ rfl
    have r1 := R_13.out.2 1 _ rfl
    have r2 := R_13.out.2 2 _ rfl
    have tR := R_13.out.3
    have lR := R_13.out.1
    go_wp2
    refine bodyPost_ret (v := .tuple #[.agg #[.int .i64 0, .int .i64 0, .slice none 0 0], .bool false]) (by simp [results, Try.results16, go_sem, r0, r1, r2]) rfl ⟨_, rfl, ⟨_, _, _, rfl, own_nil _ _ _, by omega⟩, ext3 E_14.out (by omega) _ _ _⟩
  subst h2
  obtain ⟨da, rfl, hA⟩ := algB_parts h0 hT.1
  obtain ⟨db, rfl, hA'⟩ := algB_parts h1 hT'.1
  have hda := hA.dim
  have hdb := hA'.dim
  have hpp : (P != P) = false := by simp
  by_cases h3 : (da : Int) + (db : Int) ≤ 28
  case neg =>
    obtain ⟨rfl, rfl, rfl, rfl⟩ := FAIL (by rw [HB, h0, h1]; simp [h3])
    clear FAIL HB h0 h1 hM hT hT' hA hA'
    go_enter Try.func16, Try.ntmps16
    have A0_1 := Lib.hid (((cells_new' w #[.int .i64 P, .int .i64 da, .slice (some ⟨a0, oa, none⟩) n n] 26 (w.heap.size) (by simp)).ext ((Ext.refl _).alloc (.cells #[(.int .i64 P), (.int .i64 db), (.slice (some ⟨b0, ob, none⟩) n' n')] 26))).ext ((Ext.refl _).alloc (.cells #[.int .i64 0, .int .i64 0, .slice none 0 0] 26)))
    have A1_2 := Lib.hid ((cells_new' (w.alloc (.cells #[.int .i64 P, .int .i64 da, .slice (some ⟨a0, oa, none⟩) n n] 26)) #[(.int .i64 P), (.int .i64 db), (.slice (some ⟨b0, ob, none⟩) n' n')] 26 (w.heap.size + 1) (by simp)).ext ((Ext.refl _).alloc (.cells #[.int .i64 0, .int .i64 0, .slice none 0 0] 26)))
    have R_3 := Lib.hid (cells_new' ((w.alloc (.cells #[.int .i64 P, .int .i64 da, .slice (some ⟨a0, oa, none⟩) n n] 26)).alloc (.cells #[(.int .i64 P), (.int .i64 db), (.slice (some ⟨b0, ob, none⟩) n' n')] 26)) #[.int .i64 0, .int .i64 0, .slice none 0 0] 26 (w.heap.size + 1 + 1) (by simp))
    have E_4 := Lib.hid ((((Ext.refl w).alloc (.cells #[.int .i64 P, .int .i64 da, .slice (some ⟨a0, oa, none⟩) n n] 26)).alloc (.cells #[(.int .i64 P), (.int .i64 db), (.slice (some ⟨b0, ob, none⟩) n' n')] 26)).alloc (.cells #[.int .i64 0, .int .i64 0, .slice none 0 0] 26))
    have lA0 := A0_1.out.1
    have qA00 := A0_1.out.2 0 _ rfl
    have qA01 := A0_1.out.2 1 _ rfl
    have qA02 := A0_1.out.2 2 _ rfl
    have lA1 := A1_2.out.1
    have qA10 := A1_2.out.2 0 _ rfl
    have qA11 := A1_2.out.2 1 _ rfl
    have qA12 := A1_2.out.2 2 _ rfl
    try simp only [World.size_alloc] at lA0 lA1
    go_wp2_with fail
    refine (algebraOk_spec (HT.out.ext E_4.out) hm H0.out).mono ?_
    rintro e w_5 ⟨rfl, h_5⟩
    clear lA0 qA00 qA01 qA02 lA1 qA10 qA11 qA12
    have A0_6 := Lib.hid (A0_1.out.ext h_5)
    clear A0_1
    have A1_7 := Lib.hid (A1_2.out.ext h_5)
    clear A1_2
    have R_8 := Lib.hid (R_3.out.ext h_5)
    clear R_3
    have E_9 := Lib.hid (E_4.out.trans h_5)
    clear E_4
    have lA0 := A0_6.out.1
    have qA00 := A0_6.out.2 0 _ rfl
    have qA01 := A0_6.out.2 1 _ rfl
    have qA02 := A0_6.out.2 2 _ rfl
    have lA1 := A1_7.out.1
    have qA10 := A1_7.out.2 0 _ rfl
    have qA11 := A1_7.out.2 1 _ rfl
    have qA12 := A1_7.out.2 2 _ rfl
    try simp only [World.size_alloc] at lA0 lA1
    go_wp2_with fail
    refine (algebraOk_spec (HT'.out.ext E_9.out) hm' H1.out).mono ?_
    rintro e w_10 ⟨rfl, h_10⟩
    clear lA0 qA00 qA01 qA02 lA1 qA10 qA11 qA12
    have A0_11 := Lib.hid (A0_6.out.ext h_10)
    clear A0_6
    have A1_12 := Lib.hid (A1_7.out.ext h_10)
    clear A1_7
    have R_13 := Lib.hid (R_8.out.ext h_10)
    clear R_8
    have E_14 := Lib.hid (E_9.out.trans h_10)
    clear E_9
    have lA0 := A0_11.out.1
    have qA00 := A0_11.out.2 0 _ rfl
    have qA01 := A0_11.out.2 1 _ rfl
    have qA02 := A0_11.out.2 2 _ rfl
    have lA1 := A1_12.out.1
    have qA10 := A1_12.out.2 0 _ rfl
    have qA11 := A1_12.out.2 1 _ rfl
    have qA12 := A1_12.out.2 2 _ rfl
    try simp only [World.size_alloc] at lA0 lA1
    have r0 := R_13.out.2 0 _ rfl
    have r1 := R_13.out.2 1 _ rfl
    have r2 := R_13.out.2 2 _ rfl
    have tR := R_13.out.3
    have lR := R_13.out.1
    go_wp2
    refine bodyPost_ret (v := .tuple #[.agg #[.int .i64 0, .int .i64 0, .slice none 0 0], .bool false]) (by simp [results, Try.results16, go_sem, r0, r1, r2]) rfl ⟨_, rfl, ⟨_, _, _, rfl, own_nil _ _ _, by omega⟩, ext3 E_14.out (by omega) _ _ _⟩
  have hsb : sumB P da l P db l' = true := by rw [HB, h0, h1]; simp [h3]
  simp only [sumA, hsb, if_true, Prod.mk.injEq, Alg.mk.injEq, Int.toNat_natCast] at hM
  obtain ⟨⟨rfl, rfl, rfl⟩, rfl⟩ := hM
  have hab : da + db ≤ 28 := by omega
  have hc28 := cube28 hab
  have hLEN : Hid ((sumT da db l l').length = (da + db) * (da + db) * (da + db)) := by rw [Hid, sumT, piTo_length, piTo_length]; simp
  have HST : Hid (sumT da db l l' = piTo (da + db) da db l' (piTo (da + db) 0 da l (List.replicate ((da + db) * (da + db) * (da + db)) 0) da) db) := rfl
  have HAL := Lib.hid hA.len
  have HBL := Lib.hid hA'.len
  have HPL : Hid (∀ w1, Ext w w1 → Calls Try.prog 51 #[.agg #[.int .i64 P, .int .i64 da, .slice (some ⟨a0, oa, none⟩) n n], .agg #[(.int .i64 P), (.int .i64 db), (.slice (some ⟨b0, ob, none⟩) n' n')]] w1 fun e w' => ∃ b, e = .returned (.agg #[.int .i64 P, .int .i64 ((da : Int) + (db : Int)), .slice (some ⟨b, 0, none⟩) ((da + db) * (da + db) * (da + db)) ((da + db) * (da + db) * (da + db))]) ∧ w1.heap.size ≤ b ∧ b < w'.heap.size ∧ Has w' b (sumT da db l l') ∧ Ext w1 w') := fun w1 h => by
    rw [HST.out]
    exact l2Sum_spec P P da db (da + db) _ a0 oa n n b0 ob n' n' l l' w1 (hT.ext h) (hT'.ext h) hA.len hA'.len rfl hab rfl
  clear FAIL HB h0 h1 hT hT' hA hA' hsb
  go_enter Try.func16, Try.ntmps16
  have A0_1 := Lib.hid (((cells_new' w #[.int .i64 P, .int .i64 da, .slice (some ⟨a0, oa, none⟩) n n] 26 (w.heap.size) (by simp)).ext ((Ext.refl _).alloc (.cells #[(.int .i64 P), (.int .i64 db), (.slice (some ⟨b0, ob, none⟩) n' n')] 26))).ext ((Ext.refl _).alloc (.cells #[.int .i64 0, .int .i64 0, .slice none 0 0] 26)))
  have A1_2 := Lib.hid ((cells_new' (w.alloc (.cells #[.int .i64 P, .int .i64 da, .slice (some ⟨a0, oa, none⟩) n n] 26)) #[(.int .i64 P), (.int .i64 db), (.slice (some ⟨b0, ob, none⟩) n' n')] 26 (w.heap.size + 1) (by simp)).ext ((Ext.refl _).alloc (.cells #[.int .i64 0, .int .i64 0, .slice none 0 0] 26)))
  have R_3 := Lib.hid (cells_new' ((w.alloc (.cells #[.int .i64 P, .int .i64 da, .slice (some ⟨a0, oa, none⟩) n n] 26)).alloc (.cells #[(.int .i64 P), (.int .i64 db), (.slice (some ⟨b0, ob, none⟩) n' n')] 26)) #[.int .i64 0, .int .i64 0, .slice none 0 0] 26 (w.heap.size + 1 + 1) (by simp))
  have E_4 := Lib.hid ((((Ext.refl w).alloc (.cells #[.int .i64 P, .int .i64 da, .slice (some ⟨a0, oa, none⟩) n n] 26)).alloc (.cells #[(.int .i64 P), (.int .i64 db), (.slice (some ⟨b0, ob, none⟩) n' n')] 26)).alloc (.cells #[.int .i64 0, .int .i64 0, .slice none 0 0] 26))
  have lA0 := A0_1.out.1
  have qA00 := A0_1.out.2 0 _ rfl
  have qA01 := A0_1.out.2 1 _ rfl
  have qA02 := A0_1.out.2 2 _ rfl
  have lA1 := A1_2.out.1
  have qA10 := A1_2.out.2 0 _ rfl
  have qA11 := A1_2.out.2 1 _ rfl
  have qA12 := A1_2.out.2 2 _ rfl
  try simp only [World.size_alloc] at lA0 lA1
  go_wp2_with fail
  refine (algebraOk_spec (HT.out.ext E_4.out) hm H0.out).mono ?_
  rintro e w_5 ⟨rfl, h_5⟩
  clear lA0 qA00 qA01 qA02 lA1 qA10 qA11 qA12
  have A0_6 := Lib.hid (A0_1.out.ext h_5)
  clear A0_1
  have A1_7 := Lib.hid (A1_2.out.ext h_5)
  clear A1_2
  have R_8 := Lib.hid (R_3.out.ext h_5)
  clear R_3
  have E_9 := Lib.hid (E_4.out.trans h_5)
  clear E_4
  have lA0 := A0_6.out.1
  have qA00 := A0_6.out.2 0 _ rfl
  have qA01 := A0_6.out.2 1 _ rfl
  have qA02 := A0_6.out.2 2 _ rfl
  have lA1 := A1_7.out.1
  have qA10 := A1_7.out.2 0 _ rfl
  have qA11 := A1_7.out.2 1 _ rfl
  have qA12 := A1_7.out.2 2 _ rfl
  try simp only [World.size_alloc] at lA0 lA1
  go_wp2_with fail
  refine (algebraOk_spec (HT'.out.ext E_9.out) hm' H1.out).mono ?_
  rintro e w_10 ⟨rfl, h_10⟩
  clear lA0 qA00 qA01 qA02 lA1 qA10 qA11 qA12
  have A0_11 := Lib.hid (A0_6.out.ext h_10)
  clear A0_6
  have A1_12 := Lib.hid (A1_7.out.ext h_10)
  clear A1_7
  have R_13 := Lib.hid (R_8.out.ext h_10)
  clear R_8
  have E_14 := Lib.hid (E_9.out.trans h_10)
  clear E_9
  have hlR := R_13.out.1
  have lA0 := A0_11.out.1
  have qA00 := A0_11.out.2 0 _ rfl
  have qA01 := A0_11.out.2 1 _ rfl
  have qA02 := A0_11.out.2 2 _ rfl
  have lA1 := A1_12.out.1
  have qA10 := A1_12.out.2 0 _ rfl
  have qA11 := A1_12.out.2 1 _ rfl
  have qA12 := A1_12.out.2 2 _ rfl
  try simp only [World.size_alloc] at lA0 lA1
  go_wp2_with fail
  refine (HPL.out _ E_14.out).mono ?_
  rintro e w9 ⟨b, rfl, hs1, hs2, hh, h9⟩
  clear lA0 qA00 qA01 qA02 lA1 qA10 qA11 qA12
  have HSB := Lib.hid hh
  clear hh
  have A0_15 := Lib.hid (A0_11.out.ext h9)
  clear A0_11
  have A1_16 := Lib.hid (A1_12.out.ext h9)
  clear A1_12
  have R_17 := Lib.hid (R_13.out.ext h9)
  clear R_13
  have E_18 := Lib.hid (E_14.out.trans h9)
  clear E_14
  have r0 := R_17.out.2 0 _ rfl
  have r1 := R_17.out.2 1 _ rfl
  have r2 := R_17.out.2 2 _ rfl
  have tR := R_17.out.3
  have lR := R_17.out.1
  go_wp2
  refine bodyPost_ret (v := .tuple #[.agg #[.int .i64 P, .int .i64 ((da : Int) + (db : Int)), .slice (some ⟨b, 0, none⟩) ((da + db) * (da + db) * (da + db)) ((da + db) * (da + db) * (da + db))], .bool true]) (by simp [results, Try.results16, go_sem, r0, r1, r2]) rfl ⟨_, rfl, ⟨_, _, _, rfl, ?_, by omega⟩, ext3 E_18.out (by omega) _ _ _⟩
  exact Own.mono (own3 (HSB.out.own (lo := w.heap.size + 1 + 1 + 1) (hi := w9.heap.size) (by omega) hs2 hLEN.out) (by omega) _ _ _) (by omega) (by simp)
end Go.Proofs.Ytgmipolgnpjmnaa
