/-
  The Killing form of the program.
-/
import Derived.Test.YtgmipolgnpjmnaaKil0
import Derived.Test.YtgmipolgnpjmnaaHs
import Derived.Test.YtgmipolgnpjmnaaHom
namespace Go.Proofs.Ytgmipolgnpjmnaa
open Go.ChangeShapes Go.WideShapes Go.ChangeAt Go.RowKit
set_option linter.unusedVariables false
set_option linter.unusedSimpArgs false


set_option maxRecDepth 100000 in
set_option maxHeartbeats 6400000 in
theorem killingForm_impl {P D : Int} {a0 oa n : Nat} {l : List Int} {w : World} {p r' c : Int} {d : List Int} (hT : Reads w (some ⟨a0, oa, none⟩) n l) (hm0 : n ≤ 1048576) (hM : kilM P D l = ⟨p, r', c, d⟩) :
    Calls Try.prog 48 #[.agg #[.int .i64 P, .int .i64 D, .slice (some ⟨a0, oa, none⟩) n n]] w fun e w' => ∃ v, e = .returned v ∧ Rmat w w' v p r' c d ∧ Ext w w' := by
  have HT := Lib.hid hT
  rcases h0 : algB P D l with _ | _
  · simp only [kilM, h0, noMat, Bool.false_eq_true, if_false, Mat.mk.injEq] at hM
    obtain ⟨rfl, rfl, rfl, rfl⟩ := hM
    have H0 := Lib.hid h0
    clear h0 hT
    go_enter Try.func48, Try.ntmps48
    have A0_1 := Lib.hid ((cells_new' w #[.int .i64 P, .int .i64 D, .slice (some ⟨a0, oa, none⟩) n n] 26 (w.heap.size) (by simp)).ext ((Ext.refl _).alloc (.cells #[.int .i64 0, .int .i64 0, .int .i64 0, .slice none 0 0] 36)))
    have R_2 := Lib.hid (cells_new' (w.alloc (.cells #[.int .i64 P, .int .i64 D, .slice (some ⟨a0, oa, none⟩) n n] 26)) #[.int .i64 0, .int .i64 0, .int .i64 0, .slice none 0 0] 36 (w.heap.size + 1) (by simp))
    have E_3 := Lib.hid (((Ext.refl w).alloc (.cells #[.int .i64 P, .int .i64 D, .slice (some ⟨a0, oa, none⟩) n n] 26)).alloc (.cells #[.int .i64 0, .int .i64 0, .int .i64 0, .slice none 0 0] 36))
    have lA0 := A0_1.out.1
    have qA00 := A0_1.out.2 0 _ rfl
    have qA01 := A0_1.out.2 1 _ rfl
    have qA02 := A0_1.out.2 2 _ rfl
    try simp only [World.size_alloc] at lA0
    go_wp2_with fail
    refine (wrap_impl P _ a0 oa n n l _ (HT.out.ext E_3.out) hm0 (Nat.le_refl _) (by unfold maxLen; omega)).mono ?_
    rintro e w_4 ⟨B, rfl, hb, hlo, h_4⟩
    clear lA0 qA00 qA01 qA02
    have A0_5 := Lib.hid (A0_1.out.ext h_4)
    clear A0_1
    have R_6 := Lib.hid (R_2.out.ext h_4)
    clear R_2
    have E_7 := Lib.hid (E_3.out.trans h_4)
    clear E_3
    have B_8 := Lib.hid hb
    clear hb
    rw [H0.out]
    try simp only [World.size_alloc] at hlo
    have lA0 := A0_5.out.1
    have qA00 := A0_5.out.2 0 _ rfl
    have qA01 := A0_5.out.2 1 _ rfl
    have qA02 := A0_5.out.2 2 _ rfl
    try simp only [World.size_alloc] at lA0
    have r0 := R_6.out.2 0 _ rfl
    have r1 := R_6.out.2 1 _ rfl
    have r2 := R_6.out.2 2 _ rfl
    have r3 := R_6.out.2 3 _ rfl
    have tR := R_6.out.3
    have lR := R_6.out.1
    go_wp2
    refine bodyPost_ret (v := .agg #[.int .i64 0, .int .i64 0, .int .i64 0, .slice none 0 0]) (by simp [results, Try.results48, go_sem, r0, r1, r2, r3]) rfl ⟨_, rfl, ⟨_, _, _, rfl, own_nil _ _ _, by omega⟩, ext4 E_7.out (by omega) _ _ _ _⟩
  have H0 := Lib.hid h0
  have hz0 := h0
  simp only [kilM, hz0, if_true, Mat.mk.injEq] at hM
  obtain ⟨rfl, rfl, rfl, rfl⟩ := hM
  obtain ⟨D, rfl, hA⟩ := algB_parts hz0 hT.1
  simp only [Int.toNat_natCast]
  have hp := isP_lo hA.pr
  have hp2 := isP_hi hA.pr
  have hD := hA.dim
  have hsq : D * D ≤ 784 := Nat.mul_le_mul hD hD
  have hKL : Hid ((kilL P D l).length = D * D) := kilL_length
  have HZR : Hid (∀ w1, Calls Try.prog 90 #[.int .i64 P, .int .i64 D, .int .i64 D] w1 fun e w' => ∃ b, e = .returned (.agg #[.int .i64 P, .int .i64 D, .int .i64 D, .slice (some ⟨b, 0, none⟩) (D * D) (D * D)]) ∧ w1.heap.size ≤ b ∧ b < w'.heap.size ∧ Has w' b (List.replicate (D * D) 0) ∧ Ext w1 w') := fun w1 => by
    have h9 := zeros_impl P D D w1 (by rw [← Int.natCast_mul]; omega) (by rw [← Int.natCast_mul]; omega)
    rw [← Int.natCast_mul, Int.toNat_natCast] at h9
    exact h9
  have HRO : Hid (∀ rb i w1, i < D → Calls Try.prog 101 #[.agg #[.int .i64 P, .int .i64 D, .int .i64 D, .slice (some ⟨rb, 0, none⟩) (D * D) (D * D)], .int .i64 (i : Nat)] w1 fun e w' => e = .returned (.slice (some ⟨rb, i * D, none⟩) D (D * D - i * D)) ∧ Ext w1 w') := fun rb i w1 hi => by
    have h9 := rowOf_impl P D D i rb 0 (D * D) w1 (Nat.mul_le_mul_right D hi) (by omega) (by omega)
    rw [Nat.zero_add] at h9
    exact h9
  have HAT : Hid (∀ i, i < D → ∀ w1 BA, Cells w1 BA [.int .i64 P, .int .i64 D, .slice (some ⟨a0, oa, none⟩) n n] → Calls Try.prog 98 #[.pointer (some ⟨BA, 0, none⟩), .int .i64 i] w1 fun e w' => e = .returned (.agg #[.int .i64 P, .int .i64 D, .int .i64 D, .slice (some ⟨a0, oa + i * (D * D), none⟩) (D * D) (n - i * (D * D))]) ∧ Ext w1 w') := fun i hi w1 BA hc => adjointTo_impl P D BA a0 oa n n i w1 hc hD hA.len (Nat.le_refl _) (by unfold maxLen; omega) hi
  have hrow : ∀ i, i < D → (rowL (D * D) l i).length = D * D ∧ Res (rowL (D * D) l i) P := fun i hi => by
    have hnn : n = D * (D * D) := by rw [hA.len, Nat.mul_assoc]
    have hll : (rowL (D * D) l i).length = D * D := rowL_length (by rw [hT.1, hnn]) hi
    refine ⟨hll, fun j hj => ?_⟩
    rw [hll] at hj
    rw [gi_rowL2 _ _ hj]
    exact hA.res _ (by rw [hT.1, hnn]; exact place_lt hi hj)
  have HTP : Hid (∀ i j, i < D → j < D → ∀ w1, Ext w w1 → Calls Try.prog 103 #[.agg #[.int .i64 P, .int .i64 D, .int .i64 D, .slice (some ⟨a0, oa + i * (D * D), none⟩) (D * D) (n - i * (D * D))], .agg #[.int .i64 P, .int .i64 D, .int .i64 D, .slice (some ⟨a0, oa + j * (D * D), none⟩) (D * D) (n - j * (D * D))]] w1 fun e w' => e = .returned (.int .i64 (kilN D l i j % P)) ∧ Ext w1 w') := fun i j hi hj w1 h => by
    have hnn : n = D * (D * D) := by rw [hA.len, Nat.mul_assoc]
    have r1 : (i + 1) * (D * D) = i * (D * D) + D * D := by rw [Nat.add_mul, Nat.one_mul]
    have r2 : (j + 1) * (D * D) = j * (D * D) + D * D := by rw [Nat.add_mul, Nat.one_mul]
    have r3 := row_n hi hnn
    have r4 := row_n hj hnn
    have h9 := traceOfProduct_impl P D a0 (oa + i * (D * D)) a0 (oa + j * (D * D)) (D * D) (n - i * (D * D)) (n - j * (D * D)) (rowL (D * D) l i) (rowL (D * D) l j) w1 (reads_row (hT.ext h) hnn hi) (reads_row (hT.ext h) hnn hj) rfl hD hp hp2 (hrow i hi).2 (hrow j hj).2 (by omega) (by unfold maxLen; omega)
    rw [tpS_kil] at h9
    exact h9
  clear hT hA hz0 h0 hrow
  go_enter Try.func48, Try.ntmps48
  have A0_1 := Lib.hid ((cells_new' w #[.int .i64 P, .int .i64 D, .slice (some ⟨a0, oa, none⟩) n n] 26 (w.heap.size) (by simp)).ext ((Ext.refl _).alloc (.cells #[.int .i64 0, .int .i64 0, .int .i64 0, .slice none 0 0] 36)))
  have R_2 := Lib.hid (cells_new' (w.alloc (.cells #[.int .i64 P, .int .i64 D, .slice (some ⟨a0, oa, none⟩) n n] 26)) #[.int .i64 0, .int .i64 0, .int .i64 0, .slice none 0 0] 36 (w.heap.size + 1) (by simp))
  have E_3 := Lib.hid (((Ext.refl w).alloc (.cells #[.int .i64 P, .int .i64 D, .slice (some ⟨a0, oa, none⟩) n n] 26)).alloc (.cells #[.int .i64 0, .int .i64 0, .int .i64 0, .slice none 0 0] 36))
  have lA0 := A0_1.out.1
  have qA00 := A0_1.out.2 0 _ rfl
  have qA01 := A0_1.out.2 1 _ rfl
  have qA02 := A0_1.out.2 2 _ rfl
  try simp only [World.size_alloc] at lA0
  go_wp2_with fail
  refine (wrap_impl P _ a0 oa n n l _ (HT.out.ext E_3.out) hm0 (Nat.le_refl _) (by unfold maxLen; omega)).mono ?_
  rintro e w_4 ⟨B, rfl, hb, hlo, h_4⟩
  clear lA0 qA00 qA01 qA02
  have A0_5 := Lib.hid (A0_1.out.ext h_4)
  clear A0_1
  have R_6 := Lib.hid (R_2.out.ext h_4)
  clear R_2
  have E_7 := Lib.hid (E_3.out.trans h_4)
  clear E_3
  have B_8 := Lib.hid hb
  clear hb
  rw [H0.out]
  try simp only [World.size_alloc] at hlo
  have HRl := R_6.out.1
  have HBl := B_8.out.1
  try simp only [World.size_alloc] at HRl HBl
  have lA0 := A0_5.out.1
  have qA00 := A0_5.out.2 0 _ rfl
  have qA01 := A0_5.out.2 1 _ rfl
  have qA02 := A0_5.out.2 2 _ rfl
  try simp only [World.size_alloc] at lA0
  have lB := B_8.out.1
  have qB0 := B_8.out.2 0 _ rfl
  have qB1 := B_8.out.2 1 _ rfl
  have qB2 := B_8.out.2 2 _ rfl
  try simp only [World.size_alloc] at lA0 lB
  go_wp2_with fail

  go_cut [5] (fun s5 wx => ∃ RB rb, s5 = .pointer (some ⟨RB, 0, none⟩) ∧ Hid (Cells wx RB [.int .i64 P, .int .i64 D, .int .i64 D, .slice (some ⟨rb, 0, none⟩) (D * D) (D * D)]) ∧ Hid (Has wx rb (List.replicate (D * D) 0)) ∧ Hid (Ext w_4 wx) ∧ w_4.heap.size ≤ rb ∧ w_4.heap.size ≤ RB ∧ RB ≠ rb)
  case first =>
    go_region_held3 (fun w' => Ext w_4 w' ∧ (∀ b o, b < w_4.heap.size → w'.cell? ⟨b, o, none⟩ = w_4.cell? ⟨b, o, none⟩)) (first | (with_reducible exact ext2 (Ext.trans (And.left ‹Ext w_4 _ ∧ _›) ‹Ext _ _›)) | (refine ext2 ?_; with_reducible repeat (first | exact Ext.refl _ | exact And.left ‹Ext w_4 _ ∧ _› | refine Ext.drew ?_ | refine Ext.drewN ?_ _ | exact Ext.alloc (And.left ‹Ext w_4 _ ∧ _›) _ | exact Ext.alloc ((Ext.refl _).drew.trans h3) _ | refine Ext.alloc ?_ _ | refine Ext.setCell ?_ (by have e0 : w_4.drew.heap.size = w_4.heap.size := rfl; simp <;> omega) _))) (first
      | (go_at_call 90; (with_reducible refine (HZR.out _).mono ?_); rintro e w3 ⟨rb, rfl, hb5, hb5', k5, h3⟩; have c_3 := h3.cells; have f_3 := h3.frees; have y_3 := h3.le; have x_3 := fun k hk => Nat.lt_of_lt_of_le (n := k) hk h3.le; (try simp only [World.size_drew] at y_3 x_3 hb5); (try simp only [World.size_alloc] at y_3 x_3 hb5); (try simp only [World.size_drew] at hb5); (try simp only [Nat.add_one_le_iff] at y_3)))
    all_goals (go_wp2_with fail; go_meet; first
      | exact ⟨w3.heap.size, rb, rfl, cells_new _ _ _, k5.alloc _, And.left ‹Ext w_4 _ ∧ _›, by omega, by omega, by omega⟩
      | exact ⟨w_4.heap.size, rb, rfl, early4 (lo := 0) (((cells_new w_4 _ _).ext (Ext.drew (Ext.refl _))).ext h3), Lib.hid (by repeat with_reducible (first | exact k5 | refine Has.setOther ?_ (by simp <;> omega) _)), And.left ‹Ext w_4 _ ∧ _›, by omega, by omega, by omega⟩)
  case rest =>
    obtain ⟨RB, rb, rfl, CR, HRB, EX, hrb1, hRB1, hne⟩ := hcut
    obtain ⟨wk, hwk⟩ : ∃ wk : World, wk = wc := ⟨_, rfl⟩
    subst hwk
    have E5 := Lib.hid (E_7.out.trans EX.out)
    have R5 := Lib.hid (R_6.out.ext EX.out)
    have B5 := Lib.hid (B_8.out.ext EX.out)
    have HWB : Hid (w.heap.size + 1 < rb ∧ B ≠ rb) := ⟨by omega, by omega⟩
    have HNE := Lib.hid hne
    have I0 : Hid (∃ ks, Has wk rb ks ∧ ks.length = D * D ∧ ∀ i' j', i' < 0 → j' < D → gi ks (i' * D + j') = kilN D l i' j' % P) := ⟨_, HRB.out, by simp, fun i' j' h _ => by omega⟩
    have HKK : Hid (∀ wr, wk.grownBy wr (some rb) → Cells wr B [.int .i64 P, .int .i64 D, .slice (some ⟨a0, oa, none⟩) n n] ∧ Cells wr RB [.int .i64 P, .int .i64 D, .int .i64 D, .slice (some ⟨rb, 0, none⟩) (D * D) (D * D)] ∧ Ext w wr) := fun wr h => ⟨B5.out.grown h (fun k hk => by simp at hk; have := HWB.out; omega), CR.out.grown h (fun k hk => by simp at hk; have := HNE.out; omega), E5.out.grown h (fun k hk => by simp at hk; have := HWB.out; omega)⟩
    clear hrb1 hRB1 hne HRB EX E_7 R_6 B_8 lA0 qA00 qA01 qA02 lB qB0 qB1 qB2 HRl HBl hlo
    have lb := B5.out.1
    have b0 := B5.out.2 0 _ rfl
    have b1 := B5.out.2 1 _ rfl
    have b2 := B5.out.2 2 _ rfl
    go_wp2_with fail
    clear lb b0 b1 b2
    go_loopw [38, 6, 7, 8] (fun z _ _ _ wr => ∃ i : Nat, i ≤ D ∧ z = .int .i64 i ∧ Hid (wk.grownBy wr (some rb)) ∧ Hid (∃ ks, Has wr rb ks ∧ ks.length = D * D ∧ ∀ i' j', i' < i → j' < D → gi ks (i' * D + j') = kilN D l i' j' % P)) (fun z _ _ _ _ => D - (intOf z).toNat)
    case atStart => exact ⟨0, by omega, rfl, grownBy_refl _ _, I0⟩
    case round =>
      clear I0
      obtain ⟨i, hi, rfl, hG, hH⟩ := hrel
      have lR := (HKK.out _ hG.out).2.1.1
      have c0 := (HKK.out _ hG.out).2.1.2 0 _ rfl
      have c1 := (HKK.out _ hG.out).2.1.2 1 _ rfl
      have c2 := (HKK.out _ hG.out).2.1.2 2 _ rfl
      have c3 := (HKK.out _ hG.out).2.1.2 3 _ rfl
      by_cases hlt : i < D
      · go_wp2_with fail
        refine (HRO.out rb i _ hlt).mono ?_
        rintro e w3 ⟨rfl, h3⟩
        have G3 := Lib.hid (grownBy_ext hG.out h3)
        have H3 : Hid (∃ ks, Has w3 rb ks ∧ ks.length = D * D ∧ (∀ i' j', i' < i → j' < D → gi ks (i' * D + j') = kilN D l i' j' % P) ∧ ∀ j', j' < 0 → gi ks (i * D + j') = kilN D l i j' % P) := by
          obtain ⟨ks, k1, k2, k3⟩ := hH.out
          exact ⟨ks, k1.ext h3, k2, k3, fun j' h => by omega⟩
        clear lR c0 c1 c2 c3 hG hH h3
        have hid9 : i * D + D ≤ D * D := by have := Nat.mul_le_mul_right D (show i + 1 ≤ D by omega); rw [Nat.add_mul, Nat.one_mul] at this; exact this
        have HID := Lib.hid hid9
        clear hid9
        go_wp2_with fail
        go_loopw [46, 8] (fun z _ wr => ∃ j : Nat, j ≤ D ∧ z = .int .i64 j ∧ Hid (wk.grownBy wr (some rb)) ∧ Hid (∃ ks, Has wr rb ks ∧ ks.length = D * D ∧ (∀ i' j', i' < i → j' < D → gi ks (i' * D + j') = kilN D l i' j' % P) ∧ ∀ j', j' < j → gi ks (i * D + j') = kilN D l i j' % P)) (fun z _ _ => D - (intOf z).toNat)
        case atStart => exact ⟨0, by omega, rfl, G3, H3⟩
        case round =>
          clear G3 H3
          obtain ⟨j, hj, rfl, hG, hH⟩ := hrel
          by_cases hlt2 : j < D
          · obtain ⟨ks, k1, k2, k3, k4⟩ := hH.out
            have K1 := Lib.hid k1
            have K2 := Lib.hid k2
            have K3 := Lib.hid k3
            have K4 := Lib.hid k4
            have HQ : Hid (i * D + j < ks.length) := by rw [Hid, k2]; exact place_lt hlt hlt2
            clear k1 k2 k3 k4 hH
            have HA1 := Lib.hid (HAT.out i hlt)
            have HA2 := Lib.hid (HAT.out j hlt2)
            have HT1 := Lib.hid (HTP.out i j hlt hlt2)
            go_wp2_with fail
            refine (HA1.out _ B (HKK.out _ hG.out).1).mono ?_
            rintro e w4 ⟨rfl, h4⟩
            dsimp only
            go_wp2_with fail
            refine (HA2.out _ B ((HKK.out _ hG.out).1.ext h4)).mono ?_
            rintro e w5 ⟨rfl, h5⟩
            dsimp only
            go_wp2_with fail
            refine (HT1.out _ ((HKK.out _ hG.out).2.2.trans (h4.trans h5))).mono ?_
            rintro e w6 ⟨rfl, h6⟩
            dsimp only
            have EW := Lib.hid ((h4.trans h5).trans h6)
            have c1 : w6.cell? ⟨rb, i * D + j, none⟩ = _ := (K1.out.ext EW.out).cell _ HQ.out
            have f1 : w6.frozen? ⟨rb, i * D + j, none⟩ = false := (K1.out.ext EW.out).free _
            have N1 : Hid (∃ ks', Has (w6.setCell ⟨rb, i * D + j, none⟩ (.int .i64 (kilN D l i j % P))) rb ks' ∧ ks'.length = D * D ∧ (∀ i' j', i' < i → j' < D → gi ks' (i' * D + j') = kilN D l i' j' % P) ∧ ∀ j', j' < j + 1 → gi ks' (i * D + j') = kilN D l i j' % P) := by
              refine ⟨_, (K1.out.ext EW.out).set _ HQ.out _, by rw [List.length_set]; exact K2.out, fun i' j' g1 g2 => ?_, fun j' g => ?_⟩
              · rw [kil_put K2.out hlt hlt2 g2, if_neg (fun e => by omega)]; exact K3.out i' j' g1 g2
              · rw [kil_put K2.out hlt hlt2 (by omega)]
                by_cases e : j' = j
                · subst e; rw [if_pos ⟨rfl, rfl⟩]
                · rw [if_neg (fun h => e h.2)]; exact K4.out j' (by omega)
            have N2 : Hid (wk.grownBy (w6.setCell ⟨rb, i * D + j, none⟩ (.int .i64 (kilN D l i j % P))) (some rb)) := grownBy_set (p := ⟨rb, i * D + j, none⟩) (grownBy_ext hG.out EW.out) rfl _
            clear hG h4 h5 h6 EW K1 K2 K3 K4 HQ
            go_wp2
            exact ⟨⟨j + 1, by omega, by simp, N2, N1⟩, by simp [intOf]; omega⟩
          · obtain rfl : D = j := by omega
            have H9 : Hid (∃ ks, Has wr rb ks ∧ ks.length = D * D ∧ ∀ i' j', i' < i + 1 → j' < D → gi ks (i' * D + j') = kilN D l i' j' % P) := by
              obtain ⟨ks, k1, k2, k3, k4⟩ := hH.out
              refine ⟨ks, k1, k2, fun i' j' g1 g2 => ?_⟩
              by_cases e : i' = i
              · subst e; exact k4 j' g2
              · exact k3 i' j' (by omega) g2
            clear hH
            go_wp2
            exact ⟨⟨i + 1, by omega, by simp, hG, H9⟩, by simp [intOf]; omega⟩
      · obtain rfl : D = i := by omega
        obtain ⟨ks, k1, k2, k3⟩ := hH.out
        have hkk := kilL_eq (P := P) (l := l) k2 (fun i' j' g1 g2 => k3 i' j' g1 g2)
        subst hkk
        have RR := R5.out.grown hG.out (fun k hk => by simp at hk; have := HWB.out; omega)
        have r0 := RR.2 0 _ rfl
        have r1 := RR.2 1 _ rfl
        have r2 := RR.2 2 _ rfl
        have r3 := RR.2 3 _ rfl
        have tR := RR.3
        have lR2 := RR.1
        have E9 := (HKK.out _ hG.out).2.2
        have hwb := HWB.out
        have hltk := k1.lt
        go_wp2
        refine bodyPost_ret (v := .agg #[.int .i64 P, .int .i64 D, .int .i64 D, .slice (some ⟨rb, 0, none⟩) (D * D) (D * D)]) (by simp [results, Try.results48, go_sem, r0, r1, r2, r3]) rfl ⟨_, rfl, ⟨_, _, _, rfl, ?_, by omega⟩, ext4 E9 (by omega) _ _ _ _⟩
        exact Own.mono (own4 (k1.own (lo := w.heap.size + 1 + 1) (hi := wr.heap.size) (by omega) hltk hKL.out) (by omega) _ _ _ _) (by omega) (by simp)

end Go.Proofs.Ytgmipolgnpjmnaa
