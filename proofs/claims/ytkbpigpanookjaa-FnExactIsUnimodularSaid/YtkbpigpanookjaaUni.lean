/-
  Whether an algebra is unimodular: both texts.
-/
import Derived.Test.YtkbpigpanookjaaKil0
import Derived.Test.YtkbpigpanookjaaBr
import Derived.Test.YtkbpigpanookjaaAo
namespace Go.Proofs.Ytkbpigpanookjaa
open Go.ChangeShapes Go.WideShapes Go.ChangeAt Go.RowKit
set_option linter.unusedVariables false
set_option linter.unusedSimpArgs false

def TrZ (P : Int) (D : Nat) (l : List Int) (i : Nat) : Prop := traceTo (rowL (D * D) l i) D D % P = 0
open Classical in
noncomputable def uniB (P : Int) (D : Nat) (l : List Int) : Bool := decide (∀ i, i < D → TrZ P D l i)
theorem uniB_true {P : Int} {D : Nat} {l : List Int} (h : ∀ i, i < D → TrZ P D l i) : uniB P D l = true := by simp only [uniB, decide_eq_true_eq]; exact h
theorem uniB_false {P : Int} {D : Nat} {l : List Int} (h : ¬ ∀ i, i < D → TrZ P D l i) : uniB P D l = false := by simp only [uniB, decide_eq_false_iff_not]; exact h
noncomputable def uniM (P D : Int) (l : List Int) : Bool := algB P D l && uniB P D.toNat l

set_option maxRecDepth 100000 in
set_option maxHeartbeats 6400000 in
theorem isUnimodular_impl {P D : Int} {a0 oa n : Nat} {l : List Int} {w : World} {i : Bool} (hT : Reads w (some ⟨a0, oa, none⟩) n l) (hm0 : n ≤ 1048576) (hM : uniM P D l = i) :
    Calls Try.prog 18 #[.agg #[.int .i64 P, .int .i64 D, .slice (some ⟨a0, oa, none⟩) n n]] w fun e w' => e = .returned (.bool i) ∧ Ext w w' := by
  subst hM
  have HT := Lib.hid hT
  have HA : Hid (uniM P D l = (algB P D l && uniB P D.toNat l)) := rfl
  generalize uniM P D l = q at HA
  rcases h1 : algB P D l with _ | _
  · have HF : Hid (q = false) := by rw [Hid, HA.out, h1]; rfl
    have H0 := Lib.hid h1
    clear h1 hT HA
    go_enter Try.func18, Try.ntmps18
    have A0_1 := Lib.hid (cells_new' w #[.int .i64 P, .int .i64 D, .slice (some ⟨a0, oa, none⟩) n n] 27 (w.heap.size) (by simp))
    have E_2 := Lib.hid ((Ext.refl w).alloc (.cells #[.int .i64 P, .int .i64 D, .slice (some ⟨a0, oa, none⟩) n n] 27))
    have lA0 := A0_1.out.1
    have qA00 := A0_1.out.2 0 _ rfl
    have qA01 := A0_1.out.2 1 _ rfl
    have qA02 := A0_1.out.2 2 _ rfl
    try simp only [World.size_alloc] at lA0
    go_wp2_with fail
    refine (wrap_impl P _ a0 oa n n l _ (HT.out.ext E_2.out) hm0 (Nat.le_refl _) (by unfold maxLen; omega)).mono ?_
    rintro e w_3 ⟨B, rfl, hb, hlo, h_3⟩
    clear lA0 qA00 qA01 qA02
    have A0_4 := Lib.hid (A0_1.out.ext h_3)
    clear A0_1
    have E_5 := Lib.hid (E_2.out.trans h_3)
    clear E_2
    have B_6 := Lib.hid hb
    clear hb
    rw [H0.out]
    try simp only [World.size_alloc] at hlo
    go_wp2
    go_ret
    exact ⟨ret_bool HF.out.symm, E_5.out⟩
  obtain ⟨D, rfl, hA⟩ := algB_parts h1 hT.1
  have H0 := Lib.hid h1
  have HB : Hid (q = uniB P D l) := by rw [Hid, HA.out, h1, Int.toNat_natCast]; rfl
  have hp := isP_lo hA.pr
  have hp2 := isP_hi hA.pr
  have hD := hA.dim
  have hsq : D * D ≤ 784 := Nat.mul_le_mul hD hD
  have HQ1 : Hid (∀ i, i < D → ¬ TrZ P D l i → q = false) := fun i hi hn => by rw [HB.out, uniB_false (fun h => hn (h i hi))]
  have HQ2 : Hid ((∀ i, i < D → TrZ P D l i) → q = true) := fun h => by rw [HB.out, uniB_true h]
  have hrow : ∀ i, i < D → (rowL (D * D) l i).length = D * D ∧ Res (rowL (D * D) l i) P := fun i hi => by
    have hnn : n = D * (D * D) := by rw [hA.len, Nat.mul_assoc]
    have hll : (rowL (D * D) l i).length = D * D := rowL_length (by rw [hT.1, hnn]) hi
    refine ⟨hll, fun j hj => ?_⟩
    rw [hll] at hj
    rw [gi_rowL2 _ _ hj]
    exact hA.res _ (by rw [hT.1, hnn]; exact place_lt hi hj)
  have HAT : Hid (∀ i, i < D → ∀ w1 BA, Cells w1 BA [.int .i64 P, .int .i64 D, .slice (some ⟨a0, oa, none⟩) n n] → Calls Try.prog 60 #[.pointer (some ⟨BA, 0, none⟩), .int .i64 i] w1 fun e w' => e = .returned (.agg #[.int .i64 P, .int .i64 D, .int .i64 D, .slice (some ⟨a0, oa + i * (D * D), none⟩) (D * D) (n - i * (D * D))]) ∧ Ext w1 w') := fun i hi w1 BA hc => adjointTo_impl P D BA a0 oa n n i w1 hc hD hA.len (Nat.le_refl _) (by unfold maxLen; omega) hi
  have HTR : Hid (∀ i, i < D → ∀ w1, Ext w w1 → Calls Try.prog 59 #[.agg #[.int .i64 P, .int .i64 D, .int .i64 D, .slice (some ⟨a0, oa + i * (D * D), none⟩) (D * D) (n - i * (D * D))]] w1 fun e w' => e = .returned (.tuple #[.int .i64 (traceTo (rowL (D * D) l i) D D % P), .bool true]) ∧ Ext w1 w') := fun i hi w1 h => by
    have hnn : n = D * (D * D) := by rw [hA.len, Nat.mul_assoc]
    have hD40 : inB (D : Int) 0 40 = true := inB_iff.2 ⟨by omega, by omega⟩
    exact traceOf_impl (reads_row (hT.ext h) hnn hi) (by omega) (by rw [traceM, mok_true ⟨hA.pr, hD40, hD40, by rw [(hrow i hi).1]; simp, resB_true (hrow i hi).2⟩]; simp)
  clear hT hA h1 hrow HA HB
  go_enter Try.func18, Try.ntmps18
  have A0_1 := Lib.hid (cells_new' w #[.int .i64 P, .int .i64 D, .slice (some ⟨a0, oa, none⟩) n n] 27 (w.heap.size) (by simp))
  have E_2 := Lib.hid ((Ext.refl w).alloc (.cells #[.int .i64 P, .int .i64 D, .slice (some ⟨a0, oa, none⟩) n n] 27))
  have lA0 := A0_1.out.1
  have qA00 := A0_1.out.2 0 _ rfl
  have qA01 := A0_1.out.2 1 _ rfl
  have qA02 := A0_1.out.2 2 _ rfl
  try simp only [World.size_alloc] at lA0
  go_wp2_with fail
  refine (wrap_impl P _ a0 oa n n l _ (HT.out.ext E_2.out) hm0 (Nat.le_refl _) (by unfold maxLen; omega)).mono ?_
  rintro e w_3 ⟨B, rfl, hb, hlo, h_3⟩
  clear lA0 qA00 qA01 qA02
  have A0_4 := Lib.hid (A0_1.out.ext h_3)
  clear A0_1
  have E_5 := Lib.hid (E_2.out.trans h_3)
  clear E_2
  have B_6 := Lib.hid hb
  clear hb
  rw [H0.out]
  try simp only [World.size_alloc] at hlo
  have lB := B_6.out.1
  have qB0 := B_6.out.2 0 _ rfl
  have qB1 := B_6.out.2 1 _ rfl
  have qB2 := B_6.out.2 2 _ rfl
  try simp only [World.size_alloc] at lB
  go_wp2_with fail
  clear lB qB0 qB1 qB2
  go_loopw [20, 5, 6, 7] (fun z _ _ _ wr => ∃ i : Nat, i ≤ D ∧ z = .int .i64 i ∧ Hid (Ext w_3 wr) ∧ Hid (∀ j, j < i → TrZ P D l j)) (fun z _ _ _ _ => D - (intOf z).toNat)
  case atStart => exact ⟨0, by omega, rfl, Ext.refl _, fun j hj => by omega⟩
  case round =>
    obtain ⟨i, hi, rfl, hE, hF⟩ := hrel
    by_cases hlt : i < D
    · have CB := Lib.hid (B_6.out.ext hE.out)
      have EW := Lib.hid (E_5.out.trans hE.out)
      have HA1 := Lib.hid (HAT.out i hlt)
      have HT1 := Lib.hid (HTR.out i hlt)
      rcases Classical.em (TrZ P D l i) with hz | hz
      · have HF9 : Hid (∀ j, j < i + 1 → TrZ P D l j) := fun j hj => by
          by_cases e : j = i
          · subst e; exact hz
          · exact hF.out j (by omega)
        unfold TrZ at hz
        rw [hz] at HT1
        clear hz hF
        go_wp2_with fail
        refine (HA1.out _ B CB.out).mono ?_
        rintro e w3 ⟨rfl, h3⟩
        go_wp2_with fail
        refine (HT1.out _ (EW.out.trans h3)).mono ?_
        rintro e w4 ⟨rfl, h4⟩
        have E9 := Lib.hid (hE.out.trans (h3.trans h4))
        clear h3 h4 hE EW CB
        go_wp2
        exact ⟨⟨i + 1, by omega, by simp, E9, HF9⟩, by simp [intOf]; omega⟩
      · have HF : Hid (q = false) := HQ1.out i hlt hz
        unfold TrZ at hz
        have hz2 : (traceTo (rowL (D * D) l i) D D % P != 0) = true := by simpa using hz
        go_wp2_with fail
        refine (HA1.out _ B CB.out).mono ?_
        rintro e w3 ⟨rfl, h3⟩
        go_wp2_with fail
        refine (HT1.out _ (EW.out.trans h3)).mono ?_
        rintro e w4 ⟨rfl, h4⟩
        have E9 := Lib.hid (EW.out.trans (h3.trans h4))
        clear h3 h4 hE EW CB
        go_wp2
        go_ret
        exact ⟨ret_bool HF.out.symm, E9.out⟩
    · obtain rfl : D = i := by omega
      have HF : Hid (q = true) := HQ2.out hF.out
      have E8 := Lib.hid (E_5.out.trans hE.out)
      go_wp2
      go_ret
      exact ⟨ret_bool HF.out.symm, E8.out⟩

set_option maxRecDepth 100000 in
set_option maxHeartbeats 6400000 in
theorem isUnimodular_spec {P D : Int} {a0 oa n : Nat} {l : List Int} {w : World} {i : Bool} (hT : Reads w (some ⟨a0, oa, none⟩) n l) (hm0 : n ≤ 1048576) (hM : uniM P D l = i) :
    Calls Try.prog 16 #[.agg #[.int .i64 P, .int .i64 D, .slice (some ⟨a0, oa, none⟩) n n]] w fun e w' => e = .returned (.bool i) ∧ Ext w w' := by
  subst hM
  have HT := Lib.hid hT
  have HA : Hid (uniM P D l = (algB P D l && uniB P D.toNat l)) := rfl
  generalize uniM P D l = q at HA
  rcases h1 : algB P D l with _ | _
  · have HF : Hid (q = false) := by rw [Hid, HA.out, h1]; rfl
    have H0 := Lib.hid h1
    clear h1 hT HA
    go_enter Try.func16, Try.ntmps16
    have A0_1 := Lib.hid (cells_new' w #[.int .i64 P, .int .i64 D, .slice (some ⟨a0, oa, none⟩) n n] 27 (w.heap.size) (by simp))
    have E_2 := Lib.hid ((Ext.refl w).alloc (.cells #[.int .i64 P, .int .i64 D, .slice (some ⟨a0, oa, none⟩) n n] 27))
    have lA0 := A0_1.out.1
    have qA00 := A0_1.out.2 0 _ rfl
    have qA01 := A0_1.out.2 1 _ rfl
    have qA02 := A0_1.out.2 2 _ rfl
    try simp only [World.size_alloc] at lA0
    go_wp2_with fail
    refine (algebraOk_spec (HT.out.ext E_2.out) hm0 H0.out).mono ?_
    rintro e w_3 ⟨rfl, h_3⟩
    clear lA0 qA00 qA01 qA02
    have A0_4 := Lib.hid (A0_1.out.ext h_3)
    clear A0_1
    have E_5 := Lib.hid (E_2.out.trans h_3)
    clear E_2
    go_wp2
    go_ret
    exact ⟨ret_bool HF.out.symm, E_5.out⟩
  obtain ⟨D, rfl, hA⟩ := algB_parts h1 hT.1
  have H0 := Lib.hid h1
  have HB : Hid (q = uniB P D l) := by rw [Hid, HA.out, h1, Int.toNat_natCast]; rfl
  have hp := isP_lo hA.pr
  have hp2 := isP_hi hA.pr
  have hD := hA.dim
  have hsq : D * D ≤ 784 := Nat.mul_le_mul hD hD
  have HQ1 : Hid (∀ i, i < D → ¬ TrZ P D l i → q = false) := fun i hi hn => by rw [HB.out, uniB_false (fun h => hn (h i hi))]
  have HQ2 : Hid ((∀ i, i < D → TrZ P D l i) → q = true) := fun h => by rw [HB.out, uniB_true h]
  have hrow : ∀ i, i < D → (rowL (D * D) l i).length = D * D ∧ Res (rowL (D * D) l i) P := fun i hi => by
    have hnn : n = D * (D * D) := by rw [hA.len, Nat.mul_assoc]
    have hll : (rowL (D * D) l i).length = D * D := rowL_length (by rw [hT.1, hnn]) hi
    refine ⟨hll, fun j hj => ?_⟩
    rw [hll] at hj
    rw [gi_rowL2 _ _ hj]
    exact hA.res _ (by rw [hT.1, hnn]; exact place_lt hi hj)
  have HAD : Hid (∀ i, i < D → ∀ w1 bx, Ext w w1 → Has w1 bx (basL D i) → Calls Try.prog 55 #[.agg #[.int .i64 P, .int .i64 D, .slice (some ⟨a0, oa, none⟩) n n], .slice (some ⟨bx, 0, none⟩) D D] w1 fun e w' => ∃ a c, e = .returned (.agg #[.int .i64 P, .int .i64 D, .int .i64 D, .slice a (D * D) c]) ∧ Reads w' a (D * D) (rowL (D * D) l i) ∧ Ext w1 w') := fun i hi w1 bx h kb => by
    refine (l2Adjoint_spec P D a0 oa n n D _ l (basL D i) w1 (hT.ext h) (kb.reads (by simp [basL])) hD hA.len hp hp2 hA.res (fun j hj => by
      have : j < D := by simpa [basL] using hj
      rw [gi_basL hi]; split <;> omega)).mono ?_
    rintro e w' ⟨a, c, rfl, ho, hE⟩
    rw [adTo_bas hA.res (by rw [hT.1, hA.len]) hi] at ho
    exact ⟨a, c, rfl, ho.reads, hE⟩
  have HTR : Hid (∀ i, i < D → ∀ w1 a c, Reads w1 a (D * D) (rowL (D * D) l i) → Calls Try.prog 54 #[.agg #[.int .i64 P, .int .i64 D, .int .i64 D, .slice a (D * D) c]] w1 fun e w' => e = .returned (.int .i64 (traceTo (rowL (D * D) l i) D D % P)) ∧ Ext w1 w') := fun i hi w1 a c hr => l1Trace_spec P D a (D * D) c _ w1 hr rfl (by omega) hp hp2 (hrow i hi).2
  clear hT hA h1 hrow HA HB
  go_enter Try.func16, Try.ntmps16
  have A0_1 := Lib.hid (cells_new' w #[.int .i64 P, .int .i64 D, .slice (some ⟨a0, oa, none⟩) n n] 27 (w.heap.size) (by simp))
  have E_2 := Lib.hid ((Ext.refl w).alloc (.cells #[.int .i64 P, .int .i64 D, .slice (some ⟨a0, oa, none⟩) n n] 27))
  have lA0 := A0_1.out.1
  have qA00 := A0_1.out.2 0 _ rfl
  have qA01 := A0_1.out.2 1 _ rfl
  have qA02 := A0_1.out.2 2 _ rfl
  try simp only [World.size_alloc] at lA0
  go_wp2_with fail
  refine (algebraOk_spec (HT.out.ext E_2.out) hm0 H0.out).mono ?_
  rintro e w_3 ⟨rfl, h_3⟩
  clear lA0 qA00 qA01 qA02
  have A0_4 := Lib.hid (A0_1.out.ext h_3)
  clear A0_1
  have E_5 := Lib.hid (E_2.out.trans h_3)
  clear E_2
  have lA0 := A0_4.out.1
  have qA00 := A0_4.out.2 0 _ rfl
  have qA01 := A0_4.out.2 1 _ rfl
  have qA02 := A0_4.out.2 2 _ rfl
  try simp only [World.size_alloc] at lA0
  go_wp2_with fail
  clear lA0 qA00 qA01 qA02
  go_loopw [3] (fun z wr => ∃ i : Nat, i ≤ D ∧ z = .int .i64 i ∧ Hid (Ext w_3 wr) ∧ Hid (∀ j, j < i → TrZ P D l j)) (fun z _ => D - (intOf z).toNat)
  case atStart => exact ⟨0, by omega, rfl, Ext.refl _, fun j hj => by omega⟩
  case round =>
    obtain ⟨i, hi, rfl, hE, hF⟩ := hrel
    have CA := A0_4.out.ext hE.out
    have lA := CA.1
    have q0 := CA.2 0 _ rfl
    have q1 := CA.2 1 _ rfl
    have q2 := CA.2 2 _ rfl
    clear CA
    have EW := Lib.hid (E_5.out.trans hE.out)
    by_cases hlt : i < D
    · have HA1 := Lib.hid (HAD.out i hlt)
      have HT1 := Lib.hid (HTR.out i hlt)
      rcases Classical.em (TrZ P D l i) with hz | hz
      · have HF9 : Hid (∀ j, j < i + 1 → TrZ P D l j) := fun j hj => by
          by_cases e : j = i
          · subst e; exact hz
          · exact hF.out j (by omega)
        unfold TrZ at hz
        rw [hz] at HT1
        clear hz hF
        go_wp2_with fail
        go_region_held3 (fun w' => Ext wr w' ∧ (∀ b o, b < wr.heap.size → w'.cell? ⟨b, o, none⟩ = wr.cell? ⟨b, o, none⟩)) (first | assumption | (with_reducible exact ext2 (Ext.trans (And.left ‹Ext wr _ ∧ _›) ‹Ext _ _›)) | (refine ext2 ?_; with_reducible repeat (first | exact Ext.refl _ | exact And.left ‹Ext wr _ ∧ _› | refine Ext.drew ?_ | refine Ext.drewN ?_ _))) (first
          | (go_at_call 56; (with_reducible refine (l2Basis_spec D i _ hD hlt).mono ?_); rintro e w3 ⟨b, rfl, kb, h3⟩)
          | (go_at_call 55; (with_reducible refine (HA1.out _ _ (EW.out.trans (And.left ‹Ext wr _ ∧ _›)) kb).mono ?_); rintro e w4 ⟨a4, c4, rfl, kr, h4⟩)
          | (go_at_call 54; (with_reducible refine (HT1.out _ _ _ kr).mono ?_); rintro e w5 ⟨rfl, h5⟩))
        all_goals
          have E9 := Lib.hid (hE.out.trans (And.left ‹Ext wr w5 ∧ _›))
          go_wp2
          exact ⟨⟨i + 1, by omega, by simp, E9, HF9⟩, by simp [intOf]; omega⟩
      · have HF : Hid (q = false) := HQ1.out i hlt hz
        unfold TrZ at hz
        have hz2 : (traceTo (rowL (D * D) l i) D D % P != 0) = true := by simpa using hz
        go_wp2_with fail
        go_region_held3 (fun w' => Ext wr w' ∧ (∀ b o, b < wr.heap.size → w'.cell? ⟨b, o, none⟩ = wr.cell? ⟨b, o, none⟩)) (first | assumption | (with_reducible exact ext2 (Ext.trans (And.left ‹Ext wr _ ∧ _›) ‹Ext _ _›)) | (refine ext2 ?_; with_reducible repeat (first | exact Ext.refl _ | exact And.left ‹Ext wr _ ∧ _› | refine Ext.drew ?_ | refine Ext.drewN ?_ _))) (first
          | (go_at_call 56; (with_reducible refine (l2Basis_spec D i _ hD hlt).mono ?_); rintro e w3 ⟨b, rfl, kb, h3⟩)
          | (go_at_call 55; (with_reducible refine (HA1.out _ _ (EW.out.trans (And.left ‹Ext wr _ ∧ _›)) kb).mono ?_); rintro e w4 ⟨a4, c4, rfl, kr, h4⟩)
          | (go_at_call 54; (with_reducible refine (HT1.out _ _ _ kr).mono ?_); rintro e w5 ⟨rfl, h5⟩))
        all_goals
          have E9 := Lib.hid (EW.out.trans (And.left ‹Ext wr w5 ∧ _›))
          go_wp2
          go_ret
          exact ⟨ret_bool HF.out.symm, E9.out⟩
    · obtain rfl : D = i := by omega
      have HF : Hid (q = true) := HQ2.out hF.out
      go_wp2
      go_ret
      exact ⟨ret_bool HF.out.symm, EW.out⟩
end Go.Proofs.Ytkbpigpanookjaa
