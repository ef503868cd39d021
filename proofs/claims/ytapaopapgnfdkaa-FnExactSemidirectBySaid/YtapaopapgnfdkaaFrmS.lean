/-
  Invariant forms and derivations: the specification's tests.
-/
import Derived.Test.YtapaopapgnfdkaaFrmI
import Derived.Test.YtapaopapgnfdkaaKil0
import Derived.Test.YtapaopapgnfdkaaMulS
import Derived.Test.YtapaopapgnfdkaaAo
namespace Go.Proofs.Ytapaopapgnfdkaa
open Go.ChangeShapes Go.WideShapes Go.ChangeAt Go.RowKit
set_option linter.unusedVariables false
set_option linter.unusedSimpArgs false

section
variable {P : Int} {D : Nat} {l fs : List Int}
theorem zeroB_iff {xs : List Int} : zeroB xs = true ↔ ∀ q, q < xs.length → gi xs q = 0 := by rw [zeroB, decide_eq_true_eq, fz_all]
theorem forall_place {p : Nat → Prop} : (∀ q, q < D * D → p q) ↔ ∀ j, j < D → ∀ k, k < D → p (j * D + k) := by
  constructor
  · intro h j hj k hk; exact h _ (place_lt hj hk)
  · intro h q hq
    have h0 : 0 < D := by
      rcases Nat.eq_zero_or_pos D with e | e
      · subst e; simp at hq
      · exact e
    have := h (q / D) (Nat.div_lt_of_lt_mul hq) (q % D) (Nat.mod_lt _ h0)
    rwa [show q / D * D + q % D = q by rw [Nat.mul_comm]; exact Nat.div_add_mod q D] at this
/-- The matrix that the specification asks to be 0. -/
def adZ (P : Int) (D : Nat) (l fs : List Int) (i : Nat) : List Int := addL P 1 (mulTo P (rowL (D * D) l i) fs D D D D) (mulTo P fs (transTo (rowL (D * D) l i) D D D) D D D D)
theorem adZ_iff (i : Nat) : zeroB (adZ P D l fs i) = true ↔ InvS1 P D l fs i := by
  rw [zeroB_iff, adZ, addL_length, mulTo_length, forall_place]
  refine forall_congr' fun j => forall_congr' fun hj => forall_congr' fun k => forall_congr' fun hk => ?_
  rw [gi_addL _ _ _ _ _ (by rw [mulTo_length]; exact place_lt hj hk), at2_mulTo j k hj hk, at2_mulTo j k hj hk, Int.one_mul, ← eqm_zero]
  have e1 : (sumN D fun c => gi (rowL (D * D) l i) (j * D + c) * gi fs (c * D + k)) = fvN D l fs i j k := sumN_congr fun c hc => by
    rw [gi_rowL2 _ _ (place_lt hj hc), tb, show (i * D + j) * D + c = i * (D * D) + (j * D + c) by rw [Nat.add_mul, Nat.mul_assoc]; omega]; rfl
  have e2 : (sumN D fun c => gi fs (j * D + c) * gi (transTo (rowL (D * D) l i) D D D) (c * D + k)) = sumN D fun c => at2 D fs j c * tb D l i k c := sumN_congr fun c hc => by
    rw [gi_transTo D (Nat.le_refl _) c k hc hk, if_pos hk, gi_rowL2 _ _ (place_lt hk hc), tb, show (i * D + k) * D + c = i * (D * D) + (k * D + c) by rw [Nat.add_mul, Nat.mul_assoc]; omega]; rfl
  rw [e1, e2]
  have e := (Eqm.emod (P := P) (fvN D l fs i j k)).add (Eqm.emod (P := P) (sumN D fun c => at2 D fs j c * tb D l i k c))
  exact ⟨fun h => e.symm.trans h, fun h => e.trans h⟩
theorem brN_fst2 (x y : Nat → Int) (q : Nat) : brN D l x y q = sumN D fun c => x c * sumN D fun d => y d * tb D l c d q := by
  refine sumN_congr fun c _ => ?_
  rw [← sumN_mul]
  exact sumN_congr fun d _ => Int.mul_assoc _ _ _
theorem brN_bas1 (y : Nat → Int) {a : Nat} (ha : a < D) (q : Nat) : brN D l (gi (basL D a)) y q = sumN D fun d => y d * tb D l a d q := by
  rw [brN_fst2, sumN_one (k := a) _ ha (fun c hc hne => by rw [gi_basL ha, if_neg hne, Int.zero_mul]), gi_basL ha, if_pos rfl, Int.one_mul]
theorem derS_iff (hp : 2 ≤ P) (i j : Nat) (hi : i < D) (hj : j < D) : imTo P D (rowT D l i j) fs D = plusL P D (brL P D l (rowL D fs i) (basL D j)) (brL P D l (basL D i) (rowL D fs j)) ↔ DerS1 P D l fs i j := by
  have h1 : ∀ q, q < D → gi (imTo P D (rowT D l i j) fs D) q = fvN D l fs i j q % P := fun q hq => by
    rw [gi_imTo hp D hq]
    congr 1
    exact sumN_congr fun c hc => by rw [gi_rowT hc]; rfl
  have h2 : ∀ q, q < D → Eqm P (gi (plusL P D (brL P D l (rowL D fs i) (basL D j)) (brL P D l (basL D i) (rowL D fs j))) q) (mvN D l fs i j q + mwN D l fs i j q) ∧ gi (plusL P D (brL P D l (rowL D fs i) (basL D j)) (brL P D l (basL D i) (rowL D fs j))) q % P = gi (plusL P D (brL P D l (rowL D fs i) (basL D j)) (brL P D l (basL D i) (rowL D fs j))) q := fun q hq => by
    rw [gi_plusL hq, gi_brL _ _ hq, gi_brL _ _ hq, brN_bas _ hj, brN_bas1 _ hi]
    refine ⟨(Eqm.emod _).trans (((Eqm.emod _).trans (Eqm.of_eq ?_)).add ((Eqm.emod _).trans (Eqm.of_eq ?_))), Int.emod_emod _ _⟩
    · exact sumN_congr fun c hc => by rw [gi_rowL2 _ _ hc]; rfl
    · exact sumN_congr fun c hc => by rw [gi_rowL2 _ _ hc]; rfl
  constructor
  · intro h q hq
    have h3 := (h2 q hq).1
    rw [← h, h1 q hq] at h3
    exact (Eqm.emod _).symm.trans h3
  · intro h
    refine ext_gi (by rw [imTo_length]; simp [plusL]) (fun q hq => ?_)
    rw [imTo_length] at hq
    rw [h1 q hq, ← (h2 q hq).2]
    exact ((h q hq).trans (h2 q hq).1.symm).to_emod
end

theorem brL_res9 {P : Int} {D : Nat} {l xs ys : List Int} (hp : 0 < P) : Res (brL P D l xs ys) P := fun q hq => by
  rw [brL_len] at hq
  rw [gi_brL _ _ hq]
  exact ⟨Int.emod_nonneg _ (by omega), Int.emod_lt_of_pos _ hp⟩
set_option maxRecDepth 100000 in
set_option maxHeartbeats 6400000 in
theorem l3Derives_spec (P : Int) (D a0 oa n f0 fo nf : Nat) (l fs : List Int) (w : World) (hT : Reads w (some ⟨a0, oa, none⟩) n l) (hX : Reads w (some ⟨f0, fo, none⟩) nf fs) (hA : AlgP P D n l) (hnf : nf = D * D) (hres : Res fs P) :
    Calls Try.prog 148 #[.agg #[.int .i64 P, .int .i64 D, .slice (some ⟨a0, oa, none⟩) n n], .agg #[.int .i64 P, .int .i64 D, .int .i64 D, .slice (some ⟨f0, fo, none⟩) nf nf]] w fun e w' => e = .returned (.bool (derB P D l fs)) ∧ Ext w w' := by
  have HA2 : Hid (derB P D l fs = derB P D l fs) := rfl
  have HDI := Lib.hid (der_iff (fs := fs) hA.alt)
  have HB : ∀ q, derB P D l fs = q → ((∀ i, i < D → ∀ j, j < i → DerS1 P D l fs i j) → q = true) ∧ (∀ i j, i < D → j < i → ¬ DerS1 P D l fs i j → q = false) := fun q h => by
    subst h
    refine ⟨fun h => derB_iff.2 (HDI.out.1 h), fun i j hi hj hn => ?_⟩
    rw [Bool.eq_false_iff]
    exact fun h => hn (HDI.out.2 (derB_iff.1 h) i hi j hj)
  generalize derB P D l fs = q at HB HA2 ⊢
  obtain ⟨h1, h2⟩ := HB q (by first | rfl | trivial)
  have HQ2 := Lib.hid h1
  have HQ1 := Lib.hid h2
  clear HB HA2 HDI h1 h2
  have HT := Lib.hid hT
  have HX := Lib.hid hX
  have hp := isP_lo hA.pr
  have hp2 := isP_hi hA.pr
  have hD := hA.dim
  have h27 : D * D ≤ 784 := Nat.mul_le_mul hD hD
  have h28 := cube28 hD
  have hrowm : ∀ i, i < D → (rowL D fs i).length = D ∧ Res (rowL D fs i) P := fun i hi => by
    have h9 : (rowL D fs i).length = D := rowL_length (by rw [hX.1, hnf]) hi
    refine ⟨h9, fun j hj => ?_⟩
    rw [h9] at hj
    rw [gi_rowL2 _ _ hj]
    exact hres _ (by rw [hX.1, hnf]; exact place_lt hi hj)
  have hbas : ∀ i, i < D → (basL D i).length = D ∧ Res (basL D i) P := fun i hi => ⟨by simp [basL], fun j hj => by
    have : j < D := by simpa [basL] using hj
    rw [gi_basL hi]; split <;> omega⟩
  have HLR : Hid (∀ i j, i < D → j < D → ∀ w1, Calls Try.prog 108 #[.agg #[.int .i64 P, .int .i64 D, .slice (some ⟨a0, oa, none⟩) n n], .int .i64 i, .int .i64 j] w1 fun e w' => e = .returned (.slice (some ⟨a0, oa + (i * D + j) * D, none⟩) D (n - (i * D + j) * D)) ∧ Ext w1 w') := fun i j hi hj w1 => l2Row_spec P D a0 oa n n i j w1 hD hA.len (Nat.le_refl _) (by unfold maxLen; have := hA.len; omega) hi hj
  have HIM : Hid (∀ i j, i < D → j < D → ∀ w1 c9, Ext w w1 → Calls Try.prog 209 #[.agg #[.int .i64 P, .int .i64 D, .int .i64 D, .slice (some ⟨f0, fo, none⟩) nf nf], .slice (some ⟨a0, oa + (i * D + j) * D, none⟩) D c9] w1 fun e w' => ∃ b, e = .returned (.slice (some ⟨b, 0, none⟩) D D) ∧ Has w' b (imTo P D (rowT D l i j) fs D) ∧ Ext w1 w') := fun i j hi hj w1 c9 h => l2Image_spec P D D nf f0 fo a0 (oa + (i * D + j) * D) c9 fs (rowT D l i j) w1 (hX.ext h) (rowT_reads (hT.ext h) hA.len hi hj) hnf (by omega) (by omega) hp hp2 hres (rowT_res (by omega) hA.res i j)
  have HMR : Hid (∀ i, i < D → ∀ w1, Calls Try.prog 165 #[.agg #[.int .i64 P, .int .i64 D, .int .i64 D, .slice (some ⟨f0, fo, none⟩) nf nf], .int .i64 i] w1 fun e w' => e = .returned (.slice (some ⟨f0, fo + i * D, none⟩) D (nf - i * D)) ∧ Ext w1 w') := fun i hi w1 => l1RowP_spec P D D i f0 fo nf nf w1 (by rw [hnf]; exact Nat.mul_le_mul_right D hi) (by omega) (by omega) (Nat.le_refl _) (by unfold maxLen; omega)
  have HB1 : Hid (∀ i j, i < D → j < D → ∀ w1 c8 bj, Ext w w1 → Has w1 bj (basL D j) → Calls Try.prog 181 #[.agg #[.int .i64 P, .int .i64 D, .slice (some ⟨a0, oa, none⟩) n n], .slice (some ⟨f0, fo + i * D, none⟩) D c8, .slice (some ⟨bj, 0, none⟩) D D] w1 (BrPost w1 P D l (rowL D fs i) (basL D j))) := fun i j hi hj w1 c8 bj h hb => l2Bracket_spec P D a0 oa n n c8 D _ _ l _ _ w1 (hT.ext h) (reads_row (hX.ext h) hnf hi) (hb.reads (hbas j hj).1) hD hA.len hp hp2 hA.res (hrowm i hi).2 (hbas j hj).2
  have HB2 : Hid (∀ i j, i < D → j < D → ∀ w1 c8 bi, Ext w w1 → Has w1 bi (basL D i) → Calls Try.prog 181 #[.agg #[.int .i64 P, .int .i64 D, .slice (some ⟨a0, oa, none⟩) n n], .slice (some ⟨bi, 0, none⟩) D D, .slice (some ⟨f0, fo + j * D, none⟩) D c8] w1 (BrPost w1 P D l (basL D i) (rowL D fs j))) := fun i j hi hj w1 c8 bi h hb => l2Bracket_spec P D a0 oa n n D c8 _ _ l _ _ w1 (hT.ext h) (hb.reads (hbas i hi).1) (reads_row (hX.ext h) hnf hj) hD hA.len hp hp2 hA.res (hbas i hi).2 (hrowm j hj).2
  have HPL : Hid (∀ i j, i < D → j < D → ∀ w1 b1 b2, Has w1 b1 (brL P D l (rowL D fs i) (basL D j)) → Has w1 b2 (brL P D l (basL D i) (rowL D fs j)) → Calls Try.prog 201 #[.int .i64 P, .slice (some ⟨b1, 0, none⟩) D D, .slice (some ⟨b2, 0, none⟩) D D] w1 (PlusPost w1 P D (brL P D l (rowL D fs i) (basL D j)) (brL P D l (basL D i) (rowL D fs j)))) := fun i j hi hj w1 b1 b2 h1 h2 => l2Plus_spec P D D D _ _ _ _ w1 (h1.reads brL_len) (h2.reads brL_len) hD hp hp2 (brL_res9 (by omega)) (brL_res9 (by omega))
  have HSA : Hid (∀ w1 b4 b5 i j, Has w1 b4 (imTo P D (rowT D l i j) fs D) → Has w1 b5 (plusL P D (brL P D l (rowL D fs i) (basL D j)) (brL P D l (basL D i) (rowL D fs j))) → Calls Try.prog 210 #[.slice (some ⟨b4, 0, none⟩) D D, .slice (some ⟨b5, 0, none⟩) D D] w1 fun e w' => e = .returned (.bool (sameB (imTo P D (rowT D l i j) fs D) (plusL P D (brL P D l (rowL D fs i) (basL D j)) (brL P D l (basL D i) (rowL D fs j))))) ∧ Ext w1 w') := fun w1 b4 b5 i j h1 h2 => by
    refine (l1Same_spec _ _ D D _ _ _ _ w1 (h1.reads (imTo_length _)) (h2.reads (by simp [plusL])) (by omega) (by omega)).mono ?_
    rintro e w' ⟨rfl, m, rfl⟩
    exact ⟨rfl, (Ext.refl _).drewN m⟩
  clear hT hX hA hres hnf hrowm hbas
  go_enter Try.func148, Try.ntmps148
  have A0_1 := Lib.hid ((cells_new' w #[.int .i64 P, .int .i64 D, .slice (some ⟨a0, oa, none⟩) n n] 28 (w.heap.size) (by simp)).ext ((Ext.refl _).alloc (.cells #[.int .i64 P, .int .i64 D, .int .i64 D, .slice (some ⟨f0, fo, none⟩) nf nf] 40)))
  have A1_2 := Lib.hid (cells_new' (w.alloc (.cells #[.int .i64 P, .int .i64 D, .slice (some ⟨a0, oa, none⟩) n n] 28)) #[.int .i64 P, .int .i64 D, .int .i64 D, .slice (some ⟨f0, fo, none⟩) nf nf] 40 (w.heap.size + 1) (by simp))
  have E_3 := Lib.hid (((Ext.refl w).alloc (.cells #[.int .i64 P, .int .i64 D, .slice (some ⟨a0, oa, none⟩) n n] 28)).alloc (.cells #[.int .i64 P, .int .i64 D, .int .i64 D, .slice (some ⟨f0, fo, none⟩) nf nf] 40))
  have lA0 := A0_1.out.1
  have qA00 := A0_1.out.2 0 _ rfl
  have qA01 := A0_1.out.2 1 _ rfl
  have qA02 := A0_1.out.2 2 _ rfl
  have lA1 := A1_2.out.1
  have qA10 := A1_2.out.2 0 _ rfl
  have qA11 := A1_2.out.2 1 _ rfl
  have qA12 := A1_2.out.2 2 _ rfl
  have qA13 := A1_2.out.2 3 _ rfl
  try simp only [World.size_alloc] at lA0 lA1
  go_wp2_with fail
  clear lA0 qA00 qA01 qA02 lA1 qA10 qA11 qA12 qA13
  go_loopw [5, 6, 7, 8] (fun z _ _ _ wr => ∃ i : Nat, i ≤ D ∧ z = .int .i64 i ∧ Hid (Ext ((w.alloc (.cells #[.int .i64 P, .int .i64 D, .slice (some ⟨a0, oa, none⟩) n n] 28)).alloc (.cells #[.int .i64 P, .int .i64 D, .int .i64 D, .slice (some ⟨f0, fo, none⟩) nf nf] 40)) wr) ∧ Hid (∀ i', i' < i → ∀ j, j < i' → DerS1 P D l fs i' j)) (fun z _ _ _ _ => D - (intOf z).toNat)
  case atStart => exact ⟨0, by omega, rfl, Ext.refl _, fun j hj => by omega⟩
  case round =>
    obtain ⟨i, hi, rfl, hE, hF⟩ := hrel
    have bac := A0_1.out.ext hE.out
    have lba := bac.1
    have ba0 := bac.2 0 _ rfl
    have ba1 := bac.2 1 _ rfl
    have ba2 := bac.2 2 _ rfl
    clear bac
    have bmc := A1_2.out.ext hE.out
    have lbm := bmc.1
    have bm0 := bmc.2 0 _ rfl
    have bm1 := bmc.2 1 _ rfl
    have bm2 := bmc.2 2 _ rfl
    have bm3 := bmc.2 3 _ rfl
    clear bmc
    by_cases hlt : i < D
    · go_wp2_with fail
      clear lba ba0 ba1 ba2 lbm bm0 bm1 bm2 bm3
      have hF0 : Hid (∀ j, j < 0 → DerS1 P D l fs i j) := fun j hj => by omega
      go_loopw [6, 7, 8] (fun z _ _ wr => ∃ j : Nat, j ≤ i ∧ z = .int .i64 j ∧ Hid (Ext ((w.alloc (.cells #[.int .i64 P, .int .i64 D, .slice (some ⟨a0, oa, none⟩) n n] 28)).alloc (.cells #[.int .i64 P, .int .i64 D, .int .i64 D, .slice (some ⟨f0, fo, none⟩) nf nf] 40)) wr) ∧ Hid (∀ j', j' < j → DerS1 P D l fs i j')) (fun z _ _ _ => i - (intOf z).toNat)
      case atStart => exact ⟨0, by omega, rfl, hE, hF0⟩
      case round =>
        clear hE hF0
        obtain ⟨j, hj, rfl, hE, hG⟩ := hrel
        have bac := A0_1.out.ext hE.out
        have lba := bac.1
        have ba0 := bac.2 0 _ rfl
        have ba1 := bac.2 1 _ rfl
        have ba2 := bac.2 2 _ rfl
        clear bac
        have bmc := A1_2.out.ext hE.out
        have lbm := bmc.1
        have bm0 := bmc.2 0 _ rfl
        have bm1 := bmc.2 1 _ rfl
        have bm2 := bmc.2 2 _ rfl
        have bm3 := bmc.2 3 _ rfl
        clear bmc
        by_cases hlt2 : j < i
        · have hjd : j < D := by omega
          have EW := Lib.hid (E_3.out.trans hE.out)
          have HH0 : Hid (∀ bb, sameB (imTo P D (rowT D l i j) fs D) (plusL P D (brL P D l (rowL D fs i) (basL D j)) (brL P D l (basL D i) (rowL D fs j))) = bb → (bb = true ↔ DerS1 P D l fs i j)) := fun bb h => by
            rw [← h, sameB, decide_eq_true_eq]; exact derS_iff hp i j hlt hjd
          have HL1 := Lib.hid (HLR.out i j hlt hjd)
          have HI1 := Lib.hid (HIM.out i j hlt hjd)
          have HR1 := Lib.hid (HMR.out i hlt)
          have HR2 := Lib.hid (HMR.out j hjd)
          have HC1 := Lib.hid (HB1.out i j hlt hjd)
          have HC2 := Lib.hid (HB2.out i j hlt hjd)
          have HP1 := Lib.hid (HPL.out i j hlt hjd)
          have HS1 : Hid (∀ w1 b4 b5, Has w1 b4 (imTo P D (rowT D l i j) fs D) → Has w1 b5 (plusL P D (brL P D l (rowL D fs i) (basL D j)) (brL P D l (basL D i) (rowL D fs j))) → _) := fun w1 b4 b5 => HSA.out w1 b4 b5 i j
          rcases hsb : sameB (imTo P D (rowT D l i j) fs D) (plusL P D (brL P D l (rowL D fs i) (basL D j)) (brL P D l (basL D i) (rowL D fs j))) with _ | _
          all_goals
            have HH := Lib.hid (HH0.out _ hsb)
            rw [hsb] at HS1
            clear hsb HH0
            go_wp2_with fail
            go_region_held3 (fun w' => Ext wr w' ∧ (∀ b o, b < wr.heap.size → w'.cell? ⟨b, o, none⟩ = wr.cell? ⟨b, o, none⟩)) (first | assumption | (with_reducible exact ext2 (Ext.trans (And.left ‹Ext wr _ ∧ _›) ‹Ext _ _›)) | (refine ext2 ?_; with_reducible repeat (first | exact Ext.refl _ | exact And.left ‹Ext wr _ ∧ _› | refine Ext.drew ?_ | refine Ext.drewN ?_ _))) (first
              | (go_at_call 108; (with_reducible refine (HL1.out _).mono ?_); rintro e w3 ⟨rfl, h3⟩)
              | (go_at_call 209; (with_reducible refine (HI1.out _ _ (EW.out.trans (And.left ‹Ext wr _ ∧ _›))).mono ?_); rintro e w4 ⟨b4, rfl, k4, h4⟩))
            have EK := Lib.hid (And.left ‹Ext wr w4 ∧ _›)
            have K4 := Lib.hid k4
            clear lba ba0 ba1 ba2 lbm bm0 bm1 bm2 bm3 h3 h4 k4
            have hE' := Lib.hid (hE.out.trans EK.out)
            have EW' := Lib.hid (EW.out.trans EK.out)
            obtain ⟨wk, hwk⟩ : ∃ wk : World, wk = w4 := ⟨_, rfl⟩
            subst hwk
            have bac := A0_1.out.ext hE'.out
            have lba := bac.1
            have ba0 := bac.2 0 _ rfl
            have ba1 := bac.2 1 _ rfl
            have ba2 := bac.2 2 _ rfl
            clear bac
            have bmc := A1_2.out.ext hE'.out
            have lbm := bmc.1
            have bm0 := bmc.2 0 _ rfl
            have bm1 := bmc.2 1 _ rfl
            have bm2 := bmc.2 2 _ rfl
            have bm3 := bmc.2 3 _ rfl
            clear bmc
            go_wp2_with fail
            go_region_held3 (fun w' => Ext wk w' ∧ (∀ b o, b < wk.heap.size → w'.cell? ⟨b, o, none⟩ = wk.cell? ⟨b, o, none⟩)) (first | assumption | (with_reducible exact ext2 (Ext.trans (And.left ‹Ext wk _ ∧ _›) ‹Ext _ _›)) | (refine ext2 ?_; with_reducible repeat (first | exact Ext.refl _ | exact And.left ‹Ext wk _ ∧ _› | refine Ext.drew ?_ | refine Ext.drewN ?_ _))) (first
              | (go_at_call_of 165 (Value.int .i64 i); (with_reducible refine (HR1.out _).mono ?_); rintro e w5 ⟨rfl, h5⟩)
              | (go_at_call_of 156 (Value.int .i64 j); (with_reducible refine (l2Basis_spec D j _ hD hjd).mono ?_); rintro e w6 ⟨b6, rfl, k6, h6⟩)
              | (go_at_call 181; (with_reducible refine (HC1.out _ _ _ (EW'.out.trans (And.left ‹Ext wk _ ∧ _›)) k6).mono ?_); rintro e w7 ⟨b7, rfl, hb7, k7, h7⟩)
              | (go_at_call_of 156 (Value.int .i64 i); (with_reducible refine (l2Basis_spec D i _ hD hlt).mono ?_); rintro e w8 ⟨b8, rfl, k8, h8⟩)
              | (go_at_call_of 165 (Value.int .i64 j); (with_reducible refine (HR2.out _).mono ?_); rintro e w9 ⟨rfl, h9⟩)
              | (go_at_call 181; (with_reducible refine (HC2.out _ _ _ (EW'.out.trans (And.left ‹Ext wk _ ∧ _›)) (k8.ext h9)).mono ?_); rintro e w10 ⟨b10, rfl, hb10, k10, h10⟩)
              | (go_at_call 201; (with_reducible refine (HP1.out _ _ _ (((k7.ext h8).ext h9).ext h10) k10).mono ?_); rintro e w11 ⟨b11, rfl, k11, h11⟩))
            have EK2 := Lib.hid (And.left ‹Ext wk w11 ∧ _›)
            have K11 := Lib.hid k11
            have K42 := Lib.hid (K4.out.ext EK2.out)
            have E92 := Lib.hid (hE'.out.trans EK2.out)
            clear lba ba0 ba1 ba2 lbm bm0 bm1 bm2 bm3 h5 h6 h7 h8 h9 h10 h11 k6 k7 k8 k10 k11 hb7 hb10 hE' EW' EW EK K4
            go_wp2_with fail
            refine (HS1.out _ _ _ K42.out K11.out).mono ?_
            rintro e w12 ⟨rfl, h12⟩
            have E9 := Lib.hid (E92.out.trans h12)
            clear h12 E92
          · have HN9 : Hid (¬ DerS1 P D l fs i j) := fun h => by have := HH.out.2 h; simp at this
            have HF : Hid (q = false) := HQ1.out i j hlt hlt2 HN9.out
            have E8 := Lib.hid (E_3.out.trans E9.out)
            go_wp2
            go_ret
            exact ⟨ret_bool HF.out.symm, E8.out⟩
          · have HG9 : Hid (∀ j', j' < j + 1 → DerS1 P D l fs i j') := fun j' hj' => by
              by_cases e : j' = j
              · subst e; exact HH.out.1 (by first | rfl | trivial)
              · exact hG.out j' (by omega)
            clear hG hE
            go_wp2
            exact ⟨⟨j + 1, by omega, by simp, E9, HG9⟩, by simp [intOf]; omega⟩
        · obtain rfl : i = j := by omega
          have HF9 : Hid (∀ i', i' < i + 1 → ∀ j, j < i' → DerS1 P D l fs i' j) := fun i' hi' k9 hk9 => by
            by_cases e : i' = i
            · subst e; exact hG.out k9 hk9
            · exact hF.out i' (by omega) k9 hk9
          clear hF hG
          go_wp2
          exact ⟨⟨i + 1, by omega, by simp, hE, HF9⟩, by simp [intOf]; omega⟩
    · obtain rfl : D = i := by omega
      have HF : Hid (q = true) := HQ2.out hF.out
      have E8 := Lib.hid (E_3.out.trans hE.out)
      go_wp2
      go_ret
      exact ⟨ret_bool HF.out.symm, E8.out⟩

set_option maxRecDepth 100000 in
set_option maxHeartbeats 6400000 in
theorem isDerivation_spec {P D : Int} {a0 oa n : Nat} {l : List Int} {P1 R1 C1 : Int} {f0 fo nf : Nat} {fs : List Int} {w : World} {i : Bool} (hT : Reads w (some ⟨a0, oa, none⟩) n l) (hm0 : n ≤ 1048576) (hX : Reads w (some ⟨f0, fo, none⟩) nf fs) (hm1 : nf ≤ 1048576) (hM : derF P D l P1 R1 C1 fs = i) :
    Calls Try.prog 71 #[.agg #[.int .i64 P, .int .i64 D, .slice (some ⟨a0, oa, none⟩) n n], .agg #[.int .i64 P1, .int .i64 R1, .int .i64 C1, .slice (some ⟨f0, fo, none⟩) nf nf]] w fun e w' => e = .returned (.bool i) ∧ Ext w w' := by
  subst hM
  have HT := Lib.hid hT
  have HX := Lib.hid hX
  have hmx : nf ≤ maxLen := by unfold maxLen; omega
  have HA : Hid (derF P D l P1 R1 C1 fs = ((algB P D l && formB P D P1 R1 C1 fs) && derB P D.toNat l fs)) := by rw [Hid, Bool.and_assoc]; rfl
  generalize derF P D l P1 R1 C1 fs = q at HA
  rcases h0 : algB P D l && formB P D P1 R1 C1 fs with _ | _
  · have HF : Hid (q = false) := by rw [Hid, HA.out, h0]; rfl
    have H0 := Lib.hid h0
    clear h0 hT hX HA
    go_enter Try.func71, Try.ntmps71
    have A0_1 := Lib.hid ((cells_new' w #[.int .i64 P, .int .i64 D, .slice (some ⟨a0, oa, none⟩) n n] 28 (w.heap.size) (by simp)).ext ((Ext.refl _).alloc (.cells #[.int .i64 P1, .int .i64 R1, .int .i64 C1, .slice (some ⟨f0, fo, none⟩) nf nf] 40)))
    have A1_2 := Lib.hid (cells_new' (w.alloc (.cells #[.int .i64 P, .int .i64 D, .slice (some ⟨a0, oa, none⟩) n n] 28)) #[.int .i64 P1, .int .i64 R1, .int .i64 C1, .slice (some ⟨f0, fo, none⟩) nf nf] 40 (w.heap.size + 1) (by simp))
    have E_3 := Lib.hid (((Ext.refl w).alloc (.cells #[.int .i64 P, .int .i64 D, .slice (some ⟨a0, oa, none⟩) n n] 28)).alloc (.cells #[.int .i64 P1, .int .i64 R1, .int .i64 C1, .slice (some ⟨f0, fo, none⟩) nf nf] 40))
    have lA0 := A0_1.out.1
    have qA00 := A0_1.out.2 0 _ rfl
    have qA01 := A0_1.out.2 1 _ rfl
    have qA02 := A0_1.out.2 2 _ rfl
    have lA1 := A1_2.out.1
    have qA10 := A1_2.out.2 0 _ rfl
    have qA11 := A1_2.out.2 1 _ rfl
    have qA12 := A1_2.out.2 2 _ rfl
    have qA13 := A1_2.out.2 3 _ rfl
    try simp only [World.size_alloc] at lA0 lA1
    go_wp2_with fail
    refine (l3Form_spec _ _ _ _ _ a0 oa n f0 fo nf l fs _ (HT.out.ext E_3.out) hm0 (HX.out.ext E_3.out) hmx).mono ?_
    rintro e w_4 ⟨rfl, h_4⟩
    clear lA0 qA00 qA01 qA02 lA1 qA10 qA11 qA12 qA13
    have A0_5 := Lib.hid (A0_1.out.ext h_4)
    clear A0_1
    have A1_6 := Lib.hid (A1_2.out.ext h_4)
    clear A1_2
    have E_7 := Lib.hid (E_3.out.trans h_4)
    clear E_3
    rw [H0.out]
    have lA0 := A0_5.out.1
    have qA00 := A0_5.out.2 0 _ rfl
    have qA01 := A0_5.out.2 1 _ rfl
    have qA02 := A0_5.out.2 2 _ rfl
    have lA1 := A1_6.out.1
    have qA10 := A1_6.out.2 0 _ rfl
    have qA11 := A1_6.out.2 1 _ rfl
    have qA12 := A1_6.out.2 2 _ rfl
    have qA13 := A1_6.out.2 3 _ rfl
    try simp only [World.size_alloc] at lA0 lA1
    go_wp2
    go_ret
    exact ⟨ret_bool HF.out.symm, E_7.out⟩
  have H0 := Lib.hid h0
  have HA2 : Hid (q = derB P D.toNat l fs) := by rw [Hid, HA.out, h0]; rfl
  clear HA
  obtain ⟨h1, h2⟩ := (Bool.and_eq_true _ _).mp h0
  obtain ⟨D, rfl, hA⟩ := algB_parts h1 hT.1
  obtain ⟨rfl, rfl, rfl, hnf, hres⟩ := formB_parts h2 hX.1
  rw [Int.toNat_natCast] at HA2
  have hp := isP_lo hA.pr
  have hp2 := isP_hi hA.pr
  have hD := hA.dim
  have h27 : D * D ≤ 784 := Nat.mul_le_mul hD hD
  have h28 := cube28 hD
  have HDR : Hid (∀ w1, Ext w w1 → Calls Try.prog 148 #[.agg #[.int .i64 P1, .int .i64 D, .slice (some ⟨a0, oa, none⟩) n n], .agg #[.int .i64 P1, .int .i64 D, .int .i64 D, .slice (some ⟨f0, fo, none⟩) nf nf]] w1 fun e w' => e = .returned (.bool (derB P1 D l fs)) ∧ Ext w1 w') := fun w1 h => l3Derives_spec P1 D a0 oa n f0 fo nf l fs w1 (hT.ext h) (hX.ext h) hA hnf hres
  clear hT hX hA hres h0 h1 h2 hnf
  go_enter Try.func71, Try.ntmps71
  have A0_1 := Lib.hid ((cells_new' w #[.int .i64 P1, .int .i64 D, .slice (some ⟨a0, oa, none⟩) n n] 28 (w.heap.size) (by simp)).ext ((Ext.refl _).alloc (.cells #[.int .i64 P1, .int .i64 D, .int .i64 D, .slice (some ⟨f0, fo, none⟩) nf nf] 40)))
  have A1_2 := Lib.hid (cells_new' (w.alloc (.cells #[.int .i64 P1, .int .i64 D, .slice (some ⟨a0, oa, none⟩) n n] 28)) #[.int .i64 P1, .int .i64 D, .int .i64 D, .slice (some ⟨f0, fo, none⟩) nf nf] 40 (w.heap.size + 1) (by simp))
  have E_3 := Lib.hid (((Ext.refl w).alloc (.cells #[.int .i64 P1, .int .i64 D, .slice (some ⟨a0, oa, none⟩) n n] 28)).alloc (.cells #[.int .i64 P1, .int .i64 D, .int .i64 D, .slice (some ⟨f0, fo, none⟩) nf nf] 40))
  have lA0 := A0_1.out.1
  have qA00 := A0_1.out.2 0 _ rfl
  have qA01 := A0_1.out.2 1 _ rfl
  have qA02 := A0_1.out.2 2 _ rfl
  have lA1 := A1_2.out.1
  have qA10 := A1_2.out.2 0 _ rfl
  have qA11 := A1_2.out.2 1 _ rfl
  have qA12 := A1_2.out.2 2 _ rfl
  have qA13 := A1_2.out.2 3 _ rfl
  try simp only [World.size_alloc] at lA0 lA1
  go_wp2_with fail
  refine (l3Form_spec _ _ _ _ _ a0 oa n f0 fo nf l fs _ (HT.out.ext E_3.out) hm0 (HX.out.ext E_3.out) hmx).mono ?_
  rintro e w_4 ⟨rfl, h_4⟩
  clear lA0 qA00 qA01 qA02 lA1 qA10 qA11 qA12 qA13
  have A0_5 := Lib.hid (A0_1.out.ext h_4)
  clear A0_1
  have A1_6 := Lib.hid (A1_2.out.ext h_4)
  clear A1_2
  have E_7 := Lib.hid (E_3.out.trans h_4)
  clear E_3
  rw [H0.out]
  have lA0 := A0_5.out.1
  have qA00 := A0_5.out.2 0 _ rfl
  have qA01 := A0_5.out.2 1 _ rfl
  have qA02 := A0_5.out.2 2 _ rfl
  have lA1 := A1_6.out.1
  have qA10 := A1_6.out.2 0 _ rfl
  have qA11 := A1_6.out.2 1 _ rfl
  have qA12 := A1_6.out.2 2 _ rfl
  have qA13 := A1_6.out.2 3 _ rfl
  try simp only [World.size_alloc] at lA0 lA1
  go_wp2_with fail
  clear lA0 qA00 qA01 qA02 lA1 qA10 qA11 qA12 qA13
  refine (HDR.out _ E_7.out).mono ?_
  rintro e w9 ⟨rfl, h9⟩
  have E9 := Lib.hid (E_7.out.trans h9)
  clear h9
  go_wp2
  go_ret
  exact ⟨ret_bool HA2.out.symm, E9.out⟩
end Go.Proofs.Ytapaopapgnfdkaa
