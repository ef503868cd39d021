/-
  Alternating forms and cocycles: the program's text.
-/
import Derived.Test.YtapaopapgnfdkaaFrmT
import Derived.Test.YtapaopapgnfdkaaCs
namespace Go.Proofs.Ytapaopapgnfdkaa
open Go.ChangeShapes Go.WideShapes Go.ChangeAt Go.RowKit
set_option linter.unusedVariables false
set_option linter.unusedSimpArgs false

theorem reads_cellc {w : World} {b o n : Nat} {xs : List Int} (h : Reads w (some ⟨b, o, none⟩) n xs) {k : Nat} (hk : k < n) : w.cell? ⟨b, o + k, none⟩ = some (.int .i64 (gi xs k)) ∧ b < w.heap.size := by
  rcases h.2 with h | ⟨b', off, e, hb, hc⟩
  · omega
  · simp at e
    obtain ⟨rfl, rfl⟩ := e
    exact ⟨hc k hk, hb⟩
theorem eqm_iff {P a : Int} : a % P = 0 ↔ Eqm P a 0 := by
  constructor
  · intro h; exact ⟨a / P, by rw [Int.zero_add]; exact (Int.mul_ediv_cancel' (Int.dvd_of_emod_eq_zero h)).symm⟩
  · rintro ⟨t, ht⟩; rw [ht, Int.zero_add]; exact Int.mul_emod_right P t
open Classical in
noncomputable def aifB (P : Int) (D : Nat) (fs : List Int) : Bool := decide (AltF P D fs)
section
variable {P : Int} {D : Nat} {l fs : List Int}
theorem aifB_iff : aifB P D fs = true ↔ AltF P D fs := by simp only [aifB, decide_eq_true_eq]
theorem aifB_no {i : Nat} (hi : i < D) (h : ¬ gi fs (i * D + i) = 0) : aifB P D fs = false := by
  rw [← Bool.not_eq_true, aifB_iff]; exact fun h2 => h (h2.1 i hi)
theorem oppP_iff : OppP P (D * D) fs (transTo fs D D D) ↔ ∀ i, i < D → ∀ j, j < D → Eqm P (at2 D fs i j + at2 D fs j i) 0 := by
  unfold OppP
  rw [forall_place (p := fun k => (gi fs k + gi (transTo fs D D D) k) % P = 0)]
  refine forall_congr' fun i => forall_congr' fun hi => forall_congr' fun j => forall_congr' fun hj => ?_
  rw [gi_transTo D (Nat.le_refl _) i j hi hj, if_pos hj, eqm_iff]
  rfl
theorem aifB_opp (h : ∀ i, i < D → gi fs (i * D + i) = 0) : aifB P D fs = oppB P (D * D) fs (transTo fs D D D) := by
  rcases Classical.em (OppP P (D * D) fs (transTo fs D D D)) with hA | hA
  · rw [oppB_true hA, aifB_iff]; exact ⟨h, oppP_iff.1 hA⟩
  · rw [oppB_false hA, ← Bool.not_eq_true, aifB_iff]; exact fun h2 => hA (oppP_iff.2 h2.2)
theorem cycB_no (h : aifB P D fs = false) : cycB P D l fs = false := by
  rw [← Bool.not_eq_true, cycB_iff, ← aifB_iff, h]; simp
theorem cycB_yes (h : aifB P D fs = true) : decide (fzR (tripL P D fun i j k => gi (rdX P D l fs) ((i * D + j) * D + k) + gi (rdX P D l fs) ((j * D + k) * D + i) + gi (rdX P D l fs) ((k * D + i) * D + j)) < 0) = cycB P D l fs := by
  rw [Bool.eq_iff_iff, decide_eq_true_eq, cyc_trip, cycB_iff]
  exact ⟨fun h2 => ⟨aifB_iff.1 h, h2⟩, fun h2 => h2.2⟩
end

set_option maxRecDepth 100000 in
set_option maxHeartbeats 3200000 in
theorem isAlternating_impl (P : Int) (D f0 fo nf : Nat) (fs : List Int) (w : World) (hX : Reads w (some ⟨f0, fo, none⟩) nf fs) (hD : D ≤ 28) (hnf : nf = D * D) (hp : 2 ≤ P) (hp2 : P ≤ 10007) (hx : Res fs P) :
    Calls Try.prog 157 #[.agg #[.int .i64 P, .int .i64 D, .int .i64 D, .slice (some ⟨f0, fo, none⟩) nf nf]] w fun e w' => e = .returned (.bool (aifB P D fs)) ∧ Ext w w' := by
  have h27 : D * D ≤ 784 := Nat.mul_le_mul hD hD
  obtain ⟨q, hq⟩ : ∃ q, aifB P D fs = q := ⟨_, rfl⟩
  have HQ1 : Hid (∀ i, i < D → ¬ gi fs (i * D + i) = 0 → q = false) := fun i hi h => by rw [← hq]; exact aifB_no hi h
  have HQ2 : Hid ((∀ i, i < D → gi fs (i * D + i) = 0) → oppB P (D * D) fs (transTo fs D D D) = q) := fun h => by rw [← hq]; exact (aifB_opp h).symm
  rw [hq]
  clear hq
  have HX := Lib.hid hX
  have HNF := Lib.hid hnf
  have HRW : Hid (∀ i, i < D → ∀ w1, Calls Try.prog 78 #[.agg #[.int .i64 P, .int .i64 D, .int .i64 D, .slice (some ⟨f0, fo, none⟩) nf nf], .int .i64 i] w1 fun e w' => e = .returned (.slice (some ⟨f0, fo + i * D, none⟩) D (nf - i * D)) ∧ Ext w1 w') := fun i hi w1 => by
    have h1 : (i + 1) * D ≤ nf := by rw [hnf]; exact Nat.mul_le_mul_right D hi
    exact rowOf_impl P D D i f0 fo nf w1 h1 (by omega) (by omega)
  have HTR : Hid (∀ w1, Ext w w1 → Calls Try.prog 111 #[.agg #[.int .i64 P, .int .i64 D, .int .i64 D, .slice (some ⟨f0, fo, none⟩) nf nf]] w1 fun e w' => ∃ b, e = .returned (.agg #[.int .i64 P, .int .i64 D, .int .i64 D, .slice (some ⟨b, 0, none⟩) nf nf]) ∧ Has w' b (transTo fs D D D) ∧ Ext w1 w') := fun w1 h => by
    have h9 := transpose_impl P D D f0 fo nf nf fs w1 (hX.ext h) hnf (by omega) (by omega) (by omega) (Nat.le_refl _) (by unfold maxLen; omega)
    rw [← hnf] at h9
    refine h9.mono ?_
    rintro e w' ⟨b, rfl, h1, h2, h3, h4⟩
    exact ⟨b, rfl, h3, h4⟩
  have HOP : Hid (∀ w1 b, Ext w w1 → Has w1 b (transTo fs D D D) → Calls Try.prog 205 #[.slice (some ⟨f0, fo, none⟩) nf nf, .slice (some ⟨b, 0, none⟩) nf nf, .int .i64 P] w1 fun e w' => e = .returned (.bool (oppB P (D * D) fs (transTo fs D D D))) ∧ Ext w1 w') := fun w1 b h hb => by
    have h9 := opposite_impl P (some ⟨f0, fo, none⟩) (some ⟨b, 0, none⟩) nf nf nf fs (transTo fs D D D) w1 (hX.ext h) (hb.reads (by rw [transTo_length, hnf])) (by omega) hp hp2 hx (transTo_res hp hx D)
    rw [hnf] at h9 ⊢
    exact h9
  generalize oppB P (D * D) fs (transTo fs D D D) = ob at *
  clear hX hx hnf
  go_enter Try.func157, Try.ntmps157
  have A0_1 := Lib.hid (cells_new' w #[.int .i64 P, .int .i64 D, .int .i64 D, .slice (some ⟨f0, fo, none⟩) nf nf] 40 (w.heap.size) (by simp))
  have E_2 := Lib.hid ((Ext.refl w).alloc (.cells #[.int .i64 P, .int .i64 D, .int .i64 D, .slice (some ⟨f0, fo, none⟩) nf nf] 40))
  have lA0 := A0_1.out.1
  have qA00 := A0_1.out.2 0 _ rfl
  have qA01 := A0_1.out.2 1 _ rfl
  have qA02 := A0_1.out.2 2 _ rfl
  have qA03 := A0_1.out.2 3 _ rfl
  try simp only [World.size_alloc] at lA0
  go_wp2_with fail
  clear lA0 qA00 qA01 qA02 qA03
  go_loopw [6, 3] (fun z _ wr => ∃ i : Nat, i ≤ D ∧ z = .int .i64 i ∧ Hid (Ext (w.alloc (.cells #[.int .i64 P, .int .i64 D, .int .i64 D, .slice (some ⟨f0, fo, none⟩) nf nf] 40)) wr) ∧ Hid (∀ j, j < i → gi fs (j * D + j) = 0)) (fun z _ _ => D - (intOf z).toNat)
  case atStart => exact ⟨0, by omega, rfl, Ext.refl _, fun j hj => by omega⟩
  case round =>
    obtain ⟨i, hi, rfl, hE, hF⟩ := hrel
    have CA := A0_1.out.ext hE.out
    have lA := CA.1
    have q0 := CA.2 0 _ rfl
    have q1 := CA.2 1 _ rfl
    have q2 := CA.2 2 _ rfl
    have q3 := CA.2 3 _ rfl
    clear CA
    have EW := Lib.hid (E_2.out.trans hE.out)
    by_cases hlt : i < D
    · by_cases hz : gi fs (i * D + i) = 0
      · have HF9 : Hid (∀ j, j < i + 1 → gi fs (j * D + j) = 0) := fun j hj => by
          by_cases e : j = i
          · subst e; exact hz
          · exact hF.out j (by omega)
        go_wp2_with fail
        refine (HRW.out i hlt _).mono ?_
        rintro e w2 ⟨rfl, h2⟩
        have hc := reads_cellc (HX.out.ext (EW.out.trans h2)) (show i * D + i < nf by rw [HNF.out]; exact place_lt hlt hlt)
        rw [hz, ← Nat.add_assoc] at hc
        obtain ⟨hc1, hc2⟩ := hc
        have E9 := Lib.hid (hE.out.trans h2)
        clear h2 hE EW q0 q1 q2 q3 lA
        go_wp2
        exact ⟨⟨i + 1, by omega, by simp, E9, HF9⟩, by simp [intOf]; omega⟩
      · have HF : Hid (q = false) := HQ1.out i hlt hz
        go_wp2_with fail
        refine (HRW.out i hlt _).mono ?_
        rintro e w2 ⟨rfl, h2⟩
        have hc := reads_cellc (HX.out.ext (EW.out.trans h2)) (show i * D + i < nf by rw [HNF.out]; exact place_lt hlt hlt)
        rw [← Nat.add_assoc] at hc
        obtain ⟨hc1, hc2⟩ := hc
        have E9 := Lib.hid (EW.out.trans h2)
        generalize gi fs (i * D + i) = z at *
        clear h2 hE EW q0 q1 q2 q3 lA
        go_wp2
        go_ret
        exact ⟨ret_bool HF.out.symm, E9.out⟩
    · obtain rfl : D = i := by omega
      have HF : Hid (ob = q) := HQ2.out hF.out
      have hfd := run_fieldM
      go_wp2_with fail
      go_region_held3 (fun w' => Ext wr w' ∧ (∀ b o, b < wr.heap.size → w'.cell? ⟨b, o, none⟩ = wr.cell? ⟨b, o, none⟩)) (first | assumption | (with_reducible exact ext2 (Ext.trans (And.left ‹Ext wr _ ∧ _›) ‹Ext _ _›)) | (refine ext2 ?_; with_reducible repeat (first | exact Ext.refl _ | exact And.left ‹Ext wr _ ∧ _› | refine Ext.drew ?_ | refine Ext.drewN ?_ _))) (first
        | (go_at_call 111; (with_reducible refine (HTR.out _ (EW.out.trans (And.left ‹Ext wr _ ∧ _›))).mono ?_); rintro e w3 ⟨b, rfl, kb, h3⟩)
        | (go_at_call 205; (with_reducible refine (HOP.out _ _ (EW.out.trans (And.left ‹Ext wr _ ∧ _›)) kb).mono ?_); rintro e w4 ⟨rfl, h4⟩))
      all_goals
        have E9 := Lib.hid (EW.out.trans (And.left ‹Ext wr w4 ∧ _›))
        go_wp2
        go_ret
        exact ⟨ret_bool HF.out, E9.out⟩

set_option maxRecDepth 100000 in
set_option maxHeartbeats 3200000 in
theorem isCocycle_impl {P D : Int} {a0 oa n : Nat} {l : List Int} {P1 R1 C1 : Int} {f0 fo nf : Nat} {fs : List Int} {w : World} {i : Bool} (hT : Reads w (some ⟨a0, oa, none⟩) n l) (hm0 : n ≤ 1048576) (hX : Reads w (some ⟨f0, fo, none⟩) nf fs) (hm1 : nf ≤ 1048576) (hM : cycF P D l P1 R1 C1 fs = i) :
    Calls Try.prog 80 #[.agg #[.int .i64 P, .int .i64 D, .slice (some ⟨a0, oa, none⟩) n n], .agg #[.int .i64 P1, .int .i64 R1, .int .i64 C1, .slice (some ⟨f0, fo, none⟩) nf nf]] w fun e w' => e = .returned (.bool i) ∧ Ext w w' := by
  subst hM
  have HT := Lib.hid hT
  have HX := Lib.hid hX
  have hmx : nf ≤ maxLen := by unfold maxLen; omega
  have HA : Hid (cycF P D l P1 R1 C1 fs = (algB P D l && (formB P D P1 R1 C1 fs && cycB P D.toNat l fs))) := rfl
  generalize cycF P D l P1 R1 C1 fs = q at HA
  rcases h0 : algB P D l with _ | _
  · have HF : Hid (q = false) := by rw [Hid, HA.out, h0]; rfl
    have H0 := Lib.hid h0
    clear h0 hT hX HA
    go_enter Try.func80, Try.ntmps80
    have A0_1 := Lib.hid ((cells_new' w #[.int .i64 P, .int .i64 D, .slice (some ⟨a0, oa, none⟩) n n] 28 (w.heap.size) (by simp)).ext ((Ext.refl _).alloc (.cells #[.int .i64 P1, .int .i64 R1, .int .i64 C1, .slice (some ⟨f0, fo, none⟩) nf nf] 40)))
    have A1_2 := Lib.hid (cells_new' (w.alloc (.cells #[.int .i64 P, .int .i64 D, .slice (some ⟨a0, oa, none⟩) n n] 28)) #[.int .i64 P1, .int .i64 R1, .int .i64 C1, .slice (some ⟨f0, fo, none⟩) nf nf] 40 (w.heap.size + 1) (by simp))
    have E_3 := Lib.hid (((Ext.refl w).alloc (.cells #[.int .i64 P, .int .i64 D, .slice (some ⟨a0, oa, none⟩) n n] 28)).alloc (.cells #[.int .i64 P1, .int .i64 R1, .int .i64 C1, .slice (some ⟨f0, fo, none⟩) nf nf] 40))
    have lA0 := A0_1.out.1
    have qA00 := A0_1.out.2 0 _ rfl
    have qA01 := A0_1.out.2 1 _ rfl
    have qA02 := A0_1.out.2 2 _ rfl
    have lA1 := A1_2.out.1
    have qA10 := A1_2.out.2 0 _ rfl
    have qA11 := A1_2.out.2 1 _ rfl
    have qA12 := A1_2.out.2 2 _ rfl
    have qA13 := A1_2.out.2 3 _ rfl
    try simp only [World.size_alloc] at lA0 lA1
    go_wp2_with fail
    refine (wrap_impl P _ a0 oa n n l _ (HT.out.ext E_3.out) hm0 (Nat.le_refl _) (by unfold maxLen; omega)).mono ?_
    rintro e w_4 ⟨B, rfl, hb, hlo, h_4⟩
    clear lA0 qA00 qA01 qA02 lA1 qA10 qA11 qA12 qA13
    have A0_5 := Lib.hid (A0_1.out.ext h_4)
    clear A0_1
    have A1_6 := Lib.hid (A1_2.out.ext h_4)
    clear A1_2
    have E_7 := Lib.hid (E_3.out.trans h_4)
    clear E_3
    have B_8 := Lib.hid hb
    clear hb hlo
    rw [H0.out]
    have lA0 := A0_5.out.1
    have qA00 := A0_5.out.2 0 _ rfl
    have qA01 := A0_5.out.2 1 _ rfl
    have qA02 := A0_5.out.2 2 _ rfl
    have lA1 := A1_6.out.1
    have qA10 := A1_6.out.2 0 _ rfl
    have qA11 := A1_6.out.2 1 _ rfl
    have qA12 := A1_6.out.2 2 _ rfl
    have qA13 := A1_6.out.2 3 _ rfl
    try simp only [World.size_alloc] at lA0 lA1
    go_wp2
    go_ret
    exact ⟨ret_bool HF.out.symm, E_7.out⟩
  have H0 := Lib.hid h0
  rcases h1 : formB P D P1 R1 C1 fs with _ | _
  · have HF : Hid (q = false) := by rw [Hid, HA.out, h0, h1]; rfl
    have H1 := Lib.hid h1
    clear h0 h1 hT hX HA
    go_enter Try.func80, Try.ntmps80
    have A0_1 := Lib.hid ((cells_new' w #[.int .i64 P, .int .i64 D, .slice (some ⟨a0, oa, none⟩) n n] 28 (w.heap.size) (by simp)).ext ((Ext.refl _).alloc (.cells #[.int .i64 P1, .int .i64 R1, .int .i64 C1, .slice (some ⟨f0, fo, none⟩) nf nf] 40)))
    have A1_2 := Lib.hid (cells_new' (w.alloc (.cells #[.int .i64 P, .int .i64 D, .slice (some ⟨a0, oa, none⟩) n n] 28)) #[.int .i64 P1, .int .i64 R1, .int .i64 C1, .slice (some ⟨f0, fo, none⟩) nf nf] 40 (w.heap.size + 1) (by simp))
    have E_3 := Lib.hid (((Ext.refl w).alloc (.cells #[.int .i64 P, .int .i64 D, .slice (some ⟨a0, oa, none⟩) n n] 28)).alloc (.cells #[.int .i64 P1, .int .i64 R1, .int .i64 C1, .slice (some ⟨f0, fo, none⟩) nf nf] 40))
    have lA0 := A0_1.out.1
    have qA00 := A0_1.out.2 0 _ rfl
    have qA01 := A0_1.out.2 1 _ rfl
    have qA02 := A0_1.out.2 2 _ rfl
    have lA1 := A1_2.out.1
    have qA10 := A1_2.out.2 0 _ rfl
    have qA11 := A1_2.out.2 1 _ rfl
    have qA12 := A1_2.out.2 2 _ rfl
    have qA13 := A1_2.out.2 3 _ rfl
    try simp only [World.size_alloc] at lA0 lA1
    go_wp2_with fail
    refine (wrap_impl P _ a0 oa n n l _ (HT.out.ext E_3.out) hm0 (Nat.le_refl _) (by unfold maxLen; omega)).mono ?_
    rintro e w_4 ⟨B, rfl, hb, hlo, h_4⟩
    clear lA0 qA00 qA01 qA02 lA1 qA10 qA11 qA12 qA13
    have A0_5 := Lib.hid (A0_1.out.ext h_4)
    clear A0_1
    have A1_6 := Lib.hid (A1_2.out.ext h_4)
    clear A1_2
    have E_7 := Lib.hid (E_3.out.trans h_4)
    clear E_3
    have B_8 := Lib.hid hb
    clear hb hlo
    rw [H0.out]
    have lA0 := A0_5.out.1
    have qA00 := A0_5.out.2 0 _ rfl
    have qA01 := A0_5.out.2 1 _ rfl
    have qA02 := A0_5.out.2 2 _ rfl
    have lA1 := A1_6.out.1
    have qA10 := A1_6.out.2 0 _ rfl
    have qA11 := A1_6.out.2 1 _ rfl
    have qA12 := A1_6.out.2 2 _ rfl
    have qA13 := A1_6.out.2 3 _ rfl
    try simp only [World.size_alloc] at lA0 lA1
    go_wp2_with fail
    refine (hasSquare_impl _ _ _ _ _ B f0 fo nf _ fs _ B_8.out (HX.out.ext E_7.out) hmx).mono ?_
    rintro e w_9 ⟨rfl, h_9⟩
    clear lA0 qA00 qA01 qA02 lA1 qA10 qA11 qA12 qA13
    have A0_10 := Lib.hid (A0_5.out.ext h_9)
    clear A0_5
    have A1_11 := Lib.hid (A1_6.out.ext h_9)
    clear A1_6
    have B_12 := Lib.hid (B_8.out.ext h_9)
    clear B_8
    have E_13 := Lib.hid (E_7.out.trans h_9)
    clear E_7
    rw [H1.out]
    have lA0 := A0_10.out.1
    have qA00 := A0_10.out.2 0 _ rfl
    have qA01 := A0_10.out.2 1 _ rfl
    have qA02 := A0_10.out.2 2 _ rfl
    have lA1 := A1_11.out.1
    have qA10 := A1_11.out.2 0 _ rfl
    have qA11 := A1_11.out.2 1 _ rfl
    have qA12 := A1_11.out.2 2 _ rfl
    have qA13 := A1_11.out.2 3 _ rfl
    try simp only [World.size_alloc] at lA0 lA1
    go_wp2
    go_ret
    exact ⟨ret_bool HF.out.symm, E_13.out⟩
  have H1 := Lib.hid h1
  have HA2 : Hid (q = cycB P D.toNat l fs) := by rw [Hid, HA.out, h0, h1]; rfl
  clear HA
  obtain ⟨D, rfl, hA⟩ := algB_parts h0 hT.1
  obtain ⟨rfl, rfl, rfl, hnf, hres⟩ := formB_parts h1 hX.1
  rw [Int.toNat_natCast] at HA2
  have hp := isP_lo hA.pr
  have hp2 := isP_hi hA.pr
  have hD := hA.dim
  have HAQ : Hid (∀ w1, Ext w w1 → Calls Try.prog 157 #[.agg #[.int .i64 P1, .int .i64 D, .int .i64 D, .slice (some ⟨f0, fo, none⟩) nf nf]] w1 fun e w' => e = .returned (.bool (aifB P1 D fs)) ∧ Ext w1 w') := fun w1 h => isAlternating_impl P1 D f0 fo nf fs w1 (hX.ext h) hD hnf hp hp2 hres
  rcases h2 : aifB P1 D fs with _ | _
  · have H2 := Lib.hid h2
    have HF : Hid (q = false) := HA2.out.trans (cycB_no h2)
    clear h0 h1 hT hX HA2 h2 hA hres hnf
    go_enter Try.func80, Try.ntmps80
    have A0_1 := Lib.hid ((cells_new' w #[.int .i64 P1, .int .i64 D, .slice (some ⟨a0, oa, none⟩) n n] 28 (w.heap.size) (by simp)).ext ((Ext.refl _).alloc (.cells #[.int .i64 P1, .int .i64 D, .int .i64 D, .slice (some ⟨f0, fo, none⟩) nf nf] 40)))
    have A1_2 := Lib.hid (cells_new' (w.alloc (.cells #[.int .i64 P1, .int .i64 D, .slice (some ⟨a0, oa, none⟩) n n] 28)) #[.int .i64 P1, .int .i64 D, .int .i64 D, .slice (some ⟨f0, fo, none⟩) nf nf] 40 (w.heap.size + 1) (by simp))
    have E_3 := Lib.hid (((Ext.refl w).alloc (.cells #[.int .i64 P1, .int .i64 D, .slice (some ⟨a0, oa, none⟩) n n] 28)).alloc (.cells #[.int .i64 P1, .int .i64 D, .int .i64 D, .slice (some ⟨f0, fo, none⟩) nf nf] 40))
    have lA0 := A0_1.out.1
    have qA00 := A0_1.out.2 0 _ rfl
    have qA01 := A0_1.out.2 1 _ rfl
    have qA02 := A0_1.out.2 2 _ rfl
    have lA1 := A1_2.out.1
    have qA10 := A1_2.out.2 0 _ rfl
    have qA11 := A1_2.out.2 1 _ rfl
    have qA12 := A1_2.out.2 2 _ rfl
    have qA13 := A1_2.out.2 3 _ rfl
    try simp only [World.size_alloc] at lA0 lA1
    go_wp2_with fail
    refine (wrap_impl P1 _ a0 oa n n l _ (HT.out.ext E_3.out) hm0 (Nat.le_refl _) (by unfold maxLen; omega)).mono ?_
    rintro e w_4 ⟨B, rfl, hb, hlo, h_4⟩
    clear lA0 qA00 qA01 qA02 lA1 qA10 qA11 qA12 qA13
    have A0_5 := Lib.hid (A0_1.out.ext h_4)
    clear A0_1
    have A1_6 := Lib.hid (A1_2.out.ext h_4)
    clear A1_2
    have E_7 := Lib.hid (E_3.out.trans h_4)
    clear E_3
    have B_8 := Lib.hid hb
    clear hb hlo
    rw [H0.out]
    have lA0 := A0_5.out.1
    have qA00 := A0_5.out.2 0 _ rfl
    have qA01 := A0_5.out.2 1 _ rfl
    have qA02 := A0_5.out.2 2 _ rfl
    have lA1 := A1_6.out.1
    have qA10 := A1_6.out.2 0 _ rfl
    have qA11 := A1_6.out.2 1 _ rfl
    have qA12 := A1_6.out.2 2 _ rfl
    have qA13 := A1_6.out.2 3 _ rfl
    try simp only [World.size_alloc] at lA0 lA1
    go_wp2_with fail
    refine (hasSquare_impl _ _ _ _ _ B f0 fo nf _ fs _ B_8.out (HX.out.ext E_7.out) hmx).mono ?_
    rintro e w_9 ⟨rfl, h_9⟩
    clear lA0 qA00 qA01 qA02 lA1 qA10 qA11 qA12 qA13
    have A0_10 := Lib.hid (A0_5.out.ext h_9)
    clear A0_5
    have A1_11 := Lib.hid (A1_6.out.ext h_9)
    clear A1_6
    have B_12 := Lib.hid (B_8.out.ext h_9)
    clear B_8
    have E_13 := Lib.hid (E_7.out.trans h_9)
    clear E_7
    rw [H1.out]
    have lA0 := A0_10.out.1
    have qA00 := A0_10.out.2 0 _ rfl
    have qA01 := A0_10.out.2 1 _ rfl
    have qA02 := A0_10.out.2 2 _ rfl
    have lA1 := A1_11.out.1
    have qA10 := A1_11.out.2 0 _ rfl
    have qA11 := A1_11.out.2 1 _ rfl
    have qA12 := A1_11.out.2 2 _ rfl
    have qA13 := A1_11.out.2 3 _ rfl
    try simp only [World.size_alloc] at lA0 lA1
    go_wp2_with fail
    refine (HAQ.out _ E_13.out).mono ?_
    rintro e w_14 ⟨rfl, h_14⟩
    clear lA0 qA00 qA01 qA02 lA1 qA10 qA11 qA12 qA13
    have A0_15 := Lib.hid (A0_10.out.ext h_14)
    clear A0_10
    have A1_16 := Lib.hid (A1_11.out.ext h_14)
    clear A1_11
    have B_17 := Lib.hid (B_12.out.ext h_14)
    clear B_12
    have E_18 := Lib.hid (E_13.out.trans h_14)
    clear E_13
    rw [H2.out]
    have lA0 := A0_15.out.1
    have qA00 := A0_15.out.2 0 _ rfl
    have qA01 := A0_15.out.2 1 _ rfl
    have qA02 := A0_15.out.2 2 _ rfl
    have lA1 := A1_16.out.1
    have qA10 := A1_16.out.2 0 _ rfl
    have qA11 := A1_16.out.2 1 _ rfl
    have qA12 := A1_16.out.2 2 _ rfl
    have qA13 := A1_16.out.2 3 _ rfl
    try simp only [World.size_alloc] at lA0 lA1
    go_wp2
    go_ret
    exact ⟨ret_bool HF.out.symm, E_18.out⟩
  have H2 := Lib.hid h2
  have HCQ : Hid (∀ w1, Ext w w1 → ∀ B, Cells w1 B [.int .i64 P1, .int .i64 D, .slice (some ⟨a0, oa, none⟩) n n] → Calls Try.prog 158 #[.pointer (some ⟨B, 0, none⟩), .agg #[.int .i64 P1, .int .i64 D, .int .i64 D, .slice (some ⟨f0, fo, none⟩) nf nf]] w1 fun e w' => e = .returned (.bool q) ∧ Ext w1 w') := fun w1 h B hc => by
    have h9 := isClosed_impl P1 D B a0 oa n f0 fo nf l fs w1 hc (hT.ext h) (hX.ext h) hD hA.len hnf hp hp2 hA.res hres
    rw [cycB_yes h2, ← HA2.out] at h9
    exact h9
  clear h0 h1 hT hX HA2 h2 hA hres hnf
  go_enter Try.func80, Try.ntmps80
  have A0_1 := Lib.hid ((cells_new' w #[.int .i64 P1, .int .i64 D, .slice (some ⟨a0, oa, none⟩) n n] 28 (w.heap.size) (by simp)).ext ((Ext.refl _).alloc (.cells #[.int .i64 P1, .int .i64 D, .int .i64 D, .slice (some ⟨f0, fo, none⟩) nf nf] 40)))
  have A1_2 := Lib.hid (cells_new' (w.alloc (.cells #[.int .i64 P1, .int .i64 D, .slice (some ⟨a0, oa, none⟩) n n] 28)) #[.int .i64 P1, .int .i64 D, .int .i64 D, .slice (some ⟨f0, fo, none⟩) nf nf] 40 (w.heap.size + 1) (by simp))
  have E_3 := Lib.hid (((Ext.refl w).alloc (.cells #[.int .i64 P1, .int .i64 D, .slice (some ⟨a0, oa, none⟩) n n] 28)).alloc (.cells #[.int .i64 P1, .int .i64 D, .int .i64 D, .slice (some ⟨f0, fo, none⟩) nf nf] 40))
  have lA0 := A0_1.out.1
  have qA00 := A0_1.out.2 0 _ rfl
  have qA01 := A0_1.out.2 1 _ rfl
  have qA02 := A0_1.out.2 2 _ rfl
  have lA1 := A1_2.out.1
  have qA10 := A1_2.out.2 0 _ rfl
  have qA11 := A1_2.out.2 1 _ rfl
  have qA12 := A1_2.out.2 2 _ rfl
  have qA13 := A1_2.out.2 3 _ rfl
  try simp only [World.size_alloc] at lA0 lA1
  go_wp2_with fail
  refine (wrap_impl P1 _ a0 oa n n l _ (HT.out.ext E_3.out) hm0 (Nat.le_refl _) (by unfold maxLen; omega)).mono ?_
  rintro e w_4 ⟨B, rfl, hb, hlo, h_4⟩
  clear lA0 qA00 qA01 qA02 lA1 qA10 qA11 qA12 qA13
  have A0_5 := Lib.hid (A0_1.out.ext h_4)
  clear A0_1
  have A1_6 := Lib.hid (A1_2.out.ext h_4)
  clear A1_2
  have E_7 := Lib.hid (E_3.out.trans h_4)
  clear E_3
  have B_8 := Lib.hid hb
  clear hb hlo
  rw [H0.out]
  have lA0 := A0_5.out.1
  have qA00 := A0_5.out.2 0 _ rfl
  have qA01 := A0_5.out.2 1 _ rfl
  have qA02 := A0_5.out.2 2 _ rfl
  have lA1 := A1_6.out.1
  have qA10 := A1_6.out.2 0 _ rfl
  have qA11 := A1_6.out.2 1 _ rfl
  have qA12 := A1_6.out.2 2 _ rfl
  have qA13 := A1_6.out.2 3 _ rfl
  try simp only [World.size_alloc] at lA0 lA1
  go_wp2_with fail
  refine (hasSquare_impl _ _ _ _ _ B f0 fo nf _ fs _ B_8.out (HX.out.ext E_7.out) hmx).mono ?_
  rintro e w_9 ⟨rfl, h_9⟩
  clear lA0 qA00 qA01 qA02 lA1 qA10 qA11 qA12 qA13
  have A0_10 := Lib.hid (A0_5.out.ext h_9)
  clear A0_5
  have A1_11 := Lib.hid (A1_6.out.ext h_9)
  clear A1_6
  have B_12 := Lib.hid (B_8.out.ext h_9)
  clear B_8
  have E_13 := Lib.hid (E_7.out.trans h_9)
  clear E_7
  rw [H1.out]
  have lA0 := A0_10.out.1
  have qA00 := A0_10.out.2 0 _ rfl
  have qA01 := A0_10.out.2 1 _ rfl
  have qA02 := A0_10.out.2 2 _ rfl
  have lA1 := A1_11.out.1
  have qA10 := A1_11.out.2 0 _ rfl
  have qA11 := A1_11.out.2 1 _ rfl
  have qA12 := A1_11.out.2 2 _ rfl
  have qA13 := A1_11.out.2 3 _ rfl
  try simp only [World.size_alloc] at lA0 lA1
  go_wp2_with fail
  refine (HAQ.out _ E_13.out).mono ?_
  rintro e w_14 ⟨rfl, h_14⟩
  clear lA0 qA00 qA01 qA02 lA1 qA10 qA11 qA12 qA13
  have A0_15 := Lib.hid (A0_10.out.ext h_14)
  clear A0_10
  have A1_16 := Lib.hid (A1_11.out.ext h_14)
  clear A1_11
  have B_17 := Lib.hid (B_12.out.ext h_14)
  clear B_12
  have E_18 := Lib.hid (E_13.out.trans h_14)
  clear E_13
  rw [H2.out]
  have lA0 := A0_15.out.1
  have qA00 := A0_15.out.2 0 _ rfl
  have qA01 := A0_15.out.2 1 _ rfl
  have qA02 := A0_15.out.2 2 _ rfl
  have lA1 := A1_16.out.1
  have qA10 := A1_16.out.2 0 _ rfl
  have qA11 := A1_16.out.2 1 _ rfl
  have qA12 := A1_16.out.2 2 _ rfl
  have qA13 := A1_16.out.2 3 _ rfl
  try simp only [World.size_alloc] at lA0 lA1
  go_wp2_with fail
  refine (HCQ.out _ E_18.out _ B_17.out).mono ?_
  rintro e w_19 ⟨rfl, h_19⟩
  clear lA0 qA00 qA01 qA02 lA1 qA10 qA11 qA12 qA13
  have A0_20 := Lib.hid (A0_15.out.ext h_19)
  clear A0_15
  have A1_21 := Lib.hid (A1_16.out.ext h_19)
  clear A1_16
  have B_22 := Lib.hid (B_17.out.ext h_19)
  clear B_17
  have E_23 := Lib.hid (E_18.out.trans h_19)
  clear E_18
  go_wp2
  go_ret
  exact ⟨rfl, E_23.out⟩
end Go.Proofs.Ytapaopapgnfdkaa
