/-
  Alternating forms and cocycles: the specification's text.
-/
import Derived.Test.YtapaopapgnfdkaaCyJ
namespace Go.Proofs.Ytapaopapgnfdkaa
open Go.ChangeShapes Go.WideShapes Go.ChangeAt Go.RowKit
set_option linter.unusedVariables false
set_option linter.unusedSimpArgs false

/-- The value of a form at two lists, as it is summed. -/
def paJ (P : Int) (D : Nat) (fs xs ys : List Int) (i j : Nat) : Int := ((sumN i fun a => sumN D fun b => gi xs a * gi ys b * at2 D fs a b) + sumN j fun b => gi xs i * gi ys b * at2 D fs i b) % P
def paI (P : Int) (D : Nat) (fs xs ys : List Int) (i : Nat) : Int := (sumN i fun a => sumN D fun b => gi xs a * gi ys b * at2 D fs a b) % P
section
variable {P : Int} {D : Nat} {fs xs ys l : List Int}
theorem paJ_zero (i : Nat) : paJ P D fs xs ys i 0 = paI P D fs xs ys i := by simp [paJ, paI, sumN]
theorem paJ_full (i : Nat) : paJ P D fs xs ys i D = paI P D fs xs ys (i + 1) := by simp [paJ, paI, sumN]
theorem paI_zero : paI P D fs xs ys 0 = 0 := by simp [paI, sumN]
theorem paI_skip {i : Nat} (h : gi xs i = 0) : paI P D fs xs ys (i + 1) = paI P D fs xs ys i := by
  rw [paI, paI, sumN, h]
  have : (sumN D fun b => 0 * gi ys b * at2 D fs i b) = 0 := by
    rw [show (fun b => 0 * gi ys b * at2 D fs i b) = fun _ => (0 : Int) from funext fun b => by simp]; exact sumN_zero D
  rw [this, Int.add_zero]
theorem paJ_succ (i j : Nat) : paJ P D fs xs ys i (j + 1) = (paJ P D fs xs ys i j + gi xs i * gi ys j % P * gi fs (i * D + j)) % P := by
  rw [paJ, paJ, sumN, ← Int.add_assoc]
  exact (((Eqm.emod _).add ((Eqm.emod _).mul (Eqm.refl _))).symm).to_emod
theorem paJ_bd (hp : 2 ≤ P) (i j : Nat) : 0 ≤ paJ P D fs xs ys i j ∧ paJ P D fs xs ys i j < P := ⟨Int.emod_nonneg _ (by omega), Int.emod_lt_of_pos _ (by omega)⟩
theorem sumN_bas (f : Nat → Int) {k : Nat} : ∀ {n : Nat}, k < n → (sumN n fun b => if b = k then f b else 0) = f k
  | n + 1, h => by
    rw [sumN]
    by_cases e : k = n
    · subst e
      rw [if_pos rfl, sumN_congr (g := fun _ => 0) (fun b hb => if_neg (by omega)), sumN_zero, Int.zero_add]
    · rw [sumN_bas f (by omega), if_neg (Ne.symm e), Int.add_zero]
theorem paI_bas (hl : l.length = D * D * D) {i j k : Nat} (hi : i < D) (hj : j < D) (hk : k < D) : paI P D fs (rowT D l i j) (basL D k) D = fvN D l fs i j k % P := by
  rw [paI, fvN]
  congr 1
  refine sumN_congr fun a ha => ?_
  rw [gi_rowT ha, ← sumN_bas (fun b => tb D l i j a * at2 D fs a b) hk]
  refine sumN_congr fun b hb => ?_
  rw [gi_basL hk]
  split
  · rw [Int.mul_one]
  · rw [Int.mul_zero, Int.zero_mul]
end

set_option maxRecDepth 100000 in
set_option maxHeartbeats 3200000 in
theorem l3Pair_spec (P : Int) (D f0 fo nf c c' : Nat) (ax ay : Option Addr) (fs xs ys : List Int) (w : World) (hX : Reads w (some ⟨f0, fo, none⟩) nf fs) (hr : Reads w ax D xs) (hr' : Reads w ay D ys) (hD : D ≤ 28) (hnf : nf = D * D) (hp : 2 ≤ P) (hp2 : P ≤ 10007) (hf : Res fs P) (hx : Res xs P) (hy : Res ys P) :
    Calls Try.prog 155 #[.agg #[.int .i64 P, .int .i64 D, .int .i64 D, .slice (some ⟨f0, fo, none⟩) nf nf], .slice ax D c, .slice ay D c'] w fun e w' => e = .returned (.int .i64 (paI P D fs xs ys D)) ∧ Ext w w' := by
  have h27 : D * D ≤ 784 := Nat.mul_le_mul hD hD
  have HX := Lib.hid hX
  have HNF := Lib.hid hnf
  have HR := Lib.hid hr
  have HR' := Lib.hid hr'
  have HFR := Lib.hid hf
  have HXR := Lib.hid hx
  have HYR := Lib.hid hy
  have HAT : Hid (∀ i j, i < D → j < D → ∀ w1, Ext w w1 → Calls Try.prog 73 #[.agg #[.int .i64 P, .int .i64 D, .int .i64 D, .slice (some ⟨f0, fo, none⟩) nf nf], .int .i64 i, .int .i64 j] w1 fun e w' => e = .returned (.int .i64 (gi fs (i * D + j))) ∧ Ext w1 w') := fun i j hi hj w1 h => l1At_spec P D D i j _ nf nf fs w1 (hX.ext h) (by rw [hnf]; exact place_lt hi hj) (by omega)
  have HIB : Hid (∀ i j, 0 ≤ paJ P D fs xs ys i j ∧ paJ P D fs xs ys i j < P) := fun i j => paJ_bd hp i j
  clear hX hr hr' hf hx hy hnf
  go_enter Try.func155, Try.ntmps155
  have A0_1 := Lib.hid (cells_new' w #[.int .i64 P, .int .i64 D, .int .i64 D, .slice (some ⟨f0, fo, none⟩) nf nf] 40 (w.heap.size) (by simp))
  have E_2 := Lib.hid ((Ext.refl w).alloc (.cells #[.int .i64 P, .int .i64 D, .int .i64 D, .slice (some ⟨f0, fo, none⟩) nf nf] 40))
  have lA0 := A0_1.out.1
  have qA00 := A0_1.out.2 0 _ rfl
  have qA01 := A0_1.out.2 1 _ rfl
  have qA02 := A0_1.out.2 2 _ rfl
  have qA03 := A0_1.out.2 3 _ rfl
  try simp only [World.size_alloc] at lA0
  go_wp2_with fail
  clear lA0 qA00 qA01 qA02 qA03
  go_loopw [7, 8, 9] (fun s z _ wr => ∃ i : Nat, i ≤ D ∧ z = .int .i64 i ∧ s = .int .i64 (paI P D fs xs ys i) ∧ Hid (Ext (w.alloc (.cells #[.int .i64 P, .int .i64 D, .int .i64 D, .slice (some ⟨f0, fo, none⟩) nf nf] 40)) wr)) (fun _ z _ _ => D - (intOf z).toNat)
  case atStart => exact ⟨0, by omega, rfl, by rw [paI_zero], Ext.refl _⟩
  case round =>
    obtain ⟨i, hi, rfl, rfl, hE⟩ := hrel
    have CA := A0_1.out.ext hE.out
    have lA := CA.1
    have q0 := CA.2 0 _ rfl
    have q1 := CA.2 1 _ rfl
    have q2 := CA.2 2 _ rfl
    have q3 := CA.2 3 _ rfl
    clear CA
    have EW := Lib.hid (E_2.out.trans hE.out)
    by_cases hlt : i < D
    · have HSK : Hid (gi xs i = 0 → paI P D fs xs ys (i + 1) = paI P D fs xs ys i) := paI_skip
      have HZ := Lib.hid (paJ_zero (P := P) (D := D) (fs := fs) (xs := xs) (ys := ys) i)
      have HFU := Lib.hid (paJ_full (P := P) (D := D) (fs := fs) (xs := xs) (ys := ys) i)
      have HSC : Hid (∀ j, paJ P D fs xs ys i (j + 1) = (paJ P D fs xs ys i j + gi xs i * gi ys j % P * gi fs (i * D + j)) % P) := fun j => paJ_succ i j
      obtain ⟨y0, y1⟩ := HXR.out i (by rw [HR.out.1]; exact hlt)
      rw [← HZ.out]
      go_wp2_with fail
      clear q0 q1 q2 q3 lA
      go_loopw [7, 9] (fun s z wr => ∃ j : Nat, j ≤ D ∧ Hid (gi xs i = 0 → j = 0) ∧ z = .int .i64 j ∧ s = .int .i64 (paJ P D fs xs ys i j) ∧ Hid (Ext (w.alloc (.cells #[.int .i64 P, .int .i64 D, .int .i64 D, .slice (some ⟨f0, fo, none⟩) nf nf] 40)) wr)) (fun _ z _ => D - (intOf z).toNat)
      case atStart => exact ⟨0, by omega, fun _ => rfl, rfl, rfl, hE⟩
      case round =>
        clear hE EW
        obtain ⟨j, hj, hj0, rfl, rfl, hE⟩ := hrel
        have CA := A0_1.out.ext hE.out
        have lA := CA.1
        have q0 := CA.2 0 _ rfl
        have q1 := CA.2 1 _ rfl
        have q2 := CA.2 2 _ rfl
        have q3 := CA.2 3 _ rfl
        clear CA
        have EW := Lib.hid (E_2.out.trans hE.out)
        rcases (HR.out.ext EW.out).2 with h | ⟨bx, ox, rfl, hbx, hcx⟩
        · omega
        have x1 := hcx i hlt
        have hlt'' : (i : Int) < (D : Int) := by omega
        clear hcx
        by_cases hz : gi xs i = 0
        · obtain rfl := hj0.out hz
          have H1 := Lib.hid (HSK.out hz)
          rw [hz] at x1
          have h0D : 0 < D := by omega
          rw [HZ.out, ← H1.out]
          clear hz HSC HSK HZ HFU H1 y0 y1 hj0
          go_wp2
          exact ⟨⟨i + 1, by omega, by simp, rfl, hE⟩, by simp [intOf]; omega⟩
        · have hb0 : (gi xs i == 0) = false := by simpa using hz
          by_cases hlt2 : j < D
          · rcases (HR'.out.ext EW.out).2 with h | ⟨by', oy', rfl, hby', hcy'⟩
            · omega
            have x2 := hcy' j hlt2
            obtain ⟨z0, z1⟩ := HYR.out j (by rw [HR'.out.1]; exact hlt2)
            obtain ⟨k0, k1⟩ := HFR.out (i * D + j) (by rw [HX.out.1, HNF.out]; exact place_lt hlt hlt2)
            obtain ⟨s0, s1⟩ := HIB.out i j
            have HA1 := Lib.hid (HAT.out i j hlt hlt2)
            have HN := Lib.hid (HSC.out j)
            have m0 := Int.mul_nonneg y0 z0
            have m1 : gi xs i * gi ys j ≤ 100140049 := by
              have := Int.mul_le_mul (show gi xs i ≤ 10007 by omega) (show gi ys j ≤ 10007 by omega) z0 (by omega)
              omega
            have f0 := Int.emod_nonneg (gi xs i * gi ys j) (show P ≠ 0 by omega)
            have f1 := Int.emod_lt_of_pos (gi xs i * gi ys j) (show 0 < P by omega)
            have v1 : IntKind.i64.wrap (gi xs i * gi ys j) = gi xs i * gi ys j := IntWalk.i64_in _ ⟨by omega, by omega⟩
            have v2 : (gi xs i * gi ys j).tmod P = gi xs i * gi ys j % P := Int.tmod_eq_emod_of_nonneg m0
            have n0 := Int.mul_nonneg f0 k0
            have n1 : gi xs i * gi ys j % P * gi fs (i * D + j) ≤ 100140049 := by
              have := Int.mul_le_mul (show gi xs i * gi ys j % P ≤ 10007 by omega) (show gi fs (i * D + j) ≤ 10007 by omega) k0 (by omega)
              omega
            generalize hfv : gi xs i * gi ys j % P = fv at *
            generalize gi fs (i * D + j) = av at *
            have v6 : IntKind.i64.wrap fv = fv := IntWalk.i64_in _ ⟨by omega, by omega⟩
            have hpz : ¬ P = 0 := by omega
            have v3 : IntKind.i64.wrap (fv * av) = fv * av := IntWalk.i64_in _ ⟨by omega, by omega⟩
            generalize paJ P D fs xs ys i j = sj at *
            have v4 : IntKind.i64.wrap (sj + fv * av) = sj + fv * av := IntWalk.i64_in _ ⟨by omega, by omega⟩
            have v5 : (sj + fv * av).tmod P = (sj + fv * av) % P := Int.tmod_eq_emod_of_nonneg (by omega)
            have r0 := Int.emod_nonneg (sj + fv * av) (show P ≠ 0 by omega)
            have r1 := Int.emod_lt_of_pos (sj + fv * av) (show 0 < P by omega)
            generalize hrv : (sj + fv * av) % P = rv at *
            have v7 : IntKind.i64.wrap rv = rv := IntWalk.i64_in _ ⟨by omega, by omega⟩
            have p0 : (P == 0) = false := by simp; omega
            have hlt' : (j : Int) < (D : Int) := by omega
            have hj9 : Hid (gi xs i = 0 → j + 1 = 0) := fun h => absurd h hz
            clear hcy' hz hj0 HSK HZ HFU HSC hrv
            go_wp2_with fail
            go_region_held3 (fun w' => Ext wr w' ∧ (∀ b o, b < wr.heap.size → w'.cell? ⟨b, o, none⟩ = wr.cell? ⟨b, o, none⟩)) (first | assumption | (with_reducible exact ext2 (Ext.trans (And.left ‹Ext wr _ ∧ _›) ‹Ext _ _›)) | (refine ext2 ?_; with_reducible repeat (first | exact Ext.refl _ | exact And.left ‹Ext wr _ ∧ _› | refine Ext.drew ?_ | refine Ext.drewN ?_ _))) (first
              | (go_at_call 73; (with_reducible refine (HA1.out _ (EW.out.trans (And.left ‹Ext wr _ ∧ _›))).mono ?_); rintro e w3 ⟨rfl, h3⟩))
            all_goals
              have E9 := Lib.hid (hE.out.trans (And.left ‹Ext wr w3 ∧ _›))
              go_wp2
              exact ⟨⟨j + 1, by omega, hj9, by simp, by rw [HN.out], E9⟩, by simp [intOf]; omega⟩
          · obtain rfl : D = j := by omega
            rw [HFU.out]
            go_wp2
            exact ⟨⟨i + 1, by omega, by simp, rfl, hE⟩, by simp [intOf]; omega⟩
    · obtain rfl : D = i := by omega
      have E8 := Lib.hid (E_2.out.trans hE.out)
      go_wp2
      go_ret
      exact ⟨rfl, E8.out⟩

/-- What is asked of two places of a form. -/
def AltQ (P : Int) (D : Nat) (fs : List Int) (i j : Nat) : Prop := (j = i → gi fs (i * D + j) = 0) ∧ (gi fs (i * D + j) + gi fs (j * D + i)) % P = 0
theorem altQ_iff {P : Int} {D : Nat} {fs : List Int} : AltF P D fs ↔ ∀ i, i < D → ∀ j, j < i + 1 → AltQ P D fs i j := by
  constructor
  · rintro ⟨h1, h2⟩ i hi j hj
    refine ⟨fun e => ?_, eqm_iff.2 (h2 i hi j (by omega))⟩
    subst e; exact h1 j hi
  · intro h
    refine ⟨fun i hi => (h i hi i (by omega)).1 rfl, fun i hi j hj => ?_⟩
    by_cases e : j < i + 1
    · exact eqm_iff.1 (h i hi j e).2
    · have := eqm_iff.1 (h j hj i (by omega)).2
      rw [Int.add_comm]; exact this
theorem cycS_at {P : Int} {D : Nat} {l fs : List Int} {i j k : Nat} : (fvN D l fs i j k % P + fvN D l fs j k i % P + fvN D l fs k i j % P) % P = 0 ↔ Eqm P (cyN D l fs i j k) 0 := by
  rw [eqm_iff]
  have e := ((Eqm.emod (P := P) (fvN D l fs i j k)).add (Eqm.emod (P := P) (fvN D l fs j k i))).add (Eqm.emod (P := P) (fvN D l fs k i j))
  exact ⟨fun h => e.symm.trans h, fun h => e.trans h⟩

set_option maxRecDepth 100000 in
set_option maxHeartbeats 6400000 in
theorem cocycle_yes (P : Int) (D a0 oa n f0 fo nf : Nat) (l fs : List Int) (q : Bool) (w : World) (hT : Reads w (some ⟨a0, oa, none⟩) n l) (hm0 : n ≤ 1048576) (hX : Reads w (some ⟨f0, fo, none⟩) nf fs) (hm1 : nf ≤ 1048576) (h0 : (algB P D l && formB P D P D D fs) = true) (hA : AlgP P D n l) (hnf : nf = D * D) (hres : Res fs P) (hq : cycB P D l fs = q) :
    Calls Try.prog 79 #[.agg #[.int .i64 P, .int .i64 D, .slice (some ⟨a0, oa, none⟩) n n], .agg #[.int .i64 P, .int .i64 D, .int .i64 D, .slice (some ⟨f0, fo, none⟩) nf nf]] w fun e w' => e = .returned (.bool q) ∧ Ext w w' := by
  have HT := Lib.hid hT
  have HX := Lib.hid hX
  have H0 := Lib.hid h0
  have hmx : nf ≤ maxLen := by unfold maxLen; omega
  have hp := isP_lo hA.pr
  have hp2 := isP_hi hA.pr
  have hD := hA.dim
  have h27 : D * D ≤ 784 := Nat.mul_le_mul hD hD
  have h28 := cube28 hD
  have HQ1 : Hid (∀ i, i < D → ∀ j, j < i + 1 → ¬ AltQ P D fs i j → q = false) := fun i hi j hj hn => by
    rw [← hq, ← Bool.not_eq_true, cycB_iff]; exact fun h => hn (altQ_iff.1 h.1 i hi j hj)
  have HQ3 : Hid (∀ i, i < D → ∀ j, i < j → j < D → ∀ k, j < k → k < D → ¬ Eqm P (cyN D l fs i j k) 0 → q = false) := fun i hi j hij hj k hjk hk hn => by
    rw [← hq, ← Bool.not_eq_true, cycB_iff]; exact fun h => hn ((cyc_iff hA.alt).2 h.2 i hi j hij hj k hjk hk)
  have HQ4 : Hid ((∀ i, i < D → ∀ j, j < i + 1 → AltQ P D fs i j) → CycS P D l fs → q = true) := fun h1 h2 => by
    rw [← hq, cycB_iff]; exact ⟨altQ_iff.2 h1, (cyc_iff hA.alt).1 h2⟩
  have hbas : ∀ i, i < D → (basL D i).length = D ∧ Res (basL D i) P := fun i hi => ⟨by simp [basL], fun j hj => by
    have : j < D := by simpa [basL] using hj
    rw [gi_basL hi]; split <;> omega⟩
  have HFR : Hid (∀ i j, i < D → j < D → 0 ≤ gi fs (i * D + j) ∧ gi fs (i * D + j) < P) := fun i j hi hj => hres _ (by rw [hX.1, hnf]; exact place_lt hi hj)
  have HAT : Hid (∀ i j, i < D → j < D → ∀ w1, Ext w w1 → Calls Try.prog 73 #[.agg #[.int .i64 P, .int .i64 D, .int .i64 D, .slice (some ⟨f0, fo, none⟩) nf nf], .int .i64 i, .int .i64 j] w1 fun e w' => e = .returned (.int .i64 (gi fs (i * D + j))) ∧ Ext w1 w') := fun i j hi hj w1 h => l1At_spec P D D i j _ nf nf fs w1 (hX.ext h) (by rw [hnf]; exact place_lt hi hj) (by omega)
  have HLR : Hid (∀ i j, i < D → j < D → ∀ w1, Calls Try.prog 108 #[.agg #[.int .i64 P, .int .i64 D, .slice (some ⟨a0, oa, none⟩) n n], .int .i64 i, .int .i64 j] w1 fun e w' => e = .returned (.slice (some ⟨a0, oa + (i * D + j) * D, none⟩) D (n - (i * D + j) * D)) ∧ Ext w1 w') := fun i j hi hj w1 => l2Row_spec P D a0 oa n n i j w1 hD hA.len (Nat.le_refl _) (by unfold maxLen; omega) hi hj
  have HPR : Hid (∀ i j k, i < D → j < D → k < D → ∀ w1 b c9, Ext w w1 → Has w1 b (basL D k) → Calls Try.prog 155 #[.agg #[.int .i64 P, .int .i64 D, .int .i64 D, .slice (some ⟨f0, fo, none⟩) nf nf], .slice (some ⟨a0, oa + (i * D + j) * D, none⟩) D c9, .slice (some ⟨b, 0, none⟩) D D] w1 fun e w' => e = .returned (.int .i64 (fvN D l fs i j k % P)) ∧ Ext w1 w') := fun i j k hi hj hk w1 b c9 h hb => by
    have h9 := l3Pair_spec P D f0 fo nf c9 D (some ⟨a0, oa + (i * D + j) * D, none⟩) (some ⟨b, 0, none⟩) fs (rowT D l i j) (basL D k) w1 (hX.ext h) (rowT_reads (hT.ext h) hA.len hi hj) (hb.reads (hbas k hk).1) hD hnf hp hp2 hres (rowT_res (by omega) hA.res i j) (hbas k hk).2
    rw [paI_bas (by rw [hT.1, hA.len]) hi hj hk] at h9
    exact h9
  clear hT hX hA hres hnf hbas hq h0
  go_enter Try.func79, Try.ntmps79
  have A0_1 := Lib.hid ((cells_new' w #[.int .i64 P, .int .i64 D, .slice (some ⟨a0, oa, none⟩) n n] 28 (w.heap.size) (by simp)).ext ((Ext.refl _).alloc (.cells #[.int .i64 P, .int .i64 D, .int .i64 D, .slice (some ⟨f0, fo, none⟩) nf nf] 40)))
  have A1_2 := Lib.hid (cells_new' (w.alloc (.cells #[.int .i64 P, .int .i64 D, .slice (some ⟨a0, oa, none⟩) n n] 28)) #[.int .i64 P, .int .i64 D, .int .i64 D, .slice (some ⟨f0, fo, none⟩) nf nf] 40 (w.heap.size + 1) (by simp))
  have E_3 := Lib.hid (((Ext.refl w).alloc (.cells #[.int .i64 P, .int .i64 D, .slice (some ⟨a0, oa, none⟩) n n] 28)).alloc (.cells #[.int .i64 P, .int .i64 D, .int .i64 D, .slice (some ⟨f0, fo, none⟩) nf nf] 40))
  have lA0 := A0_1.out.1
  have qA00 := A0_1.out.2 0 _ rfl
  have qA01 := A0_1.out.2 1 _ rfl
  have qA02 := A0_1.out.2 2 _ rfl
  have lA1 := A1_2.out.1
  have qA10 := A1_2.out.2 0 _ rfl
  have qA11 := A1_2.out.2 1 _ rfl
  have qA12 := A1_2.out.2 2 _ rfl
  have qA13 := A1_2.out.2 3 _ rfl
  try simp only [World.size_alloc] at lA0 lA1
  go_wp2_with fail
  refine (l3Form_spec _ _ _ _ _ a0 oa n f0 fo nf l fs _ (HT.out.ext E_3.out) hm0 (HX.out.ext E_3.out) hmx).mono ?_
  rintro e w_4 ⟨rfl, h_4⟩
  clear lA0 qA00 qA01 qA02 lA1 qA10 qA11 qA12 qA13
  have A0_5 := Lib.hid (A0_1.out.ext h_4)
  clear A0_1
  have A1_6 := Lib.hid (A1_2.out.ext h_4)
  clear A1_2
  have E_7 := Lib.hid (E_3.out.trans h_4)
  clear E_3
  rw [H0.out]
  have lA0 := A0_5.out.1
  have qA00 := A0_5.out.2 0 _ rfl
  have qA01 := A0_5.out.2 1 _ rfl
  have qA02 := A0_5.out.2 2 _ rfl
  have lA1 := A1_6.out.1
  have qA10 := A1_6.out.2 0 _ rfl
  have qA11 := A1_6.out.2 1 _ rfl
  have qA12 := A1_6.out.2 2 _ rfl
  have qA13 := A1_6.out.2 3 _ rfl
  try simp only [World.size_alloc] at lA0 lA1
  go_wp2_with fail
  clear lA0 qA00 qA01 qA02 lA1 qA10 qA11 qA12 qA13
  go_loopw [6, 7] (fun z _ wr => ∃ i : Nat, i ≤ D ∧ z = .int .i64 i ∧ Hid (Ext w_4 wr) ∧ Hid (∀ i', i' < i → ∀ j, j < i' + 1 → AltQ P D fs i' j)) (fun z _ _ => D - (intOf z).toNat)
  case atStart => exact ⟨0, by omega, rfl, Ext.refl _, fun j hj => by omega⟩
  case round =>
    obtain ⟨i, hi, rfl, hE, hF⟩ := hrel
    by_cases hlt : i < D
    · have hF0 : Hid (∀ j, j < 0 → AltQ P D fs i j) := fun j hj => by omega
      go_wp2_with fail
      go_loopw [7] (fun z wr => ∃ j : Nat, j ≤ i + 1 ∧ z = .int .i64 j ∧ Hid (Ext w_4 wr) ∧ Hid (∀ j', j' < j → AltQ P D fs i j')) (fun z _ => i + 1 - (intOf z).toNat)
      case atStart => exact ⟨0, by omega, rfl, hE, hF0⟩
      case round =>
        clear hE hF0
        obtain ⟨j, hj, rfl, hE, hG⟩ := hrel
        by_cases hlt2 : j < i + 1
        · have hjd : j < D := by omega
          have EW := Lib.hid (E_7.out.trans hE.out)
          have bac := A0_5.out.ext hE.out
          have lba := bac.1
          have ba0 := bac.2 0 _ rfl
          have ba1 := bac.2 1 _ rfl
          have ba2 := bac.2 2 _ rfl
          clear bac
          have bmc := A1_6.out.ext hE.out
          have lbm := bmc.1
          have bm0 := bmc.2 0 _ rfl
          have bm1 := bmc.2 1 _ rfl
          have bm2 := bmc.2 2 _ rfl
          have bm3 := bmc.2 3 _ rfl
          clear bmc
          have HC1 : Hid (∀ w1, Ext wr w1 → Calls Try.prog 73 #[.agg #[.int .i64 P, .int .i64 D, .int .i64 D, .slice (some ⟨f0, fo, none⟩) nf nf], .int .i64 i, .int .i64 j] w1 fun e w' => e = .returned (.int .i64 (gi fs (i * D + j))) ∧ Ext w1 w') := fun w1 h => HAT.out i j hlt hjd w1 (EW.out.trans h)
          have HC2 : Hid (∀ w1, Ext wr w1 → Calls Try.prog 73 #[.agg #[.int .i64 P, .int .i64 D, .int .i64 D, .slice (some ⟨f0, fo, none⟩) nf nf], .int .i64 j, .int .i64 i] w1 fun e w' => e = .returned (.int .i64 (gi fs (j * D + i))) ∧ Ext w1 w') := fun w1 h => HAT.out j i hjd hlt w1 (EW.out.trans h)
          have HJ : Hid (¬ ((j = i → gi fs (i * D + j) = 0) ∧ (gi fs (i * D + j) + gi fs (j * D + i)) % P = 0) → q = false) := HQ1.out i hlt j hlt2
          have HKK : Hid (((j = i → gi fs (i * D + j) = 0) ∧ (gi fs (i * D + j) + gi fs (j * D + i)) % P = 0) → ∀ j', j' < j + 1 → AltQ P D fs i j') := fun hh j' hj' => by
            by_cases e : j' = j
            · subst e; exact hh
            · exact hG.out j' (by omega)
          obtain ⟨s0, s1⟩ := HFR.out i j hlt hjd
          obtain ⟨s2, s3⟩ := HFR.out j i hjd hlt
          clear hG
          generalize gi fs (i * D + j) = t1 at *
          generalize gi fs (j * D + i) = t2 at *
          have hpz : ¬ P = 0 := by omega
          have v1 : IntKind.i64.wrap (t1 + t2) = t1 + t2 := IntWalk.i64_in _ ⟨by omega, by omega⟩
          have v2 : Int.tmod (t1 + t2) P = (t1 + t2) % P := Int.tmod_eq_emod_of_nonneg (by omega)
          have g0 := Int.emod_nonneg (t1 + t2) hpz
          have g1 := Int.emod_lt_of_pos (t1 + t2) (show 0 < P by omega)
          have v3 : IntKind.i64.wrap ((t1 + t2) % P) = (t1 + t2) % P := IntWalk.i64_in _ ⟨by omega, by omega⟩
          by_cases hji : j = i
          · have hb1 : ((i : Int) == (j : Int)) = true := by simp; omega
            by_cases ht : t1 = 0
            case neg =>
              have hb2 : (t1 != 0) = true := by simpa using ht
              have HFF : Hid (q = false) := HJ.out (fun h => ht (h.1 hji))
              clear HJ HKK ht hji
              go_wp2_with fail
              refine wp_region_held_drew (S := (fun w' => Ext wr w' ∧ (∀ b o, b < wr.heap.size → w'.cell? ⟨b, o, none⟩ = wr.cell? ⟨b, o, none⟩))) (by kernel_rfl) (ext2 (Ext.refl _).drew) (fun hHeld => ?_)
              refine wpAnyH_take (i := 0) (v := ?v1) rfl (by kernel_rfl) (by kernel_rfl) (by kernel_rfl) (fun _ _ _ h => h) (Or.inl ⟨by rfl, ?hy1⟩) hHeld ?rest1
              case hy1 => (intro wz hSw; (try dsimp only at hSw); go_simp; (try with_reducible rfl))
              (try simp only [Act.put, List.getElem_toArray, List.getElem_cons_succ, List.getElem_cons_zero]); (try simp only [List.setIfInBounds_toArray]); (try simp only [List.set_cons_succ]); (try simp only [List.set_cons_zero])
              refine wpAnyH_take (i := 1) (v := ?v2) rfl (by kernel_rfl) (by kernel_rfl) (by kernel_rfl) (fun _ _ _ h => h) (Or.inl ⟨by rfl, ?hy2⟩) hHeld ?rest2
              case hy2 => (intro wz hSw; (try dsimp only at hSw); go_simp; (try with_reducible rfl))
              (try simp only [Act.put, List.getElem_toArray, List.getElem_cons_succ, List.getElem_cons_zero]); (try simp only [List.setIfInBounds_toArray]); (try simp only [List.set_cons_succ]); (try simp only [List.set_cons_zero])
              refine wpAnyH_take (i := 2) (v := ?v3) rfl (by kernel_rfl) (by kernel_rfl) (by kernel_rfl) (fun _ _ _ h => h) (Or.inl ⟨by rfl, ?hy3⟩) hHeld ?rest3
              case hy3 => (intro wz hSw; (try dsimp only at hSw); go_simp; (try with_reducible rfl))
              (try simp only [Act.put, List.getElem_toArray, List.getElem_cons_succ, List.getElem_cons_zero]); (try simp only [List.setIfInBounds_toArray]); (try simp only [List.set_cons_succ]); (try simp only [List.set_cons_zero])
              refine wpAnyH_take (i := 3) (v := ?v4) rfl (by kernel_rfl) (by kernel_rfl) (by kernel_rfl) (fun _ _ _ h => h) (Or.inl ⟨by rfl, ?hy4⟩) hHeld ?rest4
              case hy4 => (intro wz hSw; (try dsimp only at hSw); go_simp; (try with_reducible rfl))
              (try simp only [Act.put, List.getElem_toArray, List.getElem_cons_succ, List.getElem_cons_zero]); (try simp only [List.setIfInBounds_toArray]); (try simp only [List.set_cons_succ]); (try simp only [List.set_cons_zero])
              refine wpAnyH_take (i := 4) (v := ?v5) rfl (by kernel_rfl) (by kernel_rfl) (by kernel_rfl) (fun _ _ _ h => h) (Or.inl ⟨by rfl, ?hy5⟩) hHeld ?rest5
              case hy5 => (intro wz hSw; (try dsimp only at hSw); go_simp; (try with_reducible rfl))
              (try simp only [Act.put, List.getElem_toArray, List.getElem_cons_succ, List.getElem_cons_zero]); (try simp only [List.setIfInBounds_toArray]); (try simp only [List.set_cons_succ]); (try simp only [List.set_cons_zero])
              refine wpAnyH_take (i := 5) (v := ?v6) rfl (by kernel_rfl) (by kernel_rfl) (by kernel_rfl) (fun _ _ _ h => h) (Or.inl ⟨by rfl, ?hy6⟩) hHeld ?rest6
              case hy6 => (intro wz hSw; (try dsimp only at hSw); go_simp; (try with_reducible rfl))
              (try simp only [Act.put, List.getElem_toArray, List.getElem_cons_succ, List.getElem_cons_zero]); (try simp only [List.setIfInBounds_toArray]); (try simp only [List.set_cons_succ]); (try simp only [List.set_cons_zero])
              refine wpAnyH_take (i := 6) (v := ?v7) rfl (by kernel_rfl) (by kernel_rfl) (by kernel_rfl) (fun _ _ _ h => h) (Or.inl ⟨by rfl, ?hy7⟩) hHeld ?rest7
              case hy7 => (intro wz hSw; (try dsimp only at hSw); go_simp; (try with_reducible rfl))
              (try simp only [Act.put, List.getElem_toArray, List.getElem_cons_succ, List.getElem_cons_zero]); (try simp only [List.setIfInBounds_toArray]); (try simp only [List.set_cons_succ]); (try simp only [List.set_cons_zero])
              refine wpAnyH_ready (rs := [7]) (by kernel_rfl) (by simp) ?_
              refine AllReadyH.cons rfl (fun K' hK => ?_) AllReadyH.nil
              go_simp
              refine (HC1.out _ (And.left hHeld)).mono ?_
              rintro e w1x ⟨rfl, h1x⟩
              dsimp only
              refine hK.out _ _ (ext2 (Ext.trans (And.left hHeld) h1x)) (fun hHeld => ?_)
              clear hK
              refine wpAnyH_take (i := 8) (v := ?v8) rfl (by kernel_rfl) (by kernel_rfl) (by kernel_rfl) (fun _ _ _ h => h) (Or.inl ⟨by rfl, ?hy8⟩) hHeld ?rest8
              case hy8 => (intro wz hSw; (try dsimp only at hSw); go_simp; (try with_reducible rfl))
              (try simp only [Act.put, List.getElem_toArray, List.getElem_cons_succ, List.getElem_cons_zero]); (try simp only [List.setIfInBounds_toArray]); (try simp only [List.set_cons_succ]); (try simp only [List.set_cons_zero])
              refine wpAnyH_take (i := 9) (v := ?v9) rfl (by kernel_rfl) (by kernel_rfl) (by kernel_rfl) (fun _ _ _ h => h) (Or.inl ⟨by rfl, ?hy9⟩) hHeld ?rest9
              case hy9 => (intro wz hSw; (try dsimp only at hSw); go_simp; (try with_reducible rfl))
              (try simp only [Act.put, List.getElem_toArray, List.getElem_cons_succ, List.getElem_cons_zero]); (try simp only [List.setIfInBounds_toArray]); (try simp only [List.set_cons_succ]); (try simp only [List.set_cons_zero])
              refine wpAnyH_take (i := 10) (v := ?v10) rfl (by kernel_rfl) (by kernel_rfl) (by kernel_rfl) (fun _ _ _ h => h) (Or.inl ⟨by rfl, ?hy10⟩) hHeld ?rest10
              case hy10 => (intro wz hSw; (try dsimp only at hSw); go_simp; (try with_reducible rfl))
              (try simp only [Act.put, List.getElem_toArray, List.getElem_cons_succ, List.getElem_cons_zero]); (try simp only [List.setIfInBounds_toArray]); (try simp only [List.set_cons_succ]); (try simp only [List.set_cons_zero])
              refine wpAnyH_take (i := 11) (v := undef) rfl (by kernel_rfl) (by kernel_rfl) (by kernel_rfl) (fun _ _ _ h => h) (Or.inr ⟨by rfl, rfl⟩) hHeld ?rest11
              (try simp only [Act.put, List.getElem_toArray, List.getElem_cons_succ, List.getElem_cons_zero]); (try simp only [List.setIfInBounds_toArray]); (try simp only [List.set_cons_succ]); (try simp only [List.set_cons_zero])
              refine wpAnyH_take (i := 12) (v := undef) rfl (by kernel_rfl) (by kernel_rfl) (by kernel_rfl) (fun _ _ _ h => h) (Or.inr ⟨by rfl, rfl⟩) hHeld ?rest12
              (try simp only [Act.put, List.getElem_toArray, List.getElem_cons_succ, List.getElem_cons_zero]); (try simp only [List.setIfInBounds_toArray]); (try simp only [List.set_cons_succ]); (try simp only [List.set_cons_zero])
              refine wpAnyH_take (i := 13) (v := undef) rfl (by kernel_rfl) (by kernel_rfl) (by kernel_rfl) (fun _ _ _ h => h) (Or.inr ⟨by rfl, rfl⟩) hHeld ?rest13
              (try simp only [Act.put, List.getElem_toArray, List.getElem_cons_succ, List.getElem_cons_zero]); (try simp only [List.setIfInBounds_toArray]); (try simp only [List.set_cons_succ]); (try simp only [List.set_cons_zero])
              refine wpAnyH_take (i := 14) (v := undef) rfl (by kernel_rfl) (by kernel_rfl) (by kernel_rfl) (fun _ _ _ h => h) (Or.inr ⟨by rfl, rfl⟩) hHeld ?rest14
              (try simp only [Act.put, List.getElem_toArray, List.getElem_cons_succ, List.getElem_cons_zero]); (try simp only [List.setIfInBounds_toArray]); (try simp only [List.set_cons_succ]); (try simp only [List.set_cons_zero])
              refine wpAnyH_take (i := 15) (v := undef) rfl (by kernel_rfl) (by kernel_rfl) (by kernel_rfl) (fun _ _ _ h => h) (Or.inr ⟨by rfl, rfl⟩) hHeld ?rest15
              (try simp only [Act.put, List.getElem_toArray, List.getElem_cons_succ, List.getElem_cons_zero]); (try simp only [List.setIfInBounds_toArray]); (try simp only [List.set_cons_succ]); (try simp only [List.set_cons_zero])
              refine wpAnyH_take (i := 16) (v := undef) rfl (by kernel_rfl) (by kernel_rfl) (by kernel_rfl) (fun _ _ _ h => h) (Or.inr ⟨by rfl, rfl⟩) hHeld ?rest16
              (try simp only [Act.put, List.getElem_toArray, List.getElem_cons_succ, List.getElem_cons_zero]); (try simp only [List.setIfInBounds_toArray]); (try simp only [List.set_cons_succ]); (try simp only [List.set_cons_zero])
              refine wpAnyH_take (i := 17) (v := undef) rfl (by kernel_rfl) (by kernel_rfl) (by kernel_rfl) (fun _ _ _ h => h) (Or.inr ⟨by rfl, rfl⟩) hHeld ?rest17
              (try simp only [Act.put, List.getElem_toArray, List.getElem_cons_succ, List.getElem_cons_zero]); (try simp only [List.setIfInBounds_toArray]); (try simp only [List.set_cons_succ]); (try simp only [List.set_cons_zero])
              refine wpAnyH_take (i := 18) (v := undef) rfl (by kernel_rfl) (by kernel_rfl) (by kernel_rfl) (fun _ _ _ h => h) (Or.inr ⟨by rfl, rfl⟩) hHeld ?rest18
              (try simp only [Act.put, List.getElem_toArray, List.getElem_cons_succ, List.getElem_cons_zero]); (try simp only [List.setIfInBounds_toArray]); (try simp only [List.set_cons_succ]); (try simp only [List.set_cons_zero])
              refine wpAnyH_take (i := 19) (v := undef) rfl (by kernel_rfl) (by kernel_rfl) (by kernel_rfl) (fun _ _ _ h => h) (Or.inr ⟨by rfl, rfl⟩) hHeld ?rest19
              (try simp only [Act.put, List.getElem_toArray, List.getElem_cons_succ, List.getElem_cons_zero]); (try simp only [List.setIfInBounds_toArray]); (try simp only [List.set_cons_succ]); (try simp only [List.set_cons_zero])
              refine wpAnyH_take (i := 20) (v := undef) rfl (by kernel_rfl) (by kernel_rfl) (by kernel_rfl) (fun _ _ _ h => h) (Or.inr ⟨by rfl, rfl⟩) hHeld ?rest20
              (try simp only [Act.put, List.getElem_toArray, List.getElem_cons_succ, List.getElem_cons_zero]); (try simp only [List.setIfInBounds_toArray]); (try simp only [List.set_cons_succ]); (try simp only [List.set_cons_zero])
              refine wpAnyH_take (i := 21) (v := undef) rfl (by kernel_rfl) (by kernel_rfl) (by kernel_rfl) (fun _ _ _ h => h) (Or.inr ⟨by rfl, rfl⟩) hHeld ?rest21
              (try simp only [Act.put, List.getElem_toArray, List.getElem_cons_succ, List.getElem_cons_zero]); (try simp only [List.setIfInBounds_toArray]); (try simp only [List.set_cons_succ]); (try simp only [List.set_cons_zero])
              refine wpAnyH_take (i := 22) (v := undef) rfl (by kernel_rfl) (by kernel_rfl) (by kernel_rfl) (fun _ _ _ h => h) (Or.inr ⟨by rfl, rfl⟩) hHeld ?rest22
              (try simp only [Act.put, List.getElem_toArray, List.getElem_cons_succ, List.getElem_cons_zero]); (try simp only [List.setIfInBounds_toArray]); (try simp only [List.set_cons_succ]); (try simp only [List.set_cons_zero])
              refine wpAnyH_take (i := 23) (v := undef) rfl (by kernel_rfl) (by kernel_rfl) (by kernel_rfl) (fun _ _ _ h => h) (Or.inr ⟨by rfl, rfl⟩) hHeld ?rest23
              (try simp only [Act.put, List.getElem_toArray, List.getElem_cons_succ, List.getElem_cons_zero]); (try simp only [List.setIfInBounds_toArray]); (try simp only [List.set_cons_succ]); (try simp only [List.set_cons_zero])
              refine wpAnyH_take (i := 24) (v := ?v24) rfl (by kernel_rfl) (by kernel_rfl) (by kernel_rfl) (fun _ _ _ h => h) (Or.inl ⟨by rfl, ?hy24⟩) hHeld ?rest24
              case hy24 => (intro wz hSw; (try dsimp only at hSw); go_simp; (try with_reducible rfl))
              (try simp only [Act.put, List.getElem_toArray, List.getElem_cons_succ, List.getElem_cons_zero]); (try simp only [List.setIfInBounds_toArray]); (try simp only [List.set_cons_succ]); (try simp only [List.set_cons_zero])
              refine wpAnyH_done (by kernel_rfl) ?_ _
              have HEE := Lib.hid (EW.out.trans (And.left hHeld))
              clear hHeld hE lba ba0 ba1 ba2 lbm bm0 bm1 bm2 bm3
              go_wp2
              go_ret
              exact ⟨ret_bool HFF.out.symm, HEE.out⟩
            have hb2 : (t1 != 0) = false := by simpa using ht
            by_cases hs : (t1 + t2) % P = 0
            case neg =>
              have hb3 : ((t1 + t2) % P != 0) = true := by simpa using hs
              have HFF : Hid (q = false) := HJ.out (fun h => hs h.2)
              clear HJ HKK hs ht hji
              go_wp2_with fail
              refine wp_region_held_drew (S := (fun w' => Ext wr w' ∧ (∀ b o, b < wr.heap.size → w'.cell? ⟨b, o, none⟩ = wr.cell? ⟨b, o, none⟩))) (by kernel_rfl) (ext2 (Ext.refl _).drew) (fun hHeld => ?_)
              refine wpAnyH_take (i := 0) (v := ?v25) rfl (by kernel_rfl) (by kernel_rfl) (by kernel_rfl) (fun _ _ _ h => h) (Or.inl ⟨by rfl, ?hy25⟩) hHeld ?rest25
              case hy25 => (intro wz hSw; (try dsimp only at hSw); go_simp; (try with_reducible rfl))
              (try simp only [Act.put, List.getElem_toArray, List.getElem_cons_succ, List.getElem_cons_zero]); (try simp only [List.setIfInBounds_toArray]); (try simp only [List.set_cons_succ]); (try simp only [List.set_cons_zero])
              refine wpAnyH_take (i := 1) (v := ?v26) rfl (by kernel_rfl) (by kernel_rfl) (by kernel_rfl) (fun _ _ _ h => h) (Or.inl ⟨by rfl, ?hy26⟩) hHeld ?rest26
              case hy26 => (intro wz hSw; (try dsimp only at hSw); go_simp; (try with_reducible rfl))
              (try simp only [Act.put, List.getElem_toArray, List.getElem_cons_succ, List.getElem_cons_zero]); (try simp only [List.setIfInBounds_toArray]); (try simp only [List.set_cons_succ]); (try simp only [List.set_cons_zero])
              refine wpAnyH_take (i := 2) (v := ?v27) rfl (by kernel_rfl) (by kernel_rfl) (by kernel_rfl) (fun _ _ _ h => h) (Or.inl ⟨by rfl, ?hy27⟩) hHeld ?rest27
              case hy27 => (intro wz hSw; (try dsimp only at hSw); go_simp; (try with_reducible rfl))
              (try simp only [Act.put, List.getElem_toArray, List.getElem_cons_succ, List.getElem_cons_zero]); (try simp only [List.setIfInBounds_toArray]); (try simp only [List.set_cons_succ]); (try simp only [List.set_cons_zero])
              refine wpAnyH_take (i := 3) (v := ?v28) rfl (by kernel_rfl) (by kernel_rfl) (by kernel_rfl) (fun _ _ _ h => h) (Or.inl ⟨by rfl, ?hy28⟩) hHeld ?rest28
              case hy28 => (intro wz hSw; (try dsimp only at hSw); go_simp; (try with_reducible rfl))
              (try simp only [Act.put, List.getElem_toArray, List.getElem_cons_succ, List.getElem_cons_zero]); (try simp only [List.setIfInBounds_toArray]); (try simp only [List.set_cons_succ]); (try simp only [List.set_cons_zero])
              refine wpAnyH_take (i := 4) (v := ?v29) rfl (by kernel_rfl) (by kernel_rfl) (by kernel_rfl) (fun _ _ _ h => h) (Or.inl ⟨by rfl, ?hy29⟩) hHeld ?rest29
              case hy29 => (intro wz hSw; (try dsimp only at hSw); go_simp; (try with_reducible rfl))
              (try simp only [Act.put, List.getElem_toArray, List.getElem_cons_succ, List.getElem_cons_zero]); (try simp only [List.setIfInBounds_toArray]); (try simp only [List.set_cons_succ]); (try simp only [List.set_cons_zero])
              refine wpAnyH_take (i := 5) (v := ?v30) rfl (by kernel_rfl) (by kernel_rfl) (by kernel_rfl) (fun _ _ _ h => h) (Or.inl ⟨by rfl, ?hy30⟩) hHeld ?rest30
              case hy30 => (intro wz hSw; (try dsimp only at hSw); go_simp; (try with_reducible rfl))
              (try simp only [Act.put, List.getElem_toArray, List.getElem_cons_succ, List.getElem_cons_zero]); (try simp only [List.setIfInBounds_toArray]); (try simp only [List.set_cons_succ]); (try simp only [List.set_cons_zero])
              refine wpAnyH_take (i := 6) (v := ?v31) rfl (by kernel_rfl) (by kernel_rfl) (by kernel_rfl) (fun _ _ _ h => h) (Or.inl ⟨by rfl, ?hy31⟩) hHeld ?rest31
              case hy31 => (intro wz hSw; (try dsimp only at hSw); go_simp; (try with_reducible rfl))
              (try simp only [Act.put, List.getElem_toArray, List.getElem_cons_succ, List.getElem_cons_zero]); (try simp only [List.setIfInBounds_toArray]); (try simp only [List.set_cons_succ]); (try simp only [List.set_cons_zero])
              refine wpAnyH_ready (rs := [7]) (by kernel_rfl) (by simp) ?_
              refine AllReadyH.cons rfl (fun K' hK => ?_) AllReadyH.nil
              go_simp
              refine (HC1.out _ (And.left hHeld)).mono ?_
              rintro e w4x ⟨rfl, h4x⟩
              dsimp only
              refine hK.out _ _ (ext2 (Ext.trans (And.left hHeld) h4x)) (fun hHeld => ?_)
              clear hK
              refine wpAnyH_take (i := 8) (v := ?v32) rfl (by kernel_rfl) (by kernel_rfl) (by kernel_rfl) (fun _ _ _ h => h) (Or.inl ⟨by rfl, ?hy32⟩) hHeld ?rest32
              case hy32 => (intro wz hSw; (try dsimp only at hSw); go_simp; (try with_reducible rfl))
              (try simp only [Act.put, List.getElem_toArray, List.getElem_cons_succ, List.getElem_cons_zero]); (try simp only [List.setIfInBounds_toArray]); (try simp only [List.set_cons_succ]); (try simp only [List.set_cons_zero])
              refine wpAnyH_take (i := 9) (v := ?v33) rfl (by kernel_rfl) (by kernel_rfl) (by kernel_rfl) (fun _ _ _ h => h) (Or.inl ⟨by rfl, ?hy33⟩) hHeld ?rest33
              case hy33 => (intro wz hSw; (try dsimp only at hSw); go_simp; (try with_reducible rfl))
              (try simp only [Act.put, List.getElem_toArray, List.getElem_cons_succ, List.getElem_cons_zero]); (try simp only [List.setIfInBounds_toArray]); (try simp only [List.set_cons_succ]); (try simp only [List.set_cons_zero])
              refine wpAnyH_take (i := 10) (v := ?v34) rfl (by kernel_rfl) (by kernel_rfl) (by kernel_rfl) (fun _ _ _ h => h) (Or.inl ⟨by rfl, ?hy34⟩) hHeld ?rest34
              case hy34 => (intro wz hSw; (try dsimp only at hSw); go_simp; (try with_reducible rfl))
              (try simp only [Act.put, List.getElem_toArray, List.getElem_cons_succ, List.getElem_cons_zero]); (try simp only [List.setIfInBounds_toArray]); (try simp only [List.set_cons_succ]); (try simp only [List.set_cons_zero])
              refine wpAnyH_take (i := 11) (v := ?v35) rfl (by kernel_rfl) (by kernel_rfl) (by kernel_rfl) (fun _ _ _ h => h) (Or.inl ⟨by rfl, ?hy35⟩) hHeld ?rest35
              case hy35 => (intro wz hSw; (try dsimp only at hSw); go_simp; (try with_reducible rfl))
              (try simp only [Act.put, List.getElem_toArray, List.getElem_cons_succ, List.getElem_cons_zero]); (try simp only [List.setIfInBounds_toArray]); (try simp only [List.set_cons_succ]); (try simp only [List.set_cons_zero])
              refine wpAnyH_take (i := 12) (v := ?v36) rfl (by kernel_rfl) (by kernel_rfl) (by kernel_rfl) (fun _ _ _ h => h) (Or.inl ⟨by rfl, ?hy36⟩) hHeld ?rest36
              case hy36 => (intro wz hSw; (try dsimp only at hSw); go_simp; (try with_reducible rfl))
              (try simp only [Act.put, List.getElem_toArray, List.getElem_cons_succ, List.getElem_cons_zero]); (try simp only [List.setIfInBounds_toArray]); (try simp only [List.set_cons_succ]); (try simp only [List.set_cons_zero])
              refine wpAnyH_take (i := 13) (v := ?v37) rfl (by kernel_rfl) (by kernel_rfl) (by kernel_rfl) (fun _ _ _ h => h) (Or.inl ⟨by rfl, ?hy37⟩) hHeld ?rest37
              case hy37 => (intro wz hSw; (try dsimp only at hSw); go_simp; (try with_reducible rfl))
              (try simp only [Act.put, List.getElem_toArray, List.getElem_cons_succ, List.getElem_cons_zero]); (try simp only [List.setIfInBounds_toArray]); (try simp only [List.set_cons_succ]); (try simp only [List.set_cons_zero])
              refine wpAnyH_take (i := 15) (v := ?v38) rfl (by kernel_rfl) (by kernel_rfl) (by kernel_rfl) (fun _ _ _ h => h) (Or.inl ⟨by rfl, ?hy38⟩) hHeld ?rest38
              case hy38 => (intro wz hSw; (try dsimp only at hSw); go_simp; (try with_reducible rfl))
              (try simp only [Act.put, List.getElem_toArray, List.getElem_cons_succ, List.getElem_cons_zero]); (try simp only [List.setIfInBounds_toArray]); (try simp only [List.set_cons_succ]); (try simp only [List.set_cons_zero])
              refine wpAnyH_take (i := 16) (v := ?v39) rfl (by kernel_rfl) (by kernel_rfl) (by kernel_rfl) (fun _ _ _ h => h) (Or.inl ⟨by rfl, ?hy39⟩) hHeld ?rest39
              case hy39 => (intro wz hSw; (try dsimp only at hSw); go_simp; (try with_reducible rfl))
              (try simp only [Act.put, List.getElem_toArray, List.getElem_cons_succ, List.getElem_cons_zero]); (try simp only [List.setIfInBounds_toArray]); (try simp only [List.set_cons_succ]); (try simp only [List.set_cons_zero])
              refine wpAnyH_take (i := 17) (v := ?v40) rfl (by kernel_rfl) (by kernel_rfl) (by kernel_rfl) (fun _ _ _ h => h) (Or.inl ⟨by rfl, ?hy40⟩) hHeld ?rest40
              case hy40 => (intro wz hSw; (try dsimp only at hSw); go_simp; (try with_reducible rfl))
              (try simp only [Act.put, List.getElem_toArray, List.getElem_cons_succ, List.getElem_cons_zero]); (try simp only [List.setIfInBounds_toArray]); (try simp only [List.set_cons_succ]); (try simp only [List.set_cons_zero])
              refine wpAnyH_take (i := 20) (v := ?v41) rfl (by kernel_rfl) (by kernel_rfl) (by kernel_rfl) (fun _ _ _ h => h) (Or.inl ⟨by rfl, ?hy41⟩) hHeld ?rest41
              case hy41 => (intro wz hSw; (try dsimp only at hSw); go_simp; (try with_reducible rfl))
              (try simp only [Act.put, List.getElem_toArray, List.getElem_cons_succ, List.getElem_cons_zero]); (try simp only [List.setIfInBounds_toArray]); (try simp only [List.set_cons_succ]); (try simp only [List.set_cons_zero])
              refine wpAnyH_take (i := 21) (v := ?v42) rfl (by kernel_rfl) (by kernel_rfl) (by kernel_rfl) (fun _ _ _ h => h) (Or.inl ⟨by rfl, ?hy42⟩) hHeld ?rest42
              case hy42 => (intro wz hSw; (try dsimp only at hSw); go_simp; (try with_reducible rfl))
              (try simp only [Act.put, List.getElem_toArray, List.getElem_cons_succ, List.getElem_cons_zero]); (try simp only [List.setIfInBounds_toArray]); (try simp only [List.set_cons_succ]); (try simp only [List.set_cons_zero])
              refine wpAnyH_ready (rs := [14]) (by kernel_rfl) (by simp) ?_
              refine AllReadyH.cons rfl (fun K' hK => ?_) AllReadyH.nil
              go_simp
              refine (HC1.out _ (And.left hHeld)).mono ?_
              rintro e w3x ⟨rfl, h3x⟩
              dsimp only
              refine hK.out _ _ (ext2 (Ext.trans (And.left hHeld) h3x)) (fun hHeld => ?_)
              clear hK
              refine wpAnyH_ready (rs := [18]) (by kernel_rfl) (by simp) ?_
              refine AllReadyH.cons rfl (fun K' hK => ?_) AllReadyH.nil
              go_simp
              refine (HC2.out _ (And.left hHeld)).mono ?_
              rintro e w2x ⟨rfl, h2x⟩
              dsimp only
              refine hK.out _ _ (ext2 (Ext.trans (And.left hHeld) h2x)) (fun hHeld => ?_)
              clear hK
              refine wpAnyH_take (i := 19) (v := ?v43) rfl (by kernel_rfl) (by kernel_rfl) (by kernel_rfl) (fun _ _ _ h => h) (Or.inl ⟨by rfl, ?hy43⟩) hHeld ?rest43
              case hy43 => (intro wz hSw; (try dsimp only at hSw); go_simp; (try with_reducible rfl))
              (try simp only [Act.put, List.getElem_toArray, List.getElem_cons_succ, List.getElem_cons_zero]); (try simp only [List.setIfInBounds_toArray]); (try simp only [List.set_cons_succ]); (try simp only [List.set_cons_zero])
              refine wpAnyH_take (i := 22) (v := ?v44) rfl (by kernel_rfl) (by kernel_rfl) (by kernel_rfl) (fun _ _ _ h => h) (Or.inl ⟨by rfl, ?hy44⟩) hHeld ?rest44
              case hy44 => (intro wz hSw; (try dsimp only at hSw); go_simp; (try with_reducible rfl))
              (try simp only [Act.put, List.getElem_toArray, List.getElem_cons_succ, List.getElem_cons_zero]); (try simp only [List.setIfInBounds_toArray]); (try simp only [List.set_cons_succ]); (try simp only [List.set_cons_zero])
              refine wpAnyH_take (i := 23) (v := ?v45) rfl (by kernel_rfl) (by kernel_rfl) (by kernel_rfl) (fun _ _ _ h => h) (Or.inl ⟨by rfl, ?hy45⟩) hHeld ?rest45
              case hy45 => (intro wz hSw; (try dsimp only at hSw); go_simp; (try with_reducible rfl))
              (try simp only [Act.put, List.getElem_toArray, List.getElem_cons_succ, List.getElem_cons_zero]); (try simp only [List.setIfInBounds_toArray]); (try simp only [List.set_cons_succ]); (try simp only [List.set_cons_zero])
              refine wpAnyH_take (i := 24) (v := ?v46) rfl (by kernel_rfl) (by kernel_rfl) (by kernel_rfl) (fun _ _ _ h => h) (Or.inl ⟨by rfl, ?hy46⟩) hHeld ?rest46
              case hy46 => (intro wz hSw; (try dsimp only at hSw); go_simp; (try with_reducible rfl))
              (try simp only [Act.put, List.getElem_toArray, List.getElem_cons_succ, List.getElem_cons_zero]); (try simp only [List.setIfInBounds_toArray]); (try simp only [List.set_cons_succ]); (try simp only [List.set_cons_zero])
              refine wpAnyH_done (by kernel_rfl) ?_ _
              have HEE := Lib.hid (EW.out.trans (And.left hHeld))
              clear hHeld hE lba ba0 ba1 ba2 lbm bm0 bm1 bm2 bm3
              go_wp2
              go_ret
              exact ⟨ret_bool HFF.out.symm, HEE.out⟩
            have hb3 : ((t1 + t2) % P != 0) = false := by simpa using hs
            have HJJ : Hid ((j = i → t1 = 0) ∧ (t1 + t2) % P = 0) := ⟨fun h => ht, hs⟩
            clear HJ hs ht hji
            go_wp2_with fail
            refine wp_region_held_drew (S := (fun w' => Ext wr w' ∧ (∀ b o, b < wr.heap.size → w'.cell? ⟨b, o, none⟩ = wr.cell? ⟨b, o, none⟩))) (by kernel_rfl) (ext2 (Ext.refl _).drew) (fun hHeld => ?_)
            refine wpAnyH_take (i := 0) (v := ?v47) rfl (by kernel_rfl) (by kernel_rfl) (by kernel_rfl) (fun _ _ _ h => h) (Or.inl ⟨by rfl, ?hy47⟩) hHeld ?rest47
            case hy47 => (intro wz hSw; (try dsimp only at hSw); go_simp; (try with_reducible rfl))
            (try simp only [Act.put, List.getElem_toArray, List.getElem_cons_succ, List.getElem_cons_zero]); (try simp only [List.setIfInBounds_toArray]); (try simp only [List.set_cons_succ]); (try simp only [List.set_cons_zero])
            refine wpAnyH_take (i := 1) (v := ?v48) rfl (by kernel_rfl) (by kernel_rfl) (by kernel_rfl) (fun _ _ _ h => h) (Or.inl ⟨by rfl, ?hy48⟩) hHeld ?rest48
            case hy48 => (intro wz hSw; (try dsimp only at hSw); go_simp; (try with_reducible rfl))
            (try simp only [Act.put, List.getElem_toArray, List.getElem_cons_succ, List.getElem_cons_zero]); (try simp only [List.setIfInBounds_toArray]); (try simp only [List.set_cons_succ]); (try simp only [List.set_cons_zero])
            refine wpAnyH_take (i := 2) (v := ?v49) rfl (by kernel_rfl) (by kernel_rfl) (by kernel_rfl) (fun _ _ _ h => h) (Or.inl ⟨by rfl, ?hy49⟩) hHeld ?rest49
            case hy49 => (intro wz hSw; (try dsimp only at hSw); go_simp; (try with_reducible rfl))
            (try simp only [Act.put, List.getElem_toArray, List.getElem_cons_succ, List.getElem_cons_zero]); (try simp only [List.setIfInBounds_toArray]); (try simp only [List.set_cons_succ]); (try simp only [List.set_cons_zero])
            refine wpAnyH_take (i := 3) (v := ?v50) rfl (by kernel_rfl) (by kernel_rfl) (by kernel_rfl) (fun _ _ _ h => h) (Or.inl ⟨by rfl, ?hy50⟩) hHeld ?rest50
            case hy50 => (intro wz hSw; (try dsimp only at hSw); go_simp; (try with_reducible rfl))
            (try simp only [Act.put, List.getElem_toArray, List.getElem_cons_succ, List.getElem_cons_zero]); (try simp only [List.setIfInBounds_toArray]); (try simp only [List.set_cons_succ]); (try simp only [List.set_cons_zero])
            refine wpAnyH_take (i := 4) (v := ?v51) rfl (by kernel_rfl) (by kernel_rfl) (by kernel_rfl) (fun _ _ _ h => h) (Or.inl ⟨by rfl, ?hy51⟩) hHeld ?rest51
            case hy51 => (intro wz hSw; (try dsimp only at hSw); go_simp; (try with_reducible rfl))
            (try simp only [Act.put, List.getElem_toArray, List.getElem_cons_succ, List.getElem_cons_zero]); (try simp only [List.setIfInBounds_toArray]); (try simp only [List.set_cons_succ]); (try simp only [List.set_cons_zero])
            refine wpAnyH_take (i := 5) (v := ?v52) rfl (by kernel_rfl) (by kernel_rfl) (by kernel_rfl) (fun _ _ _ h => h) (Or.inl ⟨by rfl, ?hy52⟩) hHeld ?rest52
            case hy52 => (intro wz hSw; (try dsimp only at hSw); go_simp; (try with_reducible rfl))
            (try simp only [Act.put, List.getElem_toArray, List.getElem_cons_succ, List.getElem_cons_zero]); (try simp only [List.setIfInBounds_toArray]); (try simp only [List.set_cons_succ]); (try simp only [List.set_cons_zero])
            refine wpAnyH_take (i := 6) (v := ?v53) rfl (by kernel_rfl) (by kernel_rfl) (by kernel_rfl) (fun _ _ _ h => h) (Or.inl ⟨by rfl, ?hy53⟩) hHeld ?rest53
            case hy53 => (intro wz hSw; (try dsimp only at hSw); go_simp; (try with_reducible rfl))
            (try simp only [Act.put, List.getElem_toArray, List.getElem_cons_succ, List.getElem_cons_zero]); (try simp only [List.setIfInBounds_toArray]); (try simp only [List.set_cons_succ]); (try simp only [List.set_cons_zero])
            refine wpAnyH_ready (rs := [7]) (by kernel_rfl) (by simp) ?_
            refine AllReadyH.cons rfl (fun K' hK => ?_) AllReadyH.nil
            go_simp
            refine (HC1.out _ (And.left hHeld)).mono ?_
            rintro e w7x ⟨rfl, h7x⟩
            dsimp only
            refine hK.out _ _ (ext2 (Ext.trans (And.left hHeld) h7x)) (fun hHeld => ?_)
            clear hK
            refine wpAnyH_take (i := 8) (v := ?v54) rfl (by kernel_rfl) (by kernel_rfl) (by kernel_rfl) (fun _ _ _ h => h) (Or.inl ⟨by rfl, ?hy54⟩) hHeld ?rest54
            case hy54 => (intro wz hSw; (try dsimp only at hSw); go_simp; (try with_reducible rfl))
            (try simp only [Act.put, List.getElem_toArray, List.getElem_cons_succ, List.getElem_cons_zero]); (try simp only [List.setIfInBounds_toArray]); (try simp only [List.set_cons_succ]); (try simp only [List.set_cons_zero])
            refine wpAnyH_take (i := 9) (v := ?v55) rfl (by kernel_rfl) (by kernel_rfl) (by kernel_rfl) (fun _ _ _ h => h) (Or.inl ⟨by rfl, ?hy55⟩) hHeld ?rest55
            case hy55 => (intro wz hSw; (try dsimp only at hSw); go_simp; (try with_reducible rfl))
            (try simp only [Act.put, List.getElem_toArray, List.getElem_cons_succ, List.getElem_cons_zero]); (try simp only [List.setIfInBounds_toArray]); (try simp only [List.set_cons_succ]); (try simp only [List.set_cons_zero])
            refine wpAnyH_take (i := 10) (v := ?v56) rfl (by kernel_rfl) (by kernel_rfl) (by kernel_rfl) (fun _ _ _ h => h) (Or.inl ⟨by rfl, ?hy56⟩) hHeld ?rest56
            case hy56 => (intro wz hSw; (try dsimp only at hSw); go_simp; (try with_reducible rfl))
            (try simp only [Act.put, List.getElem_toArray, List.getElem_cons_succ, List.getElem_cons_zero]); (try simp only [List.setIfInBounds_toArray]); (try simp only [List.set_cons_succ]); (try simp only [List.set_cons_zero])
            refine wpAnyH_take (i := 11) (v := ?v57) rfl (by kernel_rfl) (by kernel_rfl) (by kernel_rfl) (fun _ _ _ h => h) (Or.inl ⟨by rfl, ?hy57⟩) hHeld ?rest57
            case hy57 => (intro wz hSw; (try dsimp only at hSw); go_simp; (try with_reducible rfl))
            (try simp only [Act.put, List.getElem_toArray, List.getElem_cons_succ, List.getElem_cons_zero]); (try simp only [List.setIfInBounds_toArray]); (try simp only [List.set_cons_succ]); (try simp only [List.set_cons_zero])
            refine wpAnyH_take (i := 12) (v := ?v58) rfl (by kernel_rfl) (by kernel_rfl) (by kernel_rfl) (fun _ _ _ h => h) (Or.inl ⟨by rfl, ?hy58⟩) hHeld ?rest58
            case hy58 => (intro wz hSw; (try dsimp only at hSw); go_simp; (try with_reducible rfl))
            (try simp only [Act.put, List.getElem_toArray, List.getElem_cons_succ, List.getElem_cons_zero]); (try simp only [List.setIfInBounds_toArray]); (try simp only [List.set_cons_succ]); (try simp only [List.set_cons_zero])
            refine wpAnyH_take (i := 13) (v := ?v59) rfl (by kernel_rfl) (by kernel_rfl) (by kernel_rfl) (fun _ _ _ h => h) (Or.inl ⟨by rfl, ?hy59⟩) hHeld ?rest59
            case hy59 => (intro wz hSw; (try dsimp only at hSw); go_simp; (try with_reducible rfl))
            (try simp only [Act.put, List.getElem_toArray, List.getElem_cons_succ, List.getElem_cons_zero]); (try simp only [List.setIfInBounds_toArray]); (try simp only [List.set_cons_succ]); (try simp only [List.set_cons_zero])
            refine wpAnyH_take (i := 15) (v := ?v60) rfl (by kernel_rfl) (by kernel_rfl) (by kernel_rfl) (fun _ _ _ h => h) (Or.inl ⟨by rfl, ?hy60⟩) hHeld ?rest60
            case hy60 => (intro wz hSw; (try dsimp only at hSw); go_simp; (try with_reducible rfl))
            (try simp only [Act.put, List.getElem_toArray, List.getElem_cons_succ, List.getElem_cons_zero]); (try simp only [List.setIfInBounds_toArray]); (try simp only [List.set_cons_succ]); (try simp only [List.set_cons_zero])
            refine wpAnyH_take (i := 16) (v := ?v61) rfl (by kernel_rfl) (by kernel_rfl) (by kernel_rfl) (fun _ _ _ h => h) (Or.inl ⟨by rfl, ?hy61⟩) hHeld ?rest61
            case hy61 => (intro wz hSw; (try dsimp only at hSw); go_simp; (try with_reducible rfl))
            (try simp only [Act.put, List.getElem_toArray, List.getElem_cons_succ, List.getElem_cons_zero]); (try simp only [List.setIfInBounds_toArray]); (try simp only [List.set_cons_succ]); (try simp only [List.set_cons_zero])
            refine wpAnyH_take (i := 17) (v := ?v62) rfl (by kernel_rfl) (by kernel_rfl) (by kernel_rfl) (fun _ _ _ h => h) (Or.inl ⟨by rfl, ?hy62⟩) hHeld ?rest62
            case hy62 => (intro wz hSw; (try dsimp only at hSw); go_simp; (try with_reducible rfl))
            (try simp only [Act.put, List.getElem_toArray, List.getElem_cons_succ, List.getElem_cons_zero]); (try simp only [List.setIfInBounds_toArray]); (try simp only [List.set_cons_succ]); (try simp only [List.set_cons_zero])
            refine wpAnyH_take (i := 20) (v := ?v63) rfl (by kernel_rfl) (by kernel_rfl) (by kernel_rfl) (fun _ _ _ h => h) (Or.inl ⟨by rfl, ?hy63⟩) hHeld ?rest63
            case hy63 => (intro wz hSw; (try dsimp only at hSw); go_simp; (try with_reducible rfl))
            (try simp only [Act.put, List.getElem_toArray, List.getElem_cons_succ, List.getElem_cons_zero]); (try simp only [List.setIfInBounds_toArray]); (try simp only [List.set_cons_succ]); (try simp only [List.set_cons_zero])
            refine wpAnyH_take (i := 21) (v := ?v64) rfl (by kernel_rfl) (by kernel_rfl) (by kernel_rfl) (fun _ _ _ h => h) (Or.inl ⟨by rfl, ?hy64⟩) hHeld ?rest64
            case hy64 => (intro wz hSw; (try dsimp only at hSw); go_simp; (try with_reducible rfl))
            (try simp only [Act.put, List.getElem_toArray, List.getElem_cons_succ, List.getElem_cons_zero]); (try simp only [List.setIfInBounds_toArray]); (try simp only [List.set_cons_succ]); (try simp only [List.set_cons_zero])
            refine wpAnyH_ready (rs := [14]) (by kernel_rfl) (by simp) ?_
            refine AllReadyH.cons rfl (fun K' hK => ?_) AllReadyH.nil
            go_simp
            refine (HC1.out _ (And.left hHeld)).mono ?_
            rintro e w6x ⟨rfl, h6x⟩
            dsimp only
            refine hK.out _ _ (ext2 (Ext.trans (And.left hHeld) h6x)) (fun hHeld => ?_)
            clear hK
            refine wpAnyH_ready (rs := [18]) (by kernel_rfl) (by simp) ?_
            refine AllReadyH.cons rfl (fun K' hK => ?_) AllReadyH.nil
            go_simp
            refine (HC2.out _ (And.left hHeld)).mono ?_
            rintro e w5x ⟨rfl, h5x⟩
            dsimp only
            refine hK.out _ _ (ext2 (Ext.trans (And.left hHeld) h5x)) (fun hHeld => ?_)
            clear hK
            refine wpAnyH_take (i := 19) (v := ?v65) rfl (by kernel_rfl) (by kernel_rfl) (by kernel_rfl) (fun _ _ _ h => h) (Or.inl ⟨by rfl, ?hy65⟩) hHeld ?rest65
            case hy65 => (intro wz hSw; (try dsimp only at hSw); go_simp; (try with_reducible rfl))
            (try simp only [Act.put, List.getElem_toArray, List.getElem_cons_succ, List.getElem_cons_zero]); (try simp only [List.setIfInBounds_toArray]); (try simp only [List.set_cons_succ]); (try simp only [List.set_cons_zero])
            refine wpAnyH_take (i := 22) (v := ?v66) rfl (by kernel_rfl) (by kernel_rfl) (by kernel_rfl) (fun _ _ _ h => h) (Or.inl ⟨by rfl, ?hy66⟩) hHeld ?rest66
            case hy66 => (intro wz hSw; (try dsimp only at hSw); go_simp; (try with_reducible rfl))
            (try simp only [Act.put, List.getElem_toArray, List.getElem_cons_succ, List.getElem_cons_zero]); (try simp only [List.setIfInBounds_toArray]); (try simp only [List.set_cons_succ]); (try simp only [List.set_cons_zero])
            refine wpAnyH_take (i := 23) (v := ?v67) rfl (by kernel_rfl) (by kernel_rfl) (by kernel_rfl) (fun _ _ _ h => h) (Or.inl ⟨by rfl, ?hy67⟩) hHeld ?rest67
            case hy67 => (intro wz hSw; (try dsimp only at hSw); go_simp; (try with_reducible rfl))
            (try simp only [Act.put, List.getElem_toArray, List.getElem_cons_succ, List.getElem_cons_zero]); (try simp only [List.setIfInBounds_toArray]); (try simp only [List.set_cons_succ]); (try simp only [List.set_cons_zero])
            refine wpAnyH_take (i := 24) (v := ?v68) rfl (by kernel_rfl) (by kernel_rfl) (by kernel_rfl) (fun _ _ _ h => h) (Or.inl ⟨by rfl, ?hy68⟩) hHeld ?rest68
            case hy68 => (intro wz hSw; (try dsimp only at hSw); go_simp; (try with_reducible rfl))
            (try simp only [Act.put, List.getElem_toArray, List.getElem_cons_succ, List.getElem_cons_zero]); (try simp only [List.setIfInBounds_toArray]); (try simp only [List.set_cons_succ]); (try simp only [List.set_cons_zero])
            refine wpAnyH_done (by kernel_rfl) ?_ _
            have HEE := Lib.hid (hE.out.trans (And.left hHeld))
            clear hHeld hE lba ba0 ba1 ba2 lbm bm0 bm1 bm2 bm3
            go_wp2
            exact ⟨⟨j + 1, by omega, by simp, HEE, HKK.out HJJ.out⟩, by simp [intOf]; omega⟩
          · have hb1 : ((i : Int) == (j : Int)) = false := by simp; omega
            by_cases hs : (t1 + t2) % P = 0
            case neg =>
              have hb3 : ((t1 + t2) % P != 0) = true := by simpa using hs
              have HFF : Hid (q = false) := HJ.out (fun h => hs h.2)
              clear HJ HKK hs hji
              go_wp2_with fail
              refine wp_region_held_drew (S := (fun w' => Ext wr w' ∧ (∀ b o, b < wr.heap.size → w'.cell? ⟨b, o, none⟩ = wr.cell? ⟨b, o, none⟩))) (by kernel_rfl) (ext2 (Ext.refl _).drew) (fun hHeld => ?_)
              refine wpAnyH_take (i := 0) (v := ?v69) rfl (by kernel_rfl) (by kernel_rfl) (by kernel_rfl) (fun _ _ _ h => h) (Or.inl ⟨by rfl, ?hy69⟩) hHeld ?rest69
              case hy69 => (intro wz hSw; (try dsimp only at hSw); go_simp; (try with_reducible rfl))
              (try simp only [Act.put, List.getElem_toArray, List.getElem_cons_succ, List.getElem_cons_zero]); (try simp only [List.setIfInBounds_toArray]); (try simp only [List.set_cons_succ]); (try simp only [List.set_cons_zero])
              refine wpAnyH_take (i := 1) (v := ?v70) rfl (by kernel_rfl) (by kernel_rfl) (by kernel_rfl) (fun _ _ _ h => h) (Or.inl ⟨by rfl, ?hy70⟩) hHeld ?rest70
              case hy70 => (intro wz hSw; (try dsimp only at hSw); go_simp; (try with_reducible rfl))
              (try simp only [Act.put, List.getElem_toArray, List.getElem_cons_succ, List.getElem_cons_zero]); (try simp only [List.setIfInBounds_toArray]); (try simp only [List.set_cons_succ]); (try simp only [List.set_cons_zero])
              refine wpAnyH_take (i := 2) (v := ?v71) rfl (by kernel_rfl) (by kernel_rfl) (by kernel_rfl) (fun _ _ _ h => h) (Or.inl ⟨by rfl, ?hy71⟩) hHeld ?rest71
              case hy71 => (intro wz hSw; (try dsimp only at hSw); go_simp; (try with_reducible rfl))
              (try simp only [Act.put, List.getElem_toArray, List.getElem_cons_succ, List.getElem_cons_zero]); (try simp only [List.setIfInBounds_toArray]); (try simp only [List.set_cons_succ]); (try simp only [List.set_cons_zero])
              refine wpAnyH_take (i := 3) (v := ?v72) rfl (by kernel_rfl) (by kernel_rfl) (by kernel_rfl) (fun _ _ _ h => h) (Or.inl ⟨by rfl, ?hy72⟩) hHeld ?rest72
              case hy72 => (intro wz hSw; (try dsimp only at hSw); go_simp; (try with_reducible rfl))
              (try simp only [Act.put, List.getElem_toArray, List.getElem_cons_succ, List.getElem_cons_zero]); (try simp only [List.setIfInBounds_toArray]); (try simp only [List.set_cons_succ]); (try simp only [List.set_cons_zero])
              refine wpAnyH_take (i := 4) (v := undef) rfl (by kernel_rfl) (by kernel_rfl) (by kernel_rfl) (fun _ _ _ h => h) (Or.inr ⟨by rfl, rfl⟩) hHeld ?rest73
              (try simp only [Act.put, List.getElem_toArray, List.getElem_cons_succ, List.getElem_cons_zero]); (try simp only [List.setIfInBounds_toArray]); (try simp only [List.set_cons_succ]); (try simp only [List.set_cons_zero])
              refine wpAnyH_take (i := 5) (v := undef) rfl (by kernel_rfl) (by kernel_rfl) (by kernel_rfl) (fun _ _ _ h => h) (Or.inr ⟨by rfl, rfl⟩) hHeld ?rest74
              (try simp only [Act.put, List.getElem_toArray, List.getElem_cons_succ, List.getElem_cons_zero]); (try simp only [List.setIfInBounds_toArray]); (try simp only [List.set_cons_succ]); (try simp only [List.set_cons_zero])
              refine wpAnyH_take (i := 6) (v := undef) rfl (by kernel_rfl) (by kernel_rfl) (by kernel_rfl) (fun _ _ _ h => h) (Or.inr ⟨by rfl, rfl⟩) hHeld ?rest75
              (try simp only [Act.put, List.getElem_toArray, List.getElem_cons_succ, List.getElem_cons_zero]); (try simp only [List.setIfInBounds_toArray]); (try simp only [List.set_cons_succ]); (try simp only [List.set_cons_zero])
              refine wpAnyH_take (i := 7) (v := undef) rfl (by kernel_rfl) (by kernel_rfl) (by kernel_rfl) (fun _ _ _ h => h) (Or.inr ⟨by rfl, rfl⟩) hHeld ?rest76
              (try simp only [Act.put, List.getElem_toArray, List.getElem_cons_succ, List.getElem_cons_zero]); (try simp only [List.setIfInBounds_toArray]); (try simp only [List.set_cons_succ]); (try simp only [List.set_cons_zero])
              refine wpAnyH_take (i := 8) (v := undef) rfl (by kernel_rfl) (by kernel_rfl) (by kernel_rfl) (fun _ _ _ h => h) (Or.inr ⟨by rfl, rfl⟩) hHeld ?rest77
              (try simp only [Act.put, List.getElem_toArray, List.getElem_cons_succ, List.getElem_cons_zero]); (try simp only [List.setIfInBounds_toArray]); (try simp only [List.set_cons_succ]); (try simp only [List.set_cons_zero])
              refine wpAnyH_take (i := 9) (v := ?v78) rfl (by kernel_rfl) (by kernel_rfl) (by kernel_rfl) (fun _ _ _ h => h) (Or.inl ⟨by rfl, ?hy78⟩) hHeld ?rest78
              case hy78 => (intro wz hSw; (try dsimp only at hSw); go_simp; (try with_reducible rfl))
              (try simp only [Act.put, List.getElem_toArray, List.getElem_cons_succ, List.getElem_cons_zero]); (try simp only [List.setIfInBounds_toArray]); (try simp only [List.set_cons_succ]); (try simp only [List.set_cons_zero])
              refine wpAnyH_take (i := 10) (v := ?v79) rfl (by kernel_rfl) (by kernel_rfl) (by kernel_rfl) (fun _ _ _ h => h) (Or.inl ⟨by rfl, ?hy79⟩) hHeld ?rest79
              case hy79 => (intro wz hSw; (try dsimp only at hSw); go_simp; (try with_reducible rfl))
              (try simp only [Act.put, List.getElem_toArray, List.getElem_cons_succ, List.getElem_cons_zero]); (try simp only [List.setIfInBounds_toArray]); (try simp only [List.set_cons_succ]); (try simp only [List.set_cons_zero])
              refine wpAnyH_take (i := 11) (v := ?v80) rfl (by kernel_rfl) (by kernel_rfl) (by kernel_rfl) (fun _ _ _ h => h) (Or.inl ⟨by rfl, ?hy80⟩) hHeld ?rest80
              case hy80 => (intro wz hSw; (try dsimp only at hSw); go_simp; (try with_reducible rfl))
              (try simp only [Act.put, List.getElem_toArray, List.getElem_cons_succ, List.getElem_cons_zero]); (try simp only [List.setIfInBounds_toArray]); (try simp only [List.set_cons_succ]); (try simp only [List.set_cons_zero])
              refine wpAnyH_take (i := 12) (v := ?v81) rfl (by kernel_rfl) (by kernel_rfl) (by kernel_rfl) (fun _ _ _ h => h) (Or.inl ⟨by rfl, ?hy81⟩) hHeld ?rest81
              case hy81 => (intro wz hSw; (try dsimp only at hSw); go_simp; (try with_reducible rfl))
              (try simp only [Act.put, List.getElem_toArray, List.getElem_cons_succ, List.getElem_cons_zero]); (try simp only [List.setIfInBounds_toArray]); (try simp only [List.set_cons_succ]); (try simp only [List.set_cons_zero])
              refine wpAnyH_take (i := 13) (v := ?v82) rfl (by kernel_rfl) (by kernel_rfl) (by kernel_rfl) (fun _ _ _ h => h) (Or.inl ⟨by rfl, ?hy82⟩) hHeld ?rest82
              case hy82 => (intro wz hSw; (try dsimp only at hSw); go_simp; (try with_reducible rfl))
              (try simp only [Act.put, List.getElem_toArray, List.getElem_cons_succ, List.getElem_cons_zero]); (try simp only [List.setIfInBounds_toArray]); (try simp only [List.set_cons_succ]); (try simp only [List.set_cons_zero])
              refine wpAnyH_take (i := 15) (v := ?v83) rfl (by kernel_rfl) (by kernel_rfl) (by kernel_rfl) (fun _ _ _ h => h) (Or.inl ⟨by rfl, ?hy83⟩) hHeld ?rest83
              case hy83 => (intro wz hSw; (try dsimp only at hSw); go_simp; (try with_reducible rfl))
              (try simp only [Act.put, List.getElem_toArray, List.getElem_cons_succ, List.getElem_cons_zero]); (try simp only [List.setIfInBounds_toArray]); (try simp only [List.set_cons_succ]); (try simp only [List.set_cons_zero])
              refine wpAnyH_take (i := 16) (v := ?v84) rfl (by kernel_rfl) (by kernel_rfl) (by kernel_rfl) (fun _ _ _ h => h) (Or.inl ⟨by rfl, ?hy84⟩) hHeld ?rest84
              case hy84 => (intro wz hSw; (try dsimp only at hSw); go_simp; (try with_reducible rfl))
              (try simp only [Act.put, List.getElem_toArray, List.getElem_cons_succ, List.getElem_cons_zero]); (try simp only [List.setIfInBounds_toArray]); (try simp only [List.set_cons_succ]); (try simp only [List.set_cons_zero])
              refine wpAnyH_take (i := 17) (v := ?v85) rfl (by kernel_rfl) (by kernel_rfl) (by kernel_rfl) (fun _ _ _ h => h) (Or.inl ⟨by rfl, ?hy85⟩) hHeld ?rest85
              case hy85 => (intro wz hSw; (try dsimp only at hSw); go_simp; (try with_reducible rfl))
              (try simp only [Act.put, List.getElem_toArray, List.getElem_cons_succ, List.getElem_cons_zero]); (try simp only [List.setIfInBounds_toArray]); (try simp only [List.set_cons_succ]); (try simp only [List.set_cons_zero])
              refine wpAnyH_take (i := 20) (v := ?v86) rfl (by kernel_rfl) (by kernel_rfl) (by kernel_rfl) (fun _ _ _ h => h) (Or.inl ⟨by rfl, ?hy86⟩) hHeld ?rest86
              case hy86 => (intro wz hSw; (try dsimp only at hSw); go_simp; (try with_reducible rfl))
              (try simp only [Act.put, List.getElem_toArray, List.getElem_cons_succ, List.getElem_cons_zero]); (try simp only [List.setIfInBounds_toArray]); (try simp only [List.set_cons_succ]); (try simp only [List.set_cons_zero])
              refine wpAnyH_take (i := 21) (v := ?v87) rfl (by kernel_rfl) (by kernel_rfl) (by kernel_rfl) (fun _ _ _ h => h) (Or.inl ⟨by rfl, ?hy87⟩) hHeld ?rest87
              case hy87 => (intro wz hSw; (try dsimp only at hSw); go_simp; (try with_reducible rfl))
              (try simp only [Act.put, List.getElem_toArray, List.getElem_cons_succ, List.getElem_cons_zero]); (try simp only [List.setIfInBounds_toArray]); (try simp only [List.set_cons_succ]); (try simp only [List.set_cons_zero])
              refine wpAnyH_ready (rs := [14]) (by kernel_rfl) (by simp) ?_
              refine AllReadyH.cons rfl (fun K' hK => ?_) AllReadyH.nil
              go_simp
              refine (HC1.out _ (And.left hHeld)).mono ?_
              rintro e w9x ⟨rfl, h9x⟩
              dsimp only
              refine hK.out _ _ (ext2 (Ext.trans (And.left hHeld) h9x)) (fun hHeld => ?_)
              clear hK
              refine wpAnyH_ready (rs := [18]) (by kernel_rfl) (by simp) ?_
              refine AllReadyH.cons rfl (fun K' hK => ?_) AllReadyH.nil
              go_simp
              refine (HC2.out _ (And.left hHeld)).mono ?_
              rintro e w8x ⟨rfl, h8x⟩
              dsimp only
              refine hK.out _ _ (ext2 (Ext.trans (And.left hHeld) h8x)) (fun hHeld => ?_)
              clear hK
              refine wpAnyH_take (i := 19) (v := ?v88) rfl (by kernel_rfl) (by kernel_rfl) (by kernel_rfl) (fun _ _ _ h => h) (Or.inl ⟨by rfl, ?hy88⟩) hHeld ?rest88
              case hy88 => (intro wz hSw; (try dsimp only at hSw); go_simp; (try with_reducible rfl))
              (try simp only [Act.put, List.getElem_toArray, List.getElem_cons_succ, List.getElem_cons_zero]); (try simp only [List.setIfInBounds_toArray]); (try simp only [List.set_cons_succ]); (try simp only [List.set_cons_zero])
              refine wpAnyH_take (i := 22) (v := ?v89) rfl (by kernel_rfl) (by kernel_rfl) (by kernel_rfl) (fun _ _ _ h => h) (Or.inl ⟨by rfl, ?hy89⟩) hHeld ?rest89
              case hy89 => (intro wz hSw; (try dsimp only at hSw); go_simp; (try with_reducible rfl))
              (try simp only [Act.put, List.getElem_toArray, List.getElem_cons_succ, List.getElem_cons_zero]); (try simp only [List.setIfInBounds_toArray]); (try simp only [List.set_cons_succ]); (try simp only [List.set_cons_zero])
              refine wpAnyH_take (i := 23) (v := ?v90) rfl (by kernel_rfl) (by kernel_rfl) (by kernel_rfl) (fun _ _ _ h => h) (Or.inl ⟨by rfl, ?hy90⟩) hHeld ?rest90
              case hy90 => (intro wz hSw; (try dsimp only at hSw); go_simp; (try with_reducible rfl))
              (try simp only [Act.put, List.getElem_toArray, List.getElem_cons_succ, List.getElem_cons_zero]); (try simp only [List.setIfInBounds_toArray]); (try simp only [List.set_cons_succ]); (try simp only [List.set_cons_zero])
              refine wpAnyH_take (i := 24) (v := ?v91) rfl (by kernel_rfl) (by kernel_rfl) (by kernel_rfl) (fun _ _ _ h => h) (Or.inl ⟨by rfl, ?hy91⟩) hHeld ?rest91
              case hy91 => (intro wz hSw; (try dsimp only at hSw); go_simp; (try with_reducible rfl))
              (try simp only [Act.put, List.getElem_toArray, List.getElem_cons_succ, List.getElem_cons_zero]); (try simp only [List.setIfInBounds_toArray]); (try simp only [List.set_cons_succ]); (try simp only [List.set_cons_zero])
              refine wpAnyH_done (by kernel_rfl) ?_ _
              have HEE := Lib.hid (EW.out.trans (And.left hHeld))
              clear hHeld hE lba ba0 ba1 ba2 lbm bm0 bm1 bm2 bm3
              go_wp2
              go_ret
              exact ⟨ret_bool HFF.out.symm, HEE.out⟩
            have hb3 : ((t1 + t2) % P != 0) = false := by simpa using hs
            have HJJ : Hid ((j = i → t1 = 0) ∧ (t1 + t2) % P = 0) := ⟨fun h => absurd h hji, hs⟩
            clear HJ hs hji
            go_wp2_with fail
            refine wp_region_held_drew (S := (fun w' => Ext wr w' ∧ (∀ b o, b < wr.heap.size → w'.cell? ⟨b, o, none⟩ = wr.cell? ⟨b, o, none⟩))) (by kernel_rfl) (ext2 (Ext.refl _).drew) (fun hHeld => ?_)
            refine wpAnyH_take (i := 0) (v := ?v92) rfl (by kernel_rfl) (by kernel_rfl) (by kernel_rfl) (fun _ _ _ h => h) (Or.inl ⟨by rfl, ?hy92⟩) hHeld ?rest92
            case hy92 => (intro wz hSw; (try dsimp only at hSw); go_simp; (try with_reducible rfl))
            (try simp only [Act.put, List.getElem_toArray, List.getElem_cons_succ, List.getElem_cons_zero]); (try simp only [List.setIfInBounds_toArray]); (try simp only [List.set_cons_succ]); (try simp only [List.set_cons_zero])
            refine wpAnyH_take (i := 1) (v := ?v93) rfl (by kernel_rfl) (by kernel_rfl) (by kernel_rfl) (fun _ _ _ h => h) (Or.inl ⟨by rfl, ?hy93⟩) hHeld ?rest93
            case hy93 => (intro wz hSw; (try dsimp only at hSw); go_simp; (try with_reducible rfl))
            (try simp only [Act.put, List.getElem_toArray, List.getElem_cons_succ, List.getElem_cons_zero]); (try simp only [List.setIfInBounds_toArray]); (try simp only [List.set_cons_succ]); (try simp only [List.set_cons_zero])
            refine wpAnyH_take (i := 2) (v := ?v94) rfl (by kernel_rfl) (by kernel_rfl) (by kernel_rfl) (fun _ _ _ h => h) (Or.inl ⟨by rfl, ?hy94⟩) hHeld ?rest94
            case hy94 => (intro wz hSw; (try dsimp only at hSw); go_simp; (try with_reducible rfl))
            (try simp only [Act.put, List.getElem_toArray, List.getElem_cons_succ, List.getElem_cons_zero]); (try simp only [List.setIfInBounds_toArray]); (try simp only [List.set_cons_succ]); (try simp only [List.set_cons_zero])
            refine wpAnyH_take (i := 3) (v := ?v95) rfl (by kernel_rfl) (by kernel_rfl) (by kernel_rfl) (fun _ _ _ h => h) (Or.inl ⟨by rfl, ?hy95⟩) hHeld ?rest95
            case hy95 => (intro wz hSw; (try dsimp only at hSw); go_simp; (try with_reducible rfl))
            (try simp only [Act.put, List.getElem_toArray, List.getElem_cons_succ, List.getElem_cons_zero]); (try simp only [List.setIfInBounds_toArray]); (try simp only [List.set_cons_succ]); (try simp only [List.set_cons_zero])
            refine wpAnyH_take (i := 4) (v := undef) rfl (by kernel_rfl) (by kernel_rfl) (by kernel_rfl) (fun _ _ _ h => h) (Or.inr ⟨by rfl, rfl⟩) hHeld ?rest96
            (try simp only [Act.put, List.getElem_toArray, List.getElem_cons_succ, List.getElem_cons_zero]); (try simp only [List.setIfInBounds_toArray]); (try simp only [List.set_cons_succ]); (try simp only [List.set_cons_zero])
            refine wpAnyH_take (i := 5) (v := undef) rfl (by kernel_rfl) (by kernel_rfl) (by kernel_rfl) (fun _ _ _ h => h) (Or.inr ⟨by rfl, rfl⟩) hHeld ?rest97
            (try simp only [Act.put, List.getElem_toArray, List.getElem_cons_succ, List.getElem_cons_zero]); (try simp only [List.setIfInBounds_toArray]); (try simp only [List.set_cons_succ]); (try simp only [List.set_cons_zero])
            refine wpAnyH_take (i := 6) (v := undef) rfl (by kernel_rfl) (by kernel_rfl) (by kernel_rfl) (fun _ _ _ h => h) (Or.inr ⟨by rfl, rfl⟩) hHeld ?rest98
            (try simp only [Act.put, List.getElem_toArray, List.getElem_cons_succ, List.getElem_cons_zero]); (try simp only [List.setIfInBounds_toArray]); (try simp only [List.set_cons_succ]); (try simp only [List.set_cons_zero])
            refine wpAnyH_take (i := 7) (v := undef) rfl (by kernel_rfl) (by kernel_rfl) (by kernel_rfl) (fun _ _ _ h => h) (Or.inr ⟨by rfl, rfl⟩) hHeld ?rest99
            (try simp only [Act.put, List.getElem_toArray, List.getElem_cons_succ, List.getElem_cons_zero]); (try simp only [List.setIfInBounds_toArray]); (try simp only [List.set_cons_succ]); (try simp only [List.set_cons_zero])
            refine wpAnyH_take (i := 8) (v := undef) rfl (by kernel_rfl) (by kernel_rfl) (by kernel_rfl) (fun _ _ _ h => h) (Or.inr ⟨by rfl, rfl⟩) hHeld ?rest100
            (try simp only [Act.put, List.getElem_toArray, List.getElem_cons_succ, List.getElem_cons_zero]); (try simp only [List.setIfInBounds_toArray]); (try simp only [List.set_cons_succ]); (try simp only [List.set_cons_zero])
            refine wpAnyH_take (i := 9) (v := ?v101) rfl (by kernel_rfl) (by kernel_rfl) (by kernel_rfl) (fun _ _ _ h => h) (Or.inl ⟨by rfl, ?hy101⟩) hHeld ?rest101
            case hy101 => (intro wz hSw; (try dsimp only at hSw); go_simp; (try with_reducible rfl))
            (try simp only [Act.put, List.getElem_toArray, List.getElem_cons_succ, List.getElem_cons_zero]); (try simp only [List.setIfInBounds_toArray]); (try simp only [List.set_cons_succ]); (try simp only [List.set_cons_zero])
            refine wpAnyH_take (i := 10) (v := ?v102) rfl (by kernel_rfl) (by kernel_rfl) (by kernel_rfl) (fun _ _ _ h => h) (Or.inl ⟨by rfl, ?hy102⟩) hHeld ?rest102
            case hy102 => (intro wz hSw; (try dsimp only at hSw); go_simp; (try with_reducible rfl))
            (try simp only [Act.put, List.getElem_toArray, List.getElem_cons_succ, List.getElem_cons_zero]); (try simp only [List.setIfInBounds_toArray]); (try simp only [List.set_cons_succ]); (try simp only [List.set_cons_zero])
            refine wpAnyH_take (i := 11) (v := ?v103) rfl (by kernel_rfl) (by kernel_rfl) (by kernel_rfl) (fun _ _ _ h => h) (Or.inl ⟨by rfl, ?hy103⟩) hHeld ?rest103
            case hy103 => (intro wz hSw; (try dsimp only at hSw); go_simp; (try with_reducible rfl))
            (try simp only [Act.put, List.getElem_toArray, List.getElem_cons_succ, List.getElem_cons_zero]); (try simp only [List.setIfInBounds_toArray]); (try simp only [List.set_cons_succ]); (try simp only [List.set_cons_zero])
            refine wpAnyH_take (i := 12) (v := ?v104) rfl (by kernel_rfl) (by kernel_rfl) (by kernel_rfl) (fun _ _ _ h => h) (Or.inl ⟨by rfl, ?hy104⟩) hHeld ?rest104
            case hy104 => (intro wz hSw; (try dsimp only at hSw); go_simp; (try with_reducible rfl))
            (try simp only [Act.put, List.getElem_toArray, List.getElem_cons_succ, List.getElem_cons_zero]); (try simp only [List.setIfInBounds_toArray]); (try simp only [List.set_cons_succ]); (try simp only [List.set_cons_zero])
            refine wpAnyH_take (i := 13) (v := ?v105) rfl (by kernel_rfl) (by kernel_rfl) (by kernel_rfl) (fun _ _ _ h => h) (Or.inl ⟨by rfl, ?hy105⟩) hHeld ?rest105
            case hy105 => (intro wz hSw; (try dsimp only at hSw); go_simp; (try with_reducible rfl))
            (try simp only [Act.put, List.getElem_toArray, List.getElem_cons_succ, List.getElem_cons_zero]); (try simp only [List.setIfInBounds_toArray]); (try simp only [List.set_cons_succ]); (try simp only [List.set_cons_zero])
            refine wpAnyH_take (i := 15) (v := ?v106) rfl (by kernel_rfl) (by kernel_rfl) (by kernel_rfl) (fun _ _ _ h => h) (Or.inl ⟨by rfl, ?hy106⟩) hHeld ?rest106
            case hy106 => (intro wz hSw; (try dsimp only at hSw); go_simp; (try with_reducible rfl))
            (try simp only [Act.put, List.getElem_toArray, List.getElem_cons_succ, List.getElem_cons_zero]); (try simp only [List.setIfInBounds_toArray]); (try simp only [List.set_cons_succ]); (try simp only [List.set_cons_zero])
            refine wpAnyH_take (i := 16) (v := ?v107) rfl (by kernel_rfl) (by kernel_rfl) (by kernel_rfl) (fun _ _ _ h => h) (Or.inl ⟨by rfl, ?hy107⟩) hHeld ?rest107
            case hy107 => (intro wz hSw; (try dsimp only at hSw); go_simp; (try with_reducible rfl))
            (try simp only [Act.put, List.getElem_toArray, List.getElem_cons_succ, List.getElem_cons_zero]); (try simp only [List.setIfInBounds_toArray]); (try simp only [List.set_cons_succ]); (try simp only [List.set_cons_zero])
            refine wpAnyH_take (i := 17) (v := ?v108) rfl (by kernel_rfl) (by kernel_rfl) (by kernel_rfl) (fun _ _ _ h => h) (Or.inl ⟨by rfl, ?hy108⟩) hHeld ?rest108
            case hy108 => (intro wz hSw; (try dsimp only at hSw); go_simp; (try with_reducible rfl))
            (try simp only [Act.put, List.getElem_toArray, List.getElem_cons_succ, List.getElem_cons_zero]); (try simp only [List.setIfInBounds_toArray]); (try simp only [List.set_cons_succ]); (try simp only [List.set_cons_zero])
            refine wpAnyH_take (i := 20) (v := ?v109) rfl (by kernel_rfl) (by kernel_rfl) (by kernel_rfl) (fun _ _ _ h => h) (Or.inl ⟨by rfl, ?hy109⟩) hHeld ?rest109
            case hy109 => (intro wz hSw; (try dsimp only at hSw); go_simp; (try with_reducible rfl))
            (try simp only [Act.put, List.getElem_toArray, List.getElem_cons_succ, List.getElem_cons_zero]); (try simp only [List.setIfInBounds_toArray]); (try simp only [List.set_cons_succ]); (try simp only [List.set_cons_zero])
            refine wpAnyH_take (i := 21) (v := ?v110) rfl (by kernel_rfl) (by kernel_rfl) (by kernel_rfl) (fun _ _ _ h => h) (Or.inl ⟨by rfl, ?hy110⟩) hHeld ?rest110
            case hy110 => (intro wz hSw; (try dsimp only at hSw); go_simp; (try with_reducible rfl))
            (try simp only [Act.put, List.getElem_toArray, List.getElem_cons_succ, List.getElem_cons_zero]); (try simp only [List.setIfInBounds_toArray]); (try simp only [List.set_cons_succ]); (try simp only [List.set_cons_zero])
            refine wpAnyH_ready (rs := [14]) (by kernel_rfl) (by simp) ?_
            refine AllReadyH.cons rfl (fun K' hK => ?_) AllReadyH.nil
            go_simp
            refine (HC1.out _ (And.left hHeld)).mono ?_
            rintro e w11x ⟨rfl, h11x⟩
            dsimp only
            refine hK.out _ _ (ext2 (Ext.trans (And.left hHeld) h11x)) (fun hHeld => ?_)
            clear hK
            refine wpAnyH_ready (rs := [18]) (by kernel_rfl) (by simp) ?_
            refine AllReadyH.cons rfl (fun K' hK => ?_) AllReadyH.nil
            go_simp
            refine (HC2.out _ (And.left hHeld)).mono ?_
            rintro e w10x ⟨rfl, h10x⟩
            dsimp only
            refine hK.out _ _ (ext2 (Ext.trans (And.left hHeld) h10x)) (fun hHeld => ?_)
            clear hK
            refine wpAnyH_take (i := 19) (v := ?v111) rfl (by kernel_rfl) (by kernel_rfl) (by kernel_rfl) (fun _ _ _ h => h) (Or.inl ⟨by rfl, ?hy111⟩) hHeld ?rest111
            case hy111 => (intro wz hSw; (try dsimp only at hSw); go_simp; (try with_reducible rfl))
            (try simp only [Act.put, List.getElem_toArray, List.getElem_cons_succ, List.getElem_cons_zero]); (try simp only [List.setIfInBounds_toArray]); (try simp only [List.set_cons_succ]); (try simp only [List.set_cons_zero])
            refine wpAnyH_take (i := 22) (v := ?v112) rfl (by kernel_rfl) (by kernel_rfl) (by kernel_rfl) (fun _ _ _ h => h) (Or.inl ⟨by rfl, ?hy112⟩) hHeld ?rest112
            case hy112 => (intro wz hSw; (try dsimp only at hSw); go_simp; (try with_reducible rfl))
            (try simp only [Act.put, List.getElem_toArray, List.getElem_cons_succ, List.getElem_cons_zero]); (try simp only [List.setIfInBounds_toArray]); (try simp only [List.set_cons_succ]); (try simp only [List.set_cons_zero])
            refine wpAnyH_take (i := 23) (v := ?v113) rfl (by kernel_rfl) (by kernel_rfl) (by kernel_rfl) (fun _ _ _ h => h) (Or.inl ⟨by rfl, ?hy113⟩) hHeld ?rest113
            case hy113 => (intro wz hSw; (try dsimp only at hSw); go_simp; (try with_reducible rfl))
            (try simp only [Act.put, List.getElem_toArray, List.getElem_cons_succ, List.getElem_cons_zero]); (try simp only [List.setIfInBounds_toArray]); (try simp only [List.set_cons_succ]); (try simp only [List.set_cons_zero])
            refine wpAnyH_take (i := 24) (v := ?v114) rfl (by kernel_rfl) (by kernel_rfl) (by kernel_rfl) (fun _ _ _ h => h) (Or.inl ⟨by rfl, ?hy114⟩) hHeld ?rest114
            case hy114 => (intro wz hSw; (try dsimp only at hSw); go_simp; (try with_reducible rfl))
            (try simp only [Act.put, List.getElem_toArray, List.getElem_cons_succ, List.getElem_cons_zero]); (try simp only [List.setIfInBounds_toArray]); (try simp only [List.set_cons_succ]); (try simp only [List.set_cons_zero])
            refine wpAnyH_done (by kernel_rfl) ?_ _
            have HEE := Lib.hid (hE.out.trans (And.left hHeld))
            clear hHeld hE lba ba0 ba1 ba2 lbm bm0 bm1 bm2 bm3
            go_wp2
            exact ⟨⟨j + 1, by omega, by simp, HEE, HKK.out HJJ.out⟩, by simp [intOf]; omega⟩
        · obtain rfl : j = i + 1 := by omega
          have HF9 : Hid (∀ i', i' < i + 1 → ∀ j, j < i' + 1 → AltQ P D fs i' j) := fun i' hi' k9 hk9 => by
            by_cases e : i' = i
            · subst e; exact hG.out k9 hk9
            · exact hF.out i' (by omega) k9 hk9
          clear hF hG
          go_wp2
          exact ⟨⟨i + 1, by omega, by simp, hE, HF9⟩, by simp [intOf]; omega⟩
    · obtain rfl : D = i := by omega
      have HALL := Lib.hid hF.out
      clear hF
      go_wp2_with fail
      go_loopw [8, 9, 10, 11] (fun z _ _ _ wr => ∃ i : Nat, i ≤ D ∧ z = .int .i64 i ∧ Hid (Ext w_4 wr) ∧ Hid (∀ i', i' < i → ∀ j, i' < j → j < D → ∀ k, j < k → k < D → Eqm P (cyN D l fs i' j k) 0)) (fun z _ _ _ _ => D - (intOf z).toNat)
      case atStart => exact ⟨0, by omega, rfl, hE, fun j hj => by omega⟩
      case round =>
        clear hE
        obtain ⟨i, hi, rfl, hE, hF⟩ := hrel
        by_cases hlt1 : i < D
        · have hF0 : Hid (∀ j, i < j → j < i + 1 → ∀ k, j < k → k < D → Eqm P (cyN D l fs i j k) 0) := fun j h1 h2 => by omega
          go_wp2_with fail
          go_loopw [9, 10, 11] (fun z _ _ wr => ∃ j : Nat, i < j ∧ j ≤ D ∧ z = .int .i64 j ∧ Hid (Ext w_4 wr) ∧ Hid (∀ j', i < j' → j' < j → ∀ k, j' < k → k < D → Eqm P (cyN D l fs i j' k) 0)) (fun z _ _ _ => D - (intOf z).toNat)
          case atStart => exact ⟨i + 1, by omega, by omega, by simp, hE, hF0⟩
          case round =>
            clear hE hF0
            obtain ⟨j, hij, hj, rfl, hE, hG⟩ := hrel
            by_cases hlt2 : j < D
            · have hG0 : Hid (∀ k, j < k → k < j + 1 → Eqm P (cyN D l fs i j k) 0) := fun k h1 h2 => by omega
              go_wp2_with fail
              go_loopw [10, 11] (fun z _ wr => ∃ k : Nat, j < k ∧ k ≤ D ∧ z = .int .i64 k ∧ Hid (Ext w_4 wr) ∧ Hid (∀ k', j < k' → k' < k → Eqm P (cyN D l fs i j k') 0)) (fun z _ _ => D - (intOf z).toNat)
              case atStart => exact ⟨j + 1, by omega, by omega, by simp, hE, hG0⟩
              case round =>
                clear hE hG0
                obtain ⟨k, hjk, hk, rfl, hE, hK⟩ := hrel
                by_cases hlt3 : k < D
                · have EW := Lib.hid (E_7.out.trans hE.out)
                  have bac := A0_5.out.ext hE.out
                  have lba := bac.1
                  have ba0 := bac.2 0 _ rfl
                  have ba1 := bac.2 1 _ rfl
                  have ba2 := bac.2 2 _ rfl
                  clear bac
                  have bmc := A1_6.out.ext hE.out
                  have lbm := bmc.1
                  have bm0 := bmc.2 0 _ rfl
                  have bm1 := bmc.2 1 _ rfl
                  have bm2 := bmc.2 2 _ rfl
                  have bm3 := bmc.2 3 _ rfl
                  clear bmc
                  have HL0 := Lib.hid (HLR.out i j hlt1 hlt2)
                  have HP0 := Lib.hid (HPR.out i j k hlt1 hlt2 hlt3)
                  have HL1 := Lib.hid (HLR.out j k hlt2 hlt3)
                  have HP1 := Lib.hid (HPR.out j k i hlt2 hlt3 hlt1)
                  have HL2 := Lib.hid (HLR.out k i hlt3 hlt1)
                  have HP2 := Lib.hid (HPR.out k i j hlt3 hlt1 hlt2)
                  have HCS : Hid (_ ↔ Eqm P (cyN D l fs i j k) 0) := cycS_at
                  have hpz : ¬ P = 0 := by omega
                  have a0' := Int.emod_nonneg (fvN D l fs i j k) hpz
                  have a1' := Int.emod_lt_of_pos (fvN D l fs i j k) (show 0 < P by omega)
                  have a2' := Int.emod_nonneg (fvN D l fs j k i) hpz
                  have a3' := Int.emod_lt_of_pos (fvN D l fs j k i) (show 0 < P by omega)
                  have a4' := Int.emod_nonneg (fvN D l fs k i j) hpz
                  have a5' := Int.emod_lt_of_pos (fvN D l fs k i j) (show 0 < P by omega)
                  generalize fvN D l fs i j k % P = u1 at *
                  generalize fvN D l fs j k i % P = u2 at *
                  generalize fvN D l fs k i j % P = u3 at *
                  have v1 : IntKind.i64.wrap (u1 + u2) = u1 + u2 := IntWalk.i64_in _ ⟨by omega, by omega⟩
                  have v2 : IntKind.i64.wrap (u1 + u2 + u3) = u1 + u2 + u3 := IntWalk.i64_in _ ⟨by omega, by omega⟩
                  have v3 : (u1 + u2 + u3).tmod P = (u1 + u2 + u3) % P := Int.tmod_eq_emod_of_nonneg (by omega)
                  have g0 := Int.emod_nonneg (u1 + u2 + u3) hpz
                  have g1 := Int.emod_lt_of_pos (u1 + u2 + u3) (show 0 < P by omega)
                  have v4 : IntKind.i64.wrap ((u1 + u2 + u3) % P) = (u1 + u2 + u3) % P := IntWalk.i64_in _ ⟨by omega, by omega⟩
                  have p0 : (P == 0) = false := by simp; omega
                  go_wp2_with fail
                  go_region_held3 (fun w' => Ext wr w' ∧ (∀ b o, b < wr.heap.size → w'.cell? ⟨b, o, none⟩ = wr.cell? ⟨b, o, none⟩)) (first | assumption | (with_reducible exact ext2 (Ext.trans (And.left ‹Ext wr _ ∧ _›) ‹Ext _ _›)) | (refine ext2 ?_; with_reducible repeat (first | exact Ext.refl _ | exact And.left ‹Ext wr _ ∧ _› | refine Ext.drew ?_ | refine Ext.drewN ?_ _))) (first
                    | (go_at_call 108; (with_reducible refine (HL0.out _).mono ?_); rintro e w0r ⟨rfl, h0r⟩)
                    | (go_at_call 156; (with_reducible refine (l2Basis_spec D k _ hD hlt3).mono ?_); rintro e w0s ⟨b0s, rfl, k0s, h0s⟩)
                    | (go_at_call 155; (with_reducible refine (HP0.out _ _ _ (EW.out.trans (And.left ‹Ext wr _ ∧ _›)) k0s).mono ?_); rintro e w0p ⟨rfl, h0p⟩)
                    | (go_at_call 108; (with_reducible refine (HL1.out _).mono ?_); rintro e w1r ⟨rfl, h1r⟩)
                    | (go_at_call 156; (with_reducible refine (l2Basis_spec D i _ hD hlt1).mono ?_); rintro e w1s ⟨b1s, rfl, k1s, h1s⟩)
                    | (go_at_call 155; (with_reducible refine (HP1.out _ _ _ (EW.out.trans (And.left ‹Ext wr _ ∧ _›)) k1s).mono ?_); rintro e w1p ⟨rfl, h1p⟩)
                    | (go_at_call 108; (with_reducible refine (HL2.out _).mono ?_); rintro e w2r ⟨rfl, h2r⟩)
                    | (go_at_call 156; (with_reducible refine (l2Basis_spec D j _ hD hlt2).mono ?_); rintro e w2s ⟨b2s, rfl, k2s, h2s⟩)
                    | (go_at_call 155; (with_reducible refine (HP2.out _ _ _ (EW.out.trans (And.left ‹Ext wr _ ∧ _›)) k2s).mono ?_); rintro e w2p ⟨rfl, h2p⟩))
                  have EK := Lib.hid (And.left ‹Ext wr w2p ∧ _›)
                  have E9 := Lib.hid (hE.out.trans EK.out)
                  have E8 := Lib.hid (E_7.out.trans E9.out)
                  clear lba ba0 ba1 ba2 lbm bm0 bm1 bm2 bm3 h0r h0s h0p h1r h1s h1p h2r h2s h2p k0s k1s k2s EW EK hE
                  obtain ⟨wk, hwk⟩ : ∃ wk : World, wk = w2p := ⟨_, rfl⟩
                  subst hwk
                  have bac := A0_5.out.ext E9.out
                  have lba := bac.1
                  have ba0 := bac.2 0 _ rfl
                  have ba1 := bac.2 1 _ rfl
                  have ba2 := bac.2 2 _ rfl
                  clear bac
                  have bmc := A1_6.out.ext E9.out
                  have lbm := bmc.1
                  have bm0 := bmc.2 0 _ rfl
                  have bm1 := bmc.2 1 _ rfl
                  have bm2 := bmc.2 2 _ rfl
                  have bm3 := bmc.2 3 _ rfl
                  clear bmc
                  by_cases hz : (u1 + u2 + u3) % P = 0
                  · have hb : ((u1 + u2 + u3) % P != 0) = false := by simpa using hz
                    have HN9 : Hid (∀ k', j < k' → k' < k + 1 → Eqm P (cyN D l fs i j k') 0) := fun k' h1 h2 => by
                      by_cases e : k' = k
                      · subst e; exact HCS.out.1 hz
                      · exact hK.out k' h1 (by omega)
                    clear hz HCS hK
                    go_wp2
                    exact ⟨⟨k + 1, by omega, by omega, by simp, E9, HN9⟩, by simp [intOf]; omega⟩
                  · have hb : ((u1 + u2 + u3) % P != 0) = true := by simpa using hz
                    have HFF : Hid (q = false) := HQ3.out i hlt1 j hij hlt2 k hjk hlt3 (fun h => hz (HCS.out.2 h))
                    clear hz HCS hK
                    go_wp2
                    go_ret
                    exact ⟨ret_bool HFF.out.symm, E8.out⟩
                · obtain rfl : D = k := by omega
                  have HN9 : Hid (∀ j', i < j' → j' < j + 1 → ∀ k, j' < k → k < D → Eqm P (cyN D l fs i j' k) 0) := fun j' h1 h2 k h3 h4 => by
                    by_cases e : j' = j
                    · subst e; exact hK.out k h3 h4
                    · exact hG.out j' h1 (by omega) k h3 h4
                  clear hK hG
                  go_wp2
                  exact ⟨⟨j + 1, by omega, by omega, by simp, hE, HN9⟩, by simp [intOf]; omega⟩
            · obtain rfl : D = j := by omega
              have HN9 : Hid (∀ i', i' < i + 1 → ∀ j, i' < j → j < D → ∀ k, j < k → k < D → Eqm P (cyN D l fs i' j k) 0) := fun i' h1 j h2 h3 k h4 h5 => by
                by_cases e : i' = i
                · subst e; exact hG.out j h2 h3 k h4 h5
                · exact hF.out i' (by omega) j h2 h3 k h4 h5
              clear hG hF
              go_wp2
              exact ⟨⟨i + 1, by omega, by simp, hE, HN9⟩, by simp [intOf]; omega⟩
        · obtain rfl : D = i := by omega
          have HF : Hid (q = true) := HQ4.out HALL.out hF.out
          have E8 := Lib.hid (E_7.out.trans hE.out)
          go_wp2
          go_ret
          exact ⟨ret_bool HF.out.symm, E8.out⟩

set_option maxRecDepth 100000 in
set_option maxHeartbeats 1600000 in
theorem isCocycle_spec {P D : Int} {a0 oa n : Nat} {l : List Int} {P1 R1 C1 : Int} {f0 fo nf : Nat} {fs : List Int} {w : World} {i : Bool} (hT : Reads w (some ⟨a0, oa, none⟩) n l) (hm0 : n ≤ 1048576) (hX : Reads w (some ⟨f0, fo, none⟩) nf fs) (hm1 : nf ≤ 1048576) (hM : cycF P D l P1 R1 C1 fs = i) :
    Calls Try.prog 79 #[.agg #[.int .i64 P, .int .i64 D, .slice (some ⟨a0, oa, none⟩) n n], .agg #[.int .i64 P1, .int .i64 R1, .int .i64 C1, .slice (some ⟨f0, fo, none⟩) nf nf]] w fun e w' => e = .returned (.bool i) ∧ Ext w w' := by
  subst hM
  have HT := Lib.hid hT
  have HX := Lib.hid hX
  have hmx : nf ≤ maxLen := by unfold maxLen; omega
  have HA : Hid (cycF P D l P1 R1 C1 fs = ((algB P D l && formB P D P1 R1 C1 fs) && cycB P D.toNat l fs)) := by rw [Hid, Bool.and_assoc]; rfl
  generalize cycF P D l P1 R1 C1 fs = q at HA
  rcases h0 : algB P D l && formB P D P1 R1 C1 fs with _ | _
  · have HF : Hid (q = false) := by rw [Hid, HA.out, h0]; rfl
    have H0 := Lib.hid h0
    clear h0 hT hX HA
    go_enter Try.func79, Try.ntmps79
    have A0_1 := Lib.hid ((cells_new' w #[.int .i64 P, .int .i64 D, .slice (some ⟨a0, oa, none⟩) n n] 28 (w.heap.size) (by simp)).ext ((Ext.refl _).alloc (.cells #[.int .i64 P1, .int .i64 R1, .int .i64 C1, .slice (some ⟨f0, fo, none⟩) nf nf] 40)))
    have A1_2 := Lib.hid (cells_new' (w.alloc (.cells #[.int .i64 P, .int .i64 D, .slice (some ⟨a0, oa, none⟩) n n] 28)) #[.int .i64 P1, .int .i64 R1, .int .i64 C1, .slice (some ⟨f0, fo, none⟩) nf nf] 40 (w.heap.size + 1) (by simp))
    have E_3 := Lib.hid (((Ext.refl w).alloc (.cells #[.int .i64 P, .int .i64 D, .slice (some ⟨a0, oa, none⟩) n n] 28)).alloc (.cells #[.int .i64 P1, .int .i64 R1, .int .i64 C1, .slice (some ⟨f0, fo, none⟩) nf nf] 40))
    have lA0 := A0_1.out.1
    have qA00 := A0_1.out.2 0 _ rfl
    have qA01 := A0_1.out.2 1 _ rfl
    have qA02 := A0_1.out.2 2 _ rfl
    have lA1 := A1_2.out.1
    have qA10 := A1_2.out.2 0 _ rfl
    have qA11 := A1_2.out.2 1 _ rfl
    have qA12 := A1_2.out.2 2 _ rfl
    have qA13 := A1_2.out.2 3 _ rfl
    try simp only [World.size_alloc] at lA0 lA1
    go_wp2_with fail
    refine (l3Form_spec _ _ _ _ _ a0 oa n f0 fo nf l fs _ (HT.out.ext E_3.out) hm0 (HX.out.ext E_3.out) hmx).mono ?_
    rintro e w_4 ⟨rfl, h_4⟩
    clear lA0 qA00 qA01 qA02 lA1 qA10 qA11 qA12 qA13
    have A0_5 := Lib.hid (A0_1.out.ext h_4)
    clear A0_1
    have A1_6 := Lib.hid (A1_2.out.ext h_4)
    clear A1_2
    have E_7 := Lib.hid (E_3.out.trans h_4)
    clear E_3
    rw [H0.out]
    have lA0 := A0_5.out.1
    have qA00 := A0_5.out.2 0 _ rfl
    have qA01 := A0_5.out.2 1 _ rfl
    have qA02 := A0_5.out.2 2 _ rfl
    have lA1 := A1_6.out.1
    have qA10 := A1_6.out.2 0 _ rfl
    have qA11 := A1_6.out.2 1 _ rfl
    have qA12 := A1_6.out.2 2 _ rfl
    have qA13 := A1_6.out.2 3 _ rfl
    try simp only [World.size_alloc] at lA0 lA1
    go_wp2
    go_ret
    exact ⟨ret_bool HF.out.symm, E_7.out⟩
  · have HA2 : q = cycB P D.toNat l fs := by rw [HA.out, h0]; rfl
    obtain ⟨h1, h2⟩ := (Bool.and_eq_true _ _).mp h0
    obtain ⟨D, rfl, hA⟩ := algB_parts h1 hT.1
    obtain ⟨rfl, rfl, rfl, hnf, hres⟩ := formB_parts h2 hX.1
    rw [Int.toNat_natCast] at HA2
    exact cocycle_yes _ D a0 oa n f0 fo nf l fs q w hT hm0 hX hm1 h0 hA hnf hres HA2.symm
end Go.Proofs.Ytapaopapgnfdkaa
