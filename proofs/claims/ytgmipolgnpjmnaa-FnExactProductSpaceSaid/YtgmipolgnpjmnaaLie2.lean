/-
  Tables behind a pointer: what is asked of an algebra, in the program.
-/
import Derived.Test.YtgmipolgnpjmnaaLie
namespace Go.Proofs.Ytgmipolgnpjmnaa
open Go.ChangeShapes Go.WideShapes Go.ChangeAt Go.RowKit
set_option linter.unusedVariables false

/-- s and the first i terms of the bracket of xv and the basis element j. -/
def abTo (D : Nat) (l xv : List Int) (j : Nat) (s : List Int) (i : Nat) : List Int := (List.range D).map fun k => gi s k + sumN i fun c => gi xv c * tb D l c j k
section
variable {D : Nat} {l xv s : List Int} {j : Nat}
theorem abTo_length (i : Nat) : (abTo D l xv j s i).length = D := by simp [abTo]
theorem gi_abTo (i : Nat) {k : Nat} (hk : k < D) : gi (abTo D l xv j s i) k = gi s k + sumN i fun c => gi xv c * tb D l c j k := by simp [abTo, gi, hk]
theorem abTo_zero (hs : s.length = D) : abTo D l xv j s 0 = s := by
  refine ext_gi (by rw [abTo_length, hs]) (fun k hk => ?_)
  rw [abTo_length] at hk
  rw [gi_abTo 0 hk]; simp [sumN]
theorem abTo_skip {i : Nat} (h : gi xv i = 0) : abTo D l xv j s (i + 1) = abTo D l xv j s i := by
  refine ext_gi (by rw [abTo_length, abTo_length]) (fun k hk => ?_)
  rw [abTo_length] at hk
  rw [gi_abTo _ hk, gi_abTo _ hk, sumN, h]; omega
theorem gi_abTo_succ (i : Nat) {k : Nat} (hk : k < D) : gi (abTo D l xv j s (i + 1)) k = gi (abTo D l xv j s i) k + gi xv i * tb D l i j k := by
  rw [gi_abTo _ hk, gi_abTo _ hk, sumN]; omega
theorem tb_res {P : Int} (hx : Res l P) (hl : l.length = D * D * D) {a b c : Nat} (ha : a < D) (hb : b < D) (hc : c < D) : 0 ≤ tb D l a b c ∧ tb D l a b c < P := hx _ (by rw [hl]; exact tb_lt ha hb hc)
theorem abTo_bd {P : Int} (hp : 0 < P) (hp2 : P ≤ 10007) (hx : Res xv P) (hxl : xv.length = D) (hl : Res l P) (hll : l.length = D * D * D) (hj : j < D) (hD : D ≤ 28) {S : Int} (hs : ∀ k, k < D → 0 ≤ gi s k ∧ gi s k ≤ S) (i : Nat) (hi : i ≤ D) (k : Nat) (hk : k < D) :
    0 ≤ gi (abTo D l xv j s i) k ∧ gi (abTo D l xv j s i) k ≤ S + 2803921372 := by
  have h1 : ∀ c, c < i → 0 ≤ gi xv c * tb D l c j k ∧ gi xv c * tb D l c j k ≤ 100140049 := fun c hc => by
    have a := hx c (by omega)
    have b := tb_res hl hll (show c < D by omega) hj hk
    refine ⟨Int.mul_nonneg a.1 b.1, ?_⟩
    have := Int.mul_le_mul (show gi xv c ≤ 10007 by omega) (show tb D l c j k ≤ 10007 by omega) b.1 (by omega)
    omega
  have h2 := sumN_nonneg (fun c hc => (h1 c hc).1)
  have h3 := sumN_le (fun c hc => (h1 c hc).2)
  have h4 : (i : Int) * 100140049 ≤ 28 * 100140049 := Int.mul_le_mul_of_nonneg_right (by omega) (by omega)
  have h5 := hs k hk
  rw [gi_abTo _ hk]
  omega
end
theorem grown_reads {w w' : World} {a0 oa n b : Nat} {l : List Int} (h : Reads w (some ⟨a0, oa, none⟩) n l) (hg : w.grownBy w' (some b)) (hne : a0 ≠ b) : Reads w' (some ⟨a0, oa, none⟩) n l := by
  refine ⟨h.1, ?_⟩
  rcases h.2 with h | ⟨b', off, e, hlt, hc⟩
  · exact .inl h
  · injection e with e1
    injection e1 with e2 e3
    subst e2 e3
    refine .inr ⟨_, _, rfl, Nat.lt_of_lt_of_le hlt hg.size, fun j hj => ?_⟩
    rw [World.cell?_of_block (w := w) (hg.block _ hlt (fun e => by injection e with e; exact hne e))]
    exact hc j hj
theorem reads_at {w : World} {a0 oa n : Nat} {l : List Int} (h : Reads w (some ⟨a0, oa, none⟩) n l) {k : Nat} (hk : k < n) : a0 < w.heap.size ∧ w.cell? ⟨a0, oa + k, none⟩ = some (.int .i64 (gi l k)) := by
  rcases h.2 with h | ⟨b', off, e, hlt, hc⟩
  · omega
  · injection e with e1
    injection e1 with e2 e3
    subst e2 e3
    exact ⟨hlt, hc k hk⟩
set_option maxRecDepth 100000 in
set_option maxHeartbeats 3200000 in
theorem addBracket_impl (P : Int) (D B a0 oa n d b' o' c' cs b j : Nat) (l s xv : List Int) (w : World) (hc : Cells w B [.int .i64 P, .int .i64 D, .slice (some ⟨a0, oa, none⟩) n d]) (hD : D ≤ 28) (hn : n = D * D * D) (hd : n ≤ d) (hd2 : d ≤ maxLen) (hj : j < D)
    (hs : Has w b s) (hsl : s.length = D) (hB : B ≠ b) (hT : Reads w (some ⟨a0, oa, none⟩) n l) (hTb : a0 ≠ b) (hX : Reads w (some ⟨b', o', none⟩) D xv) (hXb : b' ≠ b) (hp : 2 ≤ P) (hp2 : P ≤ 10007) (hl : Res l P) (hx : Res xv P) (hsb : ∀ k, k < D → 0 ≤ gi s k ∧ gi s k ≤ 10000000000000) :
    Calls Try.prog 145 #[.pointer (some ⟨B, 0, none⟩), .slice (some ⟨b, 0, none⟩) D cs, .slice (some ⟨b', o', none⟩) D c', .int .i64 j] w fun e w' => e = .returned (.tuple #[]) ∧ Has w' b (abTo D l xv j s D) ∧ w.grownBy w' (some b) := by
  have HC := Lib.hid hc
  have HN := Lib.hid hn
  have HT := Lib.hid hT
  have HX := Lib.hid hX
  have HRX := Lib.hid hx
  have HRL := Lib.hid hl
  have HD2 := Lib.hid hd2
  have HBD := Lib.hid (fun i hi k hk => abTo_bd (j := j) (show 0 < P by omega) hp2 hx hX.1 hl (hT.1.trans hn) hj hD hsb i hi k hk)
  have S0 : Hid (Has w b (abTo D l xv j s 0)) := by rw [Hid, abTo_zero hsl]; exact hs
  clear hc hn hT hX hx hl hs hsl hsb hd2
  go_enter Try.func145, Try.ntmps145
  go_wp2_with fail
  go_loopw [14, 8, 9] (fun z _ _ wr => ∃ i : Nat, i ≤ D ∧ z = .int .i64 i ∧ Hid (w.grownBy wr (some b)) ∧ Hid (Has wr b (abTo D l xv j s i))) (fun z _ _ _ => D - (intOf z).toNat)
  case atStart => exact ⟨0, by omega, rfl, grownBy_refl _ _, S0⟩
  case round =>
    clear S0
    obtain ⟨i, hi, rfl, hG, hS⟩ := hrel
    by_cases hlt : i < D
    · obtain ⟨hxb, x1⟩ := reads_at (grown_reads HX.out hG.out hXb) hlt
      obtain ⟨y0, y1⟩ := HRX.out i (by rw [HX.out.1]; exact hlt)
      by_cases h0 : gi xv i = 0
      · have hb0 : (gi xv i == 0) = true := by simpa using h0
        have HS : Hid (abTo D l xv j s (i + 1) = abTo D l xv j s i) := abTo_skip h0
        clear h0
        go_wp2
        exact ⟨⟨i + 1, by omega, by simp, hG, by rw [HS.out]; exact hS⟩, by simp [intOf]; omega⟩
      · have hb0 : (gi xv i == 0) = false := by simpa using h0
        clear h0
        go_wp2_with fail
        refine (bracket_impl P D B a0 oa n d i j _ (HC.out.grown hG.out (fun k hk => by simp at hk; omega)) hD HN.out hd HD2.out hlt hj).mono ?_
        rintro e w3 ⟨rfl, h3⟩
        have hG3 := Lib.hid (grownBy_ext hG.out h3)
        have hS3 : Hid (Has w3 b (mix (abTo D l xv j s (i + 1)) (abTo D l xv j s i) 0)) := by rw [Hid, mix_zero]; exact hS.out.ext h3
        clear hG hS h3 x1 hxb
        go_wp2_with fail
        go_loopw [26, 10, 11] (fun z _ _ wr => ∃ k : Nat, k ≤ D ∧ z = .int .i64 k ∧ Hid (w.grownBy wr (some b)) ∧ Hid (Has wr b (mix (abTo D l xv j s (i + 1)) (abTo D l xv j s i) k))) (fun z _ _ _ => D - (intOf z).toNat)
        case atStart => exact ⟨0, by omega, rfl, hG3, hS3⟩
        case round =>
          clear hG3 hS3
          obtain ⟨k, hk, rfl, hG, hS⟩ := hrel
          have hml : (abTo D l xv j s (i + 1)).length = (abTo D l xv j s i).length := by rw [abTo_length, abTo_length]
          by_cases hlt2 : k < D
          · have hpl := tb_lt hlt hj hlt2
            rw [← HN.out] at hpl
            obtain ⟨htb, x1⟩ := reads_at (grown_reads HT.out hG.out hTb) hpl
            rw [← Nat.add_assoc] at x1
            have htr := HRL.out _ (show (i * D + j) * D + k < l.length by rw [HT.out.1]; exact hpl)
            have hsu := gi_abTo_succ (l := l) (xv := xv) (j := j) (s := s) i hlt2
            unfold tb at hsu
            generalize gi l ((i * D + j) * D + k) = t at x1 htr hsu
            obtain ⟨t0, t1⟩ := htr
            have x3 := hS.out.cell k (by rw [mix_length _ _ _ hml (by rw [abTo_length]; exact hk), abTo_length]; exact hlt2)
            rw [gi_mix _ _ _ hml (by rw [abTo_length]; exact hlt2)] at x3
            have f3 := hS.out.free k
            obtain ⟨z0, z1⟩ := HBD.out i hi k hlt2
            have m0 := Int.mul_nonneg y0 t0
            have m1 : gi xv i * t ≤ 100140049 := by
              have := Int.mul_le_mul (show gi xv i ≤ 10007 by omega) (show t ≤ 10007 by omega) t0 (by omega)
              omega
            have N1 : Hid (Has (wr.setCell ⟨b, k, none⟩ (.int .i64 (gi (abTo D l xv j s i) k + gi xv i * t))) b (mix (abTo D l xv j s (i + 1)) (abTo D l xv j s i) (k + 1))) := by
              have := hS.out.set k (by rw [mix_length _ _ _ hml (by rw [abTo_length]; exact hk), abTo_length]; exact hlt2) (gi (abTo D l xv j s (i + 1)) k)
              rw [mix_set _ _ _ hml (by rw [abTo_length]; exact hlt2), hsu] at this
              exact this
            have N2 : Hid (w.grownBy (wr.setCell ⟨b, k, none⟩ (.int .i64 (gi (abTo D l xv j s i) k + gi xv i * t))) (some b)) := grownBy_set (p := ⟨b, k, none⟩) hG.out rfl _
            clear hG hS hml hsu hpl
            go_wp2
            exact ⟨⟨k + 1, by omega, by simp, N2, N1⟩, by simp [intOf]; omega⟩
          · obtain rfl : D = k := by omega
            have hmf := mix_full _ _ hml
            rw [abTo_length] at hmf
            rw [hmf] at hS
            clear hml hmf
            go_wp2
            exact ⟨⟨i + 1, by omega, by simp, hG, hS⟩, by simp [intOf]; omega⟩
    · obtain rfl : D = i := by omega
      go_wp2
      go_end0
      exact ⟨rfl, hS.out, hG.out⟩

noncomputable def altB (P : Int) (D : Nat) (l : List Int) : Bool := @decide (AltP P D l) (Classical.propDecidable _)
theorem altB_true {P : Int} {D : Nat} {l : List Int} (h : AltP P D l) : altB P D l = true := by simp [altB, h]
theorem altB_false {P : Int} {D : Nat} {l : List Int} (h : ¬ AltP P D l) : altB P D l = false := by simp [altB, h]
noncomputable def jacB (P : Int) (D : Nat) (l : List Int) : Bool := @decide (JacP P D l) (Classical.propDecidable _)
theorem jacB_true {P : Int} {D : Nat} {l : List Int} (h : JacP P D l) : jacB P D l = true := by simp [jacB, h]
theorem jacB_false {P : Int} {D : Nat} {l : List Int} (h : ¬ JacP P D l) : jacB P D l = false := by simp [jacB, h]
/-- A row of the table. -/
def rowT (D : Nat) (l : List Int) (i j : Nat) : List Int := rowL D l (i * D + j)
theorem gi_rowT {D : Nat} {l : List Int} {i j k : Nat} (hk : k < D) : gi (rowT D l i j) k = tb D l i j k := gi_rowL hk
theorem rowT_reads {w : World} {a0 oa n D : Nat} {l : List Int} (h : Reads w (some ⟨a0, oa, none⟩) n l) (hn : n = D * D * D) {i j : Nat} (hi : i < D) (hj : j < D) : Reads w (some ⟨a0, oa + (i * D + j) * D, none⟩) D (rowT D l i j) :=
  reads_row h hn (by have := place_lt (R := D) (C := D) hi hj; omega)
theorem rowT_res {P : Int} {D : Nat} {l : List Int} (hP : 0 < P) (hx : Res l P) (i j : Nat) : Res (rowT D l i j) P := rowL_res hP hx _ _
theorem rowT_length {D : Nat} {l : List Int} (hl : l.length = D * D * D) {i j : Nat} (hi : i < D) (hj : j < D) : (rowT D l i j).length = D := rowL_length hl (by have := place_lt (R := D) (C := D) hi hj; omega)
theorem opp_row {P : Int} {D : Nat} {l : List Int} {i j : Nat} : OppP P D (rowT D l i j) (rowT D l j i) ↔ ∀ k, k < D → (tb D l i j k + tb D l j i k) % P = 0 :=
  ⟨fun h k hk => by have := h k hk; rwa [gi_rowT hk, gi_rowT hk] at this, fun h k hk => by rw [gi_rowT hk, gi_rowT hk]; exact h k hk⟩
/-- What AltP asks of i. -/
def AltAt (P : Int) (D : Nat) (l : List Int) (i : Nat) : Prop := (∀ k, k < D → tb D l i i k = 0) ∧ ∀ j, j < i → ∀ k, k < D → (tb D l i j k + tb D l j i k) % P = 0
theorem alt_iff {P : Int} {D : Nat} {l : List Int} : AltP P D l ↔ ∀ i, i < D → AltAt P D l i := Iff.rfl
set_option maxRecDepth 100000 in
set_option maxHeartbeats 3200000 in
theorem alternates_impl (P : Int) (D B a0 oa n d : Nat) (l : List Int) (w : World) (hc : Cells w B [.int .i64 P, .int .i64 D, .slice (some ⟨a0, oa, none⟩) n d]) (hD : D ≤ 28) (hn : n = D * D * D) (hd : n ≤ d) (hd2 : d ≤ maxLen)
    (hT : Reads w (some ⟨a0, oa, none⟩) n l) (hp : 2 ≤ P) (hp2 : P ≤ 10007) (hl : Res l P) :
    Calls Try.prog 110 #[.pointer (some ⟨B, 0, none⟩)] w fun e w' => e = .returned (.bool (altB P D l)) ∧ Ext w w' := by
  have HC := Lib.hid hc
  have HN := Lib.hid hn
  have HT := Lib.hid hT
  have HRL := Lib.hid hl
  have HD2 := Lib.hid hd2
  have lB := hc.1
  have q1 := hc.2 1 _ rfl
  clear hc hn hT hl hd2
  go_enter Try.func110, Try.ntmps110
  go_wp2_with fail
  clear lB q1
  go_loopw [10, 3] (fun z _ wr => ∃ i : Nat, i ≤ D ∧ z = .int .i64 i ∧ Hid (Ext w wr) ∧ Hid (∀ q, q < i → AltAt P D l q)) (fun z _ _ => D - (intOf z).toNat)
  case atStart => exact ⟨0, by omega, rfl, Ext.refl _, fun q hq => by omega⟩
  case round =>
    obtain ⟨i, hi, rfl, hE, hF⟩ := hrel
    by_cases hlt : i < D
    · have HR1 := Lib.hid (rowT_reads (HT.out.ext hE.out) HN.out hlt hlt)
      have HRL1 := Lib.hid (rowT_length (i := i) (j := i) (HT.out.1.trans HN.out) hlt hlt)
      go_wp2_with fail
      refine (bracket_impl P D B a0 oa n d i i _ (HC.out.ext hE.out) hD HN.out hd HD2.out hlt hlt).mono ?_
      rintro e w3 ⟨rfl, h3⟩
      go_wp2_with fail
      refine (firstNonzero_impl _ D _ (rowT D l i i) _ (HR1.out.ext h3) (by unfold maxLen; omega)).mono ?_
      rintro e w4 ⟨rfl, rfl⟩
      have hE3 := Lib.hid (hE.out.trans h3)
      clear hE h3 HR1
      by_cases hz : fz (rowT D l i i) 0 = D
      case neg =>
        have HF : Hid (altB P D l = false) := altB_false (fun h => hz (by
          have := (fz_all (rowT D l i i)).2 (fun k hk => by rw [HRL1.out] at hk; rw [gi_rowT hk]; exact (h i hlt).1 k hk)
          rw [this, HRL1.out]))
        have hfr : fzR (rowT D l i i) = (fz (rowT D l i i) 0 : Int) := by rw [fzR, HRL1.out, if_neg hz]
        rw [hfr]
        have hf0 : 0 ≤ (fz (rowT D l i i) 0 : Int) := by omega
        clear hz hfr
        go_wp2
        go_ret
        exact ⟨ret_bool HF.out.symm, hE3.out⟩
      have hfr : fzR (rowT D l i i) = -1 := by rw [fzR, HRL1.out, if_pos hz]
      have HZ : Hid (∀ k, k < D → tb D l i i k = 0) := fun k hk => by
        have := (fz_all (rowT D l i i)).1 (by rw [hz, HRL1.out]) k (by rw [HRL1.out]; exact hk)
        rwa [gi_rowT hk] at this
      rw [hfr]
      clear hz hfr HRL1
      go_wp2_with fail
      go_loopw [20, 4] (fun z _ wr => ∃ j : Nat, j ≤ i ∧ z = .int .i64 j ∧ Hid (Ext w wr) ∧ Hid (∀ q, q < j → ∀ k, k < D → (tb D l i q k + tb D l q i k) % P = 0)) (fun z _ _ => i - (intOf z).toNat)
      case atStart => exact ⟨0, by omega, rfl, hE3, fun q hq => by omega⟩
      case round =>
        clear hE3
        obtain ⟨j, hj, rfl, hE, hG⟩ := hrel
        by_cases hlt2 : j < i
        · have hjD : j < D := by omega
          have HA1 := Lib.hid (rowT_reads (HT.out.ext hE.out) HN.out hlt hjD)
          have HA2 := Lib.hid (rowT_reads (HT.out.ext hE.out) HN.out hjD hlt)
          have HCW := Lib.hid (HC.out.ext hE.out)
          have lB := HCW.out.1
          have q0 := HCW.out.2 0 _ rfl
          have hbr : ∀ w3, Ext wr w3 → ∀ (x y : Nat), x < D → y < D → Calls Try.prog 112 #[.pointer (some ⟨B, 0, none⟩), .int .i64 x, .int .i64 y] w3 fun e w' => e = .returned (.slice (some ⟨a0, oa + (x * D + y) * D, none⟩) D (d - (x * D + y) * D)) ∧ Ext w3 w' := fun w3 hE3 x y hx hy =>
            bracket_impl P D B a0 oa n d x y w3 (HCW.out.ext hE3) hD HN.out hd HD2.out hx hy
          have HBR := Lib.hid hbr
          have hop : ∀ w3, Ext wr w3 → ∀ c c', Calls Try.prog 144 #[.slice (some ⟨a0, oa + (i * D + j) * D, none⟩) D c, .slice (some ⟨a0, oa + (j * D + i) * D, none⟩) D c', .int .i64 P] w3 fun e w' => e = .returned (.bool (oppB P D (rowT D l i j) (rowT D l j i))) ∧ Ext w3 w' := fun w3 hE3 c c' =>
            opposite_impl P _ _ D c c' _ _ w3 (HA1.out.ext hE3) (HA2.out.ext hE3) (by omega) hp hp2 (rowT_res (by omega) HRL.out _ _) (rowT_res (by omega) HRL.out _ _)
          rcases hok : oppB P D (rowT D l i j) (rowT D l j i) with _ | _
          · have HF : Hid (altB P D l = false) := altB_false (fun h => by
              have := oppB_true (opp_row.2 ((h i hlt).2 j hlt2))
              rw [hok] at this; exact absurd this (by decide))
            rw [hok] at hop
            have HOP := Lib.hid hop
            clear hbr hop hok hG
            go_wp2_with fail
            go_region_held3 (fun w' => Ext wr w' ∧ (∀ b o, b < wr.heap.size → w'.cell? ⟨b, o, none⟩ = wr.cell? ⟨b, o, none⟩)) (first | assumption | (with_reducible exact ext2 (Ext.trans (And.left ‹Ext wr _ ∧ _›) ‹Ext _ _›)) | (refine ext2 ?_; with_reducible repeat (first | exact Ext.refl _ | refine Ext.drew ?_))) (first
              | (go_at_call 112; with_reducible refine (HBR.out _ (And.left ‹Ext wr _ ∧ _›) _ _ (by omega) (by omega)).mono ?_; rintro e w3 ⟨rfl, h3⟩)
              | (go_at_call 144; with_reducible refine (HOP.out _ (And.left ‹Ext wr _ ∧ _›) _ _).mono ?_; rintro e w4 ⟨rfl, h4⟩))
            all_goals
              have hx := (And.left ‹Ext wr _ ∧ _›)
              have HX := Lib.hid (hE.out.trans hx)
              clear hx
              go_wp2
              go_ret
              exact ⟨ret_bool HF.out.symm, HX.out⟩
          · have HF : Hid (∀ q, q < j + 1 → ∀ k, k < D → (tb D l i q k + tb D l q i k) % P = 0) := fun q hq => by
              by_cases e : q = j
              · subst e
                refine opp_row.1 (Classical.byContradiction (fun h => ?_))
                have := oppB_false h
                rw [hok] at this; exact absurd this (by decide)
              · exact hG.out q (by omega)
            rw [hok] at hop
            have HOP := Lib.hid hop
            clear hbr hop hok hG
            go_wp2_with fail
            go_region_held3 (fun w' => Ext wr w' ∧ (∀ b o, b < wr.heap.size → w'.cell? ⟨b, o, none⟩ = wr.cell? ⟨b, o, none⟩)) (first | assumption | (with_reducible exact ext2 (Ext.trans (And.left ‹Ext wr _ ∧ _›) ‹Ext _ _›)) | (refine ext2 ?_; with_reducible repeat (first | exact Ext.refl _ | refine Ext.drew ?_))) (first
              | (go_at_call 112; with_reducible refine (HBR.out _ (And.left ‹Ext wr _ ∧ _›) _ _ (by omega) (by omega)).mono ?_; rintro e w3 ⟨rfl, h3⟩)
              | (go_at_call 144; with_reducible refine (HOP.out _ (And.left ‹Ext wr _ ∧ _›) _ _).mono ?_; rintro e w4 ⟨rfl, h4⟩))
            all_goals
              have hx := (And.left ‹Ext wr _ ∧ _›)
              have HX := Lib.hid (hE.out.trans hx)
              clear hx lB q0
              go_wp2
              exact ⟨⟨j + 1, by omega, by simp, HX, HF⟩, by simp [intOf]; omega⟩
        · obtain rfl : i = j := by omega
          have HF2 : Hid (∀ q, q < i + 1 → AltAt P D l q) := fun q hq => by
            by_cases e : q = i
            · subst e; exact ⟨HZ.out, hG.out⟩
            · exact hF.out q (by omega)
          go_wp2
          exact ⟨⟨i + 1, by omega, by simp, hE, HF2⟩, by simp [intOf]; omega⟩
    · obtain rfl : D = i := by omega
      have HF2 : Hid (altB P D l = true) := altB_true hF.out
      clear hF
      go_wp2
      go_ret
      exact ⟨ret_bool HF2.out.symm, hE.out⟩
end Go.Proofs.Ytgmipolgnpjmnaa
