/-
  One element more: the program's oneMore and setBracket, and the specification's l3Grow.
-/
import Derived.Test.YtapaopapgnfdkaaSem0
namespace Go.Proofs.Ytapaopapgnfdkaa
open Go.ChangeShapes Go.WideShapes Go.ChangeAt Go.RowKit
set_option linter.unusedVariables false
set_option linter.unusedSimpArgs false

theorem Reads.other {w w' : World} {v0 vo n b : Nat} {xs : List Int} (h : Reads w (some ⟨v0, vo, none⟩) n xs) (hg : w.grownBy w' (some b)) (hne : v0 ≠ b) : Reads w' (some ⟨v0, vo, none⟩) n xs := by
  refine ⟨h.1, ?_⟩
  rcases h.2 with h2 | ⟨b3, o3, h2, hb3, hc3⟩
  · exact Or.inl h2
  · simp only [Option.some.injEq, Addr.mk.injEq, and_true] at h2
    obtain ⟨rfl, rfl⟩ := h2
    refine Or.inr ⟨v0, vo, rfl, Nat.lt_of_lt_of_le hb3 hg.size, fun q hq => ?_⟩
    rw [World.cell?_of_block (hg.block v0 hb3 (fun e => by injection e with e; exact hne e))]
    exact hc3 q hq
theorem Reads.at' {w : World} {v0 vo n : Nat} {xs : List Int} (h : Reads w (some ⟨v0, vo, none⟩) n xs) {k : Nat} (hk : k < n) : w.cell? ⟨v0, vo + k, none⟩ = some (.int .i64 (gi xs k)) := by
  rcases h.2 with h2 | ⟨b3, o3, h2, hb3, hc3⟩
  · omega
  · simp only [Option.some.injEq, Addr.mk.injEq, and_true] at h2
    obtain ⟨rfl, rfl⟩ := h2
    exact hc3 k (by first | exact hk | (rw [h.1]; exact hk))
theorem KeptR.set3 {w W0 w1 : World} {N : Nat} (h : Ext w w1 ∧ N ≤ w1.heap.size ∧ ∀ b o, b < N → w1.cell? ⟨b, o, none⟩ = W0.cell? ⟨b, o, none⟩) (hN : w.heap.size ≤ N) (v0 v1 v2 : Value) :
    Ext w (((w1.setCell ⟨N, 0, none⟩ v0).setCell ⟨N, 1, none⟩ v1).setCell ⟨N, 2, none⟩ v2) ∧ N ≤ (((w1.setCell ⟨N, 0, none⟩ v0).setCell ⟨N, 1, none⟩ v1).setCell ⟨N, 2, none⟩ v2).heap.size ∧ ∀ b o, b < N → (((w1.setCell ⟨N, 0, none⟩ v0).setCell ⟨N, 1, none⟩ v1).setCell ⟨N, 2, none⟩ v2).cell? ⟨b, o, none⟩ = W0.cell? ⟨b, o, none⟩ :=
  KeptR.set (KeptR.set (KeptR.set h hN 0 v0) hN 1 v1) hN 2 v2

set_option maxRecDepth 100000 in
set_option maxHeartbeats 1600000 in
theorem oneMore_impl (P : Int) (D a0 oa n : Nat) (l : List Int) (w : World) (hT : Reads w (some ⟨a0, oa, none⟩) n l) (hn : n = D * D * D) (hD : D + 1 ≤ 28) :
    Calls Try.prog 76 #[.agg #[.int .i64 P, .int .i64 D, .slice (some ⟨a0, oa, none⟩) n n]] w fun e w' => ∃ B b, e = .returned (.pointer (some ⟨B, 0, none⟩)) ∧ Cells w' B [.int .i64 P, .int .i64 ((D + 1 : Nat) : Int), .slice (some ⟨b, 0, none⟩) ((D + 1) * (D + 1) * (D + 1)) ((D + 1) * (D + 1) * (D + 1))] ∧ w.heap.size ≤ b ∧ b < w'.heap.size ∧ Has w' b (grT D l) ∧ Ext w w' ∧ w.heap.size ≤ B ∧ B ≠ b := by
  have HT := Lib.hid hT
  have HNN := Lib.hid hn
  have h28 := cube28 (show D ≤ 28 by omega)
  rw [← hn] at h28
  have hv1 : IntKind.i64.wrap ((D : Int) + 1) = ((D + 1 : Nat) : Int) := by rw [Int.natCast_add]; exact IntWalk.i64_in _ ⟨by omega, by omega⟩
  have hin : inB ((D + 1 : Nat) : Int) 0 28 = true := inB_iff.2 ⟨by omega, by omega⟩
  have HNL : Hid (∀ w1, Calls Try.prog 125 #[.int .i64 P, .int .i64 ((D + 1 : Nat) : Int)] w1 fun e w' => ∃ B b, e = .returned (.pointer (some ⟨B, 0, none⟩)) ∧ Cells w' B [.int .i64 P, .int .i64 ((D + 1 : Nat) : Int), .slice (some ⟨b, 0, none⟩) ((D + 1) * (D + 1) * (D + 1)) ((D + 1) * (D + 1) * (D + 1))] ∧ w1.heap.size ≤ b ∧ b < w'.heap.size ∧ Has w' b (List.replicate ((D + 1) * (D + 1) * (D + 1)) 0) ∧ Ext w1 w' ∧ w1.heap.size ≤ B ∧ B ≠ b) := fun w1 => by
    have e9 : (((D + 1 : Nat) : Int) * ((D + 1 : Nat) : Int) * ((D + 1 : Nat) : Int)).toNat = ((D + 1) * (D + 1) * (D + 1)) := by
      rw [← Int.natCast_mul, ← Int.natCast_mul, Int.toNat_natCast]
    have h9 := newLie2 P ((D + 1 : Nat) : Int) w1 hin
    rw [e9] at h9
    exact h9
  have HPL : Hid (∀ (w1 : World) (BL BP b : Nat), Cells w1 BL [.int .i64 P, .int .i64 ((D + 1 : Nat) : Int), .slice (some ⟨b, 0, none⟩) ((D + 1) * (D + 1) * (D + 1)) ((D + 1) * (D + 1) * (D + 1))] → Cells w1 BP [.int .i64 P, .int .i64 D, .slice (some ⟨a0, oa, none⟩) n n] → Has w1 b (List.replicate ((D + 1) * (D + 1) * (D + 1)) 0) → Reads w1 (some ⟨a0, oa, none⟩) n l → BL ≠ b → BP ≠ b → (0 < n → a0 ≠ b) → Calls Try.prog 153 #[.pointer (some ⟨BL, 0, none⟩), .pointer (some ⟨BP, 0, none⟩), .int .i64 ((0 : Nat) : Int)] w1 fun e w' => e = .returned (.tuple #[]) ∧ Has w' b (grT D l) ∧ w1.grownBy w' (some b)) := fun w1 BL BP b c1 c2 c6 c8 c9 c10 c11 =>
    place_impl P P (D + 1) _ D n n BL BP b a0 oa 0 (List.replicate ((D + 1) * (D + 1) * (D + 1)) 0) l w1 c1 c2 hD rfl hn (Nat.le_refl _) (by unfold maxLen; omega) (by omega) c6 (by simp) c8 ⟨c9, c10, c11⟩
  clear hT hn hin
  go_enter Try.func76, Try.ntmps76
  have A0_1 := Lib.hid (cells_new' w #[.int .i64 P, .int .i64 D, .slice (some ⟨a0, oa, none⟩) n n] 28 (w.heap.size) (by simp))
  have E_2 := Lib.hid ((Ext.refl w).alloc (.cells #[.int .i64 P, .int .i64 D, .slice (some ⟨a0, oa, none⟩) n n] 28))
  have lA0 := A0_1.out.1
  have qA00 := A0_1.out.2 0 _ rfl
  have qA01 := A0_1.out.2 1 _ rfl
  have qA02 := A0_1.out.2 2 _ rfl
  try simp only [World.size_alloc] at lA0
  go_wp2_with fail
  refine (HNL.out _).mono ?_
  rintro e w_3 ⟨BL, b, rfl, hcl, hbl, hbl2, hh, h_3, hBl, hBn⟩
  clear lA0 qA00 qA01 qA02
  try simp only [World.size_alloc] at hbl hBl
  have A0_4 := Lib.hid (A0_1.out.ext h_3)
  clear A0_1
  have E_5 := Lib.hid (E_2.out.trans h_3)
  clear E_2
  have C_6 := Lib.hid hcl
  have H2 := Lib.hid hh
  clear hcl hh
  have hsz : w.heap.size + 1 ≤ w_3.heap.size := by omega
  have lA0 := A0_4.out.1
  have qA00 := A0_4.out.2 0 _ rfl
  have qA01 := A0_4.out.2 1 _ rfl
  have qA02 := A0_4.out.2 2 _ rfl
  try simp only [World.size_alloc] at lA0
  have P_7 := (Ext.refl w_3).alloc (.cells #[.int .i64 P, .int .i64 D, .slice (some ⟨a0, oa, none⟩) n n] 71)
  have A0_8 := Lib.hid (A0_4.out.ext P_7)
  clear A0_4
  have C_9 := Lib.hid (C_6.out.ext P_7)
  clear C_6
  have E_10 := Lib.hid (E_5.out.trans P_7)
  clear E_5
  clear P_7
  have B_11 := Lib.hid (cells_new w_3 #[.int .i64 P, .int .i64 D, .slice (some ⟨a0, oa, none⟩) n n] 71)
  have H3 := Lib.hid (H2.out.alloc (.cells #[.int .i64 P, .int .i64 D, .slice (some ⟨a0, oa, none⟩) n n] 71))
  have RA := Lib.hid (HT.out.ext E_10.out)
  have hpa : Hid (0 < n → a0 ≠ b) := fun h9 => by
    rcases HT.out.2 with h | ⟨b3, o3, h, hb3, _⟩
    · omega
    · simp only [Option.some.injEq, Addr.mk.injEq, and_true] at h
      omega
  have HWB : Hid (w.heap.size + 1 ≤ b ∧ b < w_3.heap.size ∧ w.heap.size + 1 ≤ BL ∧ BL ≠ b) := ⟨by omega, by omega, by omega, hBn⟩
  clear H2 hbl hBl hBn h_3
  go_wp2_with fail
  refine (HPL.out _ BL w_3.heap.size b C_9.out B_11.out H3.out RA.out HWB.out.2.2.2 (by have := HWB.out; omega) hpa.out).mono ?_
  rintro e w7 ⟨rfl, hk7, g7⟩
  clear lA0 qA00 qA01 qA02
  have C7 := Lib.hid (C_9.out.grown g7 (fun z hz => by simp at hz; have := HWB.out; omega))
  have E7 := Lib.hid (E_10.out.grown g7 (fun z hz => by simp at hz; have := HWB.out; omega))
  have H7 := Lib.hid hk7
  clear hk7 g7
  go_wp2
  go_ret
  have q9 := HWB.out
  exact ⟨BL, b, rfl, C7.out, by omega, H7.out.lt, H7.out, E7.out, by omega, q9.2.2.2⟩

/-- The bracket of two elements set in both orders, number by number. -/
def sbO (P : Int) (n i j : Nat) (vs L : List Int) : Nat → List Int
  | 0 => L
  | k + 1 => (sbO P n i j vs L k).set ((j * n + i) * n + k) ((-gi vs k) % P)
def sbT (P : Int) (n d i j : Nat) (vs L : List Int) : List Int := sbO P n i j vs (spl L ((i * n + j) * n) vs) d
theorem sbO_length (P : Int) (n i j : Nat) (vs L : List Int) (k : Nat) : (sbO P n i j vs L k).length = L.length := by
  induction k with
  | zero => rfl
  | succ k ih => rw [sbO, List.length_set, ih]
theorem sbO_sm (P : Int) (D j : Nat) (ds L : List Int) (k : Nat) (hk : k ≤ D) : sbO P (D + 1) D j (rowL D ds j) L k = smO P D ds j L k := by
  induction k with
  | zero => rfl
  | succ k ih => rw [sbO, smO, ih (by omega), gi_rowL (by omega)]; rfl
theorem sbT_sm {P : Int} {D j : Nat} {ds L : List Int} (hj : j < D) (hl : L.length = (D + 1) * (D + 1) * (D + 1)) (hd : ds.length = D * D) : sbT P (D + 1) D D j (rowL D ds j) L = smK P D ds j L D := by
  rw [sbT, sbO_sm P D j ds _ D (Nat.le_refl _)]
  exact smO_eq hj hl hd

set_option maxRecDepth 100000 in
set_option maxHeartbeats 1600000 in
theorem setBracket_impl (P : Int) (n N d dc BL b v0 vo i j : Nat) (L vs : List Int) (w : World) (hl : Cells w BL [.int .i64 P, .int .i64 n, .slice (some ⟨b, 0, none⟩) N N]) (hn : n ≤ 28) (hN : N = n * n * n) (hi : i < n) (hj : j < n) (hL : Has w b L) (hLl : L.length = N) (hv : Reads w (some ⟨v0, vo, none⟩) d vs) (hd : d ≤ n) (hx : Res vs P) (hp : 2 ≤ P) (hp2 : P ≤ 10007) (hne : BL ≠ b ∧ v0 ≠ b) :
    Calls Try.prog 77 #[.pointer (some ⟨BL, 0, none⟩), .int .i64 i, .int .i64 j, .slice (some ⟨v0, vo, none⟩) d dc] w fun e w' => e = .returned (.tuple #[]) ∧ Has w' b (sbT P n d i j vs L) ∧ w.grownBy w' (some b) := by
  have hc28 := cube28 hn
  rw [← hN] at hc28
  have p1 := place3 hi hj
  have p2 := place3 hj hi
  have hvl := hv.1
  have q1 : (i * n + j) * n + n ≤ N := by rw [hN]; have := Nat.mul_le_mul_right n (show i * n + j + 1 ≤ n * n by have := Nat.mul_le_mul_right n (show i + 1 ≤ n by omega); rw [Nat.add_mul, Nat.one_mul] at this; omega); rw [Nat.add_mul, Nat.one_mul] at this; omega
  have q2 : (j * n + i) * n + n ≤ N := by rw [hN]; have := Nat.mul_le_mul_right n (show j * n + i + 1 ≤ n * n by have := Nat.mul_le_mul_right n (show j + 1 ≤ n by omega); rw [Nat.add_mul, Nat.one_mul] at this; omega); rw [Nat.add_mul, Nat.one_mul] at this; omega
  have HBR : Hid (∀ wx i j, i < n → j < n → w.grownBy wx (some b) → Calls Try.prog 81 #[.pointer (some ⟨BL, 0, none⟩), .int .i64 (i : Nat), .int .i64 (j : Nat)] wx fun e w' => e = .returned (.slice (some ⟨b, (i * n + j) * n, none⟩) n (N - (i * n + j) * n)) ∧ Ext wx w') := fun wx i j hi hj h => by
    have := bracket_impl P n BL b 0 N N i j wx (hl.grown h (fun k hk => by simp at hk; omega)) hn hN (Nat.le_refl _) (by unfold maxLen; omega) hi hj
    rwa [Nat.zero_add] at this
  have HRD : Hid (∀ wx, w.grownBy wx (some b) → Reads wx (some ⟨v0, vo, none⟩) d vs) := fun wx h => hv.other h hne.2
  have HBC : Hid (∀ wx, w.grownBy wx (some b) → Cells wx BL [.int .i64 P, .int .i64 n, .slice (some ⟨b, 0, none⟩) N N]) := fun wx h => hl.grown h (fun k hk => by simp at hk; omega)
  have HH := Lib.hid hL
  have HLL := Lib.hid hLl
  have HX := Lib.hid hx
  have HVL := Lib.hid hvl
  have HQ1 := Lib.hid q1
  have HQ2 := Lib.hid q2
  have HI := Lib.hid hi
  have HJ := Lib.hid hj
  clear hl hN hL hLl hv hx hvl p1 p2 q1 q2
  go_enter Try.func77, Try.ntmps77
  go_wp2_with fail
  refine (HBR.out w i j HI.out HJ.out (grownBy_refl _ _)).mono ?_
  rintro e w3 ⟨rfl, h3⟩
  have H3 := Lib.hid (HH.out.ext h3)
  have R3 := Lib.hid ((HRD.out w (grownBy_refl _ _)).ext h3)
  have G3 := Lib.hid (grownBy_ext (grownBy_refl w (some b)) h3)
  clear h3 HH
  go_wp2_with (refine wpList_copyM rfl (.tmp 14) (.tmp 15) rfl b ((i * n + j) * n) n (N - (i * n + j) * n) (some ⟨v0, vo, none⟩) d dc rfl rfl L vs H3.out R3.out d (Nat.min_eq_left hd) (by rw [HLL.out]; have := HQ1.out; omega) ?_)
  intro w4 h4 g4
  rw [List.take_of_length_le (Nat.le_of_eq HVL.out)] at h4
  have H4 := Lib.hid h4
  have G4 := Lib.hid (grownBy_trans G3.out g4)
  clear h4 g4 H3 R3 G3
  go_wp2_with fail
  refine (HBR.out w4 j i HJ.out HI.out G4.out).mono ?_
  rintro e w5 ⟨rfl, h5⟩
  have H5 : Hid (Has w5 b (sbO P n i j vs (spl L ((i * n + j) * n) vs) 0)) := H4.out.ext h5
  have G5 := Lib.hid (grownBy_ext G4.out h5)
  clear h5 H4 G4
  have HSL : Hid ((spl L ((i * n + j) * n) vs).length = N) := by
    rw [Hid, spl_length _ _ _ (by rw [HLL.out, HVL.out]; have := HQ1.out; omega)]; exact HLL.out
  go_wp2_with fail
  go_loopw [23, 9, 10] (fun z _ _ wr => ∃ k : Nat, k ≤ d ∧ z = .int .i64 k ∧ Hid (w.grownBy wr (some b)) ∧ Hid (Has wr b (sbO P n i j vs (spl L ((i * n + j) * n) vs) k))) (fun z _ _ _ => d - (intOf z).toNat)
  case atStart => exact ⟨0, by omega, rfl, G5, H5⟩
  case round =>
    clear G5 H5
    obtain ⟨k, hk, rfl, hG, hH⟩ := hrel
    by_cases hlt : k < d
    · have c0 := (HRD.out _ hG.out).at' hlt
      have lC := (HBC.out _ hG.out).1
      have d0 := (HBC.out _ hG.out).2 0 _ rfl
      have hb := HX.out k (by rw [HVL.out]; exact hlt)
      have v1 : IntKind.i64.wrap (-(gi vs k)) = -(gi vs k) := IntWalk.i64_in _ ⟨by omega, by omega⟩
      have hkn : k < n := by omega
      have hq2 : (j * n + i) * n + k < N := by have := HQ2.out; omega
      have hlen : Hid ((sbO P n i j vs (spl L ((i * n + j) * n) vs) k).length = N) := by rw [Hid, sbO_length]; exact HSL.out
      have c1 := hH.out.cell _ (by rw [hlen.out]; exact hq2)
      have f1 := hH.out.free ((j * n + i) * n + k)
      have HQ := Lib.hid hq2
      clear hb hq2
      go_wp2_with fail
      refine (residue_impl _ P _ hp hp2).mono ?_
      rintro e w' ⟨rfl, rfl⟩
      go_wp2
      exact ⟨⟨k + 1, by omega, by simp, Lib.hid (grownBy_set (p := ⟨b, (j * n + i) * n + k, none⟩) hG.out rfl _), hH.out.set _ (by rw [hlen.out]; exact HQ.out) _⟩, by simp [intOf]; omega⟩
    · obtain rfl : d = k := by omega
      go_wp2
      go_end0
      exact ⟨rfl, hH.out, hG.out⟩

set_option maxRecDepth 100000 in
set_option maxHeartbeats 1600000 in
theorem l3Grow_spec (P : Int) (D a0 oa n : Nat) (l : List Int) (w : World) (hT : Reads w (some ⟨a0, oa, none⟩) n l) (hn : n = D * D * D) (hD : D + 1 ≤ 28) (hpr : isP P = true) :
    Calls Try.prog 72 #[.agg #[.int .i64 P, .int .i64 D, .slice (some ⟨a0, oa, none⟩) n n]] w fun e w' => ∃ b, e = .returned (.agg #[.int .i64 P, .int .i64 ((D + 1 : Nat) : Int), .slice (some ⟨b, 0, none⟩) ((D + 1) * (D + 1) * (D + 1)) ((D + 1) * (D + 1) * (D + 1))]) ∧ w.heap.size ≤ b ∧ b < w'.heap.size ∧ Has w' b (grT D l) ∧ Ext w w' := by
  have HT := Lib.hid hT
  have HAB : Hid (∀ w1, Calls Try.prog 150 #[.int .i64 P, .int .i64 1] w1 fun e w' => ∃ b c, e = .returned (.agg #[.int .i64 P, .int .i64 1, .slice (some ⟨b, 0, none⟩) 1 c]) ∧ w1.heap.size ≤ b ∧ b < w'.heap.size ∧ Has w' b [0] ∧ Ext w1 w') := fun w1 => by
    refine (abelianAlgebra_spec (P := P) (D := 1) (p := P) (d := 1) (xs := [0]) (by rw [abelA, dimB, hpr]; rfl)).mono ?_
    rintro e w' ⟨v, rfl, ⟨a, m, c, rfl, hO, hm⟩, hE⟩
    have h1 := hO.1
    simp only [List.length_cons, List.length_nil, Nat.zero_add] at h1
    subst h1
    rcases hO.2 with h2 | ⟨b, rfl, hb1, hb2, hh⟩
    · omega
    · exact ⟨b, c, rfl, hb1, hb2, hh, hE⟩
  have HSM : Hid (∀ w1 b c, Ext w w1 → Has w1 b [0] → Calls Try.prog 149 #[.agg #[.int .i64 P, .int .i64 D, .slice (some ⟨a0, oa, none⟩) n n], .agg #[.int .i64 P, .int .i64 1, .slice (some ⟨b, 0, none⟩) 1 c]] w1 fun e w' => ∃ b', e = .returned (.agg #[.int .i64 P, .int .i64 ((D + 1 : Nat) : Int), .slice (some ⟨b', 0, none⟩) ((D + 1) * (D + 1) * (D + 1)) ((D + 1) * (D + 1) * (D + 1))]) ∧ w1.heap.size ≤ b' ∧ b' < w'.heap.size ∧ Has w' b' (grT D l) ∧ Ext w1 w') := fun w1 b c h hh => by
    have := l2Sum_spec P P D 1 (D + 1) ((D + 1) * (D + 1) * (D + 1)) a0 oa n n b 0 1 c l [0] w1 (hT.ext h) (hh.reads rfl) hn rfl rfl hD rfl
    rw [Int.natCast_add]
    have e9 : piTo (D + 1) D 1 [0] (piTo (D + 1) 0 D l (List.replicate ((D + 1) * (D + 1) * (D + 1)) 0) D) 1 = grT D l := grT_one
    rw [e9] at this
    simpa using this
  clear hT hpr hn
  generalize ((D + 1) * (D + 1) * (D + 1)) = M at *
  generalize grT D l = gl at *
  generalize ((D + 1 : Nat) : Int) = D1 at *
  go_enter Try.func72, Try.ntmps72
  have A0_1 := Lib.hid ((cells_new' w #[.int .i64 P, .int .i64 D, .slice (some ⟨a0, oa, none⟩) n n] 28 (w.heap.size) (by simp)).ext ((Ext.refl _).alloc (.cells #[.int .i64 0, .int .i64 0, .slice none 0 0] 28)))
  have R_2 := Lib.hid (cells_new' (w.alloc (.cells #[.int .i64 P, .int .i64 D, .slice (some ⟨a0, oa, none⟩) n n] 28)) #[.int .i64 0, .int .i64 0, .slice none 0 0] 28 (w.heap.size + 1) (by simp))
  have E_3 := Lib.hid (((Ext.refl w).alloc (.cells #[.int .i64 P, .int .i64 D, .slice (some ⟨a0, oa, none⟩) n n] 28)).alloc (.cells #[.int .i64 0, .int .i64 0, .slice none 0 0] 28))
  go_wp2_with fail
  generalize hWX : ((w.alloc (.cells #[.int .i64 P, .int .i64 D, .slice (some ⟨a0, oa, none⟩) n n] 28)).alloc (.cells #[.int .i64 0, .int .i64 0, .slice none 0 0] 28)) = WX at *
  have hws : WX.heap.size = w.heap.size + 1 + 1 := by rw [← hWX]; simp
  have HWS := Lib.hid hws
  clear hws hWX
  have lA := A0_1.out.1
  have a0' := A0_1.out.2 0 _ rfl
  have a1' := A0_1.out.2 1 _ rfl
  have a2' := A0_1.out.2 2 _ rfl
  have lR := R_2.out.1
  have qR0 := R_2.out.2 0 _ rfl
  have qR1 := R_2.out.2 1 _ rfl
  have qR2 := R_2.out.2 2 _ rfl
  have tR := R_2.out.3
  have gB : w.heap.size ≤ w.heap.size + 1 := by omega
  go_region_held3 (fun w' => Ext w w' ∧ w.heap.size + 1 ≤ w'.heap.size ∧ ∀ b o, b < w.heap.size + 1 → w'.cell? ⟨b, o, none⟩ = WX.cell? ⟨b, o, none⟩) (first | (with_reducible exact KeptR.call ‹Ext w _ ∧ w.heap.size + 1 ≤ _ ∧ _› ‹Ext _ _›) | exact ⟨E_3.out, Nat.le_of_lt lR, fun _ _ _ => rfl⟩ | exact ⟨E_3.out.drew, Nat.le_of_lt lR, fun _ _ _ => rfl⟩ | assumption | (with_reducible exact KeptR.set3 ‹Ext w _ ∧ w.heap.size + 1 ≤ _ ∧ _› gB _ _ _)) (first
    | (go_at_call 150; (with_reducible refine (HAB.out _).mono ?_); rintro e w3 ⟨b3, c3, rfl, hu1, hu2, ku, h3⟩)
    | (go_at_call 149; (with_reducible refine (HSM.out _ b3 c3 (And.left ‹Ext w _ ∧ w.heap.size + 1 ≤ _ ∧ _›) ku).mono ?_); rintro e w6 ⟨b2, rfl, hb1, hb2, hh2, h6⟩; have hall : Ext WX w6 := (Ext.trans (Ext.trans (Ext.drew (Ext.refl _)) h3) h6); have c0 := (hall.cells _ 0 lR).trans qR0; have c1 := (hall.cells _ 1 lR).trans qR1; have c2 := (hall.cells _ 2 lR).trans qR2; have f1 : ∀ j, w6.frozen? ⟨w.heap.size + 1, j, none⟩ = false := fun j => (hall.frees _ j lR).trans (tR j)))
  have hx2 := (‹Ext w _ ∧ w.heap.size + 1 ≤ _ ∧ _› : Ext w _ ∧ w.heap.size + 1 ≤ _ ∧ _).1
  have b0 : WX.heap.size ≤ b2 := Nat.le_trans (Ext.trans (Ext.drew (Ext.refl WX)) h3).le hb1
  have hws := HWS.out
  go_wp2
  refine bodyPost_ret (v := .agg #[.int .i64 P, .int .i64 D1, .slice (some ⟨b2, 0, none⟩) M M]) (by simp [results, Try.results72, go_sem, c0, c1, c2]) rfl ⟨b2, rfl, by omega, by simpa using hb2, ?_, hx2⟩
  repeat with_reducible (first | exact hh2 | refine Has.setOther ?_ (by simp <;> omega) _)
end Go.Proofs.Ytapaopapgnfdkaa
