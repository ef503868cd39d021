/-
  Sums of matrices, both texts.
-/
import Derived.Test.YtkbpigpanookjaaMz
import Derived.RegionTactic
import Derived.Outline
namespace Go.Proofs.Ytkbpigpanookjaa
open Go.RowKit
set_option linter.unusedVariables false

/-- A list that is made over to another one, number by number. -/
def mix (t xs : List Int) (k : Nat) : List Int := t.take k ++ xs.drop k
theorem mix_zero (t xs : List Int) : mix t xs 0 = xs := by simp [mix]
theorem mix_full (t xs : List Int) (h : t.length = xs.length) : mix t xs xs.length = t := by simp [mix, ← h]
theorem mix_length (t xs : List Int) (k : Nat) (h : t.length = xs.length) (hk : k ≤ xs.length) : (mix t xs k).length = xs.length := by
  simp [mix]; omega
theorem gi_mix (t xs : List Int) (k : Nat) (h : t.length = xs.length) (hk : k < xs.length) : gi (mix t xs k) k = gi xs k := by
  simp only [gi, mix, List.getD_eq_getElem?_getD]
  rw [List.getElem?_append_right (by simp; omega)]
  have : min k t.length = k := by omega
  simp [this]
theorem mix_set (t xs : List Int) (k : Nat) (h : t.length = xs.length) (hk : k < xs.length) : (mix t xs k).set k (gi t k) = mix t xs (k + 1) := by
  apply List.ext_getElem?
  intro i
  have hm : min k t.length = k := by omega
  simp only [mix, List.getElem?_set, List.length_append, List.length_take, List.length_drop]
  by_cases h1 : k = i
  · subst h1
    have : k < min k t.length + (xs.length - k) := by omega
    simp only [if_true, this]
    rw [List.getElem?_append_left (by simp; omega), List.getElem?_take, if_pos (by omega)]
    have : k < t.length := by omega
    simp [gi, this]
  · rw [if_neg h1]
    by_cases h2 : i < k
    · rw [List.getElem?_append_left (by simp; omega), List.getElem?_append_left (by simp; omega), List.getElem?_take, List.getElem?_take, if_pos h2, if_pos (by omega)]
    · rw [List.getElem?_append_right (by simp; omega), List.getElem?_append_right (by simp; omega)]
      simp only [List.length_take, List.getElem?_drop, hm]
      have : min (k + 1) t.length = k + 1 := by omega
      rw [this]
      congr 1
      omega

/-- The sum, number by number, of xs and k times ys. -/
def addL (p k : Int) (xs ys : List Int) : List Int := (List.range xs.length).map fun i => (gi xs i + k * gi ys i) % p
theorem addL_length (p k : Int) (xs ys : List Int) : (addL p k xs ys).length = xs.length := by simp [addL]
theorem gi_addL (p k : Int) (xs ys : List Int) (i : Nat) (h : i < xs.length) : gi (addL p k xs ys) i = (gi xs i + k * gi ys i) % p := by simp [addL, gi, h]

set_option maxRecDepth 100000 in
set_option maxHeartbeats 3200000 in
theorem l1Add_spec (P R C P' R' C' : Int) (a : Addr) (n c : Nat) (xs : List Int) (a' : Option Addr) (c' : Nat) (ys : List Int) (w : World) (hr : Reads w (some a) n xs) (hr' : Reads w a' n ys) (hn : n ≤ 1048576)
    (hp : 2 ≤ P) (hp2 : P ≤ 10007) (hx : Res xs P) (hy : Res ys P) :
    Calls Try.prog 89 #[.agg #[.int .i64 P, .int .i64 R, .int .i64 C, .slice (some a) n c], .agg #[.int .i64 P', .int .i64 R', .int .i64 C', .slice a' n c']] w fun e w' => ∃ b d, e = .returned (.agg #[.int .i64 P, .int .i64 R, .int .i64 C, .slice (some ⟨b, 0, none⟩) n d]) ∧ w.heap.size ≤ b ∧ b < w'.heap.size ∧ Has w' b (addL P 1 xs ys) ∧ Ext w w' := by
  have hlx := Lib.hid hr.1
  have hly := Lib.hid hr'.1
  have HR := Lib.hid hr
  have HR' := Lib.hid hr'
  clear hr hr'
  go_enter Try.func89, Try.ntmps89
  have hE0 := (((Ext.refl w).alloc (.cells #[.int .i64 P, .int .i64 R, .int .i64 C, .slice (some a) n c] 41)).alloc (.cells #[.int .i64 P', .int .i64 R', .int .i64 C', .slice a' n c'] 41)).alloc (.cells #[.int .i64 0, .int .i64 0, .int .i64 0, .slice none 0 0] 41)
  have B1 := ((cells_new' (w.alloc (.cells #[.int .i64 P, .int .i64 R, .int .i64 C, .slice (some a) n c] 41)) #[.int .i64 P', .int .i64 R', .int .i64 C', .slice a' n c'] 41 (w.heap.size + 1) (by simp))).ext ((Ext.refl _).alloc (.cells #[.int .i64 0, .int .i64 0, .int .i64 0, .slice none 0 0] 41))
  have B2 := cells_new' ((w.alloc (.cells #[.int .i64 P, .int .i64 R, .int .i64 C, .slice (some a) n c] 41)).alloc (.cells #[.int .i64 P', .int .i64 R', .int .i64 C', .slice a' n c'] 41)) #[.int .i64 0, .int .i64 0, .int .i64 0, .slice none 0 0] 41 (w.heap.size + 1 + 1) (by simp)
  have HE0 := Lib.hid hE0
  have H1 := Lib.hid B1
  have H2 := Lib.hid B2
  clear hE0 B1 B2
  go_wp2_with fail
  refine (l1Copy_spec _ _ _ _ _ _ xs _ (HR.out.ext HE0.out) hn (fun h => by simp at h)).mono ?_
  rintro e w1 ⟨b, d, rfl, hb1, hb2, hh, hE⟩
  simp at hb1
  have L0 : Hid (Loc w (w1.alloc (.cells #[.int .i64 P, .int .i64 R, .int .i64 C, .slice (some ⟨b, 0, none⟩) n d] 41)) w1.heap.size b [.int .i64 P, .int .i64 R, .int .i64 C, .slice (some ⟨b, 0, none⟩) n d] (mix (addL P 1 xs ys) xs 0)) :=
    ⟨cells_new _ _ _, by rw [mix_zero]; exact hh.alloc _, (HE0.out.trans hE).alloc _, by omega, by simp; omega, by omega⟩
  have H3 := Lib.hid ((H1.out.ext hE).ext ((Ext.refl _).alloc (.cells #[.int .i64 P, .int .i64 R, .int .i64 C, .slice (some ⟨b, 0, none⟩) n d] 41)))
  have H4 := Lib.hid ((H2.out.ext hE).ext ((Ext.refl _).alloc (.cells #[.int .i64 P, .int .i64 R, .int .i64 C, .slice (some ⟨b, 0, none⟩) n d] 41)))
  have HS := Lib.hid hb1
  clear hb1 hb2 hh hE H1 H2
  go_wp2_with fail
  go_loopw [6] (fun i wr => ∃ k : Nat, k ≤ n ∧ i = .int .i64 k ∧ Hid (Loc w wr w1.heap.size b [.int .i64 P, .int .i64 R, .int .i64 C, .slice (some ⟨b, 0, none⟩) n d] (mix (addL P 1 xs ys) xs k)) ∧ Hid (Cells wr (w.heap.size + 1) [.int .i64 P', .int .i64 R', .int .i64 C', .slice a' n c']) ∧ Hid (Cells wr (w.heap.size + 1 + 1) [.int .i64 0, .int .i64 0, .int .i64 0, .slice none 0 0])) (fun i _ => n - (intOf i).toNat)
  case atStart => exact ⟨0, by omega, rfl, L0, H3, H4⟩
  case round =>
    obtain ⟨k, hk, rfl, L, M1, M2⟩ := hrel
    have q0 := L.out.box.2 0 _ rfl
    have q1 := L.out.box.2 1 _ rfl
    have q2 := L.out.box.2 2 _ rfl
    have q3 := L.out.box.2 3 _ rfl
    by_cases hlt : k < n
    · have r3 := M1.out.2 3 _ rfl
      rcases (HR'.out.ext L.out.ext).2 with h | ⟨b', off', rfl, hb', hc'⟩
      · omega
      have hc2 := hc' k hlt
      clear hc'
      have hlen := mix_length (addL P 1 xs ys) xs k (addL_length _ _ _ _) (by rw [hlx.out]; exact hk)
      have hc1 := L.out.has.cell k (by rw [hlen, hlx.out]; exact hlt)
      rw [gi_mix _ _ _ (addL_length _ _ _ _) (by rw [hlx.out]; exact hlt)] at hc1
      have hf1 := L.out.has.free k
      obtain ⟨x0, x1⟩ := hx k (by rw [hlx.out]; exact hlt)
      obtain ⟨y0, y1⟩ := hy k (by rw [hly.out]; exact hlt)
      have N : Hid (Loc w (wr.setCell ⟨b, k, none⟩ (.int .i64 ((gi xs k + gi ys k) % P))) w1.heap.size b [.int .i64 P, .int .i64 R, .int .i64 C, .slice (some ⟨b, 0, none⟩) n d] (mix (addL P 1 xs ys) xs (k + 1))) := by
        rw [← mix_set _ _ _ (addL_length _ _ _ _) (by rw [hlx.out]; exact hlt), gi_addL _ _ _ _ _ (by rw [hlx.out]; exact hlt), Int.one_mul]
        exact L.out.set k (by rw [hlen, hlx.out]; exact hlt) _
      have N1 : Hid (Cells (wr.setCell ⟨b, k, none⟩ (.int .i64 ((gi xs k + gi ys k) % P))) (w.heap.size + 1) [.int .i64 P', .int .i64 R', .int .i64 C', .slice (some ⟨b', off', none⟩) n c']) :=
        M1.out.grown (grownBy_set (p := ⟨b, k, none⟩) (grownBy_refl _ (some b)) rfl _) (fun q hq => by simp at hq; have := HS.out; omega)
      have N2 : Hid (Cells (wr.setCell ⟨b, k, none⟩ (.int .i64 ((gi xs k + gi ys k) % P))) (w.heap.size + 1 + 1) [.int .i64 0, .int .i64 0, .int .i64 0, .slice none 0 0]) :=
        M2.out.grown (grownBy_set (p := ⟨b, k, none⟩) (grownBy_refl _ (some b)) rfl _) (fun q hq => by simp at hq; have := HS.out; omega)
      have hlt' : (k : Int) < (n : Int) := by omega
      have hk0 : (0 : Int) ≤ (k : Int) := by omega
      have s0 : gi xs k + gi ys k ≤ 20014 := by omega
      have s1 : 0 ≤ gi xs k + gi ys k := by omega
      clear hlen L M1 M2
      go_wp2_with fail
      go_region
      go_wp2
      exact ⟨⟨k + 1, by omega, by simp, N.out.step (Ext.refl _).drew, N1.out.ext (Ext.refl _).drew, N2.out.ext (Ext.refl _).drew⟩, by simp [intOf]; omega⟩
    · obtain rfl : k = n := by omega
      have f0 := M2.out.2 0 _ rfl
      have f1 := M2.out.2 1 _ rfl
      have f2 := M2.out.2 2 _ rfl
      have f3 := M2.out.2 3 _ rfl
      have t0 := M2.out.3
      have HF : Hid (mix (addL P 1 xs ys) xs k = addL P 1 xs ys) := by
        have := mix_full (addL P 1 xs ys) xs (addL_length _ _ _ _)
        rwa [hlx.out] at this
      go_wp2
      refine bodyPost_ret (v := .agg #[.int .i64 P, .int .i64 R, .int .i64 C, .slice (some ⟨b, 0, none⟩) k d]) (by simp [results, Try.results89, go_sem, f0, f1, f2, f3]) rfl ⟨b, d, rfl, L.out.lo, ?_, ?_, ?_⟩
      · have := L.out.lt; simpa using this
      · have := HS.out
        have hh := L.out.has
        rw [HF.out] at hh
        repeat with_reducible (first | exact hh | refine Has.setOther ?_ (by simp <;> omega) _)
      · exact ext4 L.out.ext (by omega) _ _ _ _


end Go.Proofs.Ytkbpigpanookjaa

/-
  AddMatrices of both texts.
-/
namespace Go.Proofs.Ytkbpigpanookjaa
open Go.RowKit
set_option linter.unusedVariables false

noncomputable def addM (P R C : Int) (xs : List Int) (P' R' C' : Int) (xs' : List Int) : Mat × Bool :=
  if mok P R C xs && mok P' R' C' xs' && (P == P') && (R == R') && (C == C') then (⟨P, R, C, addL P 1 xs xs'⟩, true) else (noMat, false)
theorem mok_len {P R C : Int} {xs : List Int} (h : mok P R C xs = true) : (xs.length : Int) = R * C := (mok_iff.1 h).2.2.2.1
theorem mok_res {P R C : Int} {xs : List Int} (h : mok P R C xs = true) : Res xs P := resB_iff.1 (mok_iff.1 h).2.2.2.2
theorem mok_lo {P R C : Int} {xs : List Int} (h : mok P R C xs = true) : 2 ≤ P := isP_lo (mok_iff.1 h).1
theorem mok_hi {P R C : Int} {xs : List Int} (h : mok P R C xs = true) : P ≤ 10007 := isP_hi (mok_iff.1 h).1

end Go.Proofs.Ytkbpigpanookjaa

/-
  Traces, both texts; one number of a matrix (l1At).
-/
namespace Go.Proofs.Ytkbpigpanookjaa
open Go.RowKit
set_option linter.unusedVariables false

/-- The first k numbers of the diagonal, added. -/
def traceTo (xs : List Int) (m : Nat) : Nat → Int
  | 0 => 0
  | k + 1 => traceTo xs m k + gi xs (k * m + k)
noncomputable def traceM (P R C : Int) (xs : List Int) : Int × Bool := if mok P R C xs && (R == C) then (traceTo xs R.toNat R.toNat % P, true) else (0, false)
theorem traceTo_bd (xs : List Int) (m : Nat) (p : Int) (hp : p ≤ 10007) (hx : Res xs p) (hl : xs.length = m * m) (k : Nat) (hk : k ≤ m) (hm : m ≤ 40) : 0 ≤ traceTo xs m k ∧ traceTo xs m k ≤ 10007 * k := by
  induction k with
  | zero => simp [traceTo]
  | succ k ih =>
    obtain ⟨i0, i1⟩ := ih (by omega)
    obtain ⟨x0, x1⟩ := hx (k * m + k) (by rw [hl]; exact diag_lt (by omega))
    simp only [traceTo]
    omega

set_option maxHeartbeats 800000 in
theorem l1At_spec (P R : Int) (cc i j : Nat) (a : Option Addr) (n c : Nat) (xs : List Int) (w : World) (hr : Reads w a n xs) (hlt : i * cc + j < n) (hn : n ≤ 1048576) :
    Calls Try.prog 97 #[.agg #[.int .i64 P, .int .i64 R, .int .i64 cc, .slice a n c], .int .i64 i, .int .i64 j] w fun e w' => e = .returned (.int .i64 (gi xs (i * cc + j))) ∧ Ext w w' := by
  rcases hr.2 with h | ⟨b, off, rfl, hb, hc⟩
  · omega
  have hc1 := hc _ hlt
  have hc2 : (w.alloc (.cells #[.int .i64 P, .int .i64 R, .int .i64 cc, .slice (some ⟨b, off, none⟩) n c] 41)).cell? ⟨b, off + (i * cc + j), none⟩ = some (.int .i64 (gi xs (i * cc + j))) := by rw [World.cell?_alloc_past _ _ _ hb]; exact hc1
  have e1 : (i : Int) * (cc : Int) = ((i * cc : Nat) : Int) := by simp
  have e2 : 0 ≤ (i : Int) * (cc : Int) := by rw [e1]; omega
  have e3 : (i : Int) * (cc : Int) ≤ 1048576 := by rw [e1]; omega
  have e4 : (i : Int) * (cc : Int) + (j : Int) < (n : Int) := by rw [e1]; omega
  have e5 : 0 ≤ (i : Int) * (cc : Int) + (j : Int) := by rw [e1]; omega
  clear hc hc1 e1
  go_enter Try.func97, Try.ntmps97
  go_wp2
  go_ret
  exact ⟨rfl, (Ext.refl _).alloc _⟩

set_option maxRecDepth 100000 in
set_option maxHeartbeats 1600000 in
theorem l1Trace_spec (P : Int) (m : Nat) (a : Option Addr) (n c : Nat) (xs : List Int) (w : World) (hr : Reads w a n xs) (hn : n = m * m) (hm : m ≤ 40) (hp : 2 ≤ P) (hp2 : P ≤ 10007) (hx : Res xs P) :
    Calls Try.prog 54 #[.agg #[.int .i64 P, .int .i64 m, .int .i64 m, .slice a n c]] w fun e w' => e = .returned (.int .i64 (traceTo xs m m % P)) ∧ Ext w w' := by
  have HR := Lib.hid hr
  have HN := Lib.hid hn
  have g40 := sq40 hm
  clear hr hn
  go_enter Try.func54, Try.ntmps54
  have A0_1 := Lib.hid (cells_new' w #[.int .i64 P, .int .i64 m, .int .i64 m, .slice a n c] 41 (w.heap.size) (by simp))
  have E_2 := Lib.hid ((Ext.refl w).alloc (.cells #[.int .i64 P, .int .i64 m, .int .i64 m, .slice a n c] 41))
  go_wp2
  go_loopw [3, 4] (fun s i wr => ∃ k : Nat, k ≤ m ∧ i = .int .i64 k ∧ s = .int .i64 (traceTo xs m k) ∧ Hid (Ext w wr) ∧ Hid (Cells wr w.heap.size [.int .i64 P, .int .i64 m, .int .i64 m, .slice a n c])) (fun _ i _ => m - (intOf i).toNat)
  case atStart => exact ⟨0, by omega, rfl, rfl, E_2.out, A0_1.out⟩
  case round =>
    obtain ⟨k, hk, rfl, rfl, hE, hB⟩ := hrel
    have lA := hB.out.1
    have q0 := hB.out.2 0 _ rfl
    have q1 := hB.out.2 1 _ rfl
    have q2 := hB.out.2 2 _ rfl
    have q3 := hB.out.2 3 _ rfl
    have b0 := traceTo_bd xs m P hp2 hx (by rw [HR.out.1, HN.out]) k hk hm
    obtain ⟨b1, b2⟩ := b0
    by_cases hlt : k < m
    · obtain ⟨x0, x1⟩ := hx (k * m + k) (by rw [HR.out.1, HN.out]; exact diag_lt hlt)
      go_wp2_with fail
      refine (l1At_spec _ _ _ _ _ _ _ _ xs _ (HR.out.ext hE.out) (by rw [HN.out]; exact diag_lt hlt) (by rw [HN.out]; omega)).mono ?_
      rintro e w2 ⟨rfl, hE2⟩
      have G1 := Lib.hid (hE.out.trans hE2)
      have G2 := Lib.hid (hB.out.ext hE2)
      clear hE2 hE hB lA q0 q1 q2 q3
      go_wp2
      exact ⟨⟨k + 1, by omega, by simp, rfl, G1, G2⟩, by simp [intOf]; omega⟩
    · obtain rfl : k = m := by omega
      go_wp2
      go_ret
      exact ⟨rfl, hE.out⟩

set_option maxRecDepth 100000 in
set_option maxHeartbeats 1600000 in
theorem squareOk_impl (P R C : Int) (a : Option Addr) (n c : Nat) (xs : List Int) (w : World) (hr : Reads w a n xs) (hm : n ≤ maxLen) :
    Calls Try.prog 113 #[.agg #[.int .i64 P, .int .i64 R, .int .i64 C, .slice a n c]] w fun e w' => e = .returned (.bool (mok P R C xs && (R == C))) ∧ Ext w w' := by
  have HR := Lib.hid hr
  clear hr
  rcases h1 : mok P R C xs with _ | _
  · go_enter Try.func113, Try.ntmps113
    have A0_1 := Lib.hid (cells_new' w #[.int .i64 P, .int .i64 R, .int .i64 C, .slice a n c] 41 (w.heap.size) (by simp))
    have E_2 := Lib.hid ((Ext.refl w).alloc (.cells #[.int .i64 P, .int .i64 R, .int .i64 C, .slice a n c] 41))
    have lA0 := A0_1.out.1
    have qA00 := A0_1.out.2 0 _ rfl
    have qA01 := A0_1.out.2 1 _ rfl
    have qA02 := A0_1.out.2 2 _ rfl
    have qA03 := A0_1.out.2 3 _ rfl
    try simp only [World.size_alloc] at lA0
    go_wp2_with fail
    refine (matrixOk_impl _ _ _ _ _ _ xs _ (HR.out.ext E_2.out) hm).mono ?_
    rintro e w_3 ⟨rfl, h_3⟩
    clear lA0 qA00 qA01 qA02 qA03
    have A0_4 := Lib.hid (A0_1.out.ext h_3)
    clear A0_1
    have E_5 := Lib.hid (E_2.out.trans h_3)
    clear E_2
    rw [h1]
    have lA0 := A0_4.out.1
    have qA00 := A0_4.out.2 0 _ rfl
    have qA01 := A0_4.out.2 1 _ rfl
    have qA02 := A0_4.out.2 2 _ rfl
    have qA03 := A0_4.out.2 3 _ rfl
    try simp only [World.size_alloc] at lA0
    go_wp2
    go_ret
    exact ⟨rfl, E_5.out⟩
  · go_enter Try.func113, Try.ntmps113
    have A0_1 := Lib.hid (cells_new' w #[.int .i64 P, .int .i64 R, .int .i64 C, .slice a n c] 41 (w.heap.size) (by simp))
    have E_2 := Lib.hid ((Ext.refl w).alloc (.cells #[.int .i64 P, .int .i64 R, .int .i64 C, .slice a n c] 41))
    have lA0 := A0_1.out.1
    have qA00 := A0_1.out.2 0 _ rfl
    have qA01 := A0_1.out.2 1 _ rfl
    have qA02 := A0_1.out.2 2 _ rfl
    have qA03 := A0_1.out.2 3 _ rfl
    try simp only [World.size_alloc] at lA0
    go_wp2_with fail
    refine (matrixOk_impl _ _ _ _ _ _ xs _ (HR.out.ext E_2.out) hm).mono ?_
    rintro e w_3 ⟨rfl, h_3⟩
    clear lA0 qA00 qA01 qA02 qA03
    have A0_4 := Lib.hid (A0_1.out.ext h_3)
    clear A0_1
    have E_5 := Lib.hid (E_2.out.trans h_3)
    clear E_2
    rw [h1]
    have lA0 := A0_4.out.1
    have qA00 := A0_4.out.2 0 _ rfl
    have qA01 := A0_4.out.2 1 _ rfl
    have qA02 := A0_4.out.2 2 _ rfl
    have qA03 := A0_4.out.2 3 _ rfl
    try simp only [World.size_alloc] at lA0
    go_wp2
    go_ret
    exact ⟨by simp, E_5.out⟩

set_option maxRecDepth 100000 in
set_option maxHeartbeats 1600000 in
theorem traceOf_impl {P R C : Int} {a : Option Addr} {n c : Nat} {xs : List Int} {w : World} {i : Int} {ok : Bool} (h : Reads w a n xs) (hm : n ≤ 1048576) (hM : traceM P R C xs = (i, ok)) :
    Calls Try.prog 59 #[.agg #[.int .i64 P, .int .i64 R, .int .i64 C, .slice a n c]] w fun e w' => e = .returned (.tuple #[.int .i64 i, .bool ok]) ∧ Ext w w' := by
  have HR := Lib.hid h
  have hm1 : n ≤ maxLen := by unfold maxLen; omega
  clear h
  rcases h1 : mok P R C xs with _ | _
  · simp only [traceM, h1, Bool.false_and, Bool.false_eq_true, if_false, Prod.mk.injEq] at hM
    obtain ⟨rfl, rfl⟩ := hM
    go_enter Try.func59, Try.ntmps59
    have A0_1 := Lib.hid (cells_new' w #[.int .i64 P, .int .i64 R, .int .i64 C, .slice a n c] 41 (w.heap.size) (by simp))
    have E_2 := Lib.hid ((Ext.refl w).alloc (.cells #[.int .i64 P, .int .i64 R, .int .i64 C, .slice a n c] 41))
    have lA0 := A0_1.out.1
    have qA00 := A0_1.out.2 0 _ rfl
    have qA01 := A0_1.out.2 1 _ rfl
    have qA02 := A0_1.out.2 2 _ rfl
    have qA03 := A0_1.out.2 3 _ rfl
    try simp only [World.size_alloc] at lA0
    go_wp2_with fail
    refine (squareOk_impl _ _ _ _ _ _ xs _ (HR.out.ext E_2.out) hm1).mono ?_
    rintro e w_3 ⟨rfl, h_3⟩
    clear lA0 qA00 qA01 qA02 qA03
    have A0_4 := Lib.hid (A0_1.out.ext h_3)
    clear A0_1
    have E_5 := Lib.hid (E_2.out.trans h_3)
    clear E_2
    simp only [h1, Bool.false_and]
    have lA0 := A0_4.out.1
    have qA00 := A0_4.out.2 0 _ rfl
    have qA01 := A0_4.out.2 1 _ rfl
    have qA02 := A0_4.out.2 2 _ rfl
    have qA03 := A0_4.out.2 3 _ rfl
    try simp only [World.size_alloc] at lA0
    go_wp2
    go_ret2
    exact ⟨rfl, E_5.out⟩
  by_cases e1 : R = C
  case neg =>
    have hb : (R == C) = false := by simpa using e1
    have hb2 : (R != C) = true := by simpa using e1
    simp only [traceM, hb, Bool.and_false, Bool.false_eq_true, if_false, Prod.mk.injEq] at hM
    obtain ⟨rfl, rfl⟩ := hM
    clear e1
    go_enter Try.func59, Try.ntmps59
    have A0_1 := Lib.hid (cells_new' w #[.int .i64 P, .int .i64 R, .int .i64 C, .slice a n c] 41 (w.heap.size) (by simp))
    have E_2 := Lib.hid ((Ext.refl w).alloc (.cells #[.int .i64 P, .int .i64 R, .int .i64 C, .slice a n c] 41))
    have lA0 := A0_1.out.1
    have qA00 := A0_1.out.2 0 _ rfl
    have qA01 := A0_1.out.2 1 _ rfl
    have qA02 := A0_1.out.2 2 _ rfl
    have qA03 := A0_1.out.2 3 _ rfl
    try simp only [World.size_alloc] at lA0
    go_wp2_with fail
    refine (squareOk_impl _ _ _ _ _ _ xs _ (HR.out.ext E_2.out) hm1).mono ?_
    rintro e w_3 ⟨rfl, h_3⟩
    clear lA0 qA00 qA01 qA02 qA03
    have A0_4 := Lib.hid (A0_1.out.ext h_3)
    clear A0_1
    have E_5 := Lib.hid (E_2.out.trans h_3)
    clear E_2
    simp only [h1, hb, Bool.and_false]
    have lA0 := A0_4.out.1
    have qA00 := A0_4.out.2 0 _ rfl
    have qA01 := A0_4.out.2 1 _ rfl
    have qA02 := A0_4.out.2 2 _ rfl
    have qA03 := A0_4.out.2 3 _ rfl
    try simp only [World.size_alloc] at lA0
    go_wp2
    go_ret2
    exact ⟨rfl, E_5.out⟩
  subst e1
  have hl1 := mok_len h1
  have hr1 := mok_res h1
  have hp1 := mok_lo h1
  have hp2 := mok_hi h1
  have hq := inB_iff.1 (mok_iff.1 h1).2.1
  obtain ⟨m, rfl⟩ := Int.eq_ofNat_of_zero_le hq.1
  have hm40 : m ≤ 40 := by omega
  have hnn : n = m * m := by rw [HR.out.1, ← Int.natCast_mul] at hl1; omega
  simp only [traceM, h1, beq_self_eq_true, Bool.and_self, if_true, Prod.mk.injEq, Int.toNat_natCast] at hM
  obtain ⟨rfl, rfl⟩ := hM
  have HN := Lib.hid hnn
  have H1 := Lib.hid h1
  clear hl1 hnn hq h1
  go_enter Try.func59, Try.ntmps59
  have A0_1 := Lib.hid (cells_new' w #[.int .i64 P, .int .i64 m, .int .i64 m, .slice a n c] 41 (w.heap.size) (by simp))
  have E_2 := Lib.hid ((Ext.refl w).alloc (.cells #[.int .i64 P, .int .i64 m, .int .i64 m, .slice a n c] 41))
  have lA0 := A0_1.out.1
  have qA00 := A0_1.out.2 0 _ rfl
  have qA01 := A0_1.out.2 1 _ rfl
  have qA02 := A0_1.out.2 2 _ rfl
  have qA03 := A0_1.out.2 3 _ rfl
  try simp only [World.size_alloc] at lA0
  go_wp2_with fail
  refine (squareOk_impl _ _ _ _ _ _ xs _ (HR.out.ext E_2.out) hm1).mono ?_
  rintro e w_3 ⟨rfl, h_3⟩
  clear lA0 qA00 qA01 qA02 qA03
  have A0_4 := Lib.hid (A0_1.out.ext h_3)
  clear A0_1
  have E_5 := Lib.hid (E_2.out.trans h_3)
  clear E_2
  simp only [H1.out, beq_self_eq_true, Bool.and_self]
  have lA0 := A0_4.out.1
  have qA00 := A0_4.out.2 0 _ rfl
  have qA01 := A0_4.out.2 1 _ rfl
  have qA02 := A0_4.out.2 2 _ rfl
  have qA03 := A0_4.out.2 3 _ rfl
  try simp only [World.size_alloc] at lA0
  go_wp2
  clear lA0 qA00 qA01 qA02 qA03
  go_loop [4, 11] (fun s i => ∃ k : Nat, k ≤ m ∧ i = .int .i64 k ∧ s = .int .i64 (traceTo xs m k)) (fun _ i => m - (intOf i).toNat)
  case atStart => exact ⟨0, by omega, rfl, rfl⟩
  case round =>
    obtain ⟨k, hk, rfl, rfl⟩ := hrel
    have b0 := traceTo_bd xs m P hp2 hr1 (by rw [HR.out.1, HN.out]) k hk hm40
    obtain ⟨b1, b2⟩ := b0
    have lA0 := A0_4.out.1
    have qA00 := A0_4.out.2 0 _ rfl
    have qA01 := A0_4.out.2 1 _ rfl
    have qA02 := A0_4.out.2 2 _ rfl
    have qA03 := A0_4.out.2 3 _ rfl
    try simp only [World.size_alloc] at lA0
    by_cases hlt : k < m
    · obtain ⟨x0, x1⟩ := hr1 (k * m + k) (by rw [HR.out.1, HN.out]; exact diag_lt hlt)
      have d1 := diag_lt hlt
      rcases (HR.out.ext E_5.out).2 with h | ⟨b, off, rfl, hb, hc⟩
      · have := HN.out; omega
      have hc1 := hc (k * m + k) (by rw [HN.out]; exact d1)
      have e1 : (k : Int) * (m : Int) = ((k * m : Nat) : Int) := by simp
      have g40 := sq40 hm40
      have e2 : 0 ≤ (k : Int) * (m : Int) := by rw [e1]; omega
      have e3 : (k : Int) * (m : Int) ≤ 1600 := by rw [e1]; omega
      have e4 : (k : Int) * (m : Int) + (k : Int) < (n : Int) := by rw [e1, HN.out]; omega
      have e5 : 0 ≤ (k : Int) * (m : Int) + (k : Int) := by rw [e1]; omega
      clear hc e1
      go_wp2
      exact ⟨⟨k + 1, by omega, by simp, rfl⟩, by simp [intOf]; omega⟩
    · obtain rfl : k = m := by omega
      go_wp2
      go_ret2
      exact ⟨rfl, E_5.out⟩
end Go.Proofs.Ytkbpigpanookjaa
