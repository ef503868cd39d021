/-
  Sums of matrices, both texts.
-/
import Derived.Test.YtnikfalpjieibaaMz
import Derived.RegionTactic
import Derived.Outline
namespace Go.Proofs.Ytnikfalpjieibaa
open Go.RowKit
set_option linter.unusedVariables false

/-- A list that is made over to another one, number by number. -/
def mix (t xs : List Int) (k : Nat) : List Int := t.take k ++ xs.drop k
theorem mix_zero (t xs : List Int) : mix t xs 0 = xs := by simp [mix]
theorem mix_full (t xs : List Int) (h : t.length = xs.length) : mix t xs xs.length = t := by simp [mix, ← h]
theorem mix_length (t xs : List Int) (k : Nat) (h : t.length = xs.length) (hk : k ≤ xs.length) : (mix t xs k).length = xs.length := by
  simp [mix]; omega
theorem gi_mix (t xs : List Int) (k : Nat) (h : t.length = xs.length) (hk : k < xs.length) : gi (mix t xs k) k = gi xs k := by
  simp only [gi, mix, List.getD_eq_getElem?_getD]
  rw [List.getElem?_append_right (by simp; omega)]
  have : min k t.length = k := by omega
  simp [this]
theorem mix_set (t xs : List Int) (k : Nat) (h : t.length = xs.length) (hk : k < xs.length) : (mix t xs k).set k (gi t k) = mix t xs (k + 1) := by
  apply List.ext_getElem?
  intro i
  have hm : min k t.length = k := by omega
  simp only [mix, List.getElem?_set, List.length_append, List.length_take, List.length_drop]
  by_cases h1 : k = i
  · subst h1
    have : k < min k t.length + (xs.length - k) := by omega
    simp only [if_true, this]
    rw [List.getElem?_append_left (by simp; omega), List.getElem?_take, if_pos (by omega)]
    have : k < t.length := by omega
    simp [gi, this]
  · rw [if_neg h1]
    by_cases h2 : i < k
    · rw [List.getElem?_append_left (by simp; omega), List.getElem?_append_left (by simp; omega), List.getElem?_take, List.getElem?_take, if_pos h2, if_pos (by omega)]
    · rw [List.getElem?_append_right (by simp; omega), List.getElem?_append_right (by simp; omega)]
      simp only [List.length_take, List.getElem?_drop, hm]
      have : min (k + 1) t.length = k + 1 := by omega
      rw [this]
      congr 1
      omega

/-- The sum, number by number, of xs and k times ys. -/
def addL (p k : Int) (xs ys : List Int) : List Int := (List.range xs.length).map fun i => (gi xs i + k * gi ys i) % p
theorem addL_length (p k : Int) (xs ys : List Int) : (addL p k xs ys).length = xs.length := by simp [addL]
theorem gi_addL (p k : Int) (xs ys : List Int) (i : Nat) (h : i < xs.length) : gi (addL p k xs ys) i = (gi xs i + k * gi ys i) % p := by simp [addL, gi, h]

set_option maxRecDepth 100000 in
set_option maxHeartbeats 3200000 in
theorem l1Add_spec (P R C P' R' C' : Int) (a : Addr) (n c : Nat) (xs : List Int) (a' : Option Addr) (c' : Nat) (ys : List Int) (w : World) (hr : Reads w (some a) n xs) (hr' : Reads w a' n ys) (hn : n ≤ 1048576)
    (hp : 2 ≤ P) (hp2 : P ≤ 10007) (hx : Res xs P) (hy : Res ys P) :
    Calls Try.prog 96 #[.agg #[.int .i64 P, .int .i64 R, .int .i64 C, .slice (some a) n c], .agg #[.int .i64 P', .int .i64 R', .int .i64 C', .slice a' n c']] w fun e w' => ∃ b d, e = .returned (.agg #[.int .i64 P, .int .i64 R, .int .i64 C, .slice (some ⟨b, 0, none⟩) n d]) ∧ w.heap.size ≤ b ∧ b < w'.heap.size ∧ Has w' b (addL P 1 xs ys) ∧ Ext w w' := by
  have hlx := Lib.hid hr.1
  have hly := Lib.hid hr'.1
  have HR := Lib.hid hr
  have HR' := Lib.hid hr'
  clear hr hr'
  go_enter Try.func96, Try.ntmps96
  have hE0 := (((Ext.refl w).alloc (.cells #[.int .i64 P, .int .i64 R, .int .i64 C, .slice (some a) n c] 37)).alloc (.cells #[.int .i64 P', .int .i64 R', .int .i64 C', .slice a' n c'] 37)).alloc (.cells #[.int .i64 0, .int .i64 0, .int .i64 0, .slice none 0 0] 37)
  have B1 := ((cells_new' (w.alloc (.cells #[.int .i64 P, .int .i64 R, .int .i64 C, .slice (some a) n c] 37)) #[.int .i64 P', .int .i64 R', .int .i64 C', .slice a' n c'] 37 (w.heap.size + 1) (by simp))).ext ((Ext.refl _).alloc (.cells #[.int .i64 0, .int .i64 0, .int .i64 0, .slice none 0 0] 37))
  have B2 := cells_new' ((w.alloc (.cells #[.int .i64 P, .int .i64 R, .int .i64 C, .slice (some a) n c] 37)).alloc (.cells #[.int .i64 P', .int .i64 R', .int .i64 C', .slice a' n c'] 37)) #[.int .i64 0, .int .i64 0, .int .i64 0, .slice none 0 0] 37 (w.heap.size + 1 + 1) (by simp)
  have HE0 := Lib.hid hE0
  have H1 := Lib.hid B1
  have H2 := Lib.hid B2
  clear hE0 B1 B2
  go_wp2_with fail
  refine (l1Copy_spec _ _ _ _ _ _ xs _ (HR.out.ext HE0.out) hn (fun h => by simp at h)).mono ?_
  rintro e w1 ⟨b, d, rfl, hb1, hb2, hh, hE⟩
  simp at hb1
  have L0 : Hid (Loc w (w1.alloc (.cells #[.int .i64 P, .int .i64 R, .int .i64 C, .slice (some ⟨b, 0, none⟩) n d] 37)) w1.heap.size b [.int .i64 P, .int .i64 R, .int .i64 C, .slice (some ⟨b, 0, none⟩) n d] (mix (addL P 1 xs ys) xs 0)) :=
    ⟨cells_new _ _ _, by rw [mix_zero]; exact hh.alloc _, (HE0.out.trans hE).alloc _, by omega, by simp; omega, by omega⟩
  have H3 := Lib.hid ((H1.out.ext hE).ext ((Ext.refl _).alloc (.cells #[.int .i64 P, .int .i64 R, .int .i64 C, .slice (some ⟨b, 0, none⟩) n d] 37)))
  have H4 := Lib.hid ((H2.out.ext hE).ext ((Ext.refl _).alloc (.cells #[.int .i64 P, .int .i64 R, .int .i64 C, .slice (some ⟨b, 0, none⟩) n d] 37)))
  have HS := Lib.hid hb1
  clear hb1 hb2 hh hE H1 H2
  go_wp2_with fail
  go_loopw [6] (fun i wr => ∃ k : Nat, k ≤ n ∧ i = .int .i64 k ∧ Hid (Loc w wr w1.heap.size b [.int .i64 P, .int .i64 R, .int .i64 C, .slice (some ⟨b, 0, none⟩) n d] (mix (addL P 1 xs ys) xs k)) ∧ Hid (Cells wr (w.heap.size + 1) [.int .i64 P', .int .i64 R', .int .i64 C', .slice a' n c']) ∧ Hid (Cells wr (w.heap.size + 1 + 1) [.int .i64 0, .int .i64 0, .int .i64 0, .slice none 0 0])) (fun i _ => n - (intOf i).toNat)
  case atStart => exact ⟨0, by omega, rfl, L0, H3, H4⟩
  case round =>
    obtain ⟨k, hk, rfl, L, M1, M2⟩ := hrel
    have q0 := L.out.box.2 0 _ rfl
    have q1 := L.out.box.2 1 _ rfl
    have q2 := L.out.box.2 2 _ rfl
    have q3 := L.out.box.2 3 _ rfl
    by_cases hlt : k < n
    · have r3 := M1.out.2 3 _ rfl
      rcases (HR'.out.ext L.out.ext).2 with h | ⟨b', off', rfl, hb', hc'⟩
      · omega
      have hc2 := hc' k hlt
      clear hc'
      have hlen := mix_length (addL P 1 xs ys) xs k (addL_length _ _ _ _) (by rw [hlx.out]; exact hk)
      have hc1 := L.out.has.cell k (by rw [hlen, hlx.out]; exact hlt)
      rw [gi_mix _ _ _ (addL_length _ _ _ _) (by rw [hlx.out]; exact hlt)] at hc1
      have hf1 := L.out.has.free k
      obtain ⟨x0, x1⟩ := hx k (by rw [hlx.out]; exact hlt)
      obtain ⟨y0, y1⟩ := hy k (by rw [hly.out]; exact hlt)
      have N : Hid (Loc w (wr.setCell ⟨b, k, none⟩ (.int .i64 ((gi xs k + gi ys k) % P))) w1.heap.size b [.int .i64 P, .int .i64 R, .int .i64 C, .slice (some ⟨b, 0, none⟩) n d] (mix (addL P 1 xs ys) xs (k + 1))) := by
        rw [← mix_set _ _ _ (addL_length _ _ _ _) (by rw [hlx.out]; exact hlt), gi_addL _ _ _ _ _ (by rw [hlx.out]; exact hlt), Int.one_mul]
        exact L.out.set k (by rw [hlen, hlx.out]; exact hlt) _
      have N1 : Hid (Cells (wr.setCell ⟨b, k, none⟩ (.int .i64 ((gi xs k + gi ys k) % P))) (w.heap.size + 1) [.int .i64 P', .int .i64 R', .int .i64 C', .slice (some ⟨b', off', none⟩) n c']) :=
        M1.out.grown (grownBy_set (p := ⟨b, k, none⟩) (grownBy_refl _ (some b)) rfl _) (fun q hq => by simp at hq; have := HS.out; omega)
      have N2 : Hid (Cells (wr.setCell ⟨b, k, none⟩ (.int .i64 ((gi xs k + gi ys k) % P))) (w.heap.size + 1 + 1) [.int .i64 0, .int .i64 0, .int .i64 0, .slice none 0 0]) :=
        M2.out.grown (grownBy_set (p := ⟨b, k, none⟩) (grownBy_refl _ (some b)) rfl _) (fun q hq => by simp at hq; have := HS.out; omega)
      have hlt' : (k : Int) < (n : Int) := by omega
      have hk0 : (0 : Int) ≤ (k : Int) := by omega
      have s0 : gi xs k + gi ys k ≤ 20014 := by omega
      have s1 : 0 ≤ gi xs k + gi ys k := by omega
      clear hlen L M1 M2
      go_wp2_with fail
      go_region
      go_wp2
      exact ⟨⟨k + 1, by omega, by simp, N.out.step (Ext.refl _).drew, N1.out.ext (Ext.refl _).drew, N2.out.ext (Ext.refl _).drew⟩, by simp [intOf]; omega⟩
    · obtain rfl : k = n := by omega
      have f0 := M2.out.2 0 _ rfl
      have f1 := M2.out.2 1 _ rfl
      have f2 := M2.out.2 2 _ rfl
      have f3 := M2.out.2 3 _ rfl
      have t0 := M2.out.3
      have HF : Hid (mix (addL P 1 xs ys) xs k = addL P 1 xs ys) := by
        have := mix_full (addL P 1 xs ys) xs (addL_length _ _ _ _)
        rwa [hlx.out] at this
      go_wp2
      refine bodyPost_ret (v := .agg #[.int .i64 P, .int .i64 R, .int .i64 C, .slice (some ⟨b, 0, none⟩) k d]) (by simp [results, Try.results96, go_sem, f0, f1, f2, f3]) rfl ⟨b, d, rfl, L.out.lo, ?_, ?_, ?_⟩
      · have := L.out.lt; simpa using this
      · have := HS.out
        have hh := L.out.has
        rw [HF.out] at hh
        repeat with_reducible (first | exact hh | refine Has.setOther ?_ (by simp <;> omega) _)
      · exact ext4 L.out.ext (by omega) _ _ _ _


set_option maxRecDepth 100000 in
set_option maxHeartbeats 3200000 in
theorem addMultiple_impl (P R C m P' R' C' : Int) (a : Option Addr) (n c : Nat) (xs : List Int) (a' : Option Addr) (c' : Nat) (ys : List Int) (w : World) (hr : Reads w a n xs) (hr' : Reads w a' n ys) (hn : n ≤ 1048576) (hnn : (n : Int) = R * C)
    (hp : 2 ≤ P) (hp2 : P ≤ 10007) (hx : Res xs P) (hy : Res ys P) (hm0 : 0 ≤ m) (hm1 : m < P) :
    Calls Try.prog 82 #[.agg #[.int .i64 P, .int .i64 R, .int .i64 C, .slice a n c], .int .i64 m, .agg #[.int .i64 P', .int .i64 R', .int .i64 C', .slice a' n c']] w fun e w' => ∃ b, e = .returned (.agg #[.int .i64 P, .int .i64 R, .int .i64 C, .slice (some ⟨b, 0, none⟩) n n]) ∧ w.heap.size ≤ b ∧ b < w'.heap.size ∧ Has w' b (addL P m xs ys) ∧ Ext w w' := by
  have hlx := Lib.hid hr.1
  have hly := Lib.hid hr'.1
  have HR := Lib.hid hr
  have HR' := Lib.hid hr'
  have hN : (R * C).toNat = n := by omega
  have g0 : 0 ≤ R * C := by omega
  have g1 : R * C ≤ 1048576 := by omega
  have HN := Lib.hid hN
  clear hr hr' hnn hN
  go_enter Try.func82, Try.ntmps82
  have hE0 := (((Ext.refl w).alloc (.cells #[.int .i64 P, .int .i64 R, .int .i64 C, .slice a n c] 37)).alloc (.cells #[.int .i64 P', .int .i64 R', .int .i64 C', .slice a' n c'] 37)).alloc (.cells #[.int .i64 0, .int .i64 0, .int .i64 0, .slice none 0 0] 37)
  have B0 := ((cells_new w #[.int .i64 P, .int .i64 R, .int .i64 C, .slice a n c] 37).ext ((Ext.refl _).alloc (.cells #[.int .i64 P', .int .i64 R', .int .i64 C', .slice a' n c'] 37))).ext ((Ext.refl _).alloc (.cells #[.int .i64 0, .int .i64 0, .int .i64 0, .slice none 0 0] 37))
  have B1 := ((cells_new' (w.alloc (.cells #[.int .i64 P, .int .i64 R, .int .i64 C, .slice a n c] 37)) #[.int .i64 P', .int .i64 R', .int .i64 C', .slice a' n c'] 37 (w.heap.size + 1) (by simp))).ext ((Ext.refl _).alloc (.cells #[.int .i64 0, .int .i64 0, .int .i64 0, .slice none 0 0] 37))
  have B2 := cells_new' ((w.alloc (.cells #[.int .i64 P, .int .i64 R, .int .i64 C, .slice a n c] 37)).alloc (.cells #[.int .i64 P', .int .i64 R', .int .i64 C', .slice a' n c'] 37)) #[.int .i64 0, .int .i64 0, .int .i64 0, .slice none 0 0] 37 (w.heap.size + 1 + 1) (by simp)
  have HE0 := Lib.hid hE0
  have H0 := Lib.hid B0
  have H1 := Lib.hid B1
  have H2 := Lib.hid B2
  clear hE0 B0 B1 B2
  go_wp2_with fail
  refine (zeros_impl _ _ _ _ g0 g1).mono ?_
  rintro e w1 ⟨b, rfl, hb1, hb2, hh, hE⟩
  simp at hb1
  rw [HN.out] at hh ⊢
  have L0 : Hid (Loc w (w1.alloc (.cells #[.int .i64 P, .int .i64 R, .int .i64 C, .slice (some ⟨b, 0, none⟩) n n] 37)) w1.heap.size b [.int .i64 P, .int .i64 R, .int .i64 C, .slice (some ⟨b, 0, none⟩) n n] (mix (addL P m xs ys) (List.replicate n 0) 0)) :=
    ⟨cells_new _ _ _, by rw [mix_zero]; exact hh.alloc _, (HE0.out.trans hE).alloc _, by omega, by simp; omega, by omega⟩
  have K0 := (H0.out.ext hE).ext ((Ext.refl _).alloc (.cells #[.int .i64 P, .int .i64 R, .int .i64 C, .slice (some ⟨b, 0, none⟩) n n] 37))
  have H5 := Lib.hid K0
  have H3 := Lib.hid ((H1.out.ext hE).ext ((Ext.refl _).alloc (.cells #[.int .i64 P, .int .i64 R, .int .i64 C, .slice (some ⟨b, 0, none⟩) n n] 37)))
  have H4 := Lib.hid ((H2.out.ext hE).ext ((Ext.refl _).alloc (.cells #[.int .i64 P, .int .i64 R, .int .i64 C, .slice (some ⟨b, 0, none⟩) n n] 37)))
  have HS := Lib.hid hb1
  have j0 := (H0.out.ext hE).1
  have j3 := (H0.out.ext hE).2 3 _ rfl
  have j4 := K0.2 3 _ rfl
  clear hb1 hb2 hh hE H0 H1 H2 K0
  go_wp2_with fail
  clear j0 j3 j4
  have hlz : Hid ((List.replicate n (0 : Int)).length = n) := by simp [Hid]
  have htl : Hid ((addL P m xs ys).length = (List.replicate n (0 : Int)).length) := by rw [Hid, addL_length, hlx.out, hlz.out]
  go_loopw [20] (fun i wr => ∃ k : Nat, k ≤ n ∧ i = .int .i64 k ∧ Hid (Loc w wr w1.heap.size b [.int .i64 P, .int .i64 R, .int .i64 C, .slice (some ⟨b, 0, none⟩) n n] (mix (addL P m xs ys) (List.replicate n 0) k)) ∧ Hid (Cells wr (w.heap.size + 1) [.int .i64 P', .int .i64 R', .int .i64 C', .slice a' n c']) ∧ Hid (Cells wr (w.heap.size + 1 + 1) [.int .i64 0, .int .i64 0, .int .i64 0, .slice none 0 0]) ∧ Hid (Cells wr w.heap.size [.int .i64 P, .int .i64 R, .int .i64 C, .slice a n c])) (fun i _ => n - (intOf i).toNat)
  case atStart => exact ⟨0, by omega, rfl, L0, H3, H4, H5⟩
  case round =>
    obtain ⟨k, hk, rfl, L, M1, M2, M0⟩ := hrel
    have q0 := L.out.box.2 0 _ rfl
    have q1 := L.out.box.2 1 _ rfl
    have q2 := L.out.box.2 2 _ rfl
    have q3 := L.out.box.2 3 _ rfl
    by_cases hlt : k < n
    · have r3 := M1.out.2 3 _ rfl
      have p0 := M0.out.2 0 _ rfl
      rcases (HR.out.ext L.out.ext).2 with h | ⟨b0, off0, rfl, hb0, hc0⟩
      · omega
      rcases (HR'.out.ext L.out.ext).2 with h | ⟨b', off', rfl, hb', hc'⟩
      · omega
      have hc2 := hc' k hlt
      have hc3 := hc0 k hlt
      clear hc' hc0
      have hlen := mix_length (addL P m xs ys) (List.replicate n 0) k htl.out (by rw [hlz.out]; exact hk)
      have hc1 := L.out.has.cell k (by rw [hlen, hlz.out]; exact hlt)
      have hf1 := L.out.has.free k
      obtain ⟨x0, x1⟩ := hx k (by rw [hlx.out]; exact hlt)
      obtain ⟨y0, y1⟩ := hy k (by rw [hly.out]; exact hlt)
      have m0 := Int.mul_nonneg hm0 y0
      have m1 := mul_hi hm0 hm1 y0 y1 hp2
      have N : Hid (Loc w (wr.setCell ⟨b, k, none⟩ (.int .i64 ((gi xs k + m * gi ys k) % P))) w1.heap.size b [.int .i64 P, .int .i64 R, .int .i64 C, .slice (some ⟨b, 0, none⟩) n n] (mix (addL P m xs ys) (List.replicate n 0) (k + 1))) := by
        rw [← mix_set _ _ _ htl.out (by rw [hlz.out]; exact hlt), gi_addL _ _ _ _ _ (by rw [hlx.out]; exact hlt)]
        exact L.out.set k (by rw [hlen, hlz.out]; exact hlt) _
      have N1 : Hid (Cells (wr.setCell ⟨b, k, none⟩ (.int .i64 ((gi xs k + m * gi ys k) % P))) (w.heap.size + 1) [.int .i64 P', .int .i64 R', .int .i64 C', .slice (some ⟨b', off', none⟩) n c']) :=
        M1.out.grown (grownBy_set (p := ⟨b, k, none⟩) (grownBy_refl _ (some b)) rfl _) (fun q hq => by simp at hq; have := HS.out; omega)
      have N2 : Hid (Cells (wr.setCell ⟨b, k, none⟩ (.int .i64 ((gi xs k + m * gi ys k) % P))) (w.heap.size + 1 + 1) [.int .i64 0, .int .i64 0, .int .i64 0, .slice none 0 0]) :=
        M2.out.grown (grownBy_set (p := ⟨b, k, none⟩) (grownBy_refl _ (some b)) rfl _) (fun q hq => by simp at hq; have := HS.out; omega)
      have N0 : Hid (Cells (wr.setCell ⟨b, k, none⟩ (.int .i64 ((gi xs k + m * gi ys k) % P))) w.heap.size [.int .i64 P, .int .i64 R, .int .i64 C, .slice (some ⟨b0, off0, none⟩) n c]) :=
        M0.out.grown (grownBy_set (p := ⟨b, k, none⟩) (grownBy_refl _ (some b)) rfl _) (fun q hq => by simp at hq; have := HS.out; omega)
      have hlt' : (k : Int) < (n : Int) := by omega
      have hk0 : (0 : Int) ≤ (k : Int) := by omega
      clear hlen L M1 M2 M0
      go_wp2_with fail
      go_region
      go_wp2
      exact ⟨⟨k + 1, by omega, by simp, N.out.step (Ext.refl _).drew, N1.out.ext (Ext.refl _).drew, N2.out.ext (Ext.refl _).drew, N0.out.ext (Ext.refl _).drew⟩, by simp [intOf]; omega⟩
    · obtain rfl : k = n := by omega
      have f0 := M2.out.2 0 _ rfl
      have f1 := M2.out.2 1 _ rfl
      have f2 := M2.out.2 2 _ rfl
      have f3 := M2.out.2 3 _ rfl
      have t0 := M2.out.3
      have HF : Hid (mix (addL P m xs ys) (List.replicate k 0) k = addL P m xs ys) := by
        have := mix_full (addL P m xs ys) (List.replicate k 0) htl.out
        rwa [hlz.out] at this
      go_wp2
      refine bodyPost_ret (v := .agg #[.int .i64 P, .int .i64 R, .int .i64 C, .slice (some ⟨b, 0, none⟩) k k]) (by simp [results, Try.results82, go_sem, f0, f1, f2, f3]) rfl ⟨b, rfl, L.out.lo, ?_, ?_, ?_⟩
      · have := L.out.lt; simpa using this
      · have := HS.out
        have hh := L.out.has
        rw [HF.out] at hh
        repeat with_reducible (first | exact hh | refine Has.setOther ?_ (by simp <;> omega) _)
      · exact ext4 L.out.ext (by omega) _ _ _ _
end Go.Proofs.Ytnikfalpjieibaa

/-
  AddMatrices of both texts.
-/
namespace Go.Proofs.Ytnikfalpjieibaa
open Go.RowKit
set_option linter.unusedVariables false

noncomputable def addM (P R C : Int) (xs : List Int) (P' R' C' : Int) (xs' : List Int) : Mat × Bool :=
  if mok P R C xs && mok P' R' C' xs' && (P == P') && (R == R') && (C == C') then (⟨P, R, C, addL P 1 xs xs'⟩, true) else (noMat, false)
theorem mok_len {P R C : Int} {xs : List Int} (h : mok P R C xs = true) : (xs.length : Int) = R * C := (mok_iff.1 h).2.2.2.1
theorem mok_res {P R C : Int} {xs : List Int} (h : mok P R C xs = true) : Res xs P := resB_iff.1 (mok_iff.1 h).2.2.2.2
theorem mok_lo {P R C : Int} {xs : List Int} (h : mok P R C xs = true) : 2 ≤ P := isP_lo (mok_iff.1 h).1
theorem mok_hi {P R C : Int} {xs : List Int} (h : mok P R C xs = true) : P ≤ 10007 := isP_hi (mok_iff.1 h).1

end Go.Proofs.Ytnikfalpjieibaa

/-
  Traces, both texts; one number of a matrix (l1At).
-/
namespace Go.Proofs.Ytnikfalpjieibaa
open Go.RowKit
set_option linter.unusedVariables false

/-- The first k numbers of the diagonal, added. -/
def traceTo (xs : List Int) (m : Nat) : Nat → Int
  | 0 => 0
  | k + 1 => traceTo xs m k + gi xs (k * m + k)
noncomputable def traceM (P R C : Int) (xs : List Int) : Int × Bool := if mok P R C xs && (R == C) then (traceTo xs R.toNat R.toNat % P, true) else (0, false)
theorem traceTo_bd (xs : List Int) (m : Nat) (p : Int) (hp : p ≤ 10007) (hx : Res xs p) (hl : xs.length = m * m) (k : Nat) (hk : k ≤ m) (hm : m ≤ 40) : 0 ≤ traceTo xs m k ∧ traceTo xs m k ≤ 10007 * k := by
  induction k with
  | zero => simp [traceTo]
  | succ k ih =>
    obtain ⟨i0, i1⟩ := ih (by omega)
    obtain ⟨x0, x1⟩ := hx (k * m + k) (by rw [hl]; exact diag_lt (by omega))
    simp only [traceTo]
    omega

set_option maxHeartbeats 800000 in
theorem l1At_spec (P R : Int) (cc i j : Nat) (a : Option Addr) (n c : Nat) (xs : List Int) (w : World) (hr : Reads w a n xs) (hlt : i * cc + j < n) (hn : n ≤ 1048576) :
    Calls Try.prog 76 #[.agg #[.int .i64 P, .int .i64 R, .int .i64 cc, .slice a n c], .int .i64 i, .int .i64 j] w fun e w' => e = .returned (.int .i64 (gi xs (i * cc + j))) ∧ Ext w w' := by
  rcases hr.2 with h | ⟨b, off, rfl, hb, hc⟩
  · omega
  have hc1 := hc _ hlt
  have hc2 : (w.alloc (.cells #[.int .i64 P, .int .i64 R, .int .i64 cc, .slice (some ⟨b, off, none⟩) n c] 37)).cell? ⟨b, off + (i * cc + j), none⟩ = some (.int .i64 (gi xs (i * cc + j))) := by rw [World.cell?_alloc_past _ _ _ hb]; exact hc1
  have e1 : (i : Int) * (cc : Int) = ((i * cc : Nat) : Int) := by simp
  have e2 : 0 ≤ (i : Int) * (cc : Int) := by rw [e1]; omega
  have e3 : (i : Int) * (cc : Int) ≤ 1048576 := by rw [e1]; omega
  have e4 : (i : Int) * (cc : Int) + (j : Int) < (n : Int) := by rw [e1]; omega
  have e5 : 0 ≤ (i : Int) * (cc : Int) + (j : Int) := by rw [e1]; omega
  clear hc hc1 e1
  go_enter Try.func76, Try.ntmps76
  go_wp2
  go_ret
  exact ⟨rfl, (Ext.refl _).alloc _⟩

set_option maxRecDepth 100000 in
set_option maxHeartbeats 1600000 in
theorem squareOk_impl (P R C : Int) (a : Option Addr) (n c : Nat) (xs : List Int) (w : World) (hr : Reads w a n xs) (hm : n ≤ maxLen) :
    Calls Try.prog 122 #[.agg #[.int .i64 P, .int .i64 R, .int .i64 C, .slice a n c]] w fun e w' => e = .returned (.bool (mok P R C xs && (R == C))) ∧ Ext w w' := by
  have HR := Lib.hid hr
  clear hr
  rcases h1 : mok P R C xs with _ | _
  · go_enter Try.func122, Try.ntmps122
    have A0_1 := Lib.hid (cells_new' w #[.int .i64 P, .int .i64 R, .int .i64 C, .slice a n c] 37 (w.heap.size) (by simp))
    have E_2 := Lib.hid ((Ext.refl w).alloc (.cells #[.int .i64 P, .int .i64 R, .int .i64 C, .slice a n c] 37))
    have lA0 := A0_1.out.1
    have qA00 := A0_1.out.2 0 _ rfl
    have qA01 := A0_1.out.2 1 _ rfl
    have qA02 := A0_1.out.2 2 _ rfl
    have qA03 := A0_1.out.2 3 _ rfl
    try simp only [World.size_alloc] at lA0
    go_wp2_with fail
    refine (matrixOk_impl _ _ _ _ _ _ xs _ (HR.out.ext E_2.out) hm).mono ?_
    rintro e w_3 ⟨rfl, h_3⟩
    clear lA0 qA00 qA01 qA02 qA03
    have A0_4 := Lib.hid (A0_1.out.ext h_3)
    clear A0_1
    have E_5 := Lib.hid (E_2.out.trans h_3)
    clear E_2
    rw [h1]
    have lA0 := A0_4.out.1
    have qA00 := A0_4.out.2 0 _ rfl
    have qA01 := A0_4.out.2 1 _ rfl
    have qA02 := A0_4.out.2 2 _ rfl
    have qA03 := A0_4.out.2 3 _ rfl
    try simp only [World.size_alloc] at lA0
    go_wp2
    go_ret
    exact ⟨rfl, E_5.out⟩
  · go_enter Try.func122, Try.ntmps122
    have A0_1 := Lib.hid (cells_new' w #[.int .i64 P, .int .i64 R, .int .i64 C, .slice a n c] 37 (w.heap.size) (by simp))
    have E_2 := Lib.hid ((Ext.refl w).alloc (.cells #[.int .i64 P, .int .i64 R, .int .i64 C, .slice a n c] 37))
    have lA0 := A0_1.out.1
    have qA00 := A0_1.out.2 0 _ rfl
    have qA01 := A0_1.out.2 1 _ rfl
    have qA02 := A0_1.out.2 2 _ rfl
    have qA03 := A0_1.out.2 3 _ rfl
    try simp only [World.size_alloc] at lA0
    go_wp2_with fail
    refine (matrixOk_impl _ _ _ _ _ _ xs _ (HR.out.ext E_2.out) hm).mono ?_
    rintro e w_3 ⟨rfl, h_3⟩
    clear lA0 qA00 qA01 qA02 qA03
    have A0_4 := Lib.hid (A0_1.out.ext h_3)
    clear A0_1
    have E_5 := Lib.hid (E_2.out.trans h_3)
    clear E_2
    rw [h1]
    have lA0 := A0_4.out.1
    have qA00 := A0_4.out.2 0 _ rfl
    have qA01 := A0_4.out.2 1 _ rfl
    have qA02 := A0_4.out.2 2 _ rfl
    have qA03 := A0_4.out.2 3 _ rfl
    try simp only [World.size_alloc] at lA0
    go_wp2
    go_ret
    exact ⟨by simp, E_5.out⟩

end Go.Proofs.Ytnikfalpjieibaa
