/-
  Tables of brackets. Plain mathematics.
-/
import Derived.Test.YtnikfalpjieibaaRi
import Derived.Test.YtnikfalpjieibaaSp
import Derived.Deep.RegionHeld3
import Derived.Deep.QuietTactic
import Derived.BigQuiet
import Derived.Lib.SliceRun
import Derived.BigFrame
namespace Go.Proofs.Ytnikfalpjieibaa
set_option linter.unusedVariables false

/-! Tables of brackets: what alternates, and the law of Jacobi in one order or the other. -/
def tb (n : Nat) (l : List Int) (i j k : Nat) : Int := gi l ((i * n + j) * n + k)
theorem tb_lt {n i j k : Nat} (hi : i < n) (hj : j < n) (hk : k < n) : (i * n + j) * n + k < n * n * n := by
  have h1 : i * n + j + 1 ≤ n * n := by have := Nat.mul_le_mul_right n (show i + 1 ≤ n by omega); rw [Nat.add_mul] at this; omega
  have h2 := Nat.mul_le_mul_right n h1
  rw [Nat.add_mul] at h2; omega
/-- The brackets alternate. -/
def AltP (P : Int) (n : Nat) (l : List Int) : Prop := ∀ i, i < n → (∀ k, k < n → tb n l i i k = 0) ∧ ∀ j, j < i → ∀ k, k < n → (tb n l i j k + tb n l j i k) % P = 0
/-- The bracket of x and the basis element j, at k. -/
def adN (n : Nat) (l : List Int) (x : Nat → Int) (j k : Nat) : Int := sumN n fun c => x c * tb n l c j k
def jacN (n : Nat) (l : List Int) (i j k m : Nat) : Int := adN n l (tb n l i j) k m + adN n l (tb n l j k) i m + adN n l (tb n l k i) j m
def JacP (P : Int) (n : Nat) (l : List Int) : Prop := ∀ i j k, i < n → j < i → k < j → ∀ m, m < n → jacN n l i j k m % P = 0
def JacS (P : Int) (n : Nat) (l : List Int) : Prop := ∀ i j k, i < j → j < k → k < n → ∀ m, m < n → jacN n l i j k m % P = 0
section
variable {P : Int} {n : Nat} {l : List Int}
theorem eqm_zero {a : Int} : Eqm P a 0 ↔ a % P = 0 := by
  constructor
  · intro h; rw [h.to_emod]; simp
  · intro h; exact Eqm.of_emod (by rw [h]; simp)
theorem AltP.neg (h : AltP P n l) {i j k : Nat} (hi : i < n) (hj : j < n) (hk : k < n) : Eqm P (tb n l i j k) (-tb n l j i k) := by
  have key : ∀ a b : Int, (a + b) % P = 0 → Eqm P a (-b) := by
    intro a b h0
    obtain ⟨t, ht⟩ := eqm_zero.2 h0
    exact ⟨t, by omega⟩
  by_cases e : i = j
  · subst e
    rw [(h i hi).1 k hk]; exact Eqm.of_eq (by simp)
  · by_cases e2 : j < i
    · exact key _ _ ((h i hi).2 j e2 k hk)
    · exact key _ _ (by rw [Int.add_comm]; exact (h j hj).2 i (by omega) k hk)
theorem adN_neg (h : AltP P n l) {i j : Nat} (hi : i < n) (hj : j < n) (k m : Nat) : Eqm P (adN n l (tb n l i j) k m) (-adN n l (tb n l j i) k m) := by
  have e : -adN n l (tb n l j i) k m = sumN n fun c => -tb n l j i c * tb n l c k m := by
    have := sumN_mul n (-1) (fun c => tb n l j i c * tb n l c k m)
    rw [adN, show -(sumN n fun c => tb n l j i c * tb n l c k m) = -1 * (sumN n fun c => tb n l j i c * tb n l c k m) by omega, ← this]
    exact sumN_congr (fun c _ => by grind)
  rw [e]
  exact sumN_eqm (fun c hc => (h.neg hi hj hc).mul (Eqm.refl _))
theorem jac_swap (h : AltP P n l) {i j k m : Nat} (hi : i < n) (hj : j < n) (hk : k < n) : jacN n l i j k m % P = 0 ↔ jacN n l k j i m % P = 0 := by
  have e : Eqm P (jacN n l i j k m) (-jacN n l k j i m) := by
    have h1 := adN_neg h hi hj k m
    have h2 := adN_neg h hj hk i m
    have h3 := adN_neg h hk hi j m
    have := (h1.add h2).add h3
    refine this.trans (Eqm.of_eq ?_)
    simp only [jacN]; omega
  rw [← eqm_zero, ← eqm_zero]
  constructor
  · intro h0
    obtain ⟨t, ht⟩ := e.symm.trans h0
    exact ⟨-t, by rw [Int.mul_neg]; omega⟩
  · intro h0
    obtain ⟨t, ht⟩ := h0
    obtain ⟨s, hs⟩ := e
    exact ⟨s - t, by rw [Int.mul_sub]; omega⟩
theorem jac_iff (h : AltP P n l) : JacP P n l ↔ JacS P n l :=
  ⟨fun hp i j k h1 h2 h3 m hm => (jac_swap h (by omega) (by omega) (by omega)).1 (hp k j i h3 h2 h1 m hm),
   fun hs i j k h1 h2 h3 m hm => (jac_swap h (by omega) (by omega) (by omega)).1 (hs k j i h3 h2 h1 m hm)⟩
end
/-- The bracket of two elements, at k. -/
def brN (n : Nat) (l : List Int) (x y : Nat → Int) (k : Nat) : Int := sumN n fun i => sumN n fun j => x i * y j * tb n l i j k
def brL (P : Int) (n : Nat) (l xs ys : List Int) : List Int := (List.range n).map fun k => brN n l (gi xs) (gi ys) k % P
def basL (n k : Nat) : List Int := (List.replicate n 0).set k 1
theorem gi_basL {n k : Nat} (hk : k < n) (q : Nat) : gi (basL n k) q = if q = k then 1 else 0 := by
  rw [basL, gi_set _ _ _ _ (by simpa using hk)]
  split
  · rfl
  · simp only [gi, List.getD_eq_getElem?_getD, List.getElem?_replicate]; split <;> rfl
theorem gi_map (n : Nat) (f : Nat → Int) {k : Nat} (hk : k < n) : gi ((List.range n).map f) k = f k := by
  simp [gi, hk]
theorem brN_bas {n : Nat} {l : List Int} (x : Nat → Int) {b : Nat} (hb : b < n) (k : Nat) : brN n l x (gi (basL n b)) k = adN n l x b k := by
  refine sumN_congr (fun i hi => ?_)
  have := sumN_one (n := n) (k := b) (fun j => x i * gi (basL n b) j * tb n l i j k) hb (fun j hj hne => by rw [gi_basL hb, if_neg hne]; simp)
  rw [this, gi_basL hb, if_pos rfl, Int.mul_one]
theorem sumN_nonneg {n : Nat} {f : Nat → Int} (h : ∀ i, i < n → 0 ≤ f i) : 0 ≤ sumN n f := by
  induction n with
  | zero => exact Int.le_refl _
  | succ n ih => rw [sumN]; have := ih (fun i hi => h i (by omega)); have := h n (by omega); omega
theorem sumN_le {n : Nat} {f : Nat → Int} {B : Int} (h : ∀ i, i < n → f i ≤ B) : sumN n f ≤ n * B := by
  induction n with
  | zero => simp [sumN]
  | succ n ih => rw [sumN]; have := ih (fun i hi => h i (by omega)); have := h n (by omega); rw [Int.natCast_add, Int.add_mul]; omega
end Go.Proofs.Ytnikfalpjieibaa

/-
  Tables behind a pointer: the program's methods that only read.
-/
namespace Go.Proofs.Ytnikfalpjieibaa
open Go.ChangeShapes Go.WideShapes Go.ChangeAt Go.RowKit
set_option linter.unusedVariables false

theorem place3 {D i j : Nat} (hi : i < D) (hj : j < D) : (i * D + j) * D + D ≤ D * D * D := by
  have := tb_lt (k := D - 1) hi hj (by omega); omega
theorem cube28 {D : Nat} (h : D ≤ 28) : D * D * D ≤ 21952 := Nat.mul_le_mul (Nat.mul_le_mul h h) h

set_option maxRecDepth 100000 in
set_option maxHeartbeats 1600000 in
theorem bracket_impl (P : Int) (D B a0 oa n d i j : Nat) (w : World) (hc : Cells w B [.int .i64 P, .int .i64 D, .slice (some ⟨a0, oa, none⟩) n d]) (hD : D ≤ 28) (hn : n = D * D * D) (hd : n ≤ d) (hd2 : d ≤ maxLen) (hi : i < D) (hj : j < D) :
    Calls Try.prog 125 #[.pointer (some ⟨B, 0, none⟩), .int .i64 i, .int .i64 j] w fun e w' => e = .returned (.slice (some ⟨a0, oa + (i * D + j) * D, none⟩) D (d - (i * D + j) * D)) ∧ Ext w w' := by
  have h3 := place3 hi hj
  have h28 := cube28 hD
  rw [← hn] at h3 h28
  unfold maxLen at hd2
  have e1 : (i : Int) * (D : Int) = ((i * D : Nat) : Int) := by simp
  have e2 : (i : Int) * (D : Int) + (j : Int) = ((i * D + j : Nat) : Int) := by simp
  have e3 : ((i : Int) * (D : Int) + (j : Int)) * (D : Int) = (((i * D + j) * D : Nat) : Int) := by rw [e2]; simp
  have k1 : i * D ≤ 21952 := by have := Nat.mul_le_mul_left (i * D) (show 1 ≤ D by omega); rw [Nat.add_mul] at h3; omega
  have g1 : 0 ≤ (i : Int) * (D : Int) := by rw [e1]; omega
  have g2 : (i : Int) * (D : Int) ≤ 21952 := by rw [e1]; omega
  have g3 : 0 ≤ ((i : Int) * (D : Int) + (j : Int)) * (D : Int) := by rw [e3]; omega
  have g4 : ((i : Int) * (D : Int) + (j : Int)) * (D : Int) ≤ 21952 := by rw [e3]; omega
  have g5 : ((i : Int) * (D : Int) + (j : Int)) * (D : Int) + (D : Int) ≤ (d : Int) := by rw [e3]; omega
  have g6 : ((i : Int) * (D : Int) + (j : Int)) * (D : Int) < (d : Int) := by rw [e3]; omega
  have v1 : IntKind.i64.wrap ((i : Int) * (D : Int)) = (i : Int) * (D : Int) := IntWalk.i64_in _ ⟨by omega, by omega⟩
  have v2 : IntKind.i64.wrap ((i : Int) * (D : Int) + (j : Int)) = (i : Int) * (D : Int) + (j : Int) := IntWalk.i64_in _ ⟨by omega, by omega⟩
  have v3 : IntKind.i64.wrap (((i : Int) * (D : Int) + (j : Int)) * (D : Int)) = ((i : Int) * (D : Int) + (j : Int)) * (D : Int) := IntWalk.i64_in _ ⟨by omega, by omega⟩
  have v4 : IntKind.i64.wrap (((i : Int) * (D : Int) + (j : Int)) * (D : Int) + (D : Int)) = ((i : Int) * (D : Int) + (j : Int)) * (D : Int) + (D : Int) := IntWalk.i64_in _ ⟨by omega, by omega⟩
  have lB := hc.1
  have q1 := hc.2 1 _ rfl
  have q2 := hc.2 2 _ rfl
  have E3 := Lib.hid e3
  have K3 := Lib.hid h3
  clear e1 e2 e3 hn h3
  go_enter Try.func125, Try.ntmps125
  go_wp2_with fail
  go_quiet (fail)
  go_wp2_with fail
  go_quiet (fail)
  go_wp2
  go_ret
  exact ⟨by rw [Nat.add_sub_cancel_left]; rfl, by with_reducible repeat (first | exact Ext.refl _ | refine Ext.drewN ?_ _)⟩

/-- Lists whose sums are 0. -/
def OppP (P : Int) (n : Nat) (xs ys : List Int) : Prop := ∀ k, k < n → (gi xs k + gi ys k) % P = 0
noncomputable def oppB (P : Int) (n : Nat) (xs ys : List Int) : Bool := @decide (OppP P n xs ys) (Classical.propDecidable _)
theorem oppB_true {P : Int} {n : Nat} {xs ys : List Int} (h : OppP P n xs ys) : oppB P n xs ys = true := by simp [oppB, h]
theorem oppB_false {P : Int} {n : Nat} {xs ys : List Int} (h : ¬ OppP P n xs ys) : oppB P n xs ys = false := by simp [oppB, h]
set_option maxHeartbeats 800000 in
theorem opposite_impl (P : Int) (a a' : Option Addr) (n c c' : Nat) (xs ys : List Int) (w : World) (hr : Reads w a n xs) (hr' : Reads w a' n ys) (hm : n ≤ 1048576) (hp : 2 ≤ P) (hp2 : P ≤ 10007) (hx : Res xs P) (hy : Res ys P) :
    Calls Try.prog 128 #[.slice a n c, .slice a' n c', .int .i64 P] w fun e w' => e = .returned (.bool (oppB P n xs ys)) ∧ Ext w w' := by
  have hl := Lib.hid hr.1
  have hl' := Lib.hid hr'.1
  have HR := Lib.hid hr.2
  have HR' := Lib.hid hr'.2
  have HX := Lib.hid hx
  have HY := Lib.hid hy
  clear hr hr' hx hy
  go_enter Try.func128, Try.ntmps128
  go_wp2
  go_loopw [10, 7] (fun z _ wr => ∃ (k m : Nat), k ≤ n ∧ z = .int .i64 k ∧ wr = w.drewN m ∧ Hid (∀ i, i < k → (gi xs i + gi ys i) % P = 0)) (fun z _ _ => n - (intOf z).toNat)
  case atStart => exact ⟨0, 0, by omega, rfl, rfl, fun i hi => by omega⟩
  case round =>
    obtain ⟨k, m, hk, rfl, rfl, hf⟩ := hrel
    by_cases hlt : k < n
    · rcases HR.out with h | ⟨b, off, rfl, hb, hc⟩
      · omega
      rcases HR'.out with h | ⟨b', off', rfl, hb', hc'⟩
      · omega
      have hc1 := hc k hlt
      have hc2 := hc' k hlt
      have hlt' : (k : Int) < (n : Int) := by omega
      obtain ⟨x0, x1⟩ := HX.out k (by rw [hl.out]; exact hlt)
      obtain ⟨y0, y1⟩ := HY.out k (by rw [hl'.out]; exact hlt)
      have v1 : IntKind.i64.wrap (gi xs k + gi ys k) = gi xs k + gi ys k := IntWalk.i64_in _ ⟨by omega, by omega⟩
      have s0 : 0 ≤ gi xs k + gi ys k := by omega
      have v2 : (gi xs k + gi ys k).tmod P = (gi xs k + gi ys k) % P := Int.tmod_eq_emod_of_nonneg s0
      have p0 : (P == 0) = false := by simp; omega
      clear hc hc'
      by_cases h0 : (gi xs k + gi ys k) % P = 0
      · have hb0 : ((gi xs k + gi ys k) % P != 0) = false := by simpa using h0
        have HF : Hid (∀ i, i < k + 1 → (gi xs i + gi ys i) % P = 0) := fun i hi => by
          by_cases e : i = k
          · subst e; exact h0
          · exact hf.out i (by omega)
        clear h0
        go_wp2
        go_quiet (fail)
        go_wp2
        exact ⟨⟨k + 1, m + nq, by omega, by simp, by simp, HF⟩, by simp [intOf]; omega⟩
      · have hb0 : ((gi xs k + gi ys k) % P != 0) = true := by simpa using h0
        have HF : Hid (oppB P n xs ys = false) := oppB_false (fun h => h0 (h k hlt))
        clear h0
        go_wp2
        go_quiet (fail)
        go_wp2
        go_ret
        exact ⟨ret_bool HF.out.symm, by with_reducible repeat (first | exact Ext.refl _ | refine Ext.drewN ?_ _)⟩
    · obtain rfl : n = k := by omega
      have HF : Hid (oppB P n xs ys = true) := oppB_true hf.out
      go_wp2
      go_ret
      exact ⟨ret_bool HF.out.symm, (Ext.refl _).drewN _⟩

/-- All are multiples of P. -/
def MulP (P : Int) (n : Nat) (xs : List Int) : Prop := ∀ k, k < n → gi xs k % P = 0
noncomputable def mulB (P : Int) (n : Nat) (xs : List Int) : Bool := @decide (MulP P n xs) (Classical.propDecidable _)
theorem mulB_true {P : Int} {n : Nat} {xs : List Int} (h : MulP P n xs) : mulB P n xs = true := by simp [mulB, h]
theorem mulB_false {P : Int} {n : Nat} {xs : List Int} (h : ¬ MulP P n xs) : mulB P n xs = false := by simp [mulB, h]
set_option maxHeartbeats 800000 in
theorem multiplesOf_impl (P : Int) (a : Option Addr) (n c : Nat) (xs : List Int) (w : World) (hr : Reads w a n xs) (hm : n ≤ 1048576) (hp : 2 ≤ P) (hp2 : P ≤ 10007) (hx : ∀ k, k < n → 0 ≤ gi xs k) :
    Calls Try.prog 130 #[.int .i64 P, .slice a n c] w fun e w' => e = .returned (.bool (mulB P n xs)) ∧ w = w' := by
  have HR := Lib.hid hr.2
  have HX := Lib.hid hx
  clear hr hx
  go_enter Try.func130, Try.ntmps130
  go_wp2
  go_loop [9, 6] (fun z _ => ∃ k : Nat, k ≤ n ∧ z = .int .i64 k ∧ Hid (∀ i, i < k → gi xs i % P = 0)) (fun z _ => n - (intOf z).toNat)
  case atStart => exact ⟨0, by omega, rfl, fun i hi => by omega⟩
  case round =>
    obtain ⟨k, hk, rfl, hf⟩ := hrel
    by_cases hlt : k < n
    · rcases HR.out with h | ⟨b, off, rfl, hb, hc⟩
      · omega
      have hc1 := hc k hlt
      have x0 := HX.out k hlt
      clear hc
      by_cases h0 : gi xs k % P = 0
      · have hb0 : (gi xs k % P != 0) = false := by simpa using h0
        have HF : Hid (∀ i, i < k + 1 → gi xs i % P = 0) := fun i hi => by
          by_cases e : i = k
          · subst e; exact h0
          · exact hf.out i (by omega)
        clear h0
        go_wp2
        exact ⟨⟨k + 1, by omega, by simp, HF⟩, by simp [intOf]; omega⟩
      · have hb0 : (gi xs k % P != 0) = true := by simpa using h0
        have HF : Hid (mulB P n xs = false) := mulB_false (fun h => h0 (h k hlt))
        clear h0
        go_wp2
        go_ret
        exact ⟨ret_bool HF.out.symm, rfl⟩
    · obtain rfl : n = k := by omega
      have HF : Hid (mulB P n xs = true) := mulB_true hf.out
      go_wp2
      go_ret
      exact ⟨ret_bool HF.out.symm, rfl⟩
/-- clear over a slice of the call's own. -/
theorem has_clearTo (b : Nat) : ∀ (k o : Nat) (l : List Int) (w : World), Has w b l → o + k ≤ l.length → ∃ l', Has (w.setCells b o (List.replicate k (.int .i64 0))) b l' ∧ l'.length = l.length ∧ (∀ j, gi l' j = if o ≤ j ∧ j < o + k then 0 else gi l j) ∧ w.grownBy (w.setCells b o (List.replicate k (.int .i64 0))) (some b) := by
  intro k
  induction k with
  | zero => intro o l w h _; exact ⟨l, h, rfl, fun j => by rw [if_neg (by omega)], grownBy_refl _ _⟩
  | succ k ih =>
    intro o l w h ho
    obtain ⟨l', h1, h2, h3, h4⟩ := ih (o + 1) (l.set o 0) (w.setCell ⟨b, o, none⟩ (.int .i64 0)) (h.set o (by omega) 0) (by simp; omega)
    refine ⟨l', h1, by simpa using h2, fun j => ?_, ?_⟩
    · rw [h3 j, gi_set _ _ _ _ (by omega)]
      by_cases e : j = o
      · subst e; rw [if_neg (by omega), if_pos rfl, if_pos (by omega)]
      · by_cases e2 : o + 1 ≤ j ∧ j < o + 1 + k
        · rw [if_pos e2, if_pos (by omega)]
        · rw [if_neg e2, if_neg e, if_neg (by omega)]
    · exact ⟨h4.os, h4.tape, h4.output, Nat.le_trans (Nat.le_of_eq (by simp : w.heap.size = (w.setCell ⟨b, o, none⟩ (.int .i64 0)).heap.size)) h4.size, fun i hi hne => (h4.block i (by simpa using hi) hne).trans (Below.heap_setCell _ _ _ _ (fun e => hne (by rw [e])))⟩
theorem has_clear {w : World} {b n : Nat} {l : List Int} (h : Has w b l) (hn : l.length = n) : Has (w.setCells b 0 (List.replicate n (.int .i64 0))) b (List.replicate n 0) ∧ w.grownBy (w.setCells b 0 (List.replicate n (.int .i64 0))) (some b) := by
  obtain ⟨l', h1, h2, h3, h4⟩ := has_clearTo b n 0 l w h (by omega)
  have e : l' = List.replicate n 0 := by
    refine ext_gi (by rw [h2, hn, List.length_replicate]) (fun j hj => ?_)
    rw [h3 j, if_pos (by omega)]
    simp only [gi, List.getD_eq_getElem?_getD, List.getElem?_replicate]; split <;> rfl
  rw [← e]
  exact ⟨h1, h4⟩
end Go.Proofs.Ytnikfalpjieibaa

/-
  Tables behind a pointer: what is asked of an algebra, in the program.
-/
namespace Go.Proofs.Ytnikfalpjieibaa
open Go.ChangeShapes Go.WideShapes Go.ChangeAt Go.RowKit
set_option linter.unusedVariables false

/-- s and the first i terms of the bracket of xv and the basis element j. -/
def abTo (D : Nat) (l xv : List Int) (j : Nat) (s : List Int) (i : Nat) : List Int := (List.range D).map fun k => gi s k + sumN i fun c => gi xv c * tb D l c j k
section
variable {D : Nat} {l xv s : List Int} {j : Nat}
theorem abTo_length (i : Nat) : (abTo D l xv j s i).length = D := by simp [abTo]
theorem gi_abTo (i : Nat) {k : Nat} (hk : k < D) : gi (abTo D l xv j s i) k = gi s k + sumN i fun c => gi xv c * tb D l c j k := by simp [abTo, gi, hk]
theorem abTo_zero (hs : s.length = D) : abTo D l xv j s 0 = s := by
  refine ext_gi (by rw [abTo_length, hs]) (fun k hk => ?_)
  rw [abTo_length] at hk
  rw [gi_abTo 0 hk]; simp [sumN]
theorem abTo_skip {i : Nat} (h : gi xv i = 0) : abTo D l xv j s (i + 1) = abTo D l xv j s i := by
  refine ext_gi (by rw [abTo_length, abTo_length]) (fun k hk => ?_)
  rw [abTo_length] at hk
  rw [gi_abTo _ hk, gi_abTo _ hk, sumN, h]; omega
theorem gi_abTo_succ (i : Nat) {k : Nat} (hk : k < D) : gi (abTo D l xv j s (i + 1)) k = gi (abTo D l xv j s i) k + gi xv i * tb D l i j k := by
  rw [gi_abTo _ hk, gi_abTo _ hk, sumN]; omega
theorem tb_res {P : Int} (hx : Res l P) (hl : l.length = D * D * D) {a b c : Nat} (ha : a < D) (hb : b < D) (hc : c < D) : 0 ≤ tb D l a b c ∧ tb D l a b c < P := hx _ (by rw [hl]; exact tb_lt ha hb hc)
theorem abTo_bd {P : Int} (hp : 0 < P) (hp2 : P ≤ 10007) (hx : Res xv P) (hxl : xv.length = D) (hl : Res l P) (hll : l.length = D * D * D) (hj : j < D) (hD : D ≤ 28) {S : Int} (hs : ∀ k, k < D → 0 ≤ gi s k ∧ gi s k ≤ S) (i : Nat) (hi : i ≤ D) (k : Nat) (hk : k < D) :
    0 ≤ gi (abTo D l xv j s i) k ∧ gi (abTo D l xv j s i) k ≤ S + 2803921372 := by
  have h1 : ∀ c, c < i → 0 ≤ gi xv c * tb D l c j k ∧ gi xv c * tb D l c j k ≤ 100140049 := fun c hc => by
    have a := hx c (by omega)
    have b := tb_res hl hll (show c < D by omega) hj hk
    refine ⟨Int.mul_nonneg a.1 b.1, ?_⟩
    have := Int.mul_le_mul (show gi xv c ≤ 10007 by omega) (show tb D l c j k ≤ 10007 by omega) b.1 (by omega)
    omega
  have h2 := sumN_nonneg (fun c hc => (h1 c hc).1)
  have h3 := sumN_le (fun c hc => (h1 c hc).2)
  have h4 : (i : Int) * 100140049 ≤ 28 * 100140049 := Int.mul_le_mul_of_nonneg_right (by omega) (by omega)
  have h5 := hs k hk
  rw [gi_abTo _ hk]
  omega
end
theorem grown_reads {w w' : World} {a0 oa n b : Nat} {l : List Int} (h : Reads w (some ⟨a0, oa, none⟩) n l) (hg : w.grownBy w' (some b)) (hne : a0 ≠ b) : Reads w' (some ⟨a0, oa, none⟩) n l := by
  refine ⟨h.1, ?_⟩
  rcases h.2 with h | ⟨b', off, e, hlt, hc⟩
  · exact .inl h
  · injection e with e1
    injection e1 with e2 e3
    subst e2 e3
    refine .inr ⟨_, _, rfl, Nat.lt_of_lt_of_le hlt hg.size, fun j hj => ?_⟩
    rw [World.cell?_of_block (w := w) (hg.block _ hlt (fun e => by injection e with e; exact hne e))]
    exact hc j hj
theorem reads_at {w : World} {a0 oa n : Nat} {l : List Int} (h : Reads w (some ⟨a0, oa, none⟩) n l) {k : Nat} (hk : k < n) : a0 < w.heap.size ∧ w.cell? ⟨a0, oa + k, none⟩ = some (.int .i64 (gi l k)) := by
  rcases h.2 with h | ⟨b', off, e, hlt, hc⟩
  · omega
  · injection e with e1
    injection e1 with e2 e3
    subst e2 e3
    exact ⟨hlt, hc k hk⟩
set_option maxRecDepth 100000 in
set_option maxHeartbeats 3200000 in
theorem addBracket_impl (P : Int) (D B a0 oa n d b' o' c' cs b j : Nat) (l s xv : List Int) (w : World) (hc : Cells w B [.int .i64 P, .int .i64 D, .slice (some ⟨a0, oa, none⟩) n d]) (hD : D ≤ 28) (hn : n = D * D * D) (hd : n ≤ d) (hd2 : d ≤ maxLen) (hj : j < D)
    (hs : Has w b s) (hsl : s.length = D) (hB : B ≠ b) (hT : Reads w (some ⟨a0, oa, none⟩) n l) (hTb : a0 ≠ b) (hX : Reads w (some ⟨b', o', none⟩) D xv) (hXb : b' ≠ b) (hp : 2 ≤ P) (hp2 : P ≤ 10007) (hl : Res l P) (hx : Res xv P) (hsb : ∀ k, k < D → 0 ≤ gi s k ∧ gi s k ≤ 10000000000000) :
    Calls Try.prog 129 #[.pointer (some ⟨B, 0, none⟩), .slice (some ⟨b, 0, none⟩) D cs, .slice (some ⟨b', o', none⟩) D c', .int .i64 j] w fun e w' => e = .returned (.tuple #[]) ∧ Has w' b (abTo D l xv j s D) ∧ w.grownBy w' (some b) := by
  have HC := Lib.hid hc
  have HN := Lib.hid hn
  have HT := Lib.hid hT
  have HX := Lib.hid hX
  have HRX := Lib.hid hx
  have HRL := Lib.hid hl
  have HD2 := Lib.hid hd2
  have HBD := Lib.hid (fun i hi k hk => abTo_bd (j := j) (show 0 < P by omega) hp2 hx hX.1 hl (hT.1.trans hn) hj hD hsb i hi k hk)
  have S0 : Hid (Has w b (abTo D l xv j s 0)) := by rw [Hid, abTo_zero hsl]; exact hs
  clear hc hn hT hX hx hl hs hsl hsb hd2
  go_enter Try.func129, Try.ntmps129
  go_wp2_with fail
  go_loopw [14, 8, 9] (fun z _ _ wr => ∃ i : Nat, i ≤ D ∧ z = .int .i64 i ∧ Hid (w.grownBy wr (some b)) ∧ Hid (Has wr b (abTo D l xv j s i))) (fun z _ _ _ => D - (intOf z).toNat)
  case atStart => exact ⟨0, by omega, rfl, grownBy_refl _ _, S0⟩
  case round =>
    clear S0
    obtain ⟨i, hi, rfl, hG, hS⟩ := hrel
    by_cases hlt : i < D
    · obtain ⟨hxb, x1⟩ := reads_at (grown_reads HX.out hG.out hXb) hlt
      obtain ⟨y0, y1⟩ := HRX.out i (by rw [HX.out.1]; exact hlt)
      by_cases h0 : gi xv i = 0
      · have hb0 : (gi xv i == 0) = true := by simpa using h0
        have HS : Hid (abTo D l xv j s (i + 1) = abTo D l xv j s i) := abTo_skip h0
        clear h0
        go_wp2
        exact ⟨⟨i + 1, by omega, by simp, hG, by rw [HS.out]; exact hS⟩, by simp [intOf]; omega⟩
      · have hb0 : (gi xv i == 0) = false := by simpa using h0
        clear h0
        go_wp2_with fail
        refine (bracket_impl P D B a0 oa n d i j _ (HC.out.grown hG.out (fun k hk => by simp at hk; omega)) hD HN.out hd HD2.out hlt hj).mono ?_
        rintro e w3 ⟨rfl, h3⟩
        have hG3 := Lib.hid (grownBy_ext hG.out h3)
        have hS3 : Hid (Has w3 b (mix (abTo D l xv j s (i + 1)) (abTo D l xv j s i) 0)) := by rw [Hid, mix_zero]; exact hS.out.ext h3
        clear hG hS h3 x1 hxb
        go_wp2_with fail
        go_loopw [26, 10, 11] (fun z _ _ wr => ∃ k : Nat, k ≤ D ∧ z = .int .i64 k ∧ Hid (w.grownBy wr (some b)) ∧ Hid (Has wr b (mix (abTo D l xv j s (i + 1)) (abTo D l xv j s i) k))) (fun z _ _ _ => D - (intOf z).toNat)
        case atStart => exact ⟨0, by omega, rfl, hG3, hS3⟩
        case round =>
          clear hG3 hS3
          obtain ⟨k, hk, rfl, hG, hS⟩ := hrel
          have hml : (abTo D l xv j s (i + 1)).length = (abTo D l xv j s i).length := by rw [abTo_length, abTo_length]
          by_cases hlt2 : k < D
          · have hpl := tb_lt hlt hj hlt2
            rw [← HN.out] at hpl
            obtain ⟨htb, x1⟩ := reads_at (grown_reads HT.out hG.out hTb) hpl
            rw [← Nat.add_assoc] at x1
            have htr := HRL.out _ (show (i * D + j) * D + k < l.length by rw [HT.out.1]; exact hpl)
            have hsu := gi_abTo_succ (l := l) (xv := xv) (j := j) (s := s) i hlt2
            unfold tb at hsu
            generalize gi l ((i * D + j) * D + k) = t at x1 htr hsu
            obtain ⟨t0, t1⟩ := htr
            have x3 := hS.out.cell k (by rw [mix_length _ _ _ hml (by rw [abTo_length]; exact hk), abTo_length]; exact hlt2)
            rw [gi_mix _ _ _ hml (by rw [abTo_length]; exact hlt2)] at x3
            have f3 := hS.out.free k
            obtain ⟨z0, z1⟩ := HBD.out i hi k hlt2
            have m0 := Int.mul_nonneg y0 t0
            have m1 : gi xv i * t ≤ 100140049 := by
              have := Int.mul_le_mul (show gi xv i ≤ 10007 by omega) (show t ≤ 10007 by omega) t0 (by omega)
              omega
            have N1 : Hid (Has (wr.setCell ⟨b, k, none⟩ (.int .i64 (gi (abTo D l xv j s i) k + gi xv i * t))) b (mix (abTo D l xv j s (i + 1)) (abTo D l xv j s i) (k + 1))) := by
              have := hS.out.set k (by rw [mix_length _ _ _ hml (by rw [abTo_length]; exact hk), abTo_length]; exact hlt2) (gi (abTo D l xv j s (i + 1)) k)
              rw [mix_set _ _ _ hml (by rw [abTo_length]; exact hlt2), hsu] at this
              exact this
            have N2 : Hid (w.grownBy (wr.setCell ⟨b, k, none⟩ (.int .i64 (gi (abTo D l xv j s i) k + gi xv i * t))) (some b)) := grownBy_set (p := ⟨b, k, none⟩) hG.out rfl _
            clear hG hS hml hsu hpl
            go_wp2
            exact ⟨⟨k + 1, by omega, by simp, N2, N1⟩, by simp [intOf]; omega⟩
          · obtain rfl : D = k := by omega
            have hmf := mix_full _ _ hml
            rw [abTo_length] at hmf
            rw [hmf] at hS
            clear hml hmf
            go_wp2
            exact ⟨⟨i + 1, by omega, by simp, hG, hS⟩, by simp [intOf]; omega⟩
    · obtain rfl : D = i := by omega
      go_wp2
      go_end0
      exact ⟨rfl, hS.out, hG.out⟩

noncomputable def altB (P : Int) (D : Nat) (l : List Int) : Bool := @decide (AltP P D l) (Classical.propDecidable _)
theorem altB_true {P : Int} {D : Nat} {l : List Int} (h : AltP P D l) : altB P D l = true := by simp [altB, h]
theorem altB_false {P : Int} {D : Nat} {l : List Int} (h : ¬ AltP P D l) : altB P D l = false := by simp [altB, h]
noncomputable def jacB (P : Int) (D : Nat) (l : List Int) : Bool := @decide (JacP P D l) (Classical.propDecidable _)
theorem jacB_true {P : Int} {D : Nat} {l : List Int} (h : JacP P D l) : jacB P D l = true := by simp [jacB, h]
theorem jacB_false {P : Int} {D : Nat} {l : List Int} (h : ¬ JacP P D l) : jacB P D l = false := by simp [jacB, h]
/-- A row of the table. -/
def rowT (D : Nat) (l : List Int) (i j : Nat) : List Int := rowL D l (i * D + j)
theorem gi_rowT {D : Nat} {l : List Int} {i j k : Nat} (hk : k < D) : gi (rowT D l i j) k = tb D l i j k := gi_rowL hk
theorem rowT_reads {w : World} {a0 oa n D : Nat} {l : List Int} (h : Reads w (some ⟨a0, oa, none⟩) n l) (hn : n = D * D * D) {i j : Nat} (hi : i < D) (hj : j < D) : Reads w (some ⟨a0, oa + (i * D + j) * D, none⟩) D (rowT D l i j) :=
  reads_row h hn (by have := place_lt (R := D) (C := D) hi hj; omega)
theorem rowT_res {P : Int} {D : Nat} {l : List Int} (hP : 0 < P) (hx : Res l P) (i j : Nat) : Res (rowT D l i j) P := rowL_res hP hx _ _
theorem rowT_length {D : Nat} {l : List Int} (hl : l.length = D * D * D) {i j : Nat} (hi : i < D) (hj : j < D) : (rowT D l i j).length = D := rowL_length hl (by have := place_lt (R := D) (C := D) hi hj; omega)
theorem opp_row {P : Int} {D : Nat} {l : List Int} {i j : Nat} : OppP P D (rowT D l i j) (rowT D l j i) ↔ ∀ k, k < D → (tb D l i j k + tb D l j i k) % P = 0 :=
  ⟨fun h k hk => by have := h k hk; rwa [gi_rowT hk, gi_rowT hk] at this, fun h k hk => by rw [gi_rowT hk, gi_rowT hk]; exact h k hk⟩
/-- What AltP asks of i. -/
def AltAt (P : Int) (D : Nat) (l : List Int) (i : Nat) : Prop := (∀ k, k < D → tb D l i i k = 0) ∧ ∀ j, j < i → ∀ k, k < D → (tb D l i j k + tb D l j i k) % P = 0
theorem alt_iff {P : Int} {D : Nat} {l : List Int} : AltP P D l ↔ ∀ i, i < D → AltAt P D l i := Iff.rfl
set_option maxRecDepth 100000 in
set_option maxHeartbeats 3200000 in
theorem alternates_impl (P : Int) (D B a0 oa n d : Nat) (l : List Int) (w : World) (hc : Cells w B [.int .i64 P, .int .i64 D, .slice (some ⟨a0, oa, none⟩) n d]) (hD : D ≤ 28) (hn : n = D * D * D) (hd : n ≤ d) (hd2 : d ≤ maxLen)
    (hT : Reads w (some ⟨a0, oa, none⟩) n l) (hp : 2 ≤ P) (hp2 : P ≤ 10007) (hl : Res l P) :
    Calls Try.prog 105 #[.pointer (some ⟨B, 0, none⟩)] w fun e w' => e = .returned (.bool (altB P D l)) ∧ Ext w w' := by
  have HC := Lib.hid hc
  have HN := Lib.hid hn
  have HT := Lib.hid hT
  have HRL := Lib.hid hl
  have HD2 := Lib.hid hd2
  have lB := hc.1
  have q1 := hc.2 1 _ rfl
  clear hc hn hT hl hd2
  go_enter Try.func105, Try.ntmps105
  go_wp2_with fail
  clear lB q1
  go_loopw [10, 3] (fun z _ wr => ∃ i : Nat, i ≤ D ∧ z = .int .i64 i ∧ Hid (Ext w wr) ∧ Hid (∀ q, q < i → AltAt P D l q)) (fun z _ _ => D - (intOf z).toNat)
  case atStart => exact ⟨0, by omega, rfl, Ext.refl _, fun q hq => by omega⟩
  case round =>
    obtain ⟨i, hi, rfl, hE, hF⟩ := hrel
    by_cases hlt : i < D
    · have HR1 := Lib.hid (rowT_reads (HT.out.ext hE.out) HN.out hlt hlt)
      have HRL1 := Lib.hid (rowT_length (i := i) (j := i) (HT.out.1.trans HN.out) hlt hlt)
      go_wp2_with fail
      refine (bracket_impl P D B a0 oa n d i i _ (HC.out.ext hE.out) hD HN.out hd HD2.out hlt hlt).mono ?_
      rintro e w3 ⟨rfl, h3⟩
      go_wp2_with fail
      refine (firstNonzero_impl _ D _ (rowT D l i i) _ (HR1.out.ext h3) (by unfold maxLen; omega)).mono ?_
      rintro e w4 ⟨rfl, rfl⟩
      have hE3 := Lib.hid (hE.out.trans h3)
      clear hE h3 HR1
      by_cases hz : fz (rowT D l i i) 0 = D
      case neg =>
        have HF : Hid (altB P D l = false) := altB_false (fun h => hz (by
          have := (fz_all (rowT D l i i)).2 (fun k hk => by rw [HRL1.out] at hk; rw [gi_rowT hk]; exact (h i hlt).1 k hk)
          rw [this, HRL1.out]))
        have hfr : fzR (rowT D l i i) = (fz (rowT D l i i) 0 : Int) := by rw [fzR, HRL1.out, if_neg hz]
        rw [hfr]
        have hf0 : 0 ≤ (fz (rowT D l i i) 0 : Int) := by omega
        clear hz hfr
        go_wp2
        go_ret
        exact ⟨ret_bool HF.out.symm, hE3.out⟩
      have hfr : fzR (rowT D l i i) = -1 := by rw [fzR, HRL1.out, if_pos hz]
      have HZ : Hid (∀ k, k < D → tb D l i i k = 0) := fun k hk => by
        have := (fz_all (rowT D l i i)).1 (by rw [hz, HRL1.out]) k (by rw [HRL1.out]; exact hk)
        rwa [gi_rowT hk] at this
      rw [hfr]
      clear hz hfr HRL1
      go_wp2_with fail
      go_loopw [20, 4] (fun z _ wr => ∃ j : Nat, j ≤ i ∧ z = .int .i64 j ∧ Hid (Ext w wr) ∧ Hid (∀ q, q < j → ∀ k, k < D → (tb D l i q k + tb D l q i k) % P = 0)) (fun z _ _ => i - (intOf z).toNat)
      case atStart => exact ⟨0, by omega, rfl, hE3, fun q hq => by omega⟩
      case round =>
        clear hE3
        obtain ⟨j, hj, rfl, hE, hG⟩ := hrel
        by_cases hlt2 : j < i
        · have hjD : j < D := by omega
          have HA1 := Lib.hid (rowT_reads (HT.out.ext hE.out) HN.out hlt hjD)
          have HA2 := Lib.hid (rowT_reads (HT.out.ext hE.out) HN.out hjD hlt)
          have HCW := Lib.hid (HC.out.ext hE.out)
          have lB := HCW.out.1
          have q0 := HCW.out.2 0 _ rfl
          have hbr : ∀ w3, Ext wr w3 → ∀ (x y : Nat), x < D → y < D → Calls Try.prog 125 #[.pointer (some ⟨B, 0, none⟩), .int .i64 x, .int .i64 y] w3 fun e w' => e = .returned (.slice (some ⟨a0, oa + (x * D + y) * D, none⟩) D (d - (x * D + y) * D)) ∧ Ext w3 w' := fun w3 hE3 x y hx hy =>
            bracket_impl P D B a0 oa n d x y w3 (HCW.out.ext hE3) hD HN.out hd HD2.out hx hy
          have HBR := Lib.hid hbr
          have hop : ∀ w3, Ext wr w3 → ∀ c c', Calls Try.prog 128 #[.slice (some ⟨a0, oa + (i * D + j) * D, none⟩) D c, .slice (some ⟨a0, oa + (j * D + i) * D, none⟩) D c', .int .i64 P] w3 fun e w' => e = .returned (.bool (oppB P D (rowT D l i j) (rowT D l j i))) ∧ Ext w3 w' := fun w3 hE3 c c' =>
            opposite_impl P _ _ D c c' _ _ w3 (HA1.out.ext hE3) (HA2.out.ext hE3) (by omega) hp hp2 (rowT_res (by omega) HRL.out _ _) (rowT_res (by omega) HRL.out _ _)
          rcases hok : oppB P D (rowT D l i j) (rowT D l j i) with _ | _
          · have HF : Hid (altB P D l = false) := altB_false (fun h => by
              have := oppB_true (opp_row.2 ((h i hlt).2 j hlt2))
              rw [hok] at this; exact absurd this (by decide))
            rw [hok] at hop
            have HOP := Lib.hid hop
            clear hbr hop hok hG
            go_wp2_with fail
            go_region_held3 (fun w' => Ext wr w' ∧ (∀ b o, b < wr.heap.size → w'.cell? ⟨b, o, none⟩ = wr.cell? ⟨b, o, none⟩)) (first | assumption | (with_reducible exact ext2 (Ext.trans (And.left ‹Ext wr _ ∧ _›) ‹Ext _ _›)) | (refine ext2 ?_; with_reducible repeat (first | exact Ext.refl _ | refine Ext.drew ?_))) (first
              | (go_at_call 125; with_reducible refine (HBR.out _ (And.left ‹Ext wr _ ∧ _›) _ _ (by omega) (by omega)).mono ?_; rintro e w3 ⟨rfl, h3⟩)
              | (go_at_call 128; with_reducible refine (HOP.out _ (And.left ‹Ext wr _ ∧ _›) _ _).mono ?_; rintro e w4 ⟨rfl, h4⟩))
            all_goals
              have hx := (And.left ‹Ext wr _ ∧ _›)
              have HX := Lib.hid (hE.out.trans hx)
              clear hx
              go_wp2
              go_ret
              exact ⟨ret_bool HF.out.symm, HX.out⟩
          · have HF : Hid (∀ q, q < j + 1 → ∀ k, k < D → (tb D l i q k + tb D l q i k) % P = 0) := fun q hq => by
              by_cases e : q = j
              · subst e
                refine opp_row.1 (Classical.byContradiction (fun h => ?_))
                have := oppB_false h
                rw [hok] at this; exact absurd this (by decide)
              · exact hG.out q (by omega)
            rw [hok] at hop
            have HOP := Lib.hid hop
            clear hbr hop hok hG
            go_wp2_with fail
            go_region_held3 (fun w' => Ext wr w' ∧ (∀ b o, b < wr.heap.size → w'.cell? ⟨b, o, none⟩ = wr.cell? ⟨b, o, none⟩)) (first | assumption | (with_reducible exact ext2 (Ext.trans (And.left ‹Ext wr _ ∧ _›) ‹Ext _ _›)) | (refine ext2 ?_; with_reducible repeat (first | exact Ext.refl _ | refine Ext.drew ?_))) (first
              | (go_at_call 125; with_reducible refine (HBR.out _ (And.left ‹Ext wr _ ∧ _›) _ _ (by omega) (by omega)).mono ?_; rintro e w3 ⟨rfl, h3⟩)
              | (go_at_call 128; with_reducible refine (HOP.out _ (And.left ‹Ext wr _ ∧ _›) _ _).mono ?_; rintro e w4 ⟨rfl, h4⟩))
            all_goals
              have hx := (And.left ‹Ext wr _ ∧ _›)
              have HX := Lib.hid (hE.out.trans hx)
              clear hx lB q0
              go_wp2
              exact ⟨⟨j + 1, by omega, by simp, HX, HF⟩, by simp [intOf]; omega⟩
        · obtain rfl : i = j := by omega
          have HF2 : Hid (∀ q, q < i + 1 → AltAt P D l q) := fun q hq => by
            by_cases e : q = i
            · subst e; exact ⟨HZ.out, hG.out⟩
            · exact hF.out q (by omega)
          go_wp2
          exact ⟨⟨i + 1, by omega, by simp, hE, HF2⟩, by simp [intOf]; omega⟩
    · obtain rfl : D = i := by omega
      have HF2 : Hid (altB P D l = true) := altB_true hF.out
      clear hF
      go_wp2
      go_ret
      exact ⟨ret_bool HF2.out.symm, hE.out⟩
end Go.Proofs.Ytnikfalpjieibaa

/-
  Tables behind a pointer: the law of Jacobi, and whether an algebra is valid, in the program.
-/
namespace Go.Proofs.Ytnikfalpjieibaa
open Go.ChangeShapes Go.WideShapes Go.ChangeAt Go.RowKit
set_option linter.unusedVariables false

/-- A list of the call's own in block b. -/
def Holds (w : World) (b D : Nat) : Prop := ∃ s, Has w b s ∧ s.length = D
theorem zeroInt (w : World) : (zeroValue 3).run Try.prog w = .ok (.int .i64 0) w := by kernel_rfl
/-- The three terms of the law, one behind the other. -/
def jac3 (D : Nat) (l : List Int) (i j k : Nat) : List Int := abTo D l (rowT D l k i) j (abTo D l (rowT D l j k) i (abTo D l (rowT D l i j) k (List.replicate D 0) D) D) D
theorem gi_repl (n k : Nat) : gi (List.replicate n (0 : Int)) k = 0 := by
  simp only [gi, List.getD_eq_getElem?_getD, List.getElem?_replicate]; split <;> rfl
theorem gi_jac3 {D : Nat} {l : List Int} {i j k m : Nat} (hm : m < D) : gi (jac3 D l i j k) m = jacN D l i j k m := by
  have e : ∀ x y, (sumN D fun c => gi (rowT D l x y) c * tb D l c k m) = adN D l (tb D l x y) k m := fun x y => sumN_congr (fun c hc => by rw [gi_rowT hc])
  have e2 : ∀ x y, (sumN D fun c => gi (rowT D l x y) c * tb D l c i m) = adN D l (tb D l x y) i m := fun x y => sumN_congr (fun c hc => by rw [gi_rowT hc])
  have e3 : ∀ x y, (sumN D fun c => gi (rowT D l x y) c * tb D l c j m) = adN D l (tb D l x y) j m := fun x y => sumN_congr (fun c hc => by rw [gi_rowT hc])
  rw [jac3, gi_abTo _ hm, gi_abTo _ hm, gi_abTo _ hm, gi_repl, e, e2, e3, jacN]; omega
def Jac2 (P : Int) (D : Nat) (l : List Int) (i j : Nat) : Prop := ∀ k, k < j → ∀ m, m < D → jacN D l i j k m % P = 0
def Jac1 (P : Int) (D : Nat) (l : List Int) (i : Nat) : Prop := ∀ j, j < i → Jac2 P D l i j
set_option maxRecDepth 100000 in
set_option maxHeartbeats 6400000 in
theorem obeysJacobi_impl (P : Int) (D B a0 oa n d : Nat) (l : List Int) (w : World) (hc : Cells w B [.int .i64 P, .int .i64 D, .slice (some ⟨a0, oa, none⟩) n d]) (hD : D ≤ 28) (hn : n = D * D * D) (hd : n ≤ d) (hd2 : d ≤ maxLen)
    (hT : Reads w (some ⟨a0, oa, none⟩) n l) (hp : 2 ≤ P) (hp2 : P ≤ 10007) (hl : Res l P) :
    Calls Try.prog 106 #[.pointer (some ⟨B, 0, none⟩)] w fun e w' => e = .returned (.bool (jacB P D l)) ∧ Ext w w' := by
  have HC := Lib.hid hc
  have HN := Lib.hid hn
  have HT := Lib.hid hT
  have HRL := Lib.hid hl
  have HD2 := Lib.hid hd2
  have lB := hc.1
  have q1 := hc.2 1 _ rfl
  have hmk := make_ints D (by omega)
  have HLL := Lib.hid (hT.1.trans hn)
  have S0 : Hid (Holds (w.alloc (.cells (ints (List.replicate D 0)) 3)) w.heap.size D) := ⟨_, Has.new w _, by simp⟩
  have E0 : Hid (Ext w (w.alloc (.cells (ints (List.replicate D 0)) 3))) := (Ext.refl w).alloc _
  clear hc hn hT hl hd2
  go_enter Try.func106, Try.ntmps106
  go_wp2_with fail
  clear lB q1 hmk
  go_loopw [18, 4] (fun z _ wr => ∃ i : Nat, i ≤ D ∧ z = .int .i64 i ∧ Hid (Ext w wr) ∧ Hid (Holds wr w.heap.size D) ∧ Hid (∀ q, q < i → Jac1 P D l q)) (fun z _ _ => D - (intOf z).toNat)
  case atStart => exact ⟨0, by omega, rfl, E0, S0, fun q hq => by omega⟩
  case round =>
    clear E0 S0
    obtain ⟨i, hi, rfl, hE, hS, hF⟩ := hrel
    by_cases hlt : i < D
    · go_wp2_with fail
      go_loopw [22, 5] (fun z _ wr => ∃ j : Nat, j ≤ i ∧ z = .int .i64 j ∧ Hid (Ext w wr) ∧ Hid (Holds wr w.heap.size D) ∧ Hid (∀ q, q < j → Jac2 P D l i q)) (fun z _ _ => i - (intOf z).toNat)
      case atStart => exact ⟨0, by omega, rfl, hE, hS, fun q hq => by omega⟩
      case round =>
        clear hE hS
        obtain ⟨j, hj, rfl, hE, hS, hG⟩ := hrel
        by_cases hlt2 : j < i
        · go_wp2_with fail
          go_loopw [26, 6] (fun z _ wr => ∃ k : Nat, k ≤ j ∧ z = .int .i64 k ∧ Hid (Ext w wr) ∧ Hid (Holds wr w.heap.size D) ∧ Hid (∀ q, q < k → ∀ m, m < D → jacN D l i j q m % P = 0)) (fun z _ _ => j - (intOf z).toNat)
          case atStart => exact ⟨0, by omega, rfl, hE, hS, fun q hq => by omega⟩
          case round =>
            clear hE hS
            obtain ⟨k, hk, rfl, hE, hS, hK⟩ := hrel
            by_cases hlt3 : k < j
            · have hjD : j < D := by omega
              have hkD : k < D := by omega
              obtain ⟨s, hs, hsl⟩ := hS.out
              have hcl : ∀ ty, (Builtin.clear_ #[22] ty #[.slice (some ⟨w.heap.size, 0, none⟩) D D]).run Try.prog wr = .ok (.tuple #[]) (wr.setCells w.heap.size 0 (List.replicate D (.int .i64 0))) :=
                fun ty => Lib.run_clear_slice wr 22 3 ty (.int .i64 0) Try.underlying22 zeroInt rfl rfl w.heap.size 0 D D (by omega) (fun q hq => by rw [hs.cell (0 + q) (by omega)]; rfl) (fun q hq => hs.free (0 + q))
              have hcr := has_clear hs hsl
              have H1 := Lib.hid hcr.1
              have EW := Lib.hid (hE.out.grown hcr.2 (fun k hk => by simp at hk; omega))
              have HB0 : Hid (B < w.heap.size) := HC.out.1
              have HA0 : Hid (a0 < w.heap.size) := by
                have := (reads_at HT.out (k := 0) (by rw [HN.out]; have := tb_lt (k := k) hlt hjD hkD; omega)).1
                exact this
              have hP0 : 0 < P := by omega
              have hr1 := rowT_res (D := D) hP0 HRL.out i j
              have hr2 := rowT_res (D := D) hP0 HRL.out j k
              have hr3 := rowT_res (D := D) hP0 HRL.out k i
              have hb1 := fun m hm => abTo_bd (j := k) hP0 hp2 hr1 (rowT_length HLL.out hlt hjD) HRL.out HLL.out hkD hD (S := 0) (s := List.replicate D 0) (fun m hm => by rw [gi_repl]; omega) D (Nat.le_refl _) m hm
              have hb2 := fun m hm => abTo_bd (j := i) hP0 hp2 hr2 (rowT_length HLL.out hjD hkD) HRL.out HLL.out hlt hD hb1 D (Nat.le_refl _) m hm
              have hb3 := fun m hm => abTo_bd (j := j) hP0 hp2 hr3 (rowT_length HLL.out hkD hlt) HRL.out HLL.out hjD hD hb2 D (Nat.le_refl _) m hm
              have HR1 := Lib.hid hr1
              have HR2 := Lib.hid hr2
              have HR3 := Lib.hid hr3
              have HB1 := Lib.hid hb1
              have HB2 := Lib.hid hb2
              have HB3 := Lib.hid hb3
              have HJ3 : Hid (abTo D l (rowT D l k i) j (abTo D l (rowT D l j k) i (abTo D l (rowT D l i j) k (List.replicate D 0) D) D) D = jac3 D l i j k) := rfl
              clear hs hsl hcr hr1 hr2 hr3 hb1 hb2 hb3 hE hS
              go_wp2_with (simp only [hcl])
              clear hcl
              generalize wr.setCells w.heap.size 0 (List.replicate D (.int .i64 0)) = W1 at *
              refine (bracket_impl P D B a0 oa n d i j _ (HC.out.ext EW.out) hD HN.out hd HD2.out hlt hjD).mono ?_
              rintro e w2 ⟨rfl, h2⟩
              go_wp2_with fail
              refine (addBracket_impl P D B a0 oa n d a0 (oa + (i * D + j) * D) _ _ w.heap.size k l (List.replicate D 0) (rowT D l i j) w2 (HC.out.ext (EW.out.trans h2)) hD HN.out hd HD2.out hkD (H1.out.ext h2) (by simp) (by have := HB0.out; omega) (HT.out.ext (EW.out.trans h2)) (by have := HA0.out; omega) (rowT_reads (HT.out.ext (EW.out.trans h2)) HN.out hlt hjD) (by have := HA0.out; omega) hp hp2 HRL.out HR1.out (fun m hm => by rw [gi_repl]; omega)).mono ?_
              rintro e w3 ⟨rfl, hs3, hg3⟩
              have E3 := Lib.hid ((EW.out.trans h2).grown hg3 (fun k hk => by simp at hk; omega))
              have H3 := Lib.hid hs3
              clear H1 EW h2 hs3 hg3
              go_wp2_with fail
              refine (bracket_impl P D B a0 oa n d j k _ (HC.out.ext E3.out) hD HN.out hd HD2.out hjD hkD).mono ?_
              rintro e w4 ⟨rfl, h4⟩
              go_wp2_with fail
              refine (addBracket_impl P D B a0 oa n d a0 (oa + (j * D + k) * D) _ _ w.heap.size i l _ (rowT D l j k) w4 (HC.out.ext (E3.out.trans h4)) hD HN.out hd HD2.out hlt (H3.out.ext h4) (abTo_length _) (by have := HB0.out; omega) (HT.out.ext (E3.out.trans h4)) (by have := HA0.out; omega) (rowT_reads (HT.out.ext (E3.out.trans h4)) HN.out hjD hkD) (by have := HA0.out; omega) hp hp2 HRL.out HR2.out (fun m hm => by have := HB1.out m hm; omega)).mono ?_
              rintro e w5 ⟨rfl, hs5, hg5⟩
              have E5 := Lib.hid ((E3.out.trans h4).grown hg5 (fun k hk => by simp at hk; omega))
              have H5 := Lib.hid hs5
              clear H3 E3 h4 hs5 hg5
              go_wp2_with fail
              refine (bracket_impl P D B a0 oa n d k i _ (HC.out.ext E5.out) hD HN.out hd HD2.out hkD hlt).mono ?_
              rintro e w6 ⟨rfl, h6⟩
              go_wp2_with fail
              refine (addBracket_impl P D B a0 oa n d a0 (oa + (k * D + i) * D) _ _ w.heap.size j l _ (rowT D l k i) w6 (HC.out.ext (E5.out.trans h6)) hD HN.out hd HD2.out hjD (H5.out.ext h6) (abTo_length _) (by have := HB0.out; omega) (HT.out.ext (E5.out.trans h6)) (by have := HA0.out; omega) (rowT_reads (HT.out.ext (E5.out.trans h6)) HN.out hkD hlt) (by have := HA0.out; omega) hp hp2 HRL.out HR3.out (fun m hm => by have := HB2.out m hm; omega)).mono ?_
              rintro e w7 ⟨rfl, hs7, hg7⟩
              have E7 := Lib.hid ((E5.out.trans h6).grown hg7 (fun k hk => by simp at hk; omega))
              rw [HJ3.out] at hs7
              have H7 := Lib.hid hs7
              have HS7 : Hid (Holds w7 w.heap.size D) := ⟨_, hs7, by rw [← HJ3.out]; exact abTo_length _⟩
              have HJL : Hid ((jac3 D l i j k).length = D) := by rw [← HJ3.out]; exact abTo_length _
              have HJP : Hid (∀ m, m < D → 0 ≤ gi (jac3 D l i j k) m) := fun m hm => by rw [← HJ3.out]; exact (HB3.out m hm).1
              clear H5 E5 h6 hs7 hg7
              have CW := HC.out.ext E7.out
              have lB := CW.1
              have q0 := CW.2 0 _ rfl
              clear CW
              go_wp2_with fail
              refine (multiplesOf_impl P _ D _ (jac3 D l i j k) w7 (H7.out.reads HJL.out) (by omega) hp hp2 HJP.out).mono ?_
              rintro e w' ⟨rfl, rfl⟩
              rcases hok : mulB P D (jac3 D l i j k) with _ | _
              · have HF2 : Hid (jacB P D l = false) := jacB_false (fun h => by
                  have := mulB_true (P := P) (n := D) (xs := jac3 D l i j k) (fun m hm => by rw [gi_jac3 hm]; exact h i j k hlt hlt2 hlt3 m hm)
                  rw [hok] at this; exact absurd this (by decide))
                clear hok
                go_wp2
                go_ret
                exact ⟨ret_bool HF2.out.symm, E7.out⟩
              · have HK2 : Hid (∀ q, q < k + 1 → ∀ m, m < D → jacN D l i j q m % P = 0) := fun q hq m hm => by
                  by_cases e : q = k
                  · subst e
                    rw [← gi_jac3 hm]
                    refine Classical.byContradiction (fun h => ?_)
                    have := mulB_false (P := P) (n := D) (xs := jac3 D l i j q) (fun h2 => h (h2 m hm))
                    rw [hok] at this; exact absurd this (by decide)
                  · exact hK.out q (by omega) m hm
                clear hok hK lB q0
                go_wp2
                exact ⟨⟨k + 1, by omega, by simp, E7, HS7, HK2⟩, by simp [intOf]; omega⟩
            · obtain rfl : j = k := by omega
              have HG2 : Hid (∀ q, q < j + 1 → Jac2 P D l i q) := fun q hq => by
                by_cases e : q = j
                · subst e; exact hK.out
                · exact hG.out q (by omega)
              clear hK hG
              go_wp2
              exact ⟨⟨j + 1, by omega, by simp, hE, hS, HG2⟩, by simp [intOf]; omega⟩
        · obtain rfl : i = j := by omega
          have HG2 : Hid (∀ q, q < i + 1 → Jac1 P D l q) := fun q hq => by
            by_cases e : q = i
            · subst e; exact hG.out
            · exact hF.out q (by omega)
          clear hG hF
          go_wp2
          exact ⟨⟨i + 1, by omega, by simp, hE, hS, HG2⟩, by simp [intOf]; omega⟩
    · obtain rfl : D = i := by omega
      have HF2 : Hid (jacB P D l = true) := jacB_true (fun i j k h1 h2 h3 m hm => hF.out i h1 j h2 k h3 m hm)
      clear hF
      go_wp2
      go_ret
      exact ⟨ret_bool HF2.out.symm, hE.out⟩
end Go.Proofs.Ytnikfalpjieibaa

/-
  Whether an algebra is valid, in the program.
-/
namespace Go.Proofs.Ytnikfalpjieibaa
open Go.ChangeShapes Go.WideShapes Go.ChangeAt Go.RowKit
set_option linter.unusedVariables false

noncomputable def dimB (P D : Int) : Bool := isP P && inB D 0 28
set_option maxHeartbeats 400000 in
theorem dimOk_impl (P D : Int) (w : World) :
    Calls Try.prog 126 #[.int .i64 P, .int .i64 D] w fun e w' => e = .returned (.bool (dimB P D)) ∧ w = w' := by
  have HD : Hid (dimB P D = (isP P && inB D 0 28)) := rfl
  generalize dimB P D = q at HD
  rcases hp : isP P with _ | _
  · have HF : Hid (q = false) := by rw [Hid, HD.out, hp]; rfl
    go_enter Try.func126, Try.ntmps126
    go_wp2_with fail
    refine (isPrime_impl _ _).mono ?_
    rintro e w' ⟨rfl, rfl⟩
    rw [hp]
    go_wp2
    go_ret
    exact ⟨ret_bool HF.out.symm, rfl⟩
  have HP := Lib.hid hp
  clear hp
  by_cases h1 : 0 ≤ D
  · by_cases h2 : D ≤ 28
    · have HF : Hid (q = true) := by rw [Hid, HD.out, HP.out, Bool.true_and]; exact inB_iff.2 ⟨h1, h2⟩
      go_enter Try.func126, Try.ntmps126
      go_wp2_with fail
      refine (isPrime_impl _ _).mono ?_
      rintro e w' ⟨rfl, rfl⟩
      rw [HP.out]
      go_wp2
      go_ret
      exact ⟨ret_bool (by rw [HF.out]; try simp [h2]), rfl⟩
    · have HF : Hid (q = false) := by rw [Hid, HD.out, HP.out, Bool.true_and]; exact inB_false.2 (fun h => h2 h.2)
      have hb : decide (D ≤ 28) = false := by simpa using h2
      go_enter Try.func126, Try.ntmps126
      go_wp2_with fail
      refine (isPrime_impl _ _).mono ?_
      rintro e w' ⟨rfl, rfl⟩
      rw [HP.out]
      go_wp2
      go_ret
      exact ⟨ret_bool (by rw [HF.out]; try simp [h2]), rfl⟩
  · have HF : Hid (q = false) := by rw [Hid, HD.out, HP.out, Bool.true_and]; exact inB_false.2 (fun h => h1 h.1)
    have hb : decide (0 ≤ D) = false := by simpa using h1
    go_enter Try.func126, Try.ntmps126
    go_wp2_with fail
    refine (isPrime_impl _ _).mono ?_
    rintro e w' ⟨rfl, rfl⟩
    rw [HP.out]
    go_wp2
    go_ret
    exact ⟨ret_bool (by rw [HF.out]; try simp [h1]), rfl⟩

noncomputable def sizB (P D : Int) (xs : List Int) : Bool := dimB P D && (((xs.length : Int) == D * D * D) && resB xs P)
set_option maxRecDepth 100000 in
set_option maxHeartbeats 1600000 in
theorem sizeFits_impl (P D : Int) (B n d : Nat) (a : Option Addr) (l : List Int) (w : World) (hc : Cells w B [.int .i64 P, .int .i64 D, .slice a n d]) (hT : Reads w a n l) (hm : n ≤ maxLen) :
    Calls Try.prog 104 #[.pointer (some ⟨B, 0, none⟩)] w fun e w' => e = .returned (.bool (sizB P D l)) ∧ Ext w w' := by
  have HC := Lib.hid hc
  have HT := Lib.hid hT
  have lB := hc.1
  have q0 := hc.2 0 _ rfl
  have q1 := hc.2 1 _ rfl
  have q2 := hc.2 2 _ rfl
  have HS : Hid (sizB P D l = (dimB P D && (((n : Int) == D * D * D) && resB l P))) := by rw [Hid, sizB, hT.1]
  generalize sizB P D l = q at HS
  clear hc hT
  rcases hd : dimB P D with _ | _
  · have HF : Hid (q = false) := by rw [Hid, HS.out, hd]; rfl
    have hdm := fun w => dimOk_impl P D w
    rw [hd] at hdm
    have HDM := Lib.hid hdm
    clear hd hdm
    go_enter Try.func104, Try.ntmps104
    go_wp2_with fail
    go_quiet ((go_at_call 126; exact Calls.quiet_of_same ((HDM.out _).mono fun _ _ ⟨he, hw⟩ => ⟨he, hw.symm⟩)))
    go_wp2
    go_ret
    exact ⟨ret_bool HF.out.symm, by with_reducible repeat (first | exact Ext.refl _ | refine Ext.drewN ?_ _)⟩
  have hdd : 0 ≤ D ∧ D ≤ 28 := by
    simp only [dimB, Bool.and_eq_true] at hd; exact inB_iff.1 hd.2
  obtain ⟨hd0, hd28⟩ := hdd
  have HF : Hid (q = (((n : Int) == D * D * D) && resB l P)) := by rw [Hid, HS.out, hd, Bool.true_and]
  have hdm := fun w => dimOk_impl P D w
  rw [hd] at hdm
  have HDM := Lib.hid hdm
  have hiv := fun w (hr : Reads w a n l) => isVector_impl a n d l (D * D * D) P w hr hm
  rw [← HF.out] at hiv
  have HIV := Lib.hid hiv
  clear hd hdm hiv HS
  obtain ⟨D, rfl⟩ := Int.eq_ofNat_of_zero_le hd0
  have hD : D ≤ 28 := by omega
  have h28 := cube28 hD
  have h27 : D * D ≤ 784 := Nat.mul_le_mul hD hD
  have e1 : (D : Int) * (D : Int) = ((D * D : Nat) : Int) := by simp
  have e2 : (D : Int) * (D : Int) * (D : Int) = ((D * D * D : Nat) : Int) := by simp
  have v1 : IntKind.i64.wrap ((D : Int) * (D : Int)) = (D : Int) * (D : Int) := IntWalk.i64_in _ ⟨by rw [e1]; omega, by rw [e1]; omega⟩
  have v2 : IntKind.i64.wrap ((D : Int) * (D : Int) * (D : Int)) = (D : Int) * (D : Int) * (D : Int) := IntWalk.i64_in _ ⟨by rw [e2]; omega, by rw [e2]; omega⟩
  clear e1 e2 hd0 hd28
  go_enter Try.func104, Try.ntmps104
  go_wp2_with fail
  go_quiet (first
    | (go_at_call 126; exact Calls.quiet_of_same ((HDM.out _).mono fun _ _ ⟨he, hw⟩ => ⟨he, hw.symm⟩))
    | (go_at_call 100; exact Calls.quiet_of_same ((HIV.out _ (HT.out.ext ((Ext.refl _).drewN _))).mono fun _ _ ⟨he, hw⟩ => ⟨he, hw.symm⟩)))
  go_wp2
  go_ret
  exact ⟨rfl, by with_reducible repeat (first | exact Ext.refl _ | refine Ext.drewN ?_ _)⟩

noncomputable def algB (P D : Int) (xs : List Int) : Bool := sizB P D xs && (altB P D.toNat xs && jacB P D.toNat xs)
structure AlgP (P : Int) (D : Nat) (n : Nat) (xs : List Int) : Prop where
  pr : isP P = true
  dim : D ≤ 28
  len : n = D * D * D
  res : Res xs P
  alt : AltP P D xs
  jac : JacP P D xs
theorem sizB_parts {P D : Int} {xs : List Int} (h : sizB P D xs = true) : isP P = true ∧ ∃ d : Nat, D = d ∧ d ≤ 28 ∧ xs.length = d * d * d ∧ Res xs P := by
  simp only [sizB, dimB, Bool.and_eq_true, beq_iff_eq] at h
  obtain ⟨⟨h1, h2⟩, h3, h4⟩ := h
  have h5 := inB_iff.1 h2
  obtain ⟨d, rfl⟩ := Int.eq_ofNat_of_zero_le h5.1
  refine ⟨h1, d, rfl, by omega, ?_, by simpa [resB] using h4⟩
  have : ((xs.length : Nat) : Int) = ((d * d * d : Nat) : Int) := by rw [h3]; simp
  omega
theorem algB_parts {P D : Int} {xs : List Int} {n : Nat} (h : algB P D xs = true) (hn : xs.length = n) : ∃ d : Nat, D = d ∧ AlgP P d n xs := by
  simp only [algB, Bool.and_eq_true] at h
  obtain ⟨h1, h2, h3⟩ := h
  obtain ⟨p1, d, rfl, p2, p3, p4⟩ := sizB_parts h1
  rw [Int.toNat_natCast] at h2 h3
  exact ⟨d, rfl, p1, p2, by rw [← hn, p3], p4, by simpa [altB] using h2, by simpa [jacB] using h3⟩

/-- What wrap hands on: a pointer to the algebra, and whether it is valid. -/
def WrapPost (w : World) (P D : Int) (v : Value) (ok : Bool) (e : Ending) (w' : World) : Prop := ∃ B, e = .returned (.tuple #[.pointer (some ⟨B, 0, none⟩), .bool ok]) ∧ Cells w' B [.int .i64 P, .int .i64 D, v] ∧ w.heap.size ≤ B ∧ Ext w w'
set_option maxRecDepth 100000 in
set_option maxHeartbeats 1600000 in
theorem wrap_impl (P D : Int) (a0 oa n d : Nat) (l : List Int) (w : World) (hT : Reads w (some ⟨a0, oa, none⟩) n l) (hm : n ≤ 1048576) (hd : n ≤ d) (hd2 : d ≤ maxLen) :
    Calls Try.prog 61 #[.agg #[.int .i64 P, .int .i64 D, .slice (some ⟨a0, oa, none⟩) n d]] w (WrapPost w P D (.slice (some ⟨a0, oa, none⟩) n d) (algB P D l)) := by
  have HT := Lib.hid hT
  have HD2 := Lib.hid hd2
  have HA : Hid (algB P D l = (sizB P D l && (altB P D.toNat l && jacB P D.toNat l))) := rfl
  have HL := Lib.hid hT.1
  have hm2 : n ≤ maxLen := by unfold maxLen; omega
  generalize algB P D l = q at HA
  clear hT hd2
  go_enter Try.func61, Try.ntmps61
  go_wp2_with fail
  have B0 := Lib.hid ((cells_new' (w.alloc (.cells #[.int .i64 P, .int .i64 D, .slice (some ⟨a0, oa, none⟩) n d] 29)) #[.int .i64 P, .int .i64 D, .slice (some ⟨a0, oa, none⟩) n d] 86 (w.heap.size + 1) (by simp)))
  have E0 := Lib.hid (((Ext.refl w).alloc (.cells #[.int .i64 P, .int .i64 D, .slice (some ⟨a0, oa, none⟩) n d] 29)).alloc (.cells #[.int .i64 P, .int .i64 D, .slice (some ⟨a0, oa, none⟩) n d] 86))
  refine (sizeFits_impl P D (w.heap.size + 1) n d _ l _ B0.out (HT.out.ext E0.out) hm2).mono ?_
  rintro e w1 ⟨rfl, h1⟩
  have B1 := Lib.hid (B0.out.ext h1)
  have E1 := Lib.hid (E0.out.trans h1)
  clear B0 E0 h1
  rcases hs : sizB P D l with _ | _
  · have HF : Hid (q = false) := by rw [Hid, HA.out, hs]; rfl
    clear hs
    go_wp2
    go_ret2
    rw [HF.out]
    exact ⟨w.heap.size + 1, rfl, B1.out, Nat.le_succ _, E1.out⟩
  have HF : Hid (q = (altB P D.toNat l && jacB P D.toNat l)) := by rw [Hid, HA.out, hs, Bool.true_and]
  obtain ⟨hpr, D, rfl, hD, hl, hx⟩ := sizB_parts hs
  have hp := isP_lo hpr
  have hp2 := isP_hi hpr
  have HN : Hid (n = D * D * D) := by rw [Hid, ← HL.out, hl]
  have HX := Lib.hid hx
  rw [Int.toNat_natCast] at HF
  clear hs hl hx hpr HA
  go_wp2_with fail
  refine (alternates_impl P D (w.heap.size + 1) a0 oa n d l w1 B1.out hD HN.out hd HD2.out (HT.out.ext E1.out) hp hp2 HX.out).mono ?_
  rintro e w2 ⟨rfl, h2⟩
  have B2 := Lib.hid (B1.out.ext h2)
  have E2 := Lib.hid (E1.out.trans h2)
  clear B1 E1 h2
  rcases hs : altB P D l with _ | _
  · have HF : Hid (q = false) := by rw [Hid, HF.out, hs]; rfl
    clear hs
    go_wp2
    go_ret2
    rw [HF.out]
    exact ⟨w.heap.size + 1, rfl, B2.out, Nat.le_succ _, E2.out⟩
  have HF : Hid (q = jacB P D l) := by rw [Hid, HF.out, hs, Bool.true_and]
  clear hs
  go_wp2_with fail
  refine (obeysJacobi_impl P D (w.heap.size + 1) a0 oa n d l w2 B2.out hD HN.out hd HD2.out (HT.out.ext E2.out) hp hp2 HX.out).mono ?_
  rintro e w3 ⟨rfl, h3⟩
  have B3 := Lib.hid (B2.out.ext h3)
  have E3 := Lib.hid (E2.out.trans h3)
  clear B2 E2 h3
  rw [← HF.out]
  go_wp2
  go_ret2
  exact ⟨w.heap.size + 1, rfl, B3.out, Nat.le_succ _, E3.out⟩

end Go.Proofs.Ytnikfalpjieibaa
