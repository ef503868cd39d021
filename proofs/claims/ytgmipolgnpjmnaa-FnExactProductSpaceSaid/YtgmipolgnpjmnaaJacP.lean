/-
  Tables of brackets. Plain mathematics.
-/
import Derived.Test.YtgmipolgnpjmnaaGrow
import Derived.Test.YtgmipolgnpjmnaaSpOk
namespace Go.Proofs.Ytgmipolgnpjmnaa
set_option linter.unusedVariables false

/-! Tables of brackets: what alternates, and the law of Jacobi in one order or the other. -/
def tb (n : Nat) (l : List Int) (i j k : Nat) : Int := gi l ((i * n + j) * n + k)
theorem tb_lt {n i j k : Nat} (hi : i < n) (hj : j < n) (hk : k < n) : (i * n + j) * n + k < n * n * n := by
  have h1 : i * n + j + 1 ≤ n * n := by have := Nat.mul_le_mul_right n (show i + 1 ≤ n by omega); rw [Nat.add_mul] at this; omega
  have h2 := Nat.mul_le_mul_right n h1
  rw [Nat.add_mul] at h2; omega
/-- The brackets alternate. -/
def AltP (P : Int) (n : Nat) (l : List Int) : Prop := ∀ i, i < n → (∀ k, k < n → tb n l i i k = 0) ∧ ∀ j, j < i → ∀ k, k < n → (tb n l i j k + tb n l j i k) % P = 0
/-- The bracket of x and the basis element j, at k. -/
def adN (n : Nat) (l : List Int) (x : Nat → Int) (j k : Nat) : Int := sumN n fun c => x c * tb n l c j k
def jacN (n : Nat) (l : List Int) (i j k m : Nat) : Int := adN n l (tb n l i j) k m + adN n l (tb n l j k) i m + adN n l (tb n l k i) j m
def JacP (P : Int) (n : Nat) (l : List Int) : Prop := ∀ i j k, i < n → j < i → k < j → ∀ m, m < n → jacN n l i j k m % P = 0
def JacS (P : Int) (n : Nat) (l : List Int) : Prop := ∀ i j k, i < j → j < k → k < n → ∀ m, m < n → jacN n l i j k m % P = 0
section
variable {P : Int} {n : Nat} {l : List Int}
theorem eqm_zero {a : Int} : Eqm P a 0 ↔ a % P = 0 := by
  constructor
  · intro h; rw [h.to_emod]; simp
  · intro h; exact Eqm.of_emod (by rw [h]; simp)
theorem AltP.neg (h : AltP P n l) {i j k : Nat} (hi : i < n) (hj : j < n) (hk : k < n) : Eqm P (tb n l i j k) (-tb n l j i k) := by
  have key : ∀ a b : Int, (a + b) % P = 0 → Eqm P a (-b) := by
    intro a b h0
    obtain ⟨t, ht⟩ := eqm_zero.2 h0
    exact ⟨t, by omega⟩
  by_cases e : i = j
  · subst e
    rw [(h i hi).1 k hk]; exact Eqm.of_eq (by simp)
  · by_cases e2 : j < i
    · exact key _ _ ((h i hi).2 j e2 k hk)
    · exact key _ _ (by rw [Int.add_comm]; exact (h j hj).2 i (by omega) k hk)
theorem adN_neg (h : AltP P n l) {i j : Nat} (hi : i < n) (hj : j < n) (k m : Nat) : Eqm P (adN n l (tb n l i j) k m) (-adN n l (tb n l j i) k m) := by
  have e : -adN n l (tb n l j i) k m = sumN n fun c => -tb n l j i c * tb n l c k m := by
    have := sumN_mul n (-1) (fun c => tb n l j i c * tb n l c k m)
    rw [adN, show -(sumN n fun c => tb n l j i c * tb n l c k m) = -1 * (sumN n fun c => tb n l j i c * tb n l c k m) by omega, ← this]
    exact sumN_congr (fun c _ => by grind)
  rw [e]
  exact sumN_eqm (fun c hc => (h.neg hi hj hc).mul (Eqm.refl _))
theorem jac_swap (h : AltP P n l) {i j k m : Nat} (hi : i < n) (hj : j < n) (hk : k < n) : jacN n l i j k m % P = 0 ↔ jacN n l k j i m % P = 0 := by
  have e : Eqm P (jacN n l i j k m) (-jacN n l k j i m) := by
    have h1 := adN_neg h hi hj k m
    have h2 := adN_neg h hj hk i m
    have h3 := adN_neg h hk hi j m
    have := (h1.add h2).add h3
    refine this.trans (Eqm.of_eq ?_)
    simp only [jacN]; omega
  rw [← eqm_zero, ← eqm_zero]
  constructor
  · intro h0
    obtain ⟨t, ht⟩ := e.symm.trans h0
    exact ⟨-t, by rw [Int.mul_neg]; omega⟩
  · intro h0
    obtain ⟨t, ht⟩ := h0
    obtain ⟨s, hs⟩ := e
    exact ⟨s - t, by rw [Int.mul_sub]; omega⟩
theorem jac_iff (h : AltP P n l) : JacP P n l ↔ JacS P n l :=
  ⟨fun hp i j k h1 h2 h3 m hm => (jac_swap h (by omega) (by omega) (by omega)).1 (hp k j i h3 h2 h1 m hm),
   fun hs i j k h1 h2 h3 m hm => (jac_swap h (by omega) (by omega) (by omega)).1 (hs k j i h3 h2 h1 m hm)⟩
end
/-- The bracket of two elements, at k. -/
def brN (n : Nat) (l : List Int) (x y : Nat → Int) (k : Nat) : Int := sumN n fun i => sumN n fun j => x i * y j * tb n l i j k
def brL (P : Int) (n : Nat) (l xs ys : List Int) : List Int := (List.range n).map fun k => brN n l (gi xs) (gi ys) k % P
def basL (n k : Nat) : List Int := (List.replicate n 0).set k 1
theorem gi_basL {n k : Nat} (hk : k < n) (q : Nat) : gi (basL n k) q = if q = k then 1 else 0 := by
  rw [basL, gi_set _ _ _ _ (by simpa using hk)]
  split
  · rfl
  · simp only [gi, List.getD_eq_getElem?_getD, List.getElem?_replicate]; split <;> rfl
theorem gi_map (n : Nat) (f : Nat → Int) {k : Nat} (hk : k < n) : gi ((List.range n).map f) k = f k := by
  simp [gi, hk]
theorem brN_bas {n : Nat} {l : List Int} (x : Nat → Int) {b : Nat} (hb : b < n) (k : Nat) : brN n l x (gi (basL n b)) k = adN n l x b k := by
  refine sumN_congr (fun i hi => ?_)
  have := sumN_one (n := n) (k := b) (fun j => x i * gi (basL n b) j * tb n l i j k) hb (fun j hj hne => by rw [gi_basL hb, if_neg hne]; simp)
  rw [this, gi_basL hb, if_pos rfl, Int.mul_one]
theorem sumN_nonneg {n : Nat} {f : Nat → Int} (h : ∀ i, i < n → 0 ≤ f i) : 0 ≤ sumN n f := by
  induction n with
  | zero => exact Int.le_refl _
  | succ n ih => rw [sumN]; have := ih (fun i hi => h i (by omega)); have := h n (by omega); omega
theorem sumN_le {n : Nat} {f : Nat → Int} {B : Int} (h : ∀ i, i < n → f i ≤ B) : sumN n f ≤ n * B := by
  induction n with
  | zero => simp [sumN]
  | succ n ih => rw [sumN]; have := ih (fun i hi => h i (by omega)); have := h n (by omega); rw [Int.natCast_add, Int.add_mul]; omega
end Go.Proofs.Ytgmipolgnpjmnaa
