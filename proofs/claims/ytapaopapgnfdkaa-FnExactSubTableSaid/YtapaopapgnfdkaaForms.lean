/-
  Invariant forms, derivations, cocycles: the faults of both texts. Plain mathematics.
-/
import Derived.Test.YtapaopapgnfdkaaBr
namespace Go.Proofs.Ytapaopapgnfdkaa
set_option linter.unusedVariables false

/-- The value of a form for the bracket of i and j, and k; and that for i and the bracket of j and k. -/
def fvN (D : Nat) (l fs : List Int) (i j k : Nat) : Int := sumN D fun c => tb D l i j c * at2 D fs c k
def fwN (D : Nat) (l fs : List Int) (i j k : Nat) : Int := sumN D fun c => tb D l j k c * at2 D fs i c
/-- The bracket of the image of i and j, at k. -/
def mvN (D : Nat) (l ms : List Int) (i j k : Nat) : Int := sumN D fun c => at2 D ms i c * tb D l c j k
def mwN (D : Nat) (l ms : List Int) (i j k : Nat) : Int := sumN D fun c => at2 D ms j c * tb D l i c k
def cyN (D : Nat) (l fs : List Int) (i j k : Nat) : Int := fvN D l fs i j k + fvN D l fs j k i + fvN D l fs k i j
section
variable {P : Int} {D : Nat} {l fs : List Int}
theorem sumN_neg (n : Nat) (f : Nat → Int) : sumN n (fun i => -f i) = -sumN n f := by
  have := sumN_mul n (-1) f
  rw [show (fun i => -f i) = (fun i => -1 * f i) from funext fun i => by omega, this]; omega
theorem Eqm.neg {a b : Int} (h : Eqm P a b) : Eqm P (-a) (-b) := by
  obtain ⟨t, rfl⟩ := h; exact ⟨-t, by rw [Int.mul_neg]; omega⟩
theorem fvN_neg (h : AltP P D l) {i j : Nat} (hi : i < D) (hj : j < D) (k : Nat) : Eqm P (fvN D l fs i j k) (-fvN D l fs j i k) := by
  rw [fvN, fvN, ← sumN_neg]
  refine sumN_eqm fun c hc => ?_
  have := (h.neg hi hj hc).mul (Eqm.refl (P := P) (at2 D fs c k))
  rwa [Int.neg_mul] at this
theorem mwN_neg (h : AltP P D l) {i k : Nat} (hi : i < D) (hk : k < D) (j : Nat) : Eqm P (mwN D l fs i j k) (-mvN D l fs j i k) := by
  rw [mwN, mvN, ← sumN_neg]
  refine sumN_eqm fun c hc => ?_
  have := (Eqm.refl (P := P) (at2 D fs j c)).mul (h.neg hi hc hk)
  rwa [Int.mul_neg] at this
theorem eqm_iff_sub {a b : Int} : Eqm P a b ↔ Eqm P (a - b) 0 := by
  constructor
  · intro h; have := h.sub (Eqm.refl b); rwa [Int.sub_self] at this
  · intro h; have := h.add (Eqm.refl b); rwa [Int.zero_add, Int.sub_add_cancel] at this
/-! Invariant forms. -/
def InvI (P : Int) (D : Nat) (l fs : List Int) : Prop := ∀ i, i < D → ∀ j, j < D → ∀ k, k < D → Eqm P (fvN D l fs i j k - fwN D l fs i j k) 0
def InvS1 (P : Int) (D : Nat) (l fs : List Int) (i : Nat) : Prop := ∀ j, j < D → ∀ k, k < D → Eqm P (fvN D l fs i j k + sumN D fun c => at2 D fs j c * tb D l i k c) 0
theorem fw_swap (i j k : Nat) : (sumN D fun c => at2 D fs j c * tb D l i k c) = fwN D l fs j i k := sumN_congr fun c _ => Int.mul_comm _ _
theorem inv_iff (h : AltP P D l) : (∀ i, i < D → InvS1 P D l fs i) ↔ InvI P D l fs := by
  constructor
  · intro hs i hi j hj k hk
    have h1 := hs j hj i hi k hk
    rw [fw_swap] at h1
    have h2 := fvN_neg (fs := fs) h hi hj k
    have h3 := (h2.add (Eqm.refl (P := P) (fvN D l fs j i k))).sub h1
    have h4 : -fvN D l fs j i k + fvN D l fs j i k - 0 = 0 := by omega
    have h5 : fvN D l fs i j k + fvN D l fs j i k - (fvN D l fs j i k + fwN D l fs i j k) = fvN D l fs i j k - fwN D l fs i j k := by omega
    rw [h4, h5] at h3
    exact h3
  · intro hI i hi j hj k hk
    rw [fw_swap]
    have h1 := hI j hj i hi k hk
    have h2 := fvN_neg (fs := fs) h hi hj k
    have h3 := (h2.add (Eqm.refl (P := P) (fvN D l fs j i k))).sub h1
    have h4 : -fvN D l fs j i k + fvN D l fs j i k - 0 = 0 := by omega
    have h5 : fvN D l fs i j k + fvN D l fs j i k - (fvN D l fs j i k - fwN D l fs j i k) = fvN D l fs i j k + fwN D l fs j i k := by omega
    rw [h4, h5] at h3
    exact h3
/-! Derivations. -/
def DerI (P : Int) (D : Nat) (l ms : List Int) : Prop := ∀ i, i < D → ∀ j, j < D → ∀ k, k < D → Eqm P (fvN D l ms i j k - mvN D l ms i j k + mvN D l ms j i k) 0
def DerS1 (P : Int) (D : Nat) (l ms : List Int) (i j : Nat) : Prop := ∀ k, k < D → Eqm P (fvN D l ms i j k) (mvN D l ms i j k + mwN D l ms i j k)
theorem der_iff (h : AltP P D l) : (∀ i, i < D → ∀ j, j < i → DerS1 P D l fs i j) ↔ DerI P D l fs := by
  have key : ∀ i j k, i < D → j < D → k < D → (Eqm P (fvN D l fs i j k) (mvN D l fs i j k + mwN D l fs i j k) ↔ Eqm P (fvN D l fs i j k - mvN D l fs i j k + mvN D l fs j i k) 0) := by
    intro i j k hi hj hk
    have h1 := mwN_neg (fs := fs) h hi hk j
    constructor
    · intro h2
      have h3 := (h2.sub (Eqm.refl (P := P) (mvN D l fs i j k))).add ((Eqm.refl (P := P) (mvN D l fs j i k)))
      refine h3.trans ?_
      have h4 := h1.add (Eqm.refl (P := P) (mvN D l fs j i k))
      rw [show -mvN D l fs j i k + mvN D l fs j i k = 0 by omega] at h4
      refine (Eqm.of_eq ?_).trans h4
      omega
    · intro h2
      have h3 := (h2.add (Eqm.refl (P := P) (mvN D l fs i j k))).add h1
      have h4 : fvN D l fs i j k - mvN D l fs i j k + mvN D l fs j i k + mvN D l fs i j k + mwN D l fs i j k = fvN D l fs i j k + mvN D l fs j i k + mwN D l fs i j k := by omega
      rw [h4] at h3
      have h5 := h1.add (Eqm.refl (P := P) (mvN D l fs j i k))
      rw [show -mvN D l fs j i k + mvN D l fs j i k = 0 by omega] at h5
      -- fv + mv ji + mw = 0 + mv ij - mv ji
      have h6 := (Eqm.refl (P := P) (fvN D l fs i j k)).add h5
      have h7 := h6.symm.trans ((Eqm.of_eq (by omega)).trans h3)
      rw [Int.add_zero] at h7
      refine h7.trans ?_
      have h8 := (Eqm.refl (P := P) (mvN D l fs i j k)).add h1.symm
      refine (Eqm.of_eq ?_).trans h8
      omega
  constructor
  · intro hs i hi j hj k hk
    by_cases e : i = j
    · subst e
      have : fvN D l fs i i k = 0 := by
        rw [fvN, ← sumN_zero D]
        exact sumN_congr fun c hc => by rw [(h i hi).1 c hc, Int.zero_mul]
      exact Eqm.of_eq (by rw [this]; omega)
    · by_cases e2 : j < i
      · exact (key i j k hi hj hk).1 (hs i hi j e2 k hk)
      · have h1 := (key j i k hj hi hk).1 (hs j hj i (by omega) k hk)
        have h2 := fvN_neg (fs := fs) h hi hj k
        have h3 := ((h2.sub (Eqm.refl (P := P) (mvN D l fs i j k))).add (Eqm.refl (P := P) (mvN D l fs j i k)))
        refine h3.trans ?_
        have h4 := h1.neg
        refine (Eqm.of_eq ?_).trans h4
        omega
  · intro hI i hi j hj k hk
    exact (key i j k hi (by omega) hk).2 (hI i hi j (by omega) k hk)
/-! Cocycles. -/
def CycI (P : Int) (D : Nat) (l fs : List Int) : Prop := ∀ i, i < D → ∀ j, j < D → ∀ k, k < D → Eqm P (cyN D l fs i j k) 0
def CycS (P : Int) (D : Nat) (l fs : List Int) : Prop := ∀ i, i < D → ∀ j, i < j → j < D → ∀ k, j < k → k < D → Eqm P (cyN D l fs i j k) 0
theorem cyN_rot (i j k : Nat) : cyN D l fs j k i = cyN D l fs i j k := by unfold cyN; omega
theorem cyN_swap (h : AltP P D l) {i j k : Nat} (hi : i < D) (hj : j < D) (hk : k < D) : Eqm P (cyN D l fs i j k) (-cyN D l fs j i k) := by
  have h1 := fvN_neg (fs := fs) h hi hj k
  have h2 := fvN_neg (fs := fs) h hj hk i
  have h3 := fvN_neg (fs := fs) h hk hi j
  refine ((h1.add h2).add h3).trans (Eqm.of_eq ?_)
  unfold cyN; omega
theorem cyN_eq (h : AltP P D l) {i k : Nat} (hi : i < D) (hk : k < D) : Eqm P (cyN D l fs i i k) 0 := by
  have h0 : fvN D l fs i i k = 0 := by
    rw [fvN, ← sumN_zero D]
    exact sumN_congr fun c hc => by rw [(h i hi).1 c hc, Int.zero_mul]
  have h1 := (fvN_neg (fs := fs) h hk hi i).add (Eqm.refl (P := P) (fvN D l fs i k i))
  rw [show -fvN D l fs i k i + fvN D l fs i k i = 0 by omega] at h1
  refine (Eqm.of_eq ?_).trans h1
  unfold cyN; omega
theorem cyc_iff (h : AltP P D l) : CycS P D l fs ↔ CycI P D l fs := by
  constructor
  · intro hs
    have up : ∀ i j k, i < j → j < k → k < D → Eqm P (cyN D l fs i j k) 0 := fun i j k h1 h2 h3 => hs i (by omega) j h1 (by omega) k h2 h3
    have neg0 : ∀ a b : Int, Eqm P a (-b) → Eqm P b 0 → Eqm P a 0 := fun a b h1 h2 => h1.trans (by have := h2.neg; rwa [Int.neg_zero] at this)
    intro i hi j hj k hk
    by_cases e1 : i = j
    · subst e1; exact cyN_eq h hi hk
    · by_cases e2 : j = k
      · subst e2; rw [← cyN_rot]; exact cyN_eq h hj hi
      · by_cases e3 : i = k
        · subst e3; rw [← cyN_rot, ← cyN_rot]; exact cyN_eq h hi hj
        · by_cases a : i < j
          · by_cases b : j < k
            · exact up i j k a b hk
            · by_cases c : i < k
              · -- i < k < j
                have := up i k j c (by omega) hj
                rw [← cyN_rot]
                exact neg0 _ _ (cyN_swap h hj hk hi) (by rw [← cyN_rot, ← cyN_rot]; exact this)
              · -- k < i < j
                have := up k i j (by omega) a hj
                rw [← cyN_rot, ← cyN_rot]
                exact this
          · by_cases b : i < k
            · -- j < i < k
              exact neg0 _ _ (cyN_swap h hi hj hk) (up j i k (by omega) b hk)
            · by_cases c : j < k
              · -- j < k < i
                rw [← cyN_rot]
                exact up j k i c (by omega) hi
              · -- k < j < i
                exact neg0 _ _ (cyN_swap h hi hj hk) (by rw [← cyN_rot, ← cyN_rot]; exact up k j i (by omega) (by omega) hi)
  · intro hI i hi j h1 hj k h2 hk
    exact hI i hi j hj k hk
end
end Go.Proofs.Ytapaopapgnfdkaa
