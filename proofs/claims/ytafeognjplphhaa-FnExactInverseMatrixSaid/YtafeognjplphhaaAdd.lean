/-
  Sums of matrices, both texts.
-/
import Derived.Test.YtafeognjplphhaaCopy
import Derived.Test.YtafeognjplphhaaZero
import Derived.RegionTactic
import Derived.Outline
namespace Go.Proofs.Ytafeognjplphhaa
open Go.RowKit
set_option linter.unusedVariables false

/-- A list that is made over to another one, number by number. -/
def mix (t xs : List Int) (k : Nat) : List Int := t.take k ++ xs.drop k
theorem mix_zero (t xs : List Int) : mix t xs 0 = xs := by simp [mix]
theorem mix_full (t xs : List Int) (h : t.length = xs.length) : mix t xs xs.length = t := by simp [mix, ← h]
theorem mix_length (t xs : List Int) (k : Nat) (h : t.length = xs.length) (hk : k ≤ xs.length) : (mix t xs k).length = xs.length := by
  simp [mix]; omega
theorem gi_mix (t xs : List Int) (k : Nat) (h : t.length = xs.length) (hk : k < xs.length) : gi (mix t xs k) k = gi xs k := by
  simp only [gi, mix, List.getD_eq_getElem?_getD]
  rw [List.getElem?_append_right (by simp; omega)]
  have : min k t.length = k := by omega
  simp [this]
theorem mix_set (t xs : List Int) (k : Nat) (h : t.length = xs.length) (hk : k < xs.length) : (mix t xs k).set k (gi t k) = mix t xs (k + 1) := by
  apply List.ext_getElem?
  intro i
  have hm : min k t.length = k := by omega
  simp only [mix, List.getElem?_set, List.length_append, List.length_take, List.length_drop]
  by_cases h1 : k = i
  · subst h1
    have : k < min k t.length + (xs.length - k) := by omega
    simp only [if_true, this]
    rw [List.getElem?_append_left (by simp; omega), List.getElem?_take, if_pos (by omega)]
    have : k < t.length := by omega
    simp [gi, this]
  · rw [if_neg h1]
    by_cases h2 : i < k
    · rw [List.getElem?_append_left (by simp; omega), List.getElem?_append_left (by simp; omega), List.getElem?_take, List.getElem?_take, if_pos h2, if_pos (by omega)]
    · rw [List.getElem?_append_right (by simp; omega), List.getElem?_append_right (by simp; omega)]
      simp only [List.length_take, List.getElem?_drop, hm]
      have : min (k + 1) t.length = k + 1 := by omega
      rw [this]
      congr 1
      omega

/-- The sum, number by number, of xs and k times ys. -/
def addL (p k : Int) (xs ys : List Int) : List Int := (List.range xs.length).map fun i => (gi xs i + k * gi ys i) % p
theorem addL_length (p k : Int) (xs ys : List Int) : (addL p k xs ys).length = xs.length := by simp [addL]
theorem gi_addL (p k : Int) (xs ys : List Int) (i : Nat) (h : i < xs.length) : gi (addL p k xs ys) i = (gi xs i + k * gi ys i) % p := by simp [addL, gi, h]

end Go.Proofs.Ytafeognjplphhaa
