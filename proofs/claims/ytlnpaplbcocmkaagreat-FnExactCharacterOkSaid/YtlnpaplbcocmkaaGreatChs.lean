/-
  Characters: the model. (hasCharacter_impl and l8Ok_spec are still to be proved.)
-/
import Derived.Test.YtlnpaplbcocmkaaGreatTrmB
import Derived.Test.YtlnpaplbcocmkaaGreatCg
import Derived.Test.YtlnpaplbcocmkaaGreatAbv
import Derived.Test.YtlnpaplbcocmkaaGreatCmp5
namespace Go.Proofs.YtlnpaplbcocmkaaGreat
open Go.ChangeShapes Go.WideShapes Go.ChangeAt Go.RowKit
set_option linter.unusedVariables false
set_option linter.unusedSimpArgs false

/-- One term of a character, behind another one. -/
def chJ (R : Nat) (ts : List (List Int × Int)) (j : Nat) : Bool := latB R (tmR ts j) && (decide (1 ≤ tmC ts j ∧ tmC ts j ≤ 1000000) && (decide (j = 0) || abvB (tmR ts (j - 1)) (tmR ts j)))
/-- A list of terms that is a character. -/
def chB (R : Nat) (ts : List (List Int × Int)) : Bool := decide (ts.length ≤ 400) && (List.range ts.length).all (chJ R ts)
theorem chB_long {R : Nat} {ts : List (List Int × Int)} (h : ¬ ts.length ≤ 400) : chB R ts = false := by rw [chB, decide_eq_false h]; rfl
theorem chB_no {R j : Nat} {ts : List (List Int × Int)} (hj : j < ts.length) (h : chJ R ts j = false) : chB R ts = false := by
  have : (List.range ts.length).all (chJ R ts) = false := by
    rw [List.all_eq_false]
    exact ⟨j, List.mem_range.2 hj, by rw [h]; simp⟩
  rw [chB, this, Bool.and_false]
theorem chB_yes {R : Nat} {ts : List (List Int × Int)} (h : ts.length ≤ 400) (h2 : ∀ j, j < ts.length → chJ R ts j = true) : chB R ts = true := by
  rw [chB, decide_eq_true h, Bool.true_and, List.all_eq_true]
  exact fun j hj => h2 j (List.mem_range.1 hj)
theorem cmpI_pos {a b : Int} : 0 < cmpI a b ↔ cmpI b a < 0 := by
  rw [cmpI_neg]
  constructor
  · intro h
    apply Classical.byContradiction
    intro h2
    rcases (show a = b ∨ a < b by omega) with e | e
    · have := (cmpI_zero (a := a) (b := b)).2 e; omega
    · have := (cmpI_neg (a := a) (b := b)).2 e; omega
  · intro h
    apply Classical.byContradiction
    intro h2
    rcases (show cmpI a b = 0 ∨ cmpI a b < 0 by omega) with e | e
    · have := (cmpI_zero (a := a) (b := b)).1 e; omega
    · have := (cmpI_neg (a := a) (b := b)).1 e; omega
theorem abv_lex9 : ∀ {x y : List Int}, x.length = y.length → abvB x y = lexB x y
  | [], [], _ => by simp [abvB, lexB]
  | [], _ :: _, h => by simp at h
  | _ :: _, [], h => by simp at h
  | a :: x, b :: y, h => by
    rw [abvB, lexB]
    split
    · exact abv_lex9 (by simpa using h)
    · rfl
end Go.Proofs.YtlnpaplbcocmkaaGreat
