/-
  Words of a Weyl group, in both texts.
-/
import Derived.Test.YtlnpaplbcocmkaaGreatCg
import Derived.Laws.EntriesVeiled
namespace Go.Proofs.YtlnpaplbcocmkaaGreat
open Go.ChangeShapes Go.WideShapes Go.ChangeAt Go.RowKit
set_option linter.unusedVariables false
set_option linter.unusedSimpArgs false

theorem readsW {w : World} {a : Option Addr} {n : Nat} {xs : List Int} (h : Reads w a n xs) (h0 : 0 < n) : ∃ b o, a = some ⟨b, o, none⟩ ∧ b < w.heap.size ∧ ∀ j, j < n → w.cell? ⟨b, o + j, none⟩ = some (.int .i64 (gi xs j)) := by
  rcases h.2 with h1 | h1
  · omega
  · exact h1
def rowB (R : Nat) (ys : List Int) : Bool := ys.all fun y => decide (0 ≤ y ∧ y < (R : Int))
/-- At most 60 numbers of rows. -/
def wordB (R : Nat) (ys : List Int) : Bool := decide (ys.length ≤ 60) && rowB R ys
theorem rowB_yes {R : Nat} {ys : List Int} (h2 : ∀ e, e < ys.length → 0 ≤ gi ys e ∧ gi ys e < (R : Int)) : rowB R ys = true := by
  rw [rowB, List.all_eq_true]
  intro y hy
  obtain ⟨e, he, rfl⟩ := List.mem_iff_getElem.1 hy
  have := h2 e he
  rw [show gi ys e = ys[e] by simp [gi, he]] at this
  exact decide_eq_true this
theorem rowB_no {R : Nat} {ys : List Int} {e : Nat} (he : e < ys.length) (h2 : ¬ (0 ≤ gi ys e ∧ gi ys e < (R : Int))) : rowB R ys = false := by
  rw [show gi ys e = ys[e] by simp [gi, he]] at h2
  rcases h : rowB R ys with _ | _
  · rfl
  · rw [rowB, List.all_eq_true] at h
    exact absurd (of_decide_eq_true (h _ (List.getElem_mem he))) h2
theorem rowB_at {R : Nat} {ys : List Int} (h : rowB R ys = true) {e : Nat} (he : e < ys.length) : 0 ≤ gi ys e ∧ gi ys e < (R : Int) := by
  rw [rowB, List.all_eq_true] at h
  rw [show gi ys e = ys[e] by simp [gi, he]]
  exact of_decide_eq_true (h _ (List.getElem_mem he))
theorem wordB_len {R : Nat} {ys : List Int} (h : ¬ ys.length ≤ 60) : wordB R ys = false := by
  rw [wordB, decide_eq_false h]; rfl
theorem wordB_row {R : Nat} {ys : List Int} (h : ys.length ≤ 60) : wordB R ys = rowB R ys := by
  rw [wordB, decide_eq_true h]; rfl

theorem StrR.ext {w w' : World} {a : Option Addr} {n : Nat} {ss : List ByteArray} (h : StrR w a n ss) (hE : Ext w w') : StrR w' a n ss := by
  refine ⟨h.1, ?_⟩
  rcases h.2 with h2 | ⟨g, e, hg, hc⟩
  · exact .inl h2
  · exact .inr ⟨g, e, Nat.lt_of_lt_of_le hg hE.le, fun j hj => (hE.cells g j hg).trans (hc j hj)⟩
theorem Wrapped.step {W w w' : World} {B LB R : Nat} {da : Value} {ns : List Nat} {ls : List Int} (h : Wrapped W w B LB R da ns ls) (hE : Ext w w') : Wrapped W w' B LB R da ns ls := by
  obtain ⟨⟨a, n, c, h1, h2⟩, h3, h4, h5, h6, h7⟩ := h
  exact ⟨⟨a, n, c, h1.ext hE, h2.ext hE⟩, h3.ext hE, h4.trans hE, h5, h6, h7⟩
theorem Wrapped.low {V W w : World} {B LB R : Nat} {da : Value} {ns : List Nat} {ls : List Int} (h : Wrapped W w B LB R da ns ls) (hE : Ext V W) : Wrapped V w B LB R da ns ls :=
  ⟨h.box, h.len, hE.trans h.ext, Nat.le_trans hE.le h.loB, Nat.le_trans hE.le h.loL, h.neL⟩
def wordsB (K N : Nat) (Y : Nat → List Int) : Bool := (List.range N).all fun j => wordB K (Y j)
theorem wordsB_yes {K N : Nat} {Y : Nat → List Int} (h : ∀ j, j < N → wordB K (Y j) = true) : wordsB K N Y = true := by
  rw [wordsB, List.all_eq_true]; exact fun j hj => h j (List.mem_range.1 hj)
theorem wordsB_no {K N j : Nat} {Y : Nat → List Int} (hj : j < N) (h : wordB K (Y j) = false) : wordsB K N Y = false := by
  rcases h1 : wordsB K N Y with _ | _
  · rfl
  · rw [wordsB, List.all_eq_true] at h1
    have := h1 j (List.mem_range.2 hj)
    rw [h] at this; cases this
def wrdO (R : Int) (l ys : List Int) : Bool := (carG R l).isSome && wordB R.toNat ys

end Go.Proofs.YtlnpaplbcocmkaaGreat
