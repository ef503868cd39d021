/-
  A slice of numbers that came in, with the range of its numbers.
-/
import Derived.Test.YtinoaldfdcddiaaGreatFr
import Derived.Test.YtinoaldfdcddiaaGreatRs5
namespace Go.Proofs.YtinoaldfdcddiaaGreat
open Go.ChangeShapes Go.WideShapes Go.ChangeAt Go.RowKit
set_option linter.unusedVariables false
set_option linter.unusedSimpArgs false

theorem reads_trodw {H : Type} {enc : TypeId × Value → H} {W : World} {n : Nat} {v : Value} {y : DataW H × List MemPlace}
    (h : DataW.trod enc Tryz.prog W 0 (fun _ => true) true n 22 [v] = some y) :
    ∃ a l c xs, v = .slice a l c ∧ (Reads W a l xs ∧ l ≤ maxLen) ∧ Wf5 xs := by
  rcases open_ints Tryz.underlying22 Tryz.underlying3 cellsInt h with ⟨hcs, _⟩ | ⟨x, l, c, zs, hcs, _, hl, hm, hz, _, hcell, hwz⟩
  · simp at hcs
    exact ⟨none, 0, 0, [], hcs, ⟨⟨rfl, .inl rfl⟩, by omega⟩, fun e => by simp [gi]⟩
  · simp at hcs
    have hz' : zs.length = c := by simpa using hz
    have htl : (zs.take l).length = l := by simp; omega
    refine ⟨some x, l, c, zs.take l, hcs, ⟨⟨htl, ?_⟩, by omega⟩, fun e => ?_⟩
    · by_cases h0 : l = 0
      · exact .inl h0
      · obtain ⟨b, off, spot⟩ := x
        have hspot : spot = none := by simpa [Addr.add] using World.cell?_spot (hcell 0 (by omega))
        subst hspot
        refine .inr ⟨b, off, rfl, ?_, fun j hj => ?_⟩
        · have := hcell 0 (by omega)
          simpa [Addr.add] using World.block_lt_of_cell? _ _ this
        · have := hcell j (by omega)
          rw [add_plain] at this
          rw [this]
          simp [gi, hj]
    · by_cases he : e < (zs.take l).length
      · rw [show gi (zs.take l) e = (zs.take l)[e] by simp only [gi, List.getD_eq_getElem?_getD, List.getElem?_eq_getElem he, Option.getD_some]]
        have h1 := hwz _ (List.mem_of_mem_take (List.getElem_mem he))
        generalize (zs.take l)[e] = t at h1 ⊢
        have h2 : IntKind.i64.min ≤ t ∧ t ≤ 9223372036854775807 := by simpa [Lit.wf] using h1
        have h3 : IntKind.i64.min = -9223372036854775808 := by decide
        rw [h3] at h2
        exact h2
      · rw [show gi (zs.take l) e = 0 by simp only [gi, List.getD_eq_getElem?_getD, List.getElem?_eq_none (Nat.le_of_not_lt he), Option.getD_none]]
        omega
set_option maxRecDepth 100000 in
theorem open_intslw {H : Type} {enc : TypeId × Value → H} {W : World} {base : Nat} {v : Value} {d : DataW H} {p : List MemPlace}
    (hv : Value.okWide Tryz.prog W .any base 22 v) (h : DataW.Trod enc Tryz.prog W 0 (fun _ => true) true 22 v d p) :
    ∃ a n c xs, v = .slice a n c ∧ (Reads W a n xs ∧ n ≤ maxLen) ∧ Wf5 xs := by
  obtain ⟨a0, len0, cap0, rfl⟩ := okWide_slice Tryz.underlying22 hv
  obtain ⟨fuel, hf⟩ := h
  exact reads_trodw (by simpa [Value.cells] using hf)
end Go.Proofs.YtinoaldfdcddiaaGreat
