/-
  How an argument that is an algebra is read.
-/
import Derived.Test.YtgmipolgnpjmnaaRow
namespace Go.Proofs.Ytgmipolgnpjmnaa
open Go.ChangeShapes Go.WideShapes Go.ChangeAt Go.RowKit

set_option maxRecDepth 100000 in
theorem open_alg {H : Type} {enc : TypeId × Value → H} {W : World} {base : Nat} {v : Value} {d : DataW H} {p : List MemPlace}
    (hv : Value.okWide Try.prog W .any base 24 v) (h : DataW.Trod enc Try.prog W 0 (fun _ => true) true 24 v d p) :
    ∃ P D a n c xs, v = .agg #[.int .i64 P, .int .i64 D, .slice a n c] ∧ Reads W a n xs ∧ n ≤ maxLen := by
  obtain ⟨v0, v1, v2, y0, y1, y2, m, rfl, _, _, t0, t1, t2⟩ := Go.Joins.open_agg3 Try.underlying24 (by kernel_rfl) (by kernel_rfl) hv h
  obtain ⟨P, e0, _, _⟩ := DataW.trod_int Try.underlying3 t0
  obtain ⟨D, e1, _, _⟩ := DataW.trod_int Try.underlying3 t1
  obtain ⟨a, n, c, xs, e2, hr, hm⟩ := reads_trod t2
  simp at e0 e1 e2
  subst e0 e1 e2
  exact ⟨P, D, a, n, c, xs, rfl, hr, hm⟩
end Go.Proofs.Ytgmipolgnpjmnaa
