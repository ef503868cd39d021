/-
  How an argument that is a Cartan matrix is read.
-/
import Derived.Test.YtlnpaplbcocmkaaGreatFr
namespace Go.Proofs.YtlnpaplbcocmkaaGreat
open Go.ChangeShapes Go.WideShapes Go.ChangeAt Go.RowKit

set_option maxRecDepth 100000 in
theorem open_car {H : Type} {enc : TypeId × Value → H} {W : World} {base : Nat} {v : Value} {d : DataW H} {p : List MemPlace}
    (hv : Value.okWide Tryz.prog W .any base 24 v) (h : DataW.Trod enc Tryz.prog W 0 (fun _ => true) true 24 v d p) :
    ∃ R a n c xs, v = .agg #[.int .i64 R, .slice a n c] ∧ Reads W a n xs ∧ n ≤ maxLen := by
  obtain ⟨v0, v1, y0, y1, m, rfl, _, _, t0, t1⟩ := Go.Joins.open_agg2 Tryz.underlying24 (by kernel_rfl) (by kernel_rfl) hv h
  obtain ⟨R, e0, _, _⟩ := DataW.trod_int Tryz.underlying3 t0
  obtain ⟨a, n, c, xs, e1, hr, hm⟩ := reads_trod t1
  simp at e0 e1
  subst e0 e1
  exact ⟨R, a, n, c, xs, rfl, hr, hm⟩
end Go.Proofs.YtlnpaplbcocmkaaGreat
