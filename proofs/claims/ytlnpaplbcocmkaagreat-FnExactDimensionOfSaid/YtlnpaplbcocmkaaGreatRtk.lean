/-
  The positive roots of each Cartan matrix of the table are few, small and in order.
-/
import Derived.Test.YtlnpaplbcocmkaaGreatRts
namespace Go.Proofs.YtlnpaplbcocmkaaGreat
set_option maxRecDepth 100000

theorem rts4_0 : tab4_0.all (fun t => rootsB t.1 t.2.2 4) = true := by decide +kernel
theorem rts4_1 : tab4_1.all (fun t => rootsB t.1 t.2.2 4) = true := by decide +kernel
theorem rts4_2 : tab4_2.all (fun t => rootsB t.1 t.2.2 4) = true := by decide +kernel
theorem rts4_3 : tab4_3.all (fun t => rootsB t.1 t.2.2 4) = true := by decide +kernel
theorem rts4_4 : tab4_4.all (fun t => rootsB t.1 t.2.2 4) = true := by decide +kernel
theorem rts4_5 : tab4_5.all (fun t => rootsB t.1 t.2.2 4) = true := by decide +kernel
theorem rts4_6 : tab4_6.all (fun t => rootsB t.1 t.2.2 4) = true := by decide +kernel
theorem rts4_7 : tab4_7.all (fun t => rootsB t.1 t.2.2 4) = true := by decide +kernel
theorem rts1 : tab1.all (fun t => rootsB t.1 t.2.2 1) = true := by decide +kernel
theorem rts2 : tab2.all (fun t => rootsB t.1 t.2.2 2) = true := by decide +kernel
theorem rts3 : tab3.all (fun t => rootsB t.1 t.2.2 3) = true := by decide +kernel
theorem rts4 : tab4.all (fun t => rootsB t.1 t.2.2 4) = true := by
  unfold tab4
  simp only [List.all_append, rts4_0, rts4_1, rts4_2, rts4_3, rts4_4, rts4_5, rts4_6, rts4_7, Bool.and_self]
theorem tab_roots : ∀ R, 0 < R → R < 5 → (tab R).all (fun t => rootsB t.1 t.2.2 R) = true := by
  intro R h0 h1
  match R, h0, h1 with
  | 1, _, _ => exact rts1
  | 2, _, _ => exact rts2
  | 3, _, _ => exact rts3
  | 4, _, _ => exact rts4
theorem rootsOk_tab {R : Nat} {xs : List Int} {v : List Nat × List Int} (h0 : 0 < R) (hR : R ≤ 4) (h : tabGet R xs = some v) : RootsOk xs v.2 R := by
  have h1 := tab_roots R h0 (by omega)
  rw [List.all_eq_true] at h1
  exact rootsOk_of (h1 _ (tabGet_mem h))
end Go.Proofs.YtlnpaplbcocmkaaGreat
