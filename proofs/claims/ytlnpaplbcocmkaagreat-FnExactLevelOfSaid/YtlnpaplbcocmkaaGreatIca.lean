/-
  IsCartan, of the program and of the specification.
-/
import Derived.Test.YtlnpaplbcocmkaaGreatPrt
namespace Go.Proofs.YtlnpaplbcocmkaaGreat
open Go.ChangeShapes Go.WideShapes Go.ChangeAt Go.RowKit
set_option linter.unusedVariables false
set_option linter.unusedSimpArgs false

/-- Whether a rank and numbers are a Cartan matrix. -/
def carB (R : Int) (l : List Int) : Bool := decide (1 ≤ R ∧ R ≤ 4 ∧ (l.length : Int) = R * R) && (tabGet R.toNat l).isSome
theorem carB_nat {R : Nat} {l : List Int} (h0 : 1 ≤ R) (hR : R ≤ 4) (hl : l.length = R * R) : carB R l = (tabGet R l).isSome := by
  rw [carB, decide_eq_true ⟨by omega, by omega, by rw [hl]; simp⟩]; rfl
theorem carB_wrap {R : Nat} {l : List Int} (h0 : 1 ≤ R) (hR : R ≤ 4) (hl : l.length = R * R) : (wrapS l R R = none → carB R l = false) ∧ ∀ v, wrapS l R R = some v → carB R l = true := by
  rw [carB_nat h0 hR hl, ← wrapS_tab h0 hR hl]
  exact ⟨fun h => by rw [h]; rfl, fun v h => by rw [h]; rfl⟩
theorem carB_spec {R : Nat} {l : List Int} (h0 : 1 ≤ R) (hR : R ≤ 4) (hl : l.length = R * R) : (specM l R = none → carB R l = false) ∧ ∀ v, specM l R = some v → carB R l = true := by
  rw [carB_nat h0 hR hl, specM_tab h0 hR hl]
  constructor
  · intro h; rw [Option.map_eq_none_iff] at h; rw [h]; rfl
  · intro v h; rw [Option.map_eq_some_iff] at h; obtain ⟨u, h, _⟩ := h; rw [h]; rfl

set_option maxRecDepth 100000 in
set_option maxHeartbeats 1600000 in
theorem isCartan_spec {R : Int} {a0 oa n : Nat} {l : List Int} {w : World} {i : Bool} (hT : Reads w (some ⟨a0, oa, none⟩) n l) (hm0 : n ≤ 1048576) (hM : carB R l = i) :
    Calls Tryz.prog 58 #[.agg #[.int .i64 R, .slice (some ⟨a0, oa, none⟩) n n]] w fun e w' => e = .returned (.bool i) ∧ Ext w w' := by
  have hln := hT.len
  by_cases h : 1 ≤ R ∧ R ≤ 4 ∧ (n : Int) = R * R
  · obtain ⟨R, rfl⟩ := Int.eq_ofNat_of_zero_le (show 0 ≤ R by omega)
    have hn : Hid (n = R * R) := by have := h.2.2; rw [Hid]; exact_mod_cast this
    have h : 1 ≤ R ∧ R ≤ 4 := ⟨by omega, by omega⟩
    have hT := Lib.hid hT
    have HNO := Lib.hid (carB_spec h.1 h.2 (hln.trans hn.out))
    rw [hM] at HNO
    clear hM hln
    go_enter Tryz.func58, Tryz.ntmps58
    go_wp2_with fail
    refine (l5Parts_spec R a0 oa n n l _ (hT.out.ext (show Ext w _ by with_reducible first | exact Ext.refl _ | exact (Ext.refl _).alloc _)) hn.out h.1 h.2).mono ?_
    rintro e w2 ⟨hE, ⟨h1, rfl⟩ | ⟨ns, a, c, h1, rfl⟩⟩
    · have HF := Lib.hid (HNO.out.1 h1)
      go_wp2
      go_ret
      exact ⟨ret_bool HF.out.symm, (show Ext w _ by with_reducible first | exact Ext.refl _ | exact (Ext.refl _).alloc _).trans hE⟩
    · have HF := Lib.hid (HNO.out.2 _ h1)
      go_wp2
      go_ret
      exact ⟨ret_bool HF.out.symm, (show Ext w _ by with_reducible first | exact Ext.refl _ | exact (Ext.refl _).alloc _).trans hE⟩
  · have HF : Hid (i = false) := by
      rw [Hid, ← hM, carB, hln, decide_eq_false h]; rfl
    clear hM hln hT
    go_enter Tryz.func58, Tryz.ntmps58
    go_wp2_with fail
    refine (l5Parts_bad R a0 oa n n _ hm0 h).mono ?_
    rintro e w2 ⟨rfl, hE⟩
    go_wp2
    go_ret
    exact ⟨ret_bool HF.out.symm, (show Ext w _ by with_reducible first | exact Ext.refl _ | exact (Ext.refl _).alloc _).trans hE⟩
end Go.Proofs.YtlnpaplbcocmkaaGreat
