/-
  A Cartan matrix, known or not: what both texts do first.
-/
import Derived.Test.YtlnpaplbcocmkaaGreatIca
import Derived.Test.YtlnpaplbcocmkaaGreatLat
import Derived.Test.YtlnpaplbcocmkaaGreatLnz
import Derived.Test.YtlnpaplbcocmkaaGreatRtk
namespace Go.Proofs.YtlnpaplbcocmkaaGreat
open Go.ChangeShapes Go.WideShapes Go.ChangeAt Go.RowKit
set_option linter.unusedVariables false
set_option linter.unusedSimpArgs false

/-- What is known of a Cartan matrix: the names of its parts, and its lengths. -/
def carG (R : Int) (l : List Int) : Option (List Nat × List Int) := if 1 ≤ R ∧ R ≤ 4 ∧ (l.length : Int) = R * R then tabGet R.toNat l else none
theorem carB_G {R : Int} {l : List Int} : carB R l = (carG R l).isSome := by
  unfold carB carG
  by_cases h : 1 ≤ R ∧ R ≤ 4 ∧ (l.length : Int) = R * R
  · rw [if_pos h, decide_eq_true h]; rfl
  · rw [if_neg h, decide_eq_false h]; rfl
theorem carG_some {R : Int} {l : List Int} {v : List Nat × List Int} (h : carG R l = some v) : ∃ K : Nat, R = (K : Int) ∧ 1 ≤ K ∧ K ≤ 4 ∧ l.length = K * K ∧ tabGet K l = some v := by
  unfold carG at h
  by_cases h1 : 1 ≤ R ∧ R ≤ 4 ∧ (l.length : Int) = R * R
  · rw [if_pos h1] at h
    obtain ⟨K, rfl⟩ := Int.eq_ofNat_of_zero_le (show 0 ≤ R by omega)
    exact ⟨K, rfl, by omega, by omega, by have := h1.2.2; exact_mod_cast this, h⟩
  · rw [if_neg h1] at h; cases h
def Rints5 (w w' : World) (v : Value) (xs : List Int) : Prop := ∃ a n c, v = .slice a n c ∧ Own w' w.heap.size w'.heap.size a n xs ∧ n ≤ 1048576
theorem latB_bnd {R : Nat} {ys : List Int} (h : latB R ys = true) : ys.length = R ∧ ∀ e, -1000 ≤ gi ys e ∧ gi ys e ≤ 1000 := by
  rw [latB, Bool.and_eq_true, List.all_eq_true] at h
  refine ⟨eq_of_beq h.1, fun e => ?_⟩
  by_cases he : e < ys.length
  · rw [show gi ys e = ys[e] by simp [gi, he]]
    exact of_decide_eq_true (h.2 _ (List.getElem_mem he))
  · rw [show gi ys e = 0 by simp [gi, List.getD_eq_getElem?_getD, he]]; omega

theorem wrapCartan_no {R : Int} {a0 oa n : Nat} {l : List Int} {w : World} (hT : Reads w (some ⟨a0, oa, none⟩) n l) (hm0 : n ≤ 1048576) (hG : carG R l = none) :
    Calls Tryz.prog 60 #[.agg #[.int .i64 R, .slice (some ⟨a0, oa, none⟩) n n]] w fun e w' => e = .returned (.tuple #[.pointer none, .bool false]) ∧ Ext w w' := by
  have hln := hT.len
  by_cases h : 1 ≤ R ∧ R ≤ 4 ∧ (n : Int) = R * R
  · obtain ⟨R, rfl⟩ := Int.eq_ofNat_of_zero_le (show 0 ≤ R by omega)
    have hn : n = R * R := by have := h.2.2; exact_mod_cast this
    refine (wrapCartan_impl R a0 oa n l w hT hn (by omega) (by omega)).mono ?_
    rintro e w' (⟨h1, rfl, hE⟩ | ⟨B, LB, ns, ls, h1, rfl, hW⟩)
    · exact ⟨rfl, hE⟩
    · exfalso
      have h2 := wrapS_tab (show 0 < R by omega) (by omega) (hln.trans hn)
      rw [h1] at h2
      rw [carG, if_pos (by rw [hln]; exact h)] at hG
      simp only [Int.toNat_natCast] at hG
      rw [hG] at h2
      cases h2
  · exact wrapCartan_bad R a0 oa n w hm0 h
theorem wrapCartan_yes {K a0 oa n : Nat} {l : List Int} {v : List Nat × List Int} {w : World} (hT : Reads w (some ⟨a0, oa, none⟩) n l) (hK1 : 1 ≤ K) (hK4 : K ≤ 4) (hG : tabGet K l = some v) (hl : l.length = K * K) :
    Calls Tryz.prog 60 #[.agg #[.int .i64 (K : Nat), .slice (some ⟨a0, oa, none⟩) n n]] w fun e w' => ∃ B LB ns, e = .returned (.tuple #[.pointer (some ⟨B, 0, none⟩), .bool true]) ∧ sortN ns = v.1 ∧ Wrapped w w' B LB K (.slice (some ⟨a0, oa, none⟩) n n) ns v.2 := by
  have hln := hT.len
  refine (wrapCartan_impl K a0 oa n l w hT (by omega) hK1 hK4).mono ?_
  have h2 := wrapS_tab (show 0 < K by omega) hK4 hl
  rintro e w' (⟨h1, rfl, hE⟩ | ⟨B, LB, ns, ls, h1, rfl, hW⟩)
  · rw [h1, hG] at h2; cases h2
  · rw [h1, hG] at h2
    have h3 := Option.some.inj h2
    exact ⟨B, LB, ns, rfl, congrArg Prod.fst h3, by rw [← h3]; exact hW⟩
theorem isCartan_no {R : Int} {a0 oa n : Nat} {l : List Int} {w : World} (hT : Reads w (some ⟨a0, oa, none⟩) n l) (hm0 : n ≤ 1048576) (hG : carG R l = none) :
    Calls Tryz.prog 58 #[.agg #[.int .i64 R, .slice (some ⟨a0, oa, none⟩) n n]] w fun e w' => e = .returned (.bool false) ∧ Ext w w' :=
  isCartan_spec hT hm0 (by rw [carB_G, hG]; rfl)
theorem isCartan_yes {R : Int} {a0 oa n : Nat} {l : List Int} {v : List Nat × List Int} {w : World} (hT : Reads w (some ⟨a0, oa, none⟩) n l) (hm0 : n ≤ 1048576) (hG : carG R l = some v) :
    Calls Tryz.prog 58 #[.agg #[.int .i64 R, .slice (some ⟨a0, oa, none⟩) n n]] w fun e w' => e = .returned (.bool true) ∧ Ext w w' :=
  isCartan_spec hT hm0 (by rw [carB_G, hG]; rfl)
end Go.Proofs.YtlnpaplbcocmkaaGreat
