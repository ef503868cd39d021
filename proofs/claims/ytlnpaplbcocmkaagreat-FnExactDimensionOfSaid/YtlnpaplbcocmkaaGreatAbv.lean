/-
  The lexicographic order of lists, by the specification.
-/
import Derived.Test.YtlnpaplbcocmkaaGreatRd5
namespace Go.Proofs.YtlnpaplbcocmkaaGreat
open Go.ChangeShapes Go.WideShapes Go.ChangeAt Go.RowKit
set_option linter.unusedVariables false
set_option linter.unusedSimpArgs false

/-- A list is lexicographically greater. -/
def abvB : List Int → List Int → Bool
  | a :: x, b :: y => if a = b then abvB x y else decide (b < a)
  | _ :: _, [] => true
  | [], _ => false
theorem abvB_ne : ∀ {x y : List Int} {i : Nat}, i < x.length → i < y.length → (∀ e, e < i → gi x e = gi y e) → gi x i ≠ gi y i → abvB x y = decide (gi y i < gi x i)
  | a :: x, b :: y, 0, _, _, _, hne => by
    have hne : a ≠ b := hne
    rw [abvB, if_neg hne]; rfl
  | a :: x, b :: y, i + 1, h1, h2, he, hne => by
    have h0 : a = b := he 0 (by omega)
    have ih := abvB_ne (x := x) (y := y) (i := i) (by simpa using h1) (by simpa using h2) (fun e h => he (e + 1) (by omega)) hne
    rw [abvB, if_pos h0, ih]; rfl
theorem abvB_eq : ∀ {x y : List Int}, (∀ e, e < x.length → e < y.length → gi x e = gi y e) → abvB x y = decide (y.length < x.length)
  | [], y, _ => by simp [abvB]
  | a :: x, [], _ => by simp [abvB]
  | a :: x, b :: y, he => by
    have h0 : a = b := he 0 (by simp) (by simp)
    have ih := abvB_eq (x := x) (y := y) (fun e h1 h2 => he (e + 1) (by simpa using h1) (by simpa using h2))
    rw [abvB, if_pos h0, ih]
    simp

set_option maxRecDepth 100000 in
set_option maxHeartbeats 3200000 in
theorem l6Above_spec (a a' : Option Addr) (n n' c c' : Nat) (x y : List Int) (w : World) (hx : Reads w a n x) (hy : Reads w a' n' y) (hm : n ≤ 1048576) (hm' : n' ≤ 1048576) :
    Calls Tryz.prog 105 #[.slice a n c, .slice a' n' c'] w fun e w' => e = .returned (.bool (abvB x y)) ∧ Ext w w' := by
  have HX := Lib.hid hx
  have HY := Lib.hid hy
  have HNE : Hid (∀ i, i < n → i < n' → (∀ e, e < i → gi x e = gi y e) → gi x i ≠ gi y i → abvB x y = decide (gi y i < gi x i)) := fun i h1 h2 h3 h4 => abvB_ne (by rw [hx.len]; exact h1) (by rw [hy.len]; exact h2) h3 h4
  have HEQ : Hid ((∀ e, e < n → e < n' → gi x e = gi y e) → abvB x y = decide (n' < n)) := fun h => by
    have := abvB_eq (x := x) (y := y) (fun e h1 h2 => h e (by rw [← hx.len]; exact h1) (by rw [← hy.len]; exact h2))
    rw [this, hx.len, hy.len]
  obtain ⟨A, hA⟩ : ∃ A, abvB x y = A := ⟨_, rfl⟩
  rw [hA] at HNE HEQ
  rw [hA]
  clear hx hy hA
  go_enter Tryz.func105, Tryz.ntmps105
  go_wp2_with fail
  go_loopw [5] (fun z wr => ∃ i : Nat, i ≤ n ∧ i ≤ n' ∧ z = .int .i64 i ∧ Hid (∀ e, e < i → gi x e = gi y e) ∧ Hid (Ext w wr)) (fun z _ => n - (intOf z).toNat)
  case atStart => exact ⟨0, by omega, by omega, rfl, fun e h => by omega, Ext.refl _⟩
  case round =>
    obtain ⟨i, hi, hi', rfl, hE, hX⟩ := hrel
    by_cases h1 : i < n
    · have h1I : (i : Int) < (n : Int) := by omega
      by_cases h2 : i < n'
      · have h2I : (i : Int) < (n' : Int) := by omega
        obtain ⟨bx, ox, rfl, hbx, hxc⟩ := reads5 HX.out (by omega)
        obtain ⟨bY, oY, rfl, hbY, hyc⟩ := reads5 HY.out (by omega)
        have cx := (hX.out.cells bx _ hbx).trans (hxc i h1)
        have cy := (hX.out.cells bY _ hbY).trans (hyc i h2)
        have lx := Nat.lt_of_lt_of_le hbx hX.out.le
        have ly := Nat.lt_of_lt_of_le hbY hX.out.le
        have HN := Lib.hid (HNE.out i h1 h2 hE.out)
        clear hxc hyc
        by_cases hne : gi x i = gi y i
        · have HE2 : Hid (∀ e, e < i + 1 → gi x e = gi y e) := fun e h => by
            by_cases e1 : e = i
            · rw [e1]; exact hne
            · exact hE.out e (by omega)
          rw [hne] at cx
          obtain ⟨q, hq⟩ : ∃ q, gi y i = q := ⟨_, rfl⟩
          rw [hq] at cx cy
          clear hne hq HN hE
          go_wp2_with fail
          go_region
          all_goals
            go_wp2
            exact ⟨⟨i + 1, by omega, by omega, by first | rfl | simp | trivial, HE2, hX.out.drew⟩, by (simp [intOf]) <;> omega⟩
        · have HF := Lib.hid (HN.out hne)
          obtain ⟨p, hp⟩ : ∃ p, gi x i = p := ⟨_, rfl⟩
          obtain ⟨q, hq⟩ : ∃ q, gi y i = q := ⟨_, rfl⟩
          rw [hp] at cx HF hne
          rw [hq] at cy HF hne
          have hb : ((p : Int) != q) = true := by simpa using hne
          have hpq : (p = q) = False := eq_false hne
          clear hp hq HN hE
          go_wp2_with fail
          go_region
          all_goals
            go_wp2_with fail
            go_region
            all_goals
              go_wp2
              go_ret
              exact ⟨ret_bool HF.out.symm, hX.out.drew.drew⟩
      · obtain rfl : n' = i := by omega
        have HF : Hid (A = true) := by rw [Hid, HEQ.out (fun e _ h => hE.out e h)]; exact decide_eq_true h1
        go_wp2
        go_ret
        exact ⟨ret_bool HF.out.symm, hX.out⟩
    · obtain rfl : n = i := by omega
      have HF : Hid (A = false) := by rw [Hid, HEQ.out (fun e h _ => hE.out e h)]; exact decide_eq_false (by omega)
      have h3 : ¬ ((n' : Int) < (n : Int)) := by omega
      go_wp2
      go_ret
      exact ⟨ret_bool HF.out.symm, hX.out⟩
end Go.Proofs.YtlnpaplbcocmkaaGreat
