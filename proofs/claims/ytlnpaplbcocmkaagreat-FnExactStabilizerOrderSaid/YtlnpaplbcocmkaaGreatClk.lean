/-
  Reflections keep the roots: what the kernel is asked of the table.
-/
import Derived.Test.YtlnpaplbcocmkaaGreatRtk
import Derived.Test.YtlnpaplbcocmkaaGreatClm
import Derived.Test.YtlnpaplbcocmkaaGreatRd5
namespace Go.Proofs.YtlnpaplbcocmkaaGreat
set_option linter.unusedVariables false
set_option linter.unusedSimpArgs false
set_option maxRecDepth 100000

/-- The transposed matrix. -/
def trn (xs : List Int) (R : Nat) : List Int := (List.range (R * R)).map fun p => gi xs (p % R * R + p / R)
theorem gi_trn {xs : List Int} {R i k : Nat} (hi : i < R) (hk : k < R) : gi (trn xs R) (i * R + k) = gi xs (k * R + i) := by
  have h1 : i * R + k < R * R := by
    have := Nat.mul_le_mul_right R (show i + 1 ≤ R by omega)
    rw [Nat.add_mul] at this; omega
  have h2 : (i * R + k) % R = k := by rw [Nat.add_comm, Nat.add_mul_mod_self_right]; exact Nat.mod_eq_of_lt hk
  have h3 : (i * R + k) / R = i := by rw [Nat.add_comm, Nat.add_mul_div_right _ _ (by omega), Nat.div_eq_of_lt hk]; omega
  simp only [gi, trn, List.getD_eq_getElem?_getD, List.getElem?_map, List.getElem?_range h1, Option.map_some, Option.getD_some, h2, h3]
theorem col_wg {xs h : List Int} {R i : Nat} (hi : i < R) : ∀ n, n ≤ R → wgS (trn xs R) h R i n = colS xs h R i n
  | 0, _ => rfl
  | n + 1, hn => by rw [wgS, colS, col_wg hi n (by omega), gi_trn hi (by omega), Int.mul_comm]
/-- Either list is among these. -/
def sysB (L : List (List Int)) (x : List Int) : Bool := L.contains x || L.contains (negL x)
/-- Each reflection keeps all but one of these, of which it makes the opposite. -/
def clsB (xs : List Int) (R : Nat) (l : List (List Int)) : Bool := l.all fun x => (List.range R).all fun i => if x == bas R i then rfl5 xs R i x == negL x else l.contains (rfl5 xs R i x)
def chkP (P : List (List Int) → Bool) (xs : List Int) (R : Nat) : Nat → List (List Int) → Nat → Bool
  | 0, l, k => decide (l.length ≤ k) && P l
  | f + 1, l, k => if l.length ≤ k then P l else chkP P xs R f (stepR true xs R l (gl l k) R) (k + 1)
theorem chkP_grow (P : List (List Int) → Bool) (xs : List Int) (R : Nat) : ∀ f k, chkP P xs R f (growR true xs R k) k = true → P (growR true xs R (k + f)) = true := by
  intro f
  induction f with
  | zero =>
    intro k h
    simp only [chkP, Bool.and_eq_true, decide_eq_true_eq] at h
    exact h.2
  | succ f ih =>
    intro k h
    rw [chkP] at h
    by_cases hk : (growR true xs R k).length ≤ k
    · rw [if_pos hk] at h
      rw [growR_stop hk (f + 1)]
      exact h
    · rw [if_neg hk] at h
      have e : stepR true xs R (growR true xs R k) (gl (growR true xs R k) k) R = growR true xs R (k + 1) := by rw [growR, if_pos (by omega)]
      rw [e] at h
      rw [show k + (f + 1) = k + 1 + f by omega]
      exact ih (k + 1) h
def closB (xs : List Int) (R : Nat) : Bool := chkP (clsB xs R) xs R 24 ((List.range R).map (bas R)) 0 && (tabGet R (trn xs R)).isSome
theorem clo4_0 : tab4_0.all (fun t => closB t.1 4) = true := by decide +kernel
theorem clo4_1 : tab4_1.all (fun t => closB t.1 4) = true := by decide +kernel
theorem clo4_2 : tab4_2.all (fun t => closB t.1 4) = true := by decide +kernel
theorem clo4_3 : tab4_3.all (fun t => closB t.1 4) = true := by decide +kernel
theorem clo4_4 : tab4_4.all (fun t => closB t.1 4) = true := by decide +kernel
theorem clo4_5 : tab4_5.all (fun t => closB t.1 4) = true := by decide +kernel
theorem clo4_6 : tab4_6.all (fun t => closB t.1 4) = true := by decide +kernel
theorem clo4_7 : tab4_7.all (fun t => closB t.1 4) = true := by decide +kernel
theorem clo1 : tab1.all (fun t => closB t.1 1) = true := by decide +kernel
theorem clo2 : tab2.all (fun t => closB t.1 2) = true := by decide +kernel
theorem clo3 : tab3.all (fun t => closB t.1 3) = true := by decide +kernel
theorem clo4 : tab4.all (fun t => closB t.1 4) = true := by
  unfold tab4
  simp only [List.all_append, clo4_0, clo4_1, clo4_2, clo4_3, clo4_4, clo4_5, clo4_6, clo4_7, Bool.and_self]
theorem tab_closB : ∀ R, 0 < R → R < 5 → (tab R).all (fun t => closB t.1 R) = true := by
  intro R h0 h1
  match R, h0, h1 with
  | 1, _, _ => exact clo1
  | 2, _, _ => exact clo2
  | 3, _, _ => exact clo3
  | 4, _, _ => exact clo4
end Go.Proofs.YtlnpaplbcocmkaaGreat
