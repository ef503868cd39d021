/-
  The first number other than 0; lists that are compared; lists of zeros.
-/
import Derived.Test.YtgmipolgnpjmnaaSol
import Derived.BigQuiet
import Derived.Deep.QuietTactic
namespace Go.Proofs.Ytgmipolgnpjmnaa
open Go.RowKit
set_option linter.unusedVariables false

/-- The first place from k on with a number other than 0, or the length. -/
def fz (xs : List Int) (k : Nat) : Nat := if k < xs.length then (if gi xs k = 0 then fz xs (k + 1) else k) else xs.length
termination_by xs.length - k
theorem fz_zero {xs : List Int} {k : Nat} (h : k < xs.length) (h0 : gi xs k = 0) : fz xs k = fz xs (k + 1) := by rw [fz, if_pos h, if_pos h0]
theorem fz_here {xs : List Int} {k : Nat} (h : k < xs.length) (h0 : gi xs k ≠ 0) : fz xs k = k := by rw [fz, if_pos h, if_neg h0]
theorem fz_end {xs : List Int} {k : Nat} (h : xs.length ≤ k) : fz xs k = xs.length := by rw [fz, if_neg (by omega)]
theorem fz_spec (xs : List Int) : ∀ d k, xs.length - k = d → k ≤ xs.length → k ≤ fz xs k ∧ fz xs k ≤ xs.length ∧ (∀ i, k ≤ i → i < fz xs k → gi xs i = 0) ∧ (fz xs k < xs.length → gi xs (fz xs k) ≠ 0) := by
  intro d
  induction d with
  | zero =>
    intro k h1 h2
    obtain rfl : k = xs.length := by omega
    rw [fz_end (Nat.le_refl _)]
    exact ⟨Nat.le_refl _, Nat.le_refl _, fun i h h' => by omega, fun h => by omega⟩
  | succ d ih =>
    intro k h1 h2
    have hk : k < xs.length := by omega
    by_cases h0 : gi xs k = 0
    · rw [fz_zero hk h0]
      obtain ⟨a, b, e, f⟩ := ih (k + 1) (by omega) (by omega)
      refine ⟨by omega, b, fun i h h' => ?_, f⟩
      by_cases hi : i = k
      · subst hi; exact h0
      · exact e i (by omega) h'
    · rw [fz_here hk h0]
      exact ⟨Nat.le_refl _, by omega, fun i h h' => by omega, fun _ => h0⟩
/-- What 'firstNonzero' answers. -/
def fzR (xs : List Int) : Int := if fz xs 0 = xs.length then -1 else (fz xs 0 : Int)
theorem fz_le (xs : List Int) : fz xs 0 ≤ xs.length := (fz_spec xs _ 0 rfl (Nat.zero_le _)).2.1
theorem fz_all (xs : List Int) : fz xs 0 = xs.length ↔ ∀ i, i < xs.length → gi xs i = 0 := by
  obtain ⟨a, b, c, d⟩ := fz_spec xs _ 0 rfl (Nat.zero_le _)
  constructor
  · intro h i hi
    exact c i (Nat.zero_le _) (by omega)
  · intro h
    apply Classical.byContradiction
    intro hne
    exact d (by omega) (h _ (by omega))

set_option maxHeartbeats 400000 in
theorem nonzero_fn (x : Int) (w : World) : Calls Try.prog 156 #[.int .i64 x] w fun e w' => e = .returned (.bool (x != 0)) ∧ w = w' := by
  go_enter Try.func156, Try.ntmps156
  go_wp2
  go_ret
  exact ⟨rfl, rfl⟩

set_option maxHeartbeats 800000 in
theorem indexFunc_fn (a : Option Addr) (n c : Nat) (xs : List Int) (w : World) (hr : Reads w a n xs) (hm : n ≤ maxLen) :
    Calls Try.prog 155 #[.slice a n c, .func (.func 156) #[] #[]] w fun e w' => e = .returned (.int .i64 (fzR xs)) ∧ w = w' := by
  have hl := Lib.hid hr.1
  have HR := Lib.hid hr.2
  unfold maxLen at hm
  clear hr
  go_enter Try.func155, Try.ntmps155
  go_wp2
  go_loop [8, 5] (fun z _ => ∃ k : Nat, k ≤ n ∧ z = .int .i64 k ∧ Hid (fz xs 0 = fz xs k)) (fun z _ => n - (intOf z).toNat)
  case atStart => exact ⟨0, by omega, rfl, rfl⟩
  case round =>
    obtain ⟨k, hk, rfl, hf⟩ := hrel
    by_cases hlt : k < n
    · rcases HR.out with h | ⟨b, off, rfl, hb, hc⟩
      · omega
      have hc1 := hc k hlt
      have hlx : k < xs.length := by rw [hl.out]; exact hlt
      have HZ := Lib.hid (@fz_zero xs k hlx)
      have HH := Lib.hid (@fz_here xs k hlx)
      clear hc
      go_wp2_with fail
      refine (nonzero_fn _ _).mono ?_
      rintro e w' ⟨rfl, rfl⟩
      by_cases h0 : gi xs k = 0
      · have hb0 : (gi xs k != 0) = false := by simpa using h0
        have HF : Hid (fz xs 0 = fz xs (k + 1)) := hf.out.trans (HZ.out h0)
        clear h0
        go_wp2
        exact ⟨⟨k + 1, by omega, by simp, HF⟩, by simp [intOf]; omega⟩
      · have hb0 : (gi xs k != 0) = true := by simpa using h0
        have HF : Hid (fzR xs = (k : Int)) := by rw [Hid, fzR, hf.out, HH.out h0, if_neg (by omega)]
        clear h0
        go_wp2
        go_ret
        exact ⟨ret_int HF.out.symm, rfl⟩
    · obtain rfl : k = n := by omega
      have HF : Hid (fzR xs = -1) := by rw [Hid, fzR, hf.out, fz_end (by rw [hl.out]; exact Nat.le_refl _), if_pos rfl]
      go_wp2
      go_ret
      exact ⟨ret_int HF.out.symm, rfl⟩

set_option maxHeartbeats 400000 in
theorem firstNonzero_impl (a : Option Addr) (n c : Nat) (xs : List Int) (w : World) (hr : Reads w a n xs) (hm : n ≤ maxLen) :
    Calls Try.prog 131 #[.slice a n c] w fun e w' => e = .returned (.int .i64 (fzR xs)) ∧ w = w' := by
  have H := Lib.hid (indexFunc_fn a n c xs w hr hm)
  clear hr hm
  go_enter Try.func131, Try.ntmps131
  go_wp2_with fail
  refine H.out.mono ?_
  rintro e w' ⟨rfl, rfl⟩
  go_wp2
  go_ret
  exact ⟨rfl, rfl⟩

/-- All numbers are 0. -/
def zeroB (xs : List Int) : Bool := decide (fz xs 0 = xs.length)
set_option maxHeartbeats 800000 in
theorem l1IsZero_spec (a : Option Addr) (n c : Nat) (xs : List Int) (w : World) (hr : Reads w a n xs) (hm : n ≤ maxLen) :
    Calls Try.prog 127 #[.slice a n c] w fun e w' => e = .returned (.bool (zeroB xs)) ∧ w = w' := by
  have hl := Lib.hid hr.1
  have HR := Lib.hid hr.2
  unfold maxLen at hm
  clear hr
  go_enter Try.func127, Try.ntmps127
  go_wp2
  go_loop [3] (fun z => ∃ k : Nat, k ≤ n ∧ z = .int .i64 k ∧ Hid (fz xs 0 = fz xs k)) (fun z => n - (intOf z).toNat)
  case atStart => exact ⟨0, by omega, rfl, rfl⟩
  case round =>
    obtain ⟨k, hk, rfl, hf⟩ := hrel
    by_cases hlt : k < n
    · rcases HR.out with h | ⟨b, off, rfl, hb, hc⟩
      · omega
      have hc1 := hc k hlt
      have hlx : k < xs.length := by rw [hl.out]; exact hlt
      have HZ := Lib.hid (@fz_zero xs k hlx)
      have HH := Lib.hid (@fz_here xs k hlx)
      clear hc
      by_cases h0 : gi xs k = 0
      · have hb0 : (gi xs k != 0) = false := by simpa using h0
        have HF : Hid (fz xs 0 = fz xs (k + 1)) := hf.out.trans (HZ.out h0)
        clear h0
        go_wp2
        exact ⟨⟨k + 1, by omega, by simp, HF⟩, by simp [intOf]; omega⟩
      · have hb0 : (gi xs k != 0) = true := by simpa using h0
        have HF : Hid (zeroB xs = false) := by simp only [Hid, zeroB, hf.out, HH.out h0]; exact decide_eq_false (by omega)
        clear h0
        go_wp2
        go_ret
        exact ⟨ret_bool HF.out.symm, rfl⟩
    · obtain rfl : k = n := by omega
      have HF : Hid (zeroB xs = true) := by simp only [Hid, zeroB, hf.out, fz_end (show xs.length ≤ k by rw [hl.out]; exact Nat.le_refl _), decide_true]
      go_wp2
      go_ret
      exact ⟨ret_bool HF.out.symm, rfl⟩

/-- Lists that are compared place by place. -/
def sameB (xs ys : List Int) : Bool := decide (xs = ys)
set_option maxHeartbeats 800000 in
theorem l1Same_spec (a a' : Option Addr) (n n' c c' : Nat) (xs ys : List Int) (w : World) (hr : Reads w a n xs) (hr' : Reads w a' n' ys) (hm : n ≤ 1048576) (hm' : n' ≤ 1048576) :
    Calls Try.prog 92 #[.slice a n c, .slice a' n' c'] w fun e w' => e = .returned (.bool (sameB xs ys)) ∧ ∃ m, w' = w.drewN m := by
  have hl := Lib.hid hr.1
  have hl' := Lib.hid hr'.1
  have HR := Lib.hid hr.2
  have HR' := Lib.hid hr'.2
  clear hr hr'
  by_cases hnn : n = n'
  case neg =>
    have hb : ((n : Int) != (n' : Int)) = true := by simp; omega
    have HF : Hid (sameB xs ys = false) := by
      refine decide_eq_false (fun e => hnn ?_)
      rw [← hl.out, ← hl'.out, e]
    clear hnn
    go_enter Try.func92, Try.ntmps92
    go_wp2
    go_ret
    exact ⟨ret_bool HF.out.symm, 0, rfl⟩
  subst hnn
  go_enter Try.func92, Try.ntmps92
  go_wp2
  go_loopw [5] (fun z wr => ∃ (k m : Nat), k ≤ n ∧ z = .int .i64 k ∧ wr = w.drewN m ∧ Hid (∀ i, i < k → gi xs i = gi ys i)) (fun z _ => n - (intOf z).toNat)
  case atStart => exact ⟨0, 0, by omega, rfl, rfl, fun i hi => by omega⟩
  case round =>
    obtain ⟨k, m, hk, rfl, rfl, hf⟩ := hrel
    by_cases hlt : k < n
    · rcases HR.out with h | ⟨b, off, rfl, hb, hc⟩
      · omega
      rcases HR'.out with h | ⟨b', off', rfl, hb', hc'⟩
      · omega
      have hc1 := hc k hlt
      have hc2 := hc' k hlt
      have hlt' : (k : Int) < (n : Int) := by omega
      clear hc hc'
      by_cases h0 : gi xs k = gi ys k
      · have hb0 : (gi xs k != gi ys k) = false := by simpa using h0
        have HF : Hid (∀ i, i < k + 1 → gi xs i = gi ys i) := fun i hi => by
          by_cases e : i = k
          · subst e; exact h0
          · exact hf.out i (by omega)
        clear h0
        go_wp2
        go_quiet (fail)
        go_wp2
        exact ⟨⟨k + 1, m + nq, by omega, by simp, by simp, HF⟩, by simp [intOf]; omega⟩
      · have hb0 : (gi xs k != gi ys k) = true := by simpa using h0
        have HF : Hid (sameB xs ys = false) := decide_eq_false (fun e => h0 (by rw [e]))
        clear h0
        go_wp2
        go_quiet (fail)
        go_wp2
        go_ret
        exact ⟨ret_bool HF.out.symm, m + nq, by simp⟩
    · obtain rfl : k = n := by omega
      have HF : Hid (sameB xs ys = true) := decide_eq_true (ext_gi (by rw [hl.out, hl'.out]) (fun i hi => hf.out i (by rw [hl.out] at hi; exact hi)))
      go_wp2
      go_ret
      exact ⟨ret_bool HF.out.symm, m, rfl⟩
end Go.Proofs.Ytgmipolgnpjmnaa
