/-
  The first place of a number in a list: the specification's, and the library's Index and Contains at integers.
-/
import Derived.Test.YtgmipolgnpjmnaaRedI
import Derived.BigQuiet
import Derived.Deep.QuietTactic
namespace Go.Proofs.Ytgmipolgnpjmnaa
open Go.RowKit
set_option linter.unusedVariables false

theorem first_mem {l : List Nat} {x : Nat} (h : x ∈ l) : ∃ q, q < l.length ∧ l.getD q 0 = x ∧ ∀ i, i < q → l.getD i 0 ≠ x := by
  induction l with
  | nil => simp at h
  | cons a l ih =>
    by_cases e : a = x
    · exact ⟨0, by simp, by simpa using e, fun i hi => by omega⟩
    · have : x ∈ l := by
        rcases List.mem_cons.1 h with h1 | h1
        · exact absurd h1.symm e
        · exact h1
      obtain ⟨q, h1, h2, h3⟩ := ih this
      refine ⟨q + 1, by simpa using h1, by simpa using h2, fun i hi => ?_⟩
      cases i with
      | zero => simpa using e
      | succ i => simpa using h3 i (by omega)
theorem not_first {l : List Nat} {x : Nat} (h : x ∉ l) : ∀ i, i < l.length → l.getD i 0 ≠ x := fun i hi e => h (by
  rw [← e, List.getD_eq_getElem?_getD, List.getElem?_eq_getElem hi]; simp)
theorem pv_first {pv : List Nat} {c : Nat} (h : c ∈ pv) : ∃ q, q < pv.length ∧ gi (pvI pv) q = c ∧ ∀ i, i < q → gi (pvI pv) i ≠ c := by
  obtain ⟨q, h1, h2, h3⟩ := first_mem h
  refine ⟨q, h1, by rw [gi_pvI, h2], fun i hi e => h3 i hi ?_⟩
  rw [gi_pvI] at e; omega
theorem pv_none {pv : List Nat} {c : Nat} (h : c ∉ pv) : ∀ i, i < pv.length → gi (pvI pv) i ≠ c := fun i hi e => not_first h i hi (by rw [gi_pvI] at e; omega)

/-- Where the search ends: q is the first place with x, or the length. -/
def FirstAt (xs : List Int) (x : Int) (n q : Nat) : Prop := q ≤ n ∧ (q < n → gi xs q = x) ∧ ∀ i, i < q → gi xs i ≠ x
def fndR (n q : Nat) : Int := if q < n then (q : Int) else -1
theorem firstAt_step {xs : List Int} {x : Int} {n q k : Nat} (h : FirstAt xs x n q) (hk : k ≤ q) (hlt : k < n) : (gi xs k = x → k = q) ∧ (gi xs k ≠ x → k + 1 ≤ q) := by
  obtain ⟨h1, h2, h3⟩ := h
  constructor
  · intro e
    apply Classical.byContradiction
    intro hne
    exact h3 k (by omega) e
  · intro e
    apply Classical.byContradiction
    intro hne
    obtain rfl : k = q := by omega
    exact e (h2 hlt)
theorem pv_firstAt (pv : List Nat) (c : Nat) : ∃ q, FirstAt (pvI pv) c pv.length q ∧ (q < pv.length ↔ c ∈ pv) := by
  by_cases h : c ∈ pv
  · obtain ⟨q, h1, h2, h3⟩ := pv_first h
    exact ⟨q, ⟨by omega, fun _ => h2, h3⟩, ⟨fun _ => h, fun _ => h1⟩⟩
  · exact ⟨pv.length, ⟨Nat.le_refl _, fun h => by omega, fun i hi => pv_none h i hi⟩, ⟨fun h => by omega, fun h2 => absurd h2 h⟩⟩

set_option maxHeartbeats 800000 in
theorem l1Find_spec (a : Option Addr) (n c : Nat) (xs : List Int) (x : Int) (q : Nat) (w : World) (hr : Reads w a n xs) (hm : n ≤ 1048576) (hq : FirstAt xs x n q) :
    Calls Try.prog 121 #[.slice a n c, .int .i64 x] w fun e w' => e = .returned (.int .i64 (fndR n q)) ∧ w = w' := by
  have hl := Lib.hid hr.1
  have HR := Lib.hid hr.2
  have HQ := Lib.hid hq
  have hq1 := hq.1
  clear hr hq
  go_enter Try.func121, Try.ntmps121
  go_wp2
  go_loop [5] (fun z => ∃ k : Nat, k ≤ q ∧ z = .int .i64 k) (fun z => n - (intOf z).toNat)
  case atStart => exact ⟨0, by omega, rfl⟩
  case round =>
    obtain ⟨k, hk, rfl⟩ := hrel
    by_cases hlt : k < n
    · rcases HR.out with h | ⟨b, off, rfl, hb, hc⟩
      · omega
      have hc1 := hc k hlt
      have HS := Lib.hid (firstAt_step HQ.out hk hlt)
      clear hc
      by_cases h0 : gi xs k = x
      · have hb0 : (gi xs k == x) = true := by simpa using h0
        obtain rfl : k = q := HS.out.1 h0
        have HF : Hid (fndR n k = (k : Int)) := by rw [Hid, fndR, if_pos hlt]
        clear h0
        go_wp2
        go_ret
        exact ⟨ret_int HF.out.symm, rfl⟩
      · have hb0 : (gi xs k == x) = false := by simpa using h0
        have hk2 := HS.out.2 h0
        clear h0
        go_wp2
        exact ⟨⟨k + 1, by omega, by simp⟩, by simp [intOf]; omega⟩
    · have HF : Hid (fndR n q = -1) := by rw [Hid, fndR, if_neg (by omega)]
      obtain rfl : k = n := by omega
      go_wp2
      go_ret
      exact ⟨ret_int HF.out.symm, rfl⟩

set_option maxHeartbeats 800000 in
theorem index_fn (a : Option Addr) (n c : Nat) (xs : List Int) (x : Int) (q : Nat) (w : World) (hr : Reads w a n xs) (hm : n ≤ 1048576) (hq : FirstAt xs x n q) :
    Calls Try.prog 161 #[.slice a n c, .int .i64 x] w fun e w' => e = .returned (.int .i64 (fndR n q)) ∧ w = w' := by
  have hl := Lib.hid hr.1
  have HR := Lib.hid hr.2
  have HQ := Lib.hid hq
  have hq1 := hq.1
  clear hr hq
  go_enter Try.func161, Try.ntmps161
  go_wp2
  go_loop [8, 5] (fun z _ => ∃ k : Nat, k ≤ q ∧ z = .int .i64 k) (fun z _ => n - (intOf z).toNat)
  case atStart => exact ⟨0, by omega, rfl⟩
  case round =>
    obtain ⟨k, hk, rfl⟩ := hrel
    by_cases hlt : k < n
    · rcases HR.out with h | ⟨b, off, rfl, hb, hc⟩
      · omega
      have hc1 := hc k hlt
      have HS := Lib.hid (firstAt_step HQ.out hk hlt)
      clear hc
      by_cases h0 : gi xs k = x
      · have hb0 : (x == gi xs k) = true := by simpa using h0.symm
        obtain rfl : k = q := HS.out.1 h0
        have HF : Hid (fndR n k = (k : Int)) := by rw [Hid, fndR, if_pos hlt]
        clear h0
        go_wp2
        go_ret
        exact ⟨ret_int HF.out.symm, rfl⟩
      · have hb0 : (x == gi xs k) = false := by simp; exact fun e => h0 e.symm
        have hk2 := HS.out.2 h0
        clear h0
        go_wp2
        exact ⟨⟨k + 1, by omega, by simp⟩, by simp [intOf]; omega⟩
    · have HF : Hid (fndR n q = -1) := by rw [Hid, fndR, if_neg (by omega)]
      obtain rfl : k = n := by omega
      go_wp2
      go_ret
      exact ⟨ret_int HF.out.symm, rfl⟩

set_option maxHeartbeats 400000 in
theorem contains_fn (a : Option Addr) (n c : Nat) (xs : List Int) (x : Int) (q : Nat) (w : World) (hr : Reads w a n xs) (hm : n ≤ 1048576) (hq : FirstAt xs x n q) :
    Calls Try.prog 152 #[.slice a n c, .int .i64 x] w fun e w' => e = .returned (.bool (decide (q < n))) ∧ w = w' := by
  have H := Lib.hid (index_fn a n c xs x q w hr hm hq)
  have hq1 := hq.1
  clear hr hq
  by_cases h : q < n
  · have HF : Hid (fndR n q = (q : Int)) := by rw [Hid, fndR, if_pos h]
    rw [HF.out] at H
    have HD : Hid (decide (q < n) = true) := decide_eq_true h
    clear HF
    go_enter Try.func152, Try.ntmps152
    go_wp2_with fail
    refine H.out.mono ?_
    rintro e w' ⟨rfl, rfl⟩
    go_wp2
    go_ret
    exact ⟨ret_bool HD.out.symm, rfl⟩
  · have HF : Hid (fndR n q = -1) := by rw [Hid, fndR, if_neg h]
    rw [HF.out] at H
    have HD : Hid (decide (q < n) = false) := decide_eq_false h
    clear HF
    go_enter Try.func152, Try.ntmps152
    go_wp2_with fail
    refine H.out.mono ?_
    rintro e w' ⟨rfl, rfl⟩
    go_wp2
    go_ret
    exact ⟨ret_bool HD.out.symm, rfl⟩
end Go.Proofs.Ytgmipolgnpjmnaa
