/-
  Numbers modulo a prime: what IsPrime, the residues and the inverses of both texts come to, as plain functions on integers, and the walks that say so.
-/
import Derived.Test.YtnikfalpjieibaaRows
import Derived.WalkKit
import Derived.WalkSpells
import Derived.WalkLawsBesides
import Derived.Lib.Hide
import Derived.Outline
import Derived.Deep.QuietTactic
import Derived.BigQuiet
import Derived.Carry
namespace Go.Proofs.Ytnikfalpjieibaa
open Go.RowKit

/-- n is a prime number from 2 to 10007, told by trial division. -/
def IsP (n : Int) : Prop := 2 ≤ n ∧ n ≤ 10007 ∧ ∀ d, 2 ≤ d → d * d ≤ n → n % d ≠ 0
open Classical in
noncomputable def isP (n : Int) : Bool := decide (IsP n)
theorem isP_false {n : Int} (h : ¬ IsP n) : isP n = false := by simp [isP, h]
theorem isP_true {n : Int} (h : IsP n) : isP n = true := by simp [isP, h]
theorem isP_iff {n : Int} : isP n = true ↔ IsP n := by simp [isP]
theorem isP_lo {n : Int} (h : isP n = true) : 2 ≤ n := (isP_iff.1 h).1
theorem isP_hi {n : Int} (h : isP n = true) : n ≤ 10007 := (isP_iff.1 h).2.1

theorem ret_bool {a b : Bool} (h : a = b) : Ending.returned (.bool a) = .returned (.bool b) := by rw [h]
theorem ret_int {k : IntKind} {a b : Int} (h : a = b) : Ending.returned (.int k a) = .returned (.int k b) := by rw [h]

theorem sq_lt {d : Int} (_h0 : 2 ≤ d) (h1 : d * d ≤ 10007) : d ≤ 100 := by
  by_cases h : d ≤ 100
  · exact h
  · have : 101 * 101 ≤ d * d := Int.mul_le_mul (by omega) (by omega) (by omega) (by omega)
    omega
theorem sq_le {d : Int} (h0 : 2 ≤ d) (h1 : d ≤ 101) : d * d ≤ 10201 := by
  have : d * d ≤ 101 * 101 := Int.mul_le_mul h1 h1 (by omega) (by omega)
  omega
theorem sq_mono {d e : Int} (h0 : 2 ≤ d) (h1 : d ≤ e) : d * d ≤ e * e := Int.mul_le_mul h1 h1 (by omega) (by omega)

theorem pow_emod (a p : Int) (k : Nat) : (a % p) ^ k % p = a ^ k % p := by
  induction k with
  | zero => simp
  | succ k ih => rw [Int.pow_succ, Int.pow_succ, Int.mul_emod, ih, Int.emod_emod, ← Int.mul_emod]
/-- One step of the power by squares: an odd exponent. -/
theorem pow_odd (o x p : Int) (n : Nat) (h : n % 2 = 1) : (o * x % p) * (x * x % p) ^ (n / 2) % p = o * x ^ n % p := by
  rw [Int.mul_emod, pow_emod, Int.emod_emod, ← Int.mul_emod]
  congr 1
  have e : n = 2 * (n / 2) + 1 := by omega
  conv => rhs; rw [e, Int.pow_succ, Int.pow_mul]
  have : x ^ 2 = x * x := by rw [Int.pow_succ, Int.pow_succ, Int.pow_zero, Int.one_mul]
  rw [this, Int.mul_assoc, Int.mul_comm x]
theorem pow_even (o x p : Int) (n : Nat) (h : n % 2 = 0) : o * (x * x % p) ^ (n / 2) % p = o * x ^ n % p := by
  rw [Int.mul_emod, pow_emod, ← Int.mul_emod]
  congr 1
  have e : n = 2 * (n / 2) := by omega
  conv => rhs; rw [e, Int.pow_mul]
  have : x ^ 2 = x * x := by rw [Int.pow_succ, Int.pow_succ, Int.pow_zero, Int.one_mul]
  rw [this]
theorem mul_hi {o x p : Int} (h0 : 0 ≤ o) (h1 : o < p) (h2 : 0 ≤ x) (h3 : x < p) (hp : p ≤ 10007) : o * x ≤ 100140049 := by
  have : o * x ≤ 10007 * 10007 := Int.mul_le_mul (by omega) (by omega) h2 (by omega)
  omega
theorem tmod_adj (n p : Int) (hn : n < 0) (hp : 2 ≤ p) : n.tmod p + p = n % p ∧ n.tmod p < 0 ∨ n.tmod p = n % p ∧ n.tmod p = 0 := by
  have h1 : n.tmod p = -((-n) % p) := by
    have : n = -(-n) := by omega
    conv => lhs; rw [this]
    rw [Int.neg_tmod, Int.tmod_eq_emod_of_nonneg (by omega)]
  have h2 := Int.emod_nonneg (-n) (show p ≠ 0 by omega)
  have h3 := Int.emod_lt_of_pos (-n) (show 0 < p by omega)
  have h4 := Int.emod_nonneg n (show p ≠ 0 by omega)
  have h5 := Int.emod_lt_of_pos n (show 0 < p by omega)
  have e1 := Int.mul_ediv_add_emod (-n) p
  have e2 := Int.mul_ediv_add_emod n p
  by_cases h : (-n) % p = 0
  · right
    have : p ∣ n := by
      have := Int.dvd_of_emod_eq_zero h
      exact (Int.dvd_neg).1 this
    rw [h1, h, Int.emod_eq_zero_of_dvd this]; simp
  · left
    refine ⟨?_, by omega⟩
    rw [h1, Int.neg_emod]
    split <;> rename_i hd
    · exact absurd (by rw [Int.neg_emod, if_pos hd]) h
    · have : 0 ≤ p := by omega
      simp [Int.natAbs_of_nonneg this]
      have := Int.emod_nonneg n (show p ≠ 0 by omega)
      omega

set_option maxHeartbeats 400000 in
theorem isPrime_spec (n : Int) (w : World) :
    Calls Try.prog 91 #[.int .i64 n] w fun e w' => e = .returned (.bool (isP n)) ∧ w = w' := by
  by_cases h1 : n < 2
  · have HP : Hid (isP n = false) := isP_false (fun h => by have := h.1; omega)
    go_enter Try.func91, Try.ntmps91
    go_wp2
    go_ret
    exact ⟨ret_bool HP.out.symm, rfl⟩
  by_cases h2 : 10007 < n
  · have HP : Hid (isP n = false) := isP_false (fun h => by have := h.2.1; omega)
    go_enter Try.func91, Try.ntmps91
    go_wp2
    go_ret
    exact ⟨ret_bool HP.out.symm, rfl⟩
  go_enter Try.func91, Try.ntmps91
  go_wp2
  go_loop [3] (fun i => ∃ d : Int, 2 ≤ d ∧ d ≤ 101 ∧ Hid (∀ e, 2 ≤ e → e < d → n % e ≠ 0) ∧ i = .int .i64 d) (fun i => (101 - intOf i).toNat)
  case atStart => exact ⟨2, by omega, by omega, fun e h h' => by omega, rfl⟩
  case round =>
    obtain ⟨d, hd1, hd2, hd3, rfl⟩ := hrel
    have s1 := sq_le hd1 hd2
    have s0 : 4 ≤ d * d := sq_mono (d := 2) (by omega) hd1
    by_cases hc : d * d ≤ n
    · have s2 := sq_lt hd1 (by omega)
      by_cases hr : n % d = 0
      · have HP : Hid (isP n = false) := isP_false (fun h => h.2.2 d hd1 hc hr)
        go_wp2
        go_ret
        exact ⟨ret_bool HP.out.symm, rfl⟩
      · have H : Hid (∀ e, 2 ≤ e → e < d + 1 → n % e ≠ 0) := fun e h h' => if he : e = d then he ▸ hr else hd3.out e h (by omega)
        go_wp2
        exact ⟨⟨d + 1, by omega, by omega, H, rfl⟩, by simp [intOf]; omega⟩
    · have HP : Hid (isP n = true) := isP_true ⟨by omega, by omega, fun e h h' => hd3.out e h (by
        by_cases he : e < d
        · exact he
        · have := sq_mono (d := d) (e := e) hd1 (by omega)
          omega)⟩
      go_wp2
      go_ret
      exact ⟨ret_bool HP.out.symm, rfl⟩

set_option maxHeartbeats 400000 in
theorem isPrime_impl (n : Int) (w : World) :
    Calls Try.prog 137 #[.int .i64 n] w fun e w' => e = .returned (.bool (isP n)) ∧ w = w' := by
  by_cases h1 : n < 2
  · have HP : Hid (isP n = false) := isP_false (fun h => by have := h.1; omega)
    go_enter Try.func137, Try.ntmps137
    go_wp2
    go_ret
    exact ⟨ret_bool HP.out.symm, rfl⟩
  by_cases h2 : 10007 < n
  · have HP : Hid (isP n = false) := isP_false (fun h => by have := h.2.1; omega)
    go_enter Try.func137, Try.ntmps137
    go_wp2
    go_ret
    exact ⟨ret_bool HP.out.symm, rfl⟩
  go_enter Try.func137, Try.ntmps137
  go_wp2
  go_loop [3] (fun i => ∃ d : Int, 2 ≤ d ∧ d ≤ 101 ∧ Hid (∀ e, 2 ≤ e → e < d → n % e ≠ 0) ∧ i = .int .i64 d) (fun i => (101 - intOf i).toNat)
  case atStart => exact ⟨2, by omega, by omega, fun e h h' => by omega, rfl⟩
  case round =>
    obtain ⟨d, hd1, hd2, hd3, rfl⟩ := hrel
    have s1 := sq_le hd1 hd2
    have s0 : 4 ≤ d * d := sq_mono (d := 2) (by omega) hd1
    by_cases hc : d * d ≤ n
    · have s2 := sq_lt hd1 (by omega)
      by_cases hr : n % d = 0
      · have HP : Hid (isP n = false) := isP_false (fun h => h.2.2 d hd1 hc hr)
        go_wp2
        go_ret
        exact ⟨ret_bool HP.out.symm, rfl⟩
      · have H : Hid (∀ e, 2 ≤ e → e < d + 1 → n % e ≠ 0) := fun e h h' => if he : e = d then he ▸ hr else hd3.out e h (by omega)
        go_wp2
        exact ⟨⟨d + 1, by omega, by omega, H, rfl⟩, by simp [intOf]; omega⟩
    · have HP : Hid (isP n = true) := isP_true ⟨by omega, by omega, fun e h h' => hd3.out e h (by
        by_cases he : e < d
        · exact he
        · have := sq_mono (d := d) (e := e) hd1 (by omega)
          omega)⟩
      go_wp2
      go_ret
      exact ⟨ret_bool HP.out.symm, rfl⟩

set_option maxHeartbeats 400000 in
theorem l1Mod_spec (n p : Int) (w : World) (h1 : 2 ≤ p) (h2 : p ≤ 10007) :
    Calls Try.prog 108 #[.int .i64 n, .int .i64 p] w fun e w' => e = .returned (.int .i64 (n % p)) ∧ w = w' := by
  have g1 := Int.emod_nonneg n (show p ≠ 0 by omega)
  have g2 := Int.emod_lt_of_pos n (show 0 < p by omega)
  by_cases h0 : 0 ≤ n
  · go_enter Try.func108, Try.ntmps108
    go_wp2
    go_ret
    exact ⟨rfl, rfl⟩
  · have hp0 : p ≠ 0 := by omega
    rcases tmod_adj n p (by omega) h1 with ⟨ha, hb⟩ | ⟨ha, hb⟩
    · have hc : -10007 ≤ n.tmod p := by omega
      have H := Lib.hid ha
      clear ha
      go_enter Try.func108, Try.ntmps108
      go_wp2
      go_ret
      exact ⟨ret_int H.out, rfl⟩
    · have hc : 0 ≤ n.tmod p := by omega
      have hd : n.tmod p ≤ 0 := by omega
      have H := Lib.hid ha
      clear ha hb
      go_enter Try.func108, Try.ntmps108
      go_wp2
      go_ret
      exact ⟨ret_int H.out, rfl⟩

set_option maxHeartbeats 400000 in
theorem residue_impl (n p : Int) (w : World) (h1 : 2 ≤ p) (h2 : p ≤ 10007) :
    Calls Try.prog 110 #[.int .i64 n, .int .i64 p] w fun e w' => e = .returned (.int .i64 (n % p)) ∧ w = w' := by
  have g1 := Int.emod_nonneg n (show p ≠ 0 by omega)
  have g2 := Int.emod_lt_of_pos n (show 0 < p by omega)
  by_cases h0 : 0 ≤ n
  · go_enter Try.func110, Try.ntmps110
    go_wp2
    go_ret
    exact ⟨rfl, rfl⟩
  · have hp0 : p ≠ 0 := by omega
    rcases tmod_adj n p (by omega) h1 with ⟨ha, hb⟩ | ⟨ha, hb⟩
    · have hc : -10007 ≤ n.tmod p := by omega
      have H := Lib.hid ha
      clear ha
      go_enter Try.func110, Try.ntmps110
      go_wp2
      go_ret
      exact ⟨ret_int H.out, rfl⟩
    · have hc : 0 ≤ n.tmod p := by omega
      have hd : n.tmod p ≤ 0 := by omega
      have H := Lib.hid ha
      clear ha hb
      go_enter Try.func110, Try.ntmps110
      go_wp2
      go_ret
      exact ⟨ret_int H.out, rfl⟩

/-- The power by squares, a round: from (o, x, n) to (o', x', n / 2). -/
structure Pow (C p o x : Int) (n : Nat) : Prop where
  o0 : 0 ≤ o
  o1 : o < p
  x0 : 0 ≤ x
  x1 : x < p
  eq : o * x ^ n % p = C
theorem Pow.odd {C p o x : Int} {n : Nat} (h : Pow C p o x n) (hn : n % 2 = 1) : Pow C p (o * x % p) (x * x % p) (n / 2) := by
  have hp : 0 < p := by have := h.o0; have := h.o1; omega
  exact ⟨Int.emod_nonneg _ (by omega), Int.emod_lt_of_pos _ hp, Int.emod_nonneg _ (by omega), Int.emod_lt_of_pos _ hp, by rw [pow_odd _ _ _ _ hn]; exact h.eq⟩
theorem Pow.even {C p o x : Int} {n : Nat} (h : Pow C p o x n) (hn : n % 2 = 0) : Pow C p o (x * x % p) (n / 2) := by
  have hp : 0 < p := by have := h.o0; have := h.o1; omega
  exact ⟨h.o0, h.o1, Int.emod_nonneg _ (by omega), Int.emod_lt_of_pos _ hp, by rw [pow_even _ _ _ _ hn]; exact h.eq⟩
theorem Pow.done {C p o x : Int} (h : Pow C p o x 0) : o = C := by
  have := h.eq
  rw [Int.pow_zero, Int.mul_one, Int.emod_eq_of_lt h.o0 h.o1] at this
  exact this
theorem Pow.start {p x : Int} (n : Nat) (hp : 2 ≤ p) (h0 : 0 ≤ x) (h1 : x < p) : Pow (x ^ n % p) p 1 x n := ⟨by omega, by omega, h0, h1, by rw [Int.one_mul]⟩

/-- The power of a residue, as the texts reckon it for the inverse. -/
def powm (x n p : Int) : Int := x ^ n.toNat % p
theorem powm_lo (x n p : Int) (h : 0 < p) : 0 ≤ powm x n p := Int.emod_nonneg _ (by omega)
theorem powm_hi (x n p : Int) (h : 0 < p) : powm x n p < p := Int.emod_lt_of_pos _ h

set_option maxHeartbeats 400000 in
theorem l1Power_spec (x n p : Int) (w : World) (h1 : 2 ≤ p) (h2 : p ≤ 10007) (h3 : 0 ≤ x) (h4 : x < p) (h5 : 0 ≤ n) (h6 : n ≤ 10007) :
    Calls Try.prog 145 #[.int .i64 x, .int .i64 n, .int .i64 p] w fun e w' => e = .returned (.int .i64 (powm x n p)) ∧ w = w' := by
  obtain ⟨m, rfl⟩ := Int.eq_ofNat_of_zero_le h5
  have H0 := Pow.start m h1 h3 h4
  go_enter Try.func145, Try.ntmps145
  go_wp2
  go_loop [0, 1, 7] (fun a b c => ∃ y o : Int, ∃ k : Nat, Pow (powm x m p) p o y k ∧ k ≤ 10007 ∧ a = .int .i64 y ∧ b = .int .i64 k ∧ c = .int .i64 o) (fun _ b _ => (intOf b).toNat)
  case atStart => exact ⟨x, 1, m, by simpa [powm] using H0, by omega, rfl, rfl, rfl⟩
  case round =>
    obtain ⟨y, o, k, hk, hkb, rfl, rfl, rfl⟩ := hrel
    have a0 := hk.o0
    have a1 := hk.o1
    have a2 := hk.x0
    have a3 := hk.x1
    have b0 := Int.mul_nonneg a0 a2
    have b1 := mul_hi a0 a1 a2 a3 h2
    have b2 := Int.mul_nonneg a2 a2
    have b3 := mul_hi a2 a3 a2 a3 h2
    by_cases hz : k = 0
    · subst hz
      have HD := Lib.hid hk.done
      go_wp2
      go_ret
      exact ⟨ret_int HD.out, rfl⟩
    · have hp : (0 : Int) < k := by omega
      rcases Nat.mod_two_eq_zero_or_one k with he | he
      · have hq := hk.even he
        have hev : ((k : Int) % 2 == 1) = false := by simp; omega
        have hqk : k / 2 ≤ 10007 := by omega
        have hql : k / 2 < k := by omega
        clear he
        go_wp2
        exact ⟨⟨_, _, k / 2, hq, hqk, rfl, by simp, rfl⟩, by simp [intOf]; omega⟩
      · have hq := hk.odd he
        have hev : ((k : Int) % 2 == 1) = true := by simp; omega
        have hqk : k / 2 ≤ 10007 := by omega
        have hql : k / 2 < k := by omega
        clear he
        go_wp2
        exact ⟨⟨_, _, k / 2, hq, hqk, rfl, by simp, rfl⟩, by simp [intOf]; omega⟩

/-- The inverse of a residue; 0 for 0. -/
def inv (r p : Int) : Int := if r = 0 then 0 else powm r (p - 2) p

set_option maxHeartbeats 400000 in
theorem l1Inverse_spec (x p : Int) (w : World) (h1 : 2 ≤ p) (h2 : p ≤ 10007) (h3 : 0 ≤ x) (h4 : x < p) :
    Calls Try.prog 140 #[.int .i64 x, .int .i64 p] w fun e w' => e = .returned (.int .i64 (powm x (p - 2) p)) ∧ w = w' := by
  have HM : Hid (powm x (p - 2) p % p = powm x (p - 2) p) := Int.emod_eq_of_lt (powm_lo _ _ _ (by omega)) (powm_hi _ _ _ (by omega))
  have g1 := powm_lo x (p - 2) p (by omega)
  have g2 := powm_hi x (p - 2) p (by omega)
  go_enter Try.func140, Try.ntmps140
  go_wp2_with ((with_reducible refine (l1Power_spec _ _ _ _ (by omega) (by omega) (by omega) (by omega) (by omega) (by omega)).mono ?_); rintro e w' ⟨rfl, rfl⟩)
  go_ret
  exact ⟨ret_int HM.out, rfl⟩

set_option maxHeartbeats 400000 in
theorem inverse_impl (x p : Int) (w : World) (h1 : 2 ≤ p) (h2 : p ≤ 10007) (h3 : 0 ≤ x) (h4 : x < p) :
    Calls Try.prog 146 #[.int .i64 x, .int .i64 p] w fun e w' => e = .returned (.int .i64 (inv x p)) ∧ w = w' := by
  by_cases hx : x = 0
  · subst hx
    go_enter Try.func146, Try.ntmps146
    go_wp2
    go_ret
    exact ⟨rfl, rfl⟩
  have hb : (x == 0) = false := by simpa using hx
  have HI : Hid (powm x (p - 2) p = inv x p) := by rw [inv, if_neg hx]; rfl
  obtain ⟨m, hm⟩ := Int.eq_ofNat_of_zero_le (show 0 ≤ p - 2 by omega)
  have H0 := Pow.start m h1 h3 h4
  have HM := Lib.hid hm
  clear hm hx
  go_enter Try.func146, Try.ntmps146
  go_wp2
  go_loop [0, 6, 5] (fun a b c => ∃ y o : Int, ∃ k : Nat, Pow (powm x (p - 2) p) p o y k ∧ k ≤ 10007 ∧ a = .int .i64 y ∧ b = .int .i64 k ∧ c = .int .i64 o) (fun _ b _ => (intOf b).toNat)
  case atStart => exact ⟨x, 1, m, by simpa [powm, HM.out] using H0, by have := HM.out; omega, rfl, by rw [HM.out], rfl⟩
  case round =>
    obtain ⟨y, o, k, hk, hkb, rfl, rfl, rfl⟩ := hrel
    have a0 := hk.o0
    have a1 := hk.o1
    have a2 := hk.x0
    have a3 := hk.x1
    have b0 := Int.mul_nonneg a0 a2
    have b1 := mul_hi a0 a1 a2 a3 h2
    have b2 := Int.mul_nonneg a2 a2
    have b3 := mul_hi a2 a3 a2 a3 h2
    by_cases hz : k = 0
    · subst hz
      have HD := Lib.hid hk.done
      go_wp2
      go_ret
      exact ⟨ret_int (HD.out.trans HI.out), rfl⟩
    · have hp : (0 : Int) < k := by omega
      rcases Nat.mod_two_eq_zero_or_one k with he | he
      · have hq := hk.even he
        have hev : ((k : Int) % 2 == 1) = false := by simp; omega
        have hqk : k / 2 ≤ 10007 := by omega
        have hql : k / 2 < k := by omega
        clear he
        go_wp2
        exact ⟨⟨_, _, k / 2, hq, hqk, rfl, by simp, rfl⟩, by simp [intOf]; omega⟩
      · have hq := hk.odd he
        have hev : ((k : Int) % 2 == 1) = true := by simp; omega
        have hqk : k / 2 ≤ 10007 := by omega
        have hql : k / 2 < k := by omega
        clear he
        go_wp2
        exact ⟨⟨_, _, k / 2, hq, hqk, rfl, by simp, rfl⟩, by simp [intOf]; omega⟩

end Go.Proofs.Ytnikfalpjieibaa

/-
  Slices of integers in memory: what a slice that came in shows (Reads), what a block of the call's own holds (Has), and the law package's helpers over them.
-/
namespace Go.Proofs.Ytnikfalpjieibaa
open Go.RowKit
set_option linter.unusedVariables false

/-- The integer at a place of a list (0 behind its end). Plain on purpose: the walk does not look into it. -/
def gi (xs : List Int) (k : Nat) : Int := xs.getD k 0

/-- The cells of a list of integers. -/
def ints (xs : List Int) : Array Value := (xs.map (Value.int .i64)).toArray
theorem ints_size (xs : List Int) : (ints xs).size = xs.length := by simp [ints]
theorem ints_set (xs : List Int) (k : Nat) (v : Int) : (ints xs).setIfInBounds k (.int .i64 v) = ints (xs.set k v) := by
  simp [ints, List.map_set]
theorem ints_get (xs : List Int) (k : Nat) (h : k < xs.length) : (ints xs)[k]? = some (.int .i64 (gi xs k)) := by
  simp [ints, gi, h]
theorem madeCells_ints (n : Nat) : madeCells #[Value.int .i64 0] n = ints (List.replicate n 0) := by
  apply Array.toList_inj.1
  rw [toList_madeCells_one]
  simp [ints]

/-- Block b holds the integers xs from its head on (more cells may stand behind them), and is no constant's. -/
def Has (w : World) (b : Nat) (xs : List Int) : Prop := ∃ cur : Array Value, w.heap[b]? = some (.cells cur 3 (0, 0)) ∧ xs.length ≤ cur.size ∧ cur.toList.take xs.length = xs.map (Value.int .i64)

theorem Has.lt {w : World} {b : Nat} {xs : List Int} (h : Has w b xs) : b < w.heap.size := by
  obtain ⟨r, h, _⟩ := h
  exact (Array.getElem?_eq_some_iff.1 h).1
theorem Has.cell {w : World} {b : Nat} {xs : List Int} (h : Has w b xs) (j : Nat) (hj : j < xs.length) : w.cell? ⟨b, j, none⟩ = some (.int .i64 (gi xs j)) := by
  obtain ⟨r, h, h1, h2⟩ := h
  rw [cell_of_row w b j _ _ _ h]
  have := congrArg (·[j]?) h2
  simp only [List.getElem?_take, if_pos hj, List.getElem?_map] at this
  rw [← Array.getElem?_toList, this]
  simp [gi, hj]
theorem Has.free {w : World} {b : Nat} {xs : List Int} (h : Has w b xs) (j : Nat) : w.frozen? ⟨b, j, none⟩ = false := by
  obtain ⟨r, h, _⟩ := h
  exact frozen_of_row w b j _ _ h
theorem Has.set {w : World} {b : Nat} {xs : List Int} (h : Has w b xs) (j : Nat) (hj : j < xs.length) (v : Int) : Has (w.setCell ⟨b, j, none⟩ (.int .i64 v)) b (xs.set j v) := by
  obtain ⟨r, h, h1, h2⟩ := h
  refine ⟨r.setIfInBounds j (.int .i64 v), heap_setCell_same w b j _ _ _ h, by simpa using h1, ?_⟩
  rw [Array.toList_setIfInBounds, List.length_set, List.take_set, h2, List.map_set]
theorem Has.setOther {w : World} {b : Nat} {xs : List Int} (h : Has w b xs) {p : Addr} (hp : p.block ≠ b) (v : Value) : Has (w.setCell p v) b xs := by
  obtain ⟨r, h, h1⟩ := h
  exact ⟨r, by rw [Below.heap_setCell _ _ _ _ (Ne.symm hp)]; exact h, h1⟩
theorem Has.below {w w' : World} {b B : Nat} {xs : List Int} (h : Has w b xs) (hb : Below B w w') (hB : b < B) : Has w' b xs := by
  obtain ⟨r, h, h1⟩ := h
  exact ⟨r, by rw [hb.block b hB]; exact h, h1⟩
theorem Has.alloc {w : World} {b : Nat} {xs : List Int} (h : Has w b xs) (o : Obj) : Has (w.alloc o) b xs :=
  h.below ((Below.refl w.heap.size w).alloc (Nat.le_refl _) o) h.lt
theorem Has.new (w : World) (xs : List Int) : Has (w.alloc (.cells (ints xs) 3)) w.heap.size xs :=
  ⟨ints xs, heap_alloc_new w _, by simp [ints], List.take_of_length_le (by simp [ints])⟩
theorem Has.take {w : World} {b : Nat} {xs : List Int} (h : Has w b xs) (k : Nat) : Has w b (xs.take k) := by
  obtain ⟨r, h, h1, h2⟩ := h
  refine ⟨r, h, by simp; omega, ?_⟩
  have e : (xs.take k).length = min k xs.length := by simp
  rw [e, ← List.take_take, h2, List.map_take]
theorem Has.ofOwns {w : World} {base g n cap : Nat} {xs : List Int} (h : w.ownsRow base 3 1 (.slice (some ⟨g, 0, none⟩) n cap) n (xs.map (Value.int .i64))) : Has w g xs ∧ base ≤ g ∧ xs.length = n := by
  obtain ⟨h1, h2⟩ := h
  simp at h1
  rcases h2 with ⟨h, _⟩ | ⟨g', cap', cur, h, hb, hg, hn, _, hs, ht⟩
  · simp at h
  · simp at h
    obtain ⟨rfl, rfl⟩ := h
    exact ⟨⟨cur, hg, by omega, by rw [h1]; simpa using ht⟩, hb, h1⟩

/-- A slice that came in, or was made, shows the integers xs. -/
def Reads (w : World) (a : Option Addr) (n : Nat) (xs : List Int) : Prop :=
  xs.length = n ∧ (n = 0 ∨ ∃ b off, a = some ⟨b, off, none⟩ ∧ b < w.heap.size ∧ ∀ j, j < n → w.cell? ⟨b, off + j, none⟩ = some (.int .i64 (gi xs j)))

theorem Reads.len {w : World} {a : Option Addr} {n : Nat} {xs : List Int} (h : Reads w a n xs) : xs.length = n := h.1
theorem Reads.below {w w' : World} {a : Option Addr} {n : Nat} {xs : List Int} (h : Reads w a n xs) (hb : Below w.heap.size w w') : Reads w' a n xs := by
  refine ⟨h.1, ?_⟩
  rcases h.2 with h | ⟨b, off, rfl, hlt, hc⟩
  · exact .inl h
  · refine .inr ⟨b, off, rfl, Nat.lt_of_lt_of_le hlt hb.size, fun j hj => ?_⟩
    rw [hb.cell hlt]
    exact hc j hj
theorem Has.reads {w : World} {b : Nat} {xs : List Int} (h : Has w b xs) {n : Nat} (hn : xs.length = n) : Reads w (some ⟨b, 0, none⟩) n xs :=
  ⟨hn, .inr ⟨b, 0, rfl, h.lt, fun j hj => by rw [Nat.zero_add]; exact h.cell j (by omega)⟩⟩
theorem reads_nil (w : World) (a : Option Addr) : Reads w a 0 [] := ⟨rfl, .inl rfl⟩

theorem take_set_snoc (xs ys : List Int) (k : Nat) (hk : k < xs.length) (hl : ys.length = xs.length) (ht : ys.take k = xs.take k) :
    (ys.set k (gi xs k)).take (k + 1) = xs.take (k + 1) := by
  apply List.ext_getElem?
  intro i
  have hi := congrArg (·[i]?) ht
  simp only [List.getElem?_take, List.getElem?_set] at hi ⊢
  by_cases h1 : i < k
  · have h2 : k ≠ i := by omega
    have h3 : i < k + 1 := by omega
    simpa [h1, h2, h3] using hi
  · by_cases h2 : i = k
    · subst h2
      have h3 : i < ys.length := by omega
      simp [h3, hk, gi]
    · have h3 : ¬ i < k + 1 := by omega
      simp [h3]

theorem Try.infoInt : (Try.prog.info? 3).map (fun i => (i.zero, i.size, i.bytes)) = some (some (.int .i64 0), 1, 8) := by kernel_rfl

/-- 'make([]int, n)'. -/
theorem make_ints (n : Nat) (hn : n ≤ 1048576) (w : World) :
    (Instr.makeSlice 22 (.int .i64 (n : Int)) (.int .i64 (n : Int))).run Try.prog w = .ok (.slice (some ⟨w.heap.size, 0, none⟩) n n) (w.alloc (.cells (ints (List.replicate n 0)) 3)) := by
  obtain ⟨i0, hi, hz0, hz1, hz2⟩ := info_parts Try.infoInt
  have h := run_make (P := Try.prog) w 22 3 i0 (.int .i64 0) Try.underlying22 hi hz0 .i64 .i64 n n (by omega) (by omega) (by rw [hz2]; omega) (by omega)
  simp only [Int.toNat_natCast, hz1, Nat.mul_one] at h
  rw [h]
  have : (Value.int IntKind.i64 0).cells = #[Value.int .i64 0] := rfl
  rw [this, madeCells_ints]

/-- What the marks are: k, k + 1, .. -/
def marks (k : Int) (n : Nat) : List Int := (List.range n).map fun i : Nat => k + (i : Int)
theorem marks_length (k : Int) (n : Nat) : (marks k n).length = n := by simp [marks]
theorem gi_marks (k : Int) (n j : Nat) (h : j < n) : gi (marks k n) j = k + j := by simp [gi, marks, h]
theorem marks_step (ys : List Int) (k : Int) (n j : Nat) (hj : j < n) (hl : ys.length = n) (ht : ys.take j = (marks k n).take j) :
    (ys.set j (k + j)).take (j + 1) = (marks k n).take (j + 1) := by
  have := take_set_snoc (marks k n) ys j (by rw [marks_length]; exact hj) (by rw [marks_length]; exact hl) ht
  rwa [gi_marks k n j hj] at this

/-- A slice of the call's own, in a block from lo on and below hi: it holds xs, and may be written. -/
def Own (w : World) (lo hi : Nat) (a : Option Addr) (n : Nat) (xs : List Int) : Prop :=
  xs.length = n ∧ ((a = none ∧ n = 0) ∨ ∃ b, a = some ⟨b, 0, none⟩ ∧ lo ≤ b ∧ b < hi ∧ Has w b xs)
def blk (a : Option Addr) : Option Nat := a.map (·.block)
theorem Own.reads {w : World} {lo hi : Nat} {a : Option Addr} {n : Nat} {xs : List Int} (h : Own w lo hi a n xs) : Reads w a n xs := by
  obtain ⟨h1, h2⟩ := h
  rcases h2 with h2 | ⟨b, rfl, _, _, h2⟩
  · exact ⟨h1, .inl h2.2⟩
  · exact h2.reads h1
theorem Own.below {w w' : World} {lo hi : Nat} {a : Option Addr} {n : Nat} {xs : List Int} (h : Own w lo hi a n xs) (hb : Below w.heap.size w w') : Own w' lo hi a n xs := by
  obtain ⟨h1, h2⟩ := h
  rcases h2 with h2 | ⟨b, rfl, h3, h4, h2⟩
  · exact ⟨h1, .inl h2⟩
  · exact ⟨h1, .inr ⟨b, rfl, h3, h4, h2.below hb h2.lt⟩⟩
theorem Own.mono {w : World} {lo hi lo' hi' : Nat} {a : Option Addr} {n : Nat} {xs : List Int} (h : Own w lo hi a n xs) (hl : lo' ≤ lo) (hh : hi ≤ hi') : Own w lo' hi' a n xs := by
  obtain ⟨h1, h2⟩ := h
  rcases h2 with h2 | ⟨b, rfl, h3, h4, h2⟩
  · exact ⟨h1, .inl h2⟩
  · exact ⟨h1, .inr ⟨b, rfl, Nat.le_trans hl h3, Nat.lt_of_lt_of_le h4 hh, h2⟩⟩
theorem Own.len {w : World} {lo hi : Nat} {a : Option Addr} {n : Nat} {xs : List Int} (h : Own w lo hi a n xs) : xs.length = n := h.1
theorem Own.blk {w : World} {lo hi : Nat} {a : Option Addr} {n : Nat} {xs : List Int} (h : Own w lo hi a n xs) : ∀ k, blk a = some k → lo ≤ k ∧ k < hi := by
  obtain ⟨h1, h2⟩ := h
  rcases h2 with ⟨rfl, _⟩ | ⟨b, rfl, h3, h4, h2⟩
  · intro k hk; simp [Proofs.Ytnikfalpjieibaa.blk] at hk
  · intro k hk; simp [Proofs.Ytnikfalpjieibaa.blk] at hk; omega
theorem Has.own {w : World} {b lo hi : Nat} {xs : List Int} (h : Has w b xs) (hb : lo ≤ b) (hh : b < hi) {n : Nat} (hn : xs.length = n) : Own w lo hi (some ⟨b, 0, none⟩) n xs :=
  ⟨hn, .inr ⟨b, rfl, hb, hh, h⟩⟩
theorem own_nil (w : World) (lo hi : Nat) : Own w lo hi none 0 [] := ⟨rfl, .inl ⟨rfl, rfl⟩⟩
/-- What was written is another block. -/
theorem Own.grown {w w' : World} {lo hi : Nat} {a : Option Addr} {n : Nat} {xs : List Int} (h : Own w lo hi a n xs) {row : Option Nat} (hg : w.grownBy w' row) (hd : ∀ k, row = some k → k < lo ∨ hi ≤ k) : Own w' lo hi a n xs := by
  obtain ⟨h1, h2⟩ := h
  rcases h2 with h2 | ⟨b, rfl, h3, h4, r, h2, h5⟩
  · exact ⟨h1, .inl h2⟩
  · refine ⟨h1, .inr ⟨b, rfl, h3, h4, r, ?_, h5⟩⟩
    rw [hg.block b (Array.getElem?_eq_some_iff.1 h2).1 (fun e => by have := hd b e.symm; omega)]
    exact h2
theorem grownBy_refl (w : World) (row : Option Nat) : w.grownBy w row := ⟨rfl, rfl, rfl, Nat.le_refl _, fun _ _ _ => rfl⟩
theorem grownBy_set {w w' : World} {row : Option Nat} (h : w.grownBy w' row) {p : Addr} (hp : row = some p.block) (v : Value) : w.grownBy (w'.setCell p v) row :=
  ⟨h.os, h.tape, h.output, by simpa using h.size, fun i hi hne => by rw [Below.heap_setCell _ _ _ _ (fun e => hne (by rw [hp, e]))]; exact h.block i hi hne⟩

theorem below_drewN {B : Nat} {w : World} (n : Nat) : Below B w (w.drewN n) := ⟨rfl, rfl, rfl, Nat.le_refl _, fun _ _ => rfl⟩

/-- Nothing that was there has changed: the world has at most new blocks. -/
def Ext (w w' : World) : Prop := Below w.heap.size w w'
theorem Ext.refl (w : World) : Ext w w := Below.refl _ _
theorem Ext.trans {a b c : World} (h : Ext a b) (h' : Ext b c) : Ext a c := Below.trans h (Below.mono h' h.size)
theorem Ext.alloc {w w' : World} (h : Ext w w') (o : Obj) : Ext w (w'.alloc o) := Below.alloc h h.size o
theorem Ext.drewN {w w' : World} (h : Ext w w') (n : Nat) : Ext w (w'.drewN n) := Below.trans h (below_drewN n)
theorem Ext.drew {w w' : World} (h : Ext w w') : Ext w w'.drew := Below.drew h
theorem Ext.setCell {w w' : World} (h : Ext w w') {p : Addr} (hp : w.heap.size ≤ p.block) (u : Value) : Ext w (w'.setCell p u) := Below.setCell h hp u
theorem Ext.grown {w w' w'' : World} {row : Option Nat} (h : Ext w w') (hg : w'.grownBy w'' row) (hr : ∀ k, row = some k → w.heap.size ≤ k) : Ext w w'' := Below.grown h hg h.size hr
theorem Ext.le {w w' : World} (h : Ext w w') : w.heap.size ≤ w'.heap.size := h.size
theorem Ext.cells {W w1 : World} (hb : Ext W w1) : ∀ b o, b < W.heap.size → w1.cell? ⟨b, o, none⟩ = W.cell? ⟨b, o, none⟩ := fun b o h => Below.cell hb (p := ⟨b, o, none⟩) h
theorem Ext.frees {W w1 : World} (hb : Ext W w1) : ∀ b o, b < W.heap.size → w1.frozen? ⟨b, o, none⟩ = W.frozen? ⟨b, o, none⟩ := fun b o h => Below.frozen hb (p := ⟨b, o, none⟩) h
theorem Reads.ext {w w' : World} {a : Option Addr} {n : Nat} {xs : List Int} (h : Reads w a n xs) (hb : Ext w w') : Reads w' a n xs := h.below hb
theorem Own.ext {w w' : World} {lo hi : Nat} {a : Option Addr} {n : Nat} {xs : List Int} (h : Own w lo hi a n xs) (hb : Ext w w') : Own w' lo hi a n xs := h.below hb
theorem Has.ext {w w' : World} {b : Nat} {xs : List Int} (h : Has w b xs) (hb : Ext w w') : Has w' b xs := Has.below h hb h.lt

/-- The same where the length is spelled as an integer. -/
theorem make_intsz (z : Int) (h0 : 0 ≤ z) (h1 : z ≤ 1048576) (w : World) :
    (Instr.makeSlice 22 (.int .i64 z) (.int .i64 z)).run Try.prog w = .ok (.slice (some ⟨w.heap.size, 0, none⟩) z.toNat z.toNat) (w.alloc (.cells (ints (List.replicate z.toNat 0)) 3)) := by
  have := make_ints z.toNat (by omega) w
  rwa [Int.toNat_of_nonneg h0] at this

set_option maxHeartbeats 400000 in
/-- 'toIntS' makes a copy. -/
theorem toIntS_law (a : Option Addr) (n c : Nat) (xs : List Int) (w : World) (hr : Reads w a n xs) (hn : n ≤ 1048576) :
    Calls Try.prog 21 #[.slice a n c] w fun e w' => ∃ b, e = .returned (.slice (some ⟨b, 0, none⟩) n n) ∧ Own w' w.heap.size w'.heap.size (some ⟨b, 0, none⟩) n xs ∧ Ext w w' := by
  have hmk := make_ints n hn
  have hl := Lib.hid hr.1
  have HR := Lib.hid hr.2
  clear hr
  go_enter Try.func21, Try.ntmps21
  go_wp2
  clear hmk
  go_loopw [4] (fun i wr => ∃ (k : Nat) (l : List Int), k ≤ n ∧ i = .int .i64 k ∧ Hid (l.length = n) ∧ Hid (l.take k = xs.take k) ∧ wr = w.alloc (.cells (ints l) 3)) (fun i _ => n - (intOf i).toNat)
  case atStart => exact ⟨0, List.replicate n 0, by omega, rfl, by simp [Hid], by simp [Hid], rfl⟩
  case round =>
    obtain ⟨k, l, hk, rfl, h1, h2, rfl⟩ := hrel
    by_cases hlt : k < n
    · rcases HR.out with h | ⟨b, off, rfl, hb, hc⟩
      · omega
      have hc1 : (w.alloc (.cells (ints l) 3)).cell? ⟨b, off + k, none⟩ = some (.int .i64 (gi xs k)) := by
        rw [World.cell?_alloc_past _ _ _ hb]; exact hc k hlt
      have hc2 : (w.alloc (.cells (ints l) 3)).cell? ⟨w.heap.size, k, none⟩ = some (.int .i64 (gi l k)) := by
        rw [World.cell?_alloc_at _ _ _ _ rfl]; exact ints_get _ _ (by rw [h1.out]; exact hlt)
      have hf2 : (w.alloc (.cells (ints l) 3)).frozen? ⟨w.heap.size, k, none⟩ = false := World.frozen?_alloc_at _ _ _ _ rfl
      clear hc
      have H3 : Hid ((l.set k (gi xs k)).take (k + 1) = xs.take (k + 1)) := take_set_snoc xs l k (by rw [hl.out]; exact hlt) (by rw [h1.out, hl.out]) h2.out
      go_wp2
      exact ⟨⟨k + 1, l.set k (gi xs k), by omega, by simp, by rw [Hid, List.length_set]; exact h1.out, H3, by rw [ints_set]⟩, by simp [intOf]; omega⟩
    · obtain rfl : k = n := by omega
      have hll : Hid (l = xs) := by
        have := h2.out
        rwa [List.take_of_length_le (by rw [h1.out]; exact Nat.le_refl _), List.take_of_length_le (by rw [hl.out]; exact Nat.le_refl _)] at this
      go_wp2
      go_ret
      exact ⟨w.heap.size, rfl, by rw [hll.out]; exact (Has.new w xs).own (Nat.le_refl _) (by simp) hl.out, (Ext.refl _).alloc _⟩

set_option maxHeartbeats 400000 in
/-- 'eqIntS' at equal lists. -/
theorem eqIntS_law (a a' : Option Addr) (n c c' : Nat) (xs : List Int) (w : World) (hr : Reads w a n xs) (hr' : Reads w a' n xs) (hn : n ≤ 1048576) :
    Calls Try.prog 24 #[.slice a n c, .slice a' n c'] w fun e w' => e = .returned (.bool true) ∧ ∃ m, w' = w.drewN m := by
  have HR := Lib.hid hr.2
  have HR' := Lib.hid hr'.2
  clear hr hr'
  go_enter Try.func24, Try.ntmps24
  go_wp2
  go_loopw [5] (fun i wr => ∃ (k m : Nat), k ≤ n ∧ i = .int .i64 k ∧ wr = w.drewN m) (fun i _ => n - (intOf i).toNat)
  case atStart => exact ⟨0, 0, by omega, rfl, rfl⟩
  case round =>
    obtain ⟨k, m, hk, rfl, rfl⟩ := hrel
    by_cases hlt : k < n
    · rcases HR.out with h | ⟨b, off, rfl, hb, hc⟩
      · omega
      rcases HR'.out with h | ⟨b', off', rfl, hb', hc'⟩
      · omega
      have hc1 := hc k hlt
      have hc2 := hc' k hlt
      have hlt' : (k : Int) < (n : Int) := by omega
      clear hc hc'
      go_wp2
      go_quiet (fail)
      go_wp2
      exact ⟨⟨k + 1, m + nq, by omega, by simp, by simp⟩, by simp [intOf]; omega⟩
    · go_wp2
      go_ret
      exact ⟨rfl, m, rfl⟩

set_option maxHeartbeats 400000 in
/-- 'markIntS' writes the marks. -/
theorem markIntS_law (lo hi : Nat) (a : Option Addr) (n c : Nat) (xs : List Int) (k : Int) (w : World) (hr : Own w lo hi a n xs) (hn : n ≤ 1048576) (hk0 : 0 ≤ k) (hk1 : k ≤ 1073741824) :
    Calls Try.prog 27 #[.slice a n c, .int .i64 k] w fun e w' => e = .returned (.int .i64 (k + n)) ∧ Own w' lo hi a n (marks k n) ∧ w.grownBy w' (blk a) := by
  have hl := Lib.hid hr.1
  have HR := Lib.hid hr.2
  clear hr
  go_enter Try.func27, Try.ntmps27
  go_wp2
  go_loopw [1, 5] (fun q i wr => ∃ (j : Nat) (l : List Int), j ≤ n ∧ i = .int .i64 j ∧ q = .int .i64 (k + j) ∧ Hid (l.take j = (marks k n).take j) ∧ Hid (Own wr lo hi a n l) ∧ Hid (w.grownBy wr (blk a))) (fun _ i _ => n - (intOf i).toNat)
  case atStart => exact ⟨0, xs, by omega, rfl, by simp, by simp [Hid], ⟨hl.out, HR.out⟩, grownBy_refl _ _⟩
  case round =>
    obtain ⟨j, l, hj, rfl, rfl, h1, h2, h3⟩ := hrel
    by_cases hlt : j < n
    · rcases h2.out with ⟨h4, h | ⟨b, rfl, hb, hb', hh⟩⟩
      · omega
      have hc1 := hh.cell j (by omega)
      have hf1 := hh.free j
      have H5 : Hid ((l.set j (k + j)).take (j + 1) = (marks k n).take (j + 1)) := marks_step l k n j hlt h4 h1.out
      have H6 := Lib.hid (hh.set j (by omega) (k + j))
      have H4 := Lib.hid h4
      clear hh h4
      go_wp2
      exact ⟨⟨j + 1, l.set j (k + j), by omega, by simp, by simp; omega, H5, ⟨by rw [List.length_set]; exact H4.out, .inr ⟨b, rfl, hb, hb', H6.out⟩⟩, grownBy_set (p := ⟨b, j, none⟩) h3.out rfl _⟩, by simp [intOf]; omega⟩
    · obtain rfl : j = n := by omega
      have hll : Hid (l = marks k j) := by
        have := h1.out
        rwa [List.take_of_length_le (by rw [h2.out.1]; exact Nat.le_refl _), List.take_of_length_le (by rw [marks_length]; exact Nat.le_refl _)] at this
      go_wp2
      go_ret
      exact ⟨rfl, by rw [← hll.out]; exact h2.out, h3.out⟩

set_option maxHeartbeats 400000 in
/-- 'heldIntS' where the marks stand. -/
theorem heldIntS_law (a : Option Addr) (n c : Nat) (k : Int) (w : World) (hr : Reads w a n (marks k n)) (hn : n ≤ 1048576) (hk0 : 0 ≤ k) (hk1 : k ≤ 1073741824) :
    Calls Try.prog 58 #[.slice a n c, .int .i64 k] w fun e w' => e = .returned (.int .i64 (k + n)) ∧ w = w' := by
  have HR := Lib.hid hr.2
  clear hr
  go_enter Try.func58, Try.ntmps58
  go_wp2
  go_loop [1, 5] (fun q i => ∃ (j : Nat), j ≤ n ∧ i = .int .i64 j ∧ q = .int .i64 (k + j)) (fun _ i => n - (intOf i).toNat)
  case atStart => exact ⟨0, by omega, rfl, by simp⟩
  case round =>
    obtain ⟨j, hj, rfl, rfl⟩ := hrel
    by_cases hlt : j < n
    · rcases HR.out with h | ⟨b, off, rfl, hb, hc⟩
      · omega
      have hc1 := hc j hlt
      rw [gi_marks k n j hlt] at hc1
      clear hc
      go_wp2
      exact ⟨⟨j + 1, by omega, by simp, by simp; omega⟩, by simp [intOf]; omega⟩
    · obtain rfl : j = n := by omega
      go_wp2
      go_ret
      exact ⟨rfl, rfl⟩

set_option maxHeartbeats 400000 in
theorem szIntS_yes (a : Option Addr) (n c : Nat) (k : Int) (w : World) (hk1 : k ≤ 1073741824) (hn : (n : Int) ≤ k) :
    Calls Try.prog 47 #[.slice a n c, .int .i64 k] w fun e w' => e = .returned (.int .i64 (k - n)) ∧ w = w' := by
  have h : 0 ≤ k - n := by omega
  go_enter Try.func47, Try.ntmps47
  go_wp2
  go_ret
  exact ⟨rfl, rfl⟩
set_option maxHeartbeats 400000 in
theorem szIntS_no (a : Option Addr) (n c : Nat) (k : Int) (w : World) (hk0 : 0 ≤ k) (hk1 : k ≤ 1073741824) (hn : n ≤ maxLen) (hlt : k < (n : Int)) :
    Calls Try.prog 47 #[.slice a n c, .int .i64 k] w fun e w' => e = .returned (.int .i64 (-1)) ∧ w = w' := by
  unfold maxLen at hn
  have h : k - n < 0 := by omega
  go_enter Try.func47, Try.ntmps47
  go_wp2
  go_ret
  exact ⟨rfl, rfl⟩


/-- A block of the call's own whose cells are known. -/
structure Cells (w : World) (b : Nat) (vs : List Value) : Prop where
  lt : b < w.heap.size
  at_ : ∀ j v, vs[j]? = some v → w.cell? ⟨b, j, none⟩ = some v
  free : ∀ j, w.frozen? ⟨b, j, none⟩ = false
theorem Cells.ext {w w' : World} {b : Nat} {vs : List Value} (h : Cells w b vs) (hE : Ext w w') : Cells w' b vs :=
  ⟨Nat.lt_of_lt_of_le h.1 hE.le, fun j v hv => (hE.cells b j h.1).trans (h.2 j v hv), fun j => (hE.frees b j h.1).trans (h.3 j)⟩
theorem cells_new (w : World) (vs : Array Value) (t : TypeId) : Cells (w.alloc (.cells vs t)) w.heap.size vs.toList :=
  ⟨by simp, fun j v hv => by rw [World.cell?_alloc_at _ _ _ _ rfl]; simpa using hv, fun j => World.frozen?_alloc_at _ _ _ _ rfl⟩
theorem Cells.grown {w w' : World} {b : Nat} {vs : List Value} (h : Cells w b vs) {row : Option Nat} (hg : w.grownBy w' row) (hd : ∀ k, row = some k → k ≠ b) : Cells w' b vs :=
  ⟨Nat.lt_of_lt_of_le h.1 hg.size, fun j v hv => (World.cell?_of_block (hg.block b h.1 (fun e => hd b e.symm rfl))).trans (h.2 j v hv), fun j => (World.frozen?_of_block (hg.block b h.1 (fun e => hd b e.symm rfl))).trans (h.3 j)⟩
theorem cells_new' (w : World) (vs : Array Value) (t : TypeId) (b : Nat) (hb : b = w.heap.size) : Cells (w.alloc (.cells vs t)) b vs.toList := by
  subst hb; exact cells_new w vs t
/-- A store into a known block. -/
theorem Cells.put {w : World} {b : Nat} {vs : List Value} (h : Cells w b vs) (j : Nat) (hj : j < vs.length) (v : Value) : Cells (w.setCell ⟨b, j, none⟩ v) b (vs.set j v) := by
  refine ⟨by simpa using h.1, fun i u hu => ?_, fun i => (World.frozen?_setCell _ _ _ _).trans (h.3 i)⟩
  rw [List.getElem?_set] at hu
  by_cases e : j = i
  · subst e
    simp [hj] at hu
    subst hu
    exact World.cell?_setCell_same _ _ _ (h.2 j (vs[j]) (by simp [hj]))
  · rw [if_neg e] at hu
    rw [World.cell?_setCell_other _ _ _ _ (by intro h'; injection h' with _ h2; exact e h2)]
    exact h.2 i u hu
theorem Own.put {w : World} {lo hi : Nat} {a : Option Addr} {n : Nat} {xs : List Int} (h : Own w lo hi a n xs) {b : Nat} (hb : b < lo) (j : Nat) (v : Value) : Own (w.setCell ⟨b, j, none⟩ v) lo hi a n xs :=
  h.grown (grownBy_set (p := ⟨b, j, none⟩) (grownBy_refl w (some b)) rfl v) (fun k hk => by simp at hk; omega)
theorem Own.any {w w' : World} {lo hi : Nat} {a : Option Addr} {n : Nat} {xs : List Int} (h : Own w' lo hi a n xs) (hh : hi ≤ w.heap.size) : Own w' 0 w.heap.size a n xs := h.mono (Nat.zero_le _) hh
/-- A box that was laid ahead of a call, and filled behind it. -/
theorem early4 {w : World} {B lo : Nat} {o0 o1 o2 o3 v0 v1 v2 v3 : Value} (h : Cells w B [o0, o1, o2, o3]) : Cells ((((w.setCell ⟨B, 0, none⟩ v0).setCell ⟨B, 1, none⟩ v1).setCell ⟨B, 2, none⟩ v2).setCell ⟨B, 3, none⟩ v3) B [v0, v1, v2, v3] :=
  (((h.put 0 (by simp) v0).put 1 (by simp) v1).put 2 (by simp) v2).put 3 (by simp) v3
theorem early3 {w : World} {B lo : Nat} {o0 o1 o2 v0 v1 v2 : Value} (h : Cells w B [o0, o1, o2]) : Cells (((w.setCell ⟨B, 0, none⟩ v0).setCell ⟨B, 1, none⟩ v1).setCell ⟨B, 2, none⟩ v2) B [v0, v1, v2] :=
  ((h.put 0 (by simp) v0).put 1 (by simp) v1).put 2 (by simp) v2
theorem early2 {w : World} {B lo : Nat} {o0 o1 v0 v1 : Value} (h : Cells w B [o0, o1]) : Cells ((w.setCell ⟨B, 0, none⟩ v0).setCell ⟨B, 1, none⟩ v1) B [v0, v1] :=
  (h.put 0 (by simp) v0).put 1 (by simp) v1
theorem ext4 {w w1 : World} {B : Nat} (h : Ext w w1) (hb : w.heap.size ≤ B) (v0 v1 v2 v3 : Value) : Ext w ((((w1.setCell ⟨B, 0, none⟩ v0).setCell ⟨B, 1, none⟩ v1).setCell ⟨B, 2, none⟩ v2).setCell ⟨B, 3, none⟩ v3) :=
  (((h.setCell (p := ⟨B, 0, none⟩) hb v0).setCell (p := ⟨B, 1, none⟩) hb v1).setCell (p := ⟨B, 2, none⟩) hb v2).setCell (p := ⟨B, 3, none⟩) hb v3
theorem ext3 {w w1 : World} {B : Nat} (h : Ext w w1) (hb : w.heap.size ≤ B) (v0 v1 v2 : Value) : Ext w (((w1.setCell ⟨B, 0, none⟩ v0).setCell ⟨B, 1, none⟩ v1).setCell ⟨B, 2, none⟩ v2) :=
  ((h.setCell (p := ⟨B, 0, none⟩) hb v0).setCell (p := ⟨B, 1, none⟩) hb v1).setCell (p := ⟨B, 2, none⟩) hb v2
theorem own4 {w : World} {B lo hi : Nat} {a : Option Addr} {n : Nat} {xs : List Int} (h : Own w lo hi a n xs) (hb : B < lo) (v0 v1 v2 v3 : Value) : Own ((((w.setCell ⟨B, 0, none⟩ v0).setCell ⟨B, 1, none⟩ v1).setCell ⟨B, 2, none⟩ v2).setCell ⟨B, 3, none⟩ v3) lo hi a n xs :=
  (((h.put hb 0 v0).put hb 1 v1).put hb 2 v2).put hb 3 v3
theorem own3 {w : World} {B lo hi : Nat} {a : Option Addr} {n : Nat} {xs : List Int} (h : Own w lo hi a n xs) (hb : B < lo) (v0 v1 v2 : Value) : Own (((w.setCell ⟨B, 0, none⟩ v0).setCell ⟨B, 1, none⟩ v1).setCell ⟨B, 2, none⟩ v2) lo hi a n xs :=
  ((h.put hb 0 v0).put hb 1 v1).put hb 2 v2
theorem own2 {w : World} {B lo hi : Nat} {a : Option Addr} {n : Nat} {xs : List Int} (h : Own w lo hi a n xs) (hb : B < lo) (v0 v1 : Value) : Own ((w.setCell ⟨B, 0, none⟩ v0).setCell ⟨B, 1, none⟩ v1) lo hi a n xs :=
  (h.put hb 0 v0).put hb 1 v1
theorem ext2 {W w' : World} (h : Ext W w') : Ext W w' ∧ ∀ b o, b < W.heap.size → w'.cell? ⟨b, o, none⟩ = W.cell? ⟨b, o, none⟩ := ⟨h, h.cells⟩
theorem Reads.grown {w w' : World} {a : Option Addr} {n : Nat} {xs : List Int} (h : Reads w a n xs) {row : Option Nat} (hg : w.grownBy w' row) (hd : ∀ k, row = some k → w.heap.size ≤ k) : Reads w' a n xs := by
  refine ⟨h.1, ?_⟩
  rcases h.2 with h | ⟨b, off, rfl, hlt, hc⟩
  · exact .inl h
  · refine .inr ⟨b, off, rfl, Nat.lt_of_lt_of_le hlt hg.size, fun j hj => ?_⟩
    rw [World.cell?_of_block (w := w) (hg.block b hlt (fun e => by have := hd b e.symm; omega))]
    exact hc j hj
theorem Has.new' (w : World) (xs : List Int) (b : Nat) (hb : b = w.heap.size) : Has (w.alloc (.cells (ints xs) 3)) b xs := by subst hb; exact Has.new w xs
/-- In a call that began in w: a box of the call's own, and a block of integers of the call's own that is written. -/
structure Loc (w wr : World) (B b : Nat) (vs : List Value) (l : List Int) : Prop where
  box : Cells wr B vs
  has : Has wr b l
  ext : Ext w wr
  lo : w.heap.size ≤ b
  lt : b < wr.heap.size
  ne : B ≠ b
theorem Loc.set {w wr : World} {B b : Nat} {vs : List Value} {l : List Int} (h : Loc w wr B b vs l) (j : Nat) (hj : j < l.length) (v : Int) : Loc w (wr.setCell ⟨b, j, none⟩ (.int .i64 v)) B b vs (l.set j v) :=
  ⟨h.box.grown (grownBy_set (p := ⟨b, j, none⟩) (grownBy_refl wr (some b)) rfl _) (fun k hk => by simp at hk; have := h.ne; omega), h.has.set j hj v, h.ext.setCell (p := ⟨b, j, none⟩) h.lo _, h.lo, by simpa using h.lt, h.ne⟩
theorem Loc.step {w wr wr' : World} {B b : Nat} {vs : List Value} {l : List Int} (h : Loc w wr B b vs l) (hE : Ext wr wr') : Loc w wr' B b vs l :=
  ⟨h.box.ext hE, h.has.ext hE, h.ext.trans hE, h.lo, Nat.lt_of_lt_of_le h.lt hE.le, h.ne⟩
theorem Loc.own {w wr : World} {B b : Nat} {vs : List Value} {l : List Int} (h : Loc w wr B b vs l) {n : Nat} (hn : l.length = n) : Own wr w.heap.size wr.heap.size (some ⟨b, 0, none⟩) n l := h.has.own h.lo h.lt hn

/-- What a region keeps in a call that began in w: old memory, and the boxes of the arguments, which lie below the result's box N. -/
def KeptR (w W0 : World) (N : Nat) (w' : World) : Prop := Ext w w' ∧ N ≤ w'.heap.size ∧ ∀ b o, b < N → w'.cell? ⟨b, o, none⟩ = W0.cell? ⟨b, o, none⟩
theorem KeptR.call {w W0 w1 w2 : World} {N : Nat} (h : Ext w w1 ∧ N ≤ w1.heap.size ∧ ∀ b o, b < N → w1.cell? ⟨b, o, none⟩ = W0.cell? ⟨b, o, none⟩) (hE : Ext w1 w2) : Ext w w2 ∧ N ≤ w2.heap.size ∧ ∀ b o, b < N → w2.cell? ⟨b, o, none⟩ = W0.cell? ⟨b, o, none⟩ :=
  ⟨h.1.trans hE, Nat.le_trans h.2.1 hE.le, fun b o hb => (hE.cells b o (Nat.lt_of_lt_of_le hb h.2.1)).trans (h.2.2 b o hb)⟩
theorem KeptR.set {w W0 w1 : World} {N : Nat} (h : Ext w w1 ∧ N ≤ w1.heap.size ∧ ∀ b o, b < N → w1.cell? ⟨b, o, none⟩ = W0.cell? ⟨b, o, none⟩) (hN : w.heap.size ≤ N) (j : Nat) (v : Value) :
    Ext w (w1.setCell ⟨N, j, none⟩ v) ∧ N ≤ (w1.setCell ⟨N, j, none⟩ v).heap.size ∧ ∀ b o, b < N → (w1.setCell ⟨N, j, none⟩ v).cell? ⟨b, o, none⟩ = W0.cell? ⟨b, o, none⟩ :=
  ⟨h.1.setCell (p := ⟨N, j, none⟩) hN v, by simpa using h.2.1, fun b o hb => (World.cell?_setCell_other _ _ _ _ (by intro e; injection e with e1; omega)).trans (h.2.2 b o hb)⟩
theorem KeptR.set4 {w W0 w1 : World} {N : Nat} (h : Ext w w1 ∧ N ≤ w1.heap.size ∧ ∀ b o, b < N → w1.cell? ⟨b, o, none⟩ = W0.cell? ⟨b, o, none⟩) (hN : w.heap.size ≤ N) (v0 v1 v2 v3 : Value) :
    Ext w ((((w1.setCell ⟨N, 0, none⟩ v0).setCell ⟨N, 1, none⟩ v1).setCell ⟨N, 2, none⟩ v2).setCell ⟨N, 3, none⟩ v3) ∧ N ≤ ((((w1.setCell ⟨N, 0, none⟩ v0).setCell ⟨N, 1, none⟩ v1).setCell ⟨N, 2, none⟩ v2).setCell ⟨N, 3, none⟩ v3).heap.size ∧ ∀ b o, b < N → ((((w1.setCell ⟨N, 0, none⟩ v0).setCell ⟨N, 1, none⟩ v1).setCell ⟨N, 2, none⟩ v2).setCell ⟨N, 3, none⟩ v3).cell? ⟨b, o, none⟩ = W0.cell? ⟨b, o, none⟩ :=
  KeptR.set (KeptR.set (KeptR.set (KeptR.set h hN 0 v0) hN 1 v1) hN 2 v2) hN 3 v3

theorem eqIntS_x (a a' : Option Addr) (n c c' : Nat) (xs : List Int) (w : World) (hr : Reads w a n xs) (hr' : Reads w a' n xs) (hn : n ≤ 1048576) :
    Calls Try.prog 24 #[.slice a n c, .slice a' n c'] w fun e w' => e = .returned (.bool true) ∧ Ext w w' :=
  (eqIntS_law a a' n c c' xs w hr hr' hn).mono fun e w' ⟨he, m, hm⟩ => ⟨he, by rw [hm]; exact (Ext.refl w).drewN m⟩
theorem heldIntS_x (a : Option Addr) (n c : Nat) (k : Int) (w : World) (hr : Reads w a n (marks k n)) (hn : n ≤ 1048576) (hk0 : 0 ≤ k) (hk1 : k ≤ 1073741824) :
    Calls Try.prog 58 #[.slice a n c, .int .i64 k] w fun e w' => e = .returned (.int .i64 (k + n)) ∧ Ext w w' :=
  (heldIntS_law a n c k w hr hn hk0 hk1).mono fun e w' ⟨he, hm⟩ => ⟨he, by rw [← hm]; exact Ext.refl w⟩
end Go.Proofs.Ytnikfalpjieibaa

/-
  Residue and InverseOf of both texts, out of the walks of Num.
-/
namespace Go.Proofs.Ytnikfalpjieibaa
open Go.RowKit
set_option linter.unusedVariables false
/-- What Residue comes to. -/
noncomputable def resM (n p : Int) : Int := if isP p then n % p else 0
noncomputable def invM (n p : Int) : Int := if isP p then inv (n % p) p else 0

set_option maxHeartbeats 400000 in
theorem inverseOf_spec (n p : Int) (w : World) : Calls Try.prog 133 #[.int .i64 n, .int .i64 p] w fun e w' => e = .returned (.int .i64 (invM n p)) ∧ w = w' := by
  rcases hp : isP p with _ | _
  · have HM : Hid (invM n p = 0) := by simp [Hid, invM, hp]
    go_enter Try.func133, Try.ntmps133
    go_wp2_with fail
    refine (isPrime_spec _ _).mono ?_
    rintro e w' ⟨rfl, rfl⟩
    go_wp2
    go_ret
    exact ⟨ret_int HM.out.symm, rfl⟩
  · have HM : Hid (invM n p = inv (n % p) p) := by simp [Hid, invM, hp]
    have h1 := isP_lo hp
    have h2 := isP_hi hp
    have g1 := Int.emod_nonneg n (show p ≠ 0 by omega)
    have g2 := Int.emod_lt_of_pos n (show 0 < p by omega)
    by_cases h0 : n % p = 0
    · have HI : Hid (inv (n % p) p = 0) := by simp [Hid, inv, h0]
      have hb : (n % p == 0) = true := by simpa using h0
      clear h0
      go_enter Try.func133, Try.ntmps133
      go_wp2_with fail
      refine (isPrime_spec _ _).mono ?_
      rintro e w' ⟨rfl, rfl⟩
      go_wp2_with fail
      refine (l1Mod_spec _ _ _ h1 h2).mono ?_
      rintro e w' ⟨rfl, rfl⟩
      go_wp2
      go_ret
      exact ⟨ret_int (HM.out.trans HI.out).symm, rfl⟩
    · have hb : (n % p == 0) = false := by simpa using h0
      by_cases hp2 : p = 2
      · subst hp2
        have HI : Hid (inv (n % 2) 2 = 1) := by
          rw [Hid, inv, if_neg h0]; simp [powm]
        clear h0
        go_enter Try.func133, Try.ntmps133
        go_wp2_with fail
        refine (isPrime_spec _ _).mono ?_
        rintro e w' ⟨rfl, rfl⟩
        go_wp2_with fail
        refine (l1Mod_spec _ _ _ h1 h2).mono ?_
        rintro e w' ⟨rfl, rfl⟩
        go_wp2
        go_ret
        exact ⟨ret_int (HM.out.trans HI.out).symm, rfl⟩
      · have HI : Hid (inv (n % p) p = powm (n % p) (p - 2) p) := by rw [Hid, inv, if_neg h0]
        have hb2 : (p == 2) = false := by simpa using hp2
        clear h0 hp2
        go_enter Try.func133, Try.ntmps133
        go_wp2_with fail
        refine (isPrime_spec _ _).mono ?_
        rintro e w' ⟨rfl, rfl⟩
        go_wp2_with fail
        refine (l1Mod_spec _ _ _ h1 h2).mono ?_
        rintro e w' ⟨rfl, rfl⟩
        go_wp2_with fail
        refine (l1Mod_spec _ _ _ h1 h2).mono ?_
        rintro e w' ⟨rfl, rfl⟩
        go_wp2_with fail
        refine (l1Inverse_spec _ _ _ h1 h2 g1 g2).mono ?_
        rintro e w' ⟨rfl, rfl⟩
        go_wp2
        go_ret
        exact ⟨ret_int (HM.out.trans HI.out).symm, rfl⟩
end Go.Proofs.Ytnikfalpjieibaa
