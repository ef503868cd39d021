/-
  Numbers modulo a prime: what IsPrime, the residues and the inverses of both texts come to, as plain functions on integers, and the walks that say so.
-/
import Derived.Test.YtgmipolgnpjmnaaRows
import Derived.WalkKit
import Derived.WalkSpells
import Derived.WalkLawsBesides
import Derived.Lib.Hide
import Derived.Outline
namespace Go.Proofs.Ytgmipolgnpjmnaa
open Go.RowKit

/-- n is a prime number from 2 to 10007, told by trial division. -/
def IsP (n : Int) : Prop := 2 ≤ n ∧ n ≤ 10007 ∧ ∀ d, 2 ≤ d → d * d ≤ n → n % d ≠ 0
open Classical in
noncomputable def isP (n : Int) : Bool := decide (IsP n)
theorem isP_false {n : Int} (h : ¬ IsP n) : isP n = false := by simp [isP, h]
theorem isP_true {n : Int} (h : IsP n) : isP n = true := by simp [isP, h]
theorem isP_iff {n : Int} : isP n = true ↔ IsP n := by simp [isP]
theorem isP_lo {n : Int} (h : isP n = true) : 2 ≤ n := (isP_iff.1 h).1
theorem isP_hi {n : Int} (h : isP n = true) : n ≤ 10007 := (isP_iff.1 h).2.1

theorem ret_bool {a b : Bool} (h : a = b) : Ending.returned (.bool a) = .returned (.bool b) := by rw [h]
theorem ret_int {k : IntKind} {a b : Int} (h : a = b) : Ending.returned (.int k a) = .returned (.int k b) := by rw [h]

theorem sq_lt {d : Int} (_h0 : 2 ≤ d) (h1 : d * d ≤ 10007) : d ≤ 100 := by
  by_cases h : d ≤ 100
  · exact h
  · have : 101 * 101 ≤ d * d := Int.mul_le_mul (by omega) (by omega) (by omega) (by omega)
    omega
theorem sq_le {d : Int} (h0 : 2 ≤ d) (h1 : d ≤ 101) : d * d ≤ 10201 := by
  have : d * d ≤ 101 * 101 := Int.mul_le_mul h1 h1 (by omega) (by omega)
  omega
theorem sq_mono {d e : Int} (h0 : 2 ≤ d) (h1 : d ≤ e) : d * d ≤ e * e := Int.mul_le_mul h1 h1 (by omega) (by omega)

theorem pow_emod (a p : Int) (k : Nat) : (a % p) ^ k % p = a ^ k % p := by
  induction k with
  | zero => simp
  | succ k ih => rw [Int.pow_succ, Int.pow_succ, Int.mul_emod, ih, Int.emod_emod, ← Int.mul_emod]
/-- One step of the power by squares: an odd exponent. -/
theorem pow_odd (o x p : Int) (n : Nat) (h : n % 2 = 1) : (o * x % p) * (x * x % p) ^ (n / 2) % p = o * x ^ n % p := by
  rw [Int.mul_emod, pow_emod, Int.emod_emod, ← Int.mul_emod]
  congr 1
  have e : n = 2 * (n / 2) + 1 := by omega
  conv => rhs; rw [e, Int.pow_succ, Int.pow_mul]
  have : x ^ 2 = x * x := by rw [Int.pow_succ, Int.pow_succ, Int.pow_zero, Int.one_mul]
  rw [this, Int.mul_assoc, Int.mul_comm x]
theorem pow_even (o x p : Int) (n : Nat) (h : n % 2 = 0) : o * (x * x % p) ^ (n / 2) % p = o * x ^ n % p := by
  rw [Int.mul_emod, pow_emod, ← Int.mul_emod]
  congr 1
  have e : n = 2 * (n / 2) := by omega
  conv => rhs; rw [e, Int.pow_mul]
  have : x ^ 2 = x * x := by rw [Int.pow_succ, Int.pow_succ, Int.pow_zero, Int.one_mul]
  rw [this]
theorem mul_hi {o x p : Int} (h0 : 0 ≤ o) (h1 : o < p) (h2 : 0 ≤ x) (h3 : x < p) (hp : p ≤ 10007) : o * x ≤ 100140049 := by
  have : o * x ≤ 10007 * 10007 := Int.mul_le_mul (by omega) (by omega) h2 (by omega)
  omega
theorem tmod_adj (n p : Int) (hn : n < 0) (hp : 2 ≤ p) : n.tmod p + p = n % p ∧ n.tmod p < 0 ∨ n.tmod p = n % p ∧ n.tmod p = 0 := by
  have h1 : n.tmod p = -((-n) % p) := by
    have : n = -(-n) := by omega
    conv => lhs; rw [this]
    rw [Int.neg_tmod, Int.tmod_eq_emod_of_nonneg (by omega)]
  have h2 := Int.emod_nonneg (-n) (show p ≠ 0 by omega)
  have h3 := Int.emod_lt_of_pos (-n) (show 0 < p by omega)
  have h4 := Int.emod_nonneg n (show p ≠ 0 by omega)
  have h5 := Int.emod_lt_of_pos n (show 0 < p by omega)
  have e1 := Int.mul_ediv_add_emod (-n) p
  have e2 := Int.mul_ediv_add_emod n p
  by_cases h : (-n) % p = 0
  · right
    have : p ∣ n := by
      have := Int.dvd_of_emod_eq_zero h
      exact (Int.dvd_neg).1 this
    rw [h1, h, Int.emod_eq_zero_of_dvd this]; simp
  · left
    refine ⟨?_, by omega⟩
    rw [h1, Int.neg_emod]
    split <;> rename_i hd
    · exact absurd (by rw [Int.neg_emod, if_pos hd]) h
    · have : 0 ≤ p := by omega
      simp [Int.natAbs_of_nonneg this]
      have := Int.emod_nonneg n (show p ≠ 0 by omega)
      omega

set_option maxHeartbeats 400000 in
theorem isPrime_spec (n : Int) (w : World) :
    Calls Try.prog 104 #[.int .i64 n] w fun e w' => e = .returned (.bool (isP n)) ∧ w = w' := by
  by_cases h1 : n < 2
  · have HP : Hid (isP n = false) := isP_false (fun h => by have := h.1; omega)
    go_enter Try.func104, Try.ntmps104
    go_wp2
    go_ret
    exact ⟨ret_bool HP.out.symm, rfl⟩
  by_cases h2 : 10007 < n
  · have HP : Hid (isP n = false) := isP_false (fun h => by have := h.2.1; omega)
    go_enter Try.func104, Try.ntmps104
    go_wp2
    go_ret
    exact ⟨ret_bool HP.out.symm, rfl⟩
  go_enter Try.func104, Try.ntmps104
  go_wp2
  go_loop [3] (fun i => ∃ d : Int, 2 ≤ d ∧ d ≤ 101 ∧ Hid (∀ e, 2 ≤ e → e < d → n % e ≠ 0) ∧ i = .int .i64 d) (fun i => (101 - intOf i).toNat)
  case atStart => exact ⟨2, by omega, by omega, fun e h h' => by omega, rfl⟩
  case round =>
    obtain ⟨d, hd1, hd2, hd3, rfl⟩ := hrel
    have s1 := sq_le hd1 hd2
    have s0 : 4 ≤ d * d := sq_mono (d := 2) (by omega) hd1
    by_cases hc : d * d ≤ n
    · have s2 := sq_lt hd1 (by omega)
      by_cases hr : n % d = 0
      · have HP : Hid (isP n = false) := isP_false (fun h => h.2.2 d hd1 hc hr)
        go_wp2
        go_ret
        exact ⟨ret_bool HP.out.symm, rfl⟩
      · have H : Hid (∀ e, 2 ≤ e → e < d + 1 → n % e ≠ 0) := fun e h h' => if he : e = d then he ▸ hr else hd3.out e h (by omega)
        go_wp2
        exact ⟨⟨d + 1, by omega, by omega, H, rfl⟩, by simp [intOf]; omega⟩
    · have HP : Hid (isP n = true) := isP_true ⟨by omega, by omega, fun e h h' => hd3.out e h (by
        by_cases he : e < d
        · exact he
        · have := sq_mono (d := d) (e := e) hd1 (by omega)
          omega)⟩
      go_wp2
      go_ret
      exact ⟨ret_bool HP.out.symm, rfl⟩

set_option maxHeartbeats 400000 in
theorem isPrime_impl (n : Int) (w : World) :
    Calls Try.prog 159 #[.int .i64 n] w fun e w' => e = .returned (.bool (isP n)) ∧ w = w' := by
  by_cases h1 : n < 2
  · have HP : Hid (isP n = false) := isP_false (fun h => by have := h.1; omega)
    go_enter Try.func159, Try.ntmps159
    go_wp2
    go_ret
    exact ⟨ret_bool HP.out.symm, rfl⟩
  by_cases h2 : 10007 < n
  · have HP : Hid (isP n = false) := isP_false (fun h => by have := h.2.1; omega)
    go_enter Try.func159, Try.ntmps159
    go_wp2
    go_ret
    exact ⟨ret_bool HP.out.symm, rfl⟩
  go_enter Try.func159, Try.ntmps159
  go_wp2
  go_loop [3] (fun i => ∃ d : Int, 2 ≤ d ∧ d ≤ 101 ∧ Hid (∀ e, 2 ≤ e → e < d → n % e ≠ 0) ∧ i = .int .i64 d) (fun i => (101 - intOf i).toNat)
  case atStart => exact ⟨2, by omega, by omega, fun e h h' => by omega, rfl⟩
  case round =>
    obtain ⟨d, hd1, hd2, hd3, rfl⟩ := hrel
    have s1 := sq_le hd1 hd2
    have s0 : 4 ≤ d * d := sq_mono (d := 2) (by omega) hd1
    by_cases hc : d * d ≤ n
    · have s2 := sq_lt hd1 (by omega)
      by_cases hr : n % d = 0
      · have HP : Hid (isP n = false) := isP_false (fun h => h.2.2 d hd1 hc hr)
        go_wp2
        go_ret
        exact ⟨ret_bool HP.out.symm, rfl⟩
      · have H : Hid (∀ e, 2 ≤ e → e < d + 1 → n % e ≠ 0) := fun e h h' => if he : e = d then he ▸ hr else hd3.out e h (by omega)
        go_wp2
        exact ⟨⟨d + 1, by omega, by omega, H, rfl⟩, by simp [intOf]; omega⟩
    · have HP : Hid (isP n = true) := isP_true ⟨by omega, by omega, fun e h h' => hd3.out e h (by
        by_cases he : e < d
        · exact he
        · have := sq_mono (d := d) (e := e) hd1 (by omega)
          omega)⟩
      go_wp2
      go_ret
      exact ⟨ret_bool HP.out.symm, rfl⟩

set_option maxHeartbeats 400000 in
theorem l1Mod_spec (n p : Int) (w : World) (h1 : 2 ≤ p) (h2 : p ≤ 10007) :
    Calls Try.prog 122 #[.int .i64 n, .int .i64 p] w fun e w' => e = .returned (.int .i64 (n % p)) ∧ w = w' := by
  have g1 := Int.emod_nonneg n (show p ≠ 0 by omega)
  have g2 := Int.emod_lt_of_pos n (show 0 < p by omega)
  by_cases h0 : 0 ≤ n
  · go_enter Try.func122, Try.ntmps122
    go_wp2
    go_ret
    exact ⟨rfl, rfl⟩
  · have hp0 : p ≠ 0 := by omega
    rcases tmod_adj n p (by omega) h1 with ⟨ha, hb⟩ | ⟨ha, hb⟩
    · have hc : -10007 ≤ n.tmod p := by omega
      have H := Lib.hid ha
      clear ha
      go_enter Try.func122, Try.ntmps122
      go_wp2
      go_ret
      exact ⟨ret_int H.out, rfl⟩
    · have hc : 0 ≤ n.tmod p := by omega
      have hd : n.tmod p ≤ 0 := by omega
      have H := Lib.hid ha
      clear ha hb
      go_enter Try.func122, Try.ntmps122
      go_wp2
      go_ret
      exact ⟨ret_int H.out, rfl⟩

set_option maxHeartbeats 400000 in
theorem residue_impl (n p : Int) (w : World) (h1 : 2 ≤ p) (h2 : p ≤ 10007) :
    Calls Try.prog 125 #[.int .i64 n, .int .i64 p] w fun e w' => e = .returned (.int .i64 (n % p)) ∧ w = w' := by
  have g1 := Int.emod_nonneg n (show p ≠ 0 by omega)
  have g2 := Int.emod_lt_of_pos n (show 0 < p by omega)
  by_cases h0 : 0 ≤ n
  · go_enter Try.func125, Try.ntmps125
    go_wp2
    go_ret
    exact ⟨rfl, rfl⟩
  · have hp0 : p ≠ 0 := by omega
    rcases tmod_adj n p (by omega) h1 with ⟨ha, hb⟩ | ⟨ha, hb⟩
    · have hc : -10007 ≤ n.tmod p := by omega
      have H := Lib.hid ha
      clear ha
      go_enter Try.func125, Try.ntmps125
      go_wp2
      go_ret
      exact ⟨ret_int H.out, rfl⟩
    · have hc : 0 ≤ n.tmod p := by omega
      have hd : n.tmod p ≤ 0 := by omega
      have H := Lib.hid ha
      clear ha hb
      go_enter Try.func125, Try.ntmps125
      go_wp2
      go_ret
      exact ⟨ret_int H.out, rfl⟩

/-- The power by squares, a round: from (o, x, n) to (o', x', n / 2). -/
structure Pow (C p o x : Int) (n : Nat) : Prop where
  o0 : 0 ≤ o
  o1 : o < p
  x0 : 0 ≤ x
  x1 : x < p
  eq : o * x ^ n % p = C
theorem Pow.odd {C p o x : Int} {n : Nat} (h : Pow C p o x n) (hn : n % 2 = 1) : Pow C p (o * x % p) (x * x % p) (n / 2) := by
  have hp : 0 < p := by have := h.o0; have := h.o1; omega
  exact ⟨Int.emod_nonneg _ (by omega), Int.emod_lt_of_pos _ hp, Int.emod_nonneg _ (by omega), Int.emod_lt_of_pos _ hp, by rw [pow_odd _ _ _ _ hn]; exact h.eq⟩
theorem Pow.even {C p o x : Int} {n : Nat} (h : Pow C p o x n) (hn : n % 2 = 0) : Pow C p o (x * x % p) (n / 2) := by
  have hp : 0 < p := by have := h.o0; have := h.o1; omega
  exact ⟨h.o0, h.o1, Int.emod_nonneg _ (by omega), Int.emod_lt_of_pos _ hp, by rw [pow_even _ _ _ _ hn]; exact h.eq⟩
theorem Pow.done {C p o x : Int} (h : Pow C p o x 0) : o = C := by
  have := h.eq
  rw [Int.pow_zero, Int.mul_one, Int.emod_eq_of_lt h.o0 h.o1] at this
  exact this
theorem Pow.start {p x : Int} (n : Nat) (hp : 2 ≤ p) (h0 : 0 ≤ x) (h1 : x < p) : Pow (x ^ n % p) p 1 x n := ⟨by omega, by omega, h0, h1, by rw [Int.one_mul]⟩

/-- The power of a residue, as the texts reckon it for the inverse. -/
def powm (x n p : Int) : Int := x ^ n.toNat % p
theorem powm_lo (x n p : Int) (h : 0 < p) : 0 ≤ powm x n p := Int.emod_nonneg _ (by omega)
theorem powm_hi (x n p : Int) (h : 0 < p) : powm x n p < p := Int.emod_lt_of_pos _ h

set_option maxHeartbeats 400000 in
theorem l1Power_spec (x n p : Int) (w : World) (h1 : 2 ≤ p) (h2 : p ≤ 10007) (h3 : 0 ≤ x) (h4 : x < p) (h5 : 0 ≤ n) (h6 : n ≤ 10007) :
    Calls Try.prog 154 #[.int .i64 x, .int .i64 n, .int .i64 p] w fun e w' => e = .returned (.int .i64 (powm x n p)) ∧ w = w' := by
  obtain ⟨m, rfl⟩ := Int.eq_ofNat_of_zero_le h5
  have H0 := Pow.start m h1 h3 h4
  go_enter Try.func154, Try.ntmps154
  go_wp2
  go_loop [0, 1, 7] (fun a b c => ∃ y o : Int, ∃ k : Nat, Pow (powm x m p) p o y k ∧ k ≤ 10007 ∧ a = .int .i64 y ∧ b = .int .i64 k ∧ c = .int .i64 o) (fun _ b _ => (intOf b).toNat)
  case atStart => exact ⟨x, 1, m, by simpa [powm] using H0, by omega, rfl, rfl, rfl⟩
  case round =>
    obtain ⟨y, o, k, hk, hkb, rfl, rfl, rfl⟩ := hrel
    have a0 := hk.o0
    have a1 := hk.o1
    have a2 := hk.x0
    have a3 := hk.x1
    have b0 := Int.mul_nonneg a0 a2
    have b1 := mul_hi a0 a1 a2 a3 h2
    have b2 := Int.mul_nonneg a2 a2
    have b3 := mul_hi a2 a3 a2 a3 h2
    by_cases hz : k = 0
    · subst hz
      have HD := Lib.hid hk.done
      go_wp2
      go_ret
      exact ⟨ret_int HD.out, rfl⟩
    · have hp : (0 : Int) < k := by omega
      rcases Nat.mod_two_eq_zero_or_one k with he | he
      · have hq := hk.even he
        have hev : ((k : Int) % 2 == 1) = false := by simp; omega
        have hqk : k / 2 ≤ 10007 := by omega
        have hql : k / 2 < k := by omega
        clear he
        go_wp2
        exact ⟨⟨_, _, k / 2, hq, hqk, rfl, by simp, rfl⟩, by simp [intOf]; omega⟩
      · have hq := hk.odd he
        have hev : ((k : Int) % 2 == 1) = true := by simp; omega
        have hqk : k / 2 ≤ 10007 := by omega
        have hql : k / 2 < k := by omega
        clear he
        go_wp2
        exact ⟨⟨_, _, k / 2, hq, hqk, rfl, by simp, rfl⟩, by simp [intOf]; omega⟩

/-- The inverse of a residue; 0 for 0. -/
def inv (r p : Int) : Int := if r = 0 then 0 else powm r (p - 2) p

set_option maxHeartbeats 400000 in
theorem l1Inverse_spec (x p : Int) (w : World) (h1 : 2 ≤ p) (h2 : p ≤ 10007) (h3 : 0 ≤ x) (h4 : x < p) :
    Calls Try.prog 129 #[.int .i64 x, .int .i64 p] w fun e w' => e = .returned (.int .i64 (powm x (p - 2) p)) ∧ w = w' := by
  have HM : Hid (powm x (p - 2) p % p = powm x (p - 2) p) := Int.emod_eq_of_lt (powm_lo _ _ _ (by omega)) (powm_hi _ _ _ (by omega))
  have g1 := powm_lo x (p - 2) p (by omega)
  have g2 := powm_hi x (p - 2) p (by omega)
  go_enter Try.func129, Try.ntmps129
  go_wp2_with ((with_reducible refine (l1Power_spec _ _ _ _ (by omega) (by omega) (by omega) (by omega) (by omega) (by omega)).mono ?_); rintro e w' ⟨rfl, rfl⟩)
  go_ret
  exact ⟨ret_int HM.out, rfl⟩

set_option maxHeartbeats 400000 in
theorem inverse_impl (x p : Int) (w : World) (h1 : 2 ≤ p) (h2 : p ≤ 10007) (h3 : 0 ≤ x) (h4 : x < p) :
    Calls Try.prog 82 #[.int .i64 x, .int .i64 p] w fun e w' => e = .returned (.int .i64 (inv x p)) ∧ w = w' := by
  by_cases hx : x = 0
  · subst hx
    go_enter Try.func82, Try.ntmps82
    go_wp2
    go_ret
    exact ⟨rfl, rfl⟩
  have hb : (x == 0) = false := by simpa using hx
  have HI : Hid (powm x (p - 2) p = inv x p) := by rw [inv, if_neg hx]; rfl
  obtain ⟨m, hm⟩ := Int.eq_ofNat_of_zero_le (show 0 ≤ p - 2 by omega)
  have H0 := Pow.start m h1 h3 h4
  have HM := Lib.hid hm
  clear hm hx
  go_enter Try.func82, Try.ntmps82
  go_wp2
  go_loop [0, 6, 5] (fun a b c => ∃ y o : Int, ∃ k : Nat, Pow (powm x (p - 2) p) p o y k ∧ k ≤ 10007 ∧ a = .int .i64 y ∧ b = .int .i64 k ∧ c = .int .i64 o) (fun _ b _ => (intOf b).toNat)
  case atStart => exact ⟨x, 1, m, by simpa [powm, HM.out] using H0, by have := HM.out; omega, rfl, by rw [HM.out], rfl⟩
  case round =>
    obtain ⟨y, o, k, hk, hkb, rfl, rfl, rfl⟩ := hrel
    have a0 := hk.o0
    have a1 := hk.o1
    have a2 := hk.x0
    have a3 := hk.x1
    have b0 := Int.mul_nonneg a0 a2
    have b1 := mul_hi a0 a1 a2 a3 h2
    have b2 := Int.mul_nonneg a2 a2
    have b3 := mul_hi a2 a3 a2 a3 h2
    by_cases hz : k = 0
    · subst hz
      have HD := Lib.hid hk.done
      go_wp2
      go_ret
      exact ⟨ret_int (HD.out.trans HI.out), rfl⟩
    · have hp : (0 : Int) < k := by omega
      rcases Nat.mod_two_eq_zero_or_one k with he | he
      · have hq := hk.even he
        have hev : ((k : Int) % 2 == 1) = false := by simp; omega
        have hqk : k / 2 ≤ 10007 := by omega
        have hql : k / 2 < k := by omega
        clear he
        go_wp2
        exact ⟨⟨_, _, k / 2, hq, hqk, rfl, by simp, rfl⟩, by simp [intOf]; omega⟩
      · have hq := hk.odd he
        have hev : ((k : Int) % 2 == 1) = true := by simp; omega
        have hqk : k / 2 ≤ 10007 := by omega
        have hql : k / 2 < k := by omega
        clear he
        go_wp2
        exact ⟨⟨_, _, k / 2, hq, hqk, rfl, by simp, rfl⟩, by simp [intOf]; omega⟩

end Go.Proofs.Ytgmipolgnpjmnaa
