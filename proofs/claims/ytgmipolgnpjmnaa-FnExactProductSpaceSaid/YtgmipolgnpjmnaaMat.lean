/-
  Matrices: when a matrix is valid, and the walks of the two MatrixOk, ZeroMatrix and UnitMatrix.
-/
import Derived.Test.YtgmipolgnpjmnaaMem
namespace Go.Proofs.Ytgmipolgnpjmnaa
open Go.RowKit
set_option linter.unusedVariables false

/-- All numbers of the list are residues. -/
def Res (xs : List Int) (p : Int) : Prop := ∀ j, j < xs.length → 0 ≤ gi xs j ∧ gi xs j < p
open Classical in
noncomputable def resB (xs : List Int) (p : Int) : Bool := decide (Res xs p)
theorem resB_false {xs : List Int} {p : Int} (h : ∃ j, j < xs.length ∧ ¬ (0 ≤ gi xs j ∧ gi xs j < p)) : resB xs p = false := by
  obtain ⟨j, h1, h2⟩ := h
  simp only [resB, decide_eq_false_iff_not]
  exact fun h => h2 (h j h1)
theorem resB_true {xs : List Int} {p : Int} (h : Res xs p) : resB xs p = true := by simp [resB, h]
theorem resB_iff {xs : List Int} {p : Int} : resB xs p = true ↔ Res xs p := by simp [resB]

def inB (n lo hi : Int) : Bool := decide (lo ≤ n ∧ n ≤ hi)
theorem inB_iff {n lo hi : Int} : inB n lo hi = true ↔ lo ≤ n ∧ n ≤ hi := by simp [inB]
theorem inB_false {n lo hi : Int} : inB n lo hi = false ↔ ¬ (lo ≤ n ∧ n ≤ hi) := by simp only [inB, decide_eq_false_iff_not]

/-- A valid matrix. -/
def Mok (P R C : Int) (xs : List Int) : Prop := isP P = true ∧ inB R 0 40 = true ∧ inB C 0 40 = true ∧ (xs.length : Int) = R * C ∧ resB xs P = true
open Classical in
noncomputable def mok (P R C : Int) (xs : List Int) : Bool := decide (Mok P R C xs)
theorem mok_false {P R C : Int} {xs : List Int} (h : ¬ Mok P R C xs) : mok P R C xs = false := by simp [mok, h]
theorem mok_true {P R C : Int} {xs : List Int} (h : Mok P R C xs) : mok P R C xs = true := by simp [mok, h]
theorem mok_iff {P R C : Int} {xs : List Int} : mok P R C xs = true ↔ Mok P R C xs := by simp [mok]
/-- A matrix as data. -/
structure Mat where
  p : Int
  r : Int
  c : Int
  d : List Int
def noMat : Mat := ⟨0, 0, 0, []⟩
theorem prod_hi {R C : Int} (h : inB R 0 40 = true) (h' : inB C 0 40 = true) : 0 ≤ R * C ∧ R * C ≤ 1600 := by
  rw [inB_iff] at h h'
  have h1 := Int.mul_nonneg h.1 h'.1
  have h2 : R * C ≤ 40 * 40 := Int.mul_le_mul h.2 h'.2 h'.1 (by omega)
  omega

set_option maxHeartbeats 400000 in
theorem l1In_spec (n lo hi : Int) (w : World) : Calls Try.prog 105 #[.int .i64 n, .int .i64 lo, .int .i64 hi] w fun e w' => e = .returned (.bool (inB n lo hi)) ∧ w = w' := by
  by_cases h1 : lo ≤ n
  · by_cases h2 : n ≤ hi
    · have HF : Hid (inB n lo hi = true) := inB_iff.2 ⟨h1, h2⟩
      go_enter Try.func105, Try.ntmps105
      go_wp2
      go_ret
      exact ⟨ret_bool (by rw [HF.out]; try simpa using h2), rfl⟩
    · have HF : Hid (inB n lo hi = false) := inB_false.2 (fun h => h2 h.2)
      go_enter Try.func105, Try.ntmps105
      go_wp2
      go_ret
      exact ⟨ret_bool (by rw [HF.out]; try simpa using h2), rfl⟩
  · have HF : Hid (inB n lo hi = false) := inB_false.2 (fun h => h1 h.1)
    have hb : decide (lo ≤ n) = false := by simpa using h1
    go_enter Try.func105, Try.ntmps105
    go_wp2
    go_ret
    exact ⟨ret_bool HF.out.symm, rfl⟩

set_option maxHeartbeats 400000 in
theorem l1Residues_spec (a : Option Addr) (n c : Nat) (xs : List Int) (p : Int) (w : World) (hr : Reads w a n xs) (hm : n ≤ maxLen) :
    Calls Try.prog 106 #[.slice a n c, .int .i64 p] w fun e w' => e = .returned (.bool (resB xs p)) ∧ w = w' := by
    unfold maxLen at hm
    have HR := Lib.hid hr
    clear hr
    go_enter Try.func106, Try.ntmps106
    go_wp2
    go_loop [5] (fun i => ∃ k : Nat, k ≤ n ∧ i = .int .i64 k ∧ Hid (∀ j, j < k → 0 ≤ gi xs j ∧ gi xs j < p)) (fun i => n - (intOf i).toNat)
    case atStart => exact ⟨0, by omega, rfl, fun j hj => by omega⟩
    case round =>
      obtain ⟨k, hk, rfl, h1⟩ := hrel
      by_cases hlt : k < n
      · rcases HR.out.2 with h | ⟨b, off, rfl, hb, hc⟩
        · omega
        have hc1 := hc k hlt
        clear hc
        by_cases hx : gi xs k < 0
        · have HF : Hid (resB xs p = false) := resB_false ⟨k, by rw [HR.out.1]; exact hlt, fun h => by omega⟩
          go_wp2
          go_ret
          exact ⟨ret_bool HF.out.symm, rfl⟩
        · by_cases hy : p ≤ gi xs k
          · have HF : Hid (resB xs p = false) := resB_false ⟨k, by rw [HR.out.1]; exact hlt, fun h => by omega⟩
            have hyb : decide (p ≤ gi xs k) = true := by simpa using hy
            go_wp2
            go_ret
            exact ⟨ret_bool HF.out.symm, rfl⟩
          · have HN : Hid (∀ j, j < k + 1 → 0 ≤ gi xs j ∧ gi xs j < p) := fun j hj => if he : j = k then by subst he; exact ⟨by omega, by omega⟩ else h1.out j (by omega)
            have hyb : decide (p ≤ gi xs k) = false := by simpa using hy
            go_wp2
            exact ⟨⟨k + 1, by omega, by simp, HN⟩, by simp [intOf]; omega⟩
      · obtain rfl : k = n := by omega
        have HF : Hid (resB xs p = true) := resB_true (fun j hj => h1.out j (by rw [← HR.out.1]; exact hj))
        go_wp2
        go_ret
        exact ⟨ret_bool HF.out.symm, rfl⟩

set_option maxHeartbeats 400000 in
theorem isVector_impl (a : Option Addr) (n c : Nat) (xs : List Int) (m p : Int) (w : World) (hr : Reads w a n xs) (hm : n ≤ maxLen) :
    Calls Try.prog 143 #[.slice a n c, .int .i64 m, .int .i64 p] w fun e w' => e = .returned (.bool (((n : Int) == m) && resB xs p)) ∧ w = w' := by
  unfold maxLen at hm
  have HR := Lib.hid hr
  clear hr
  by_cases hnm : (n : Int) = m
  · subst hnm
    go_enter Try.func143, Try.ntmps143
    go_wp2
    go_loop [15] (fun i => ∃ k : Nat, k ≤ n ∧ i = .int .i64 k ∧ Hid (∀ j, j < k → 0 ≤ gi xs j ∧ gi xs j < p)) (fun i => n - (intOf i).toNat)
    case atStart => exact ⟨0, by omega, rfl, fun j hj => by omega⟩
    case round =>
      obtain ⟨k, hk, rfl, h1⟩ := hrel
      by_cases hlt : k < n
      · rcases HR.out.2 with h | ⟨b, off, rfl, hb, hc⟩
        · omega
        have hc1 := hc k hlt
        clear hc
        by_cases hx : gi xs k < 0
        · have HF : Hid (resB xs p = false) := resB_false ⟨k, by rw [HR.out.1]; exact hlt, fun h => by omega⟩
          go_wp2
          go_ret
          exact ⟨ret_bool (by rw [HF.out]; try simp), rfl⟩
        · by_cases hy : p ≤ gi xs k
          · have HF : Hid (resB xs p = false) := resB_false ⟨k, by rw [HR.out.1]; exact hlt, fun h => by omega⟩
            have hyb : decide (p ≤ gi xs k) = true := by simpa using hy
            go_wp2
            go_ret
            exact ⟨ret_bool (by rw [HF.out]; try simp), rfl⟩
          · have HN : Hid (∀ j, j < k + 1 → 0 ≤ gi xs j ∧ gi xs j < p) := fun j hj => if he : j = k then by subst he; exact ⟨by omega, by omega⟩ else h1.out j (by omega)
            have hyb : decide (p ≤ gi xs k) = false := by simpa using hy
            go_wp2
            exact ⟨⟨k + 1, by omega, by simp, HN⟩, by simp [intOf]; omega⟩
      · obtain rfl : k = n := by omega
        have HF : Hid (resB xs p = true) := resB_true (fun j hj => h1.out j (by rw [← HR.out.1]; exact hj))
        go_wp2
        go_ret
        exact ⟨ret_bool (by rw [HF.out]; try simp), rfl⟩
  · have hb : ((n : Int) == m) = false := by simpa using hnm
    have hb2 : ((n : Int) != m) = true := by simpa using hnm
    clear hnm
    go_enter Try.func143, Try.ntmps143
    have HB := Lib.hid hb
    go_wp2
    go_ret
    exact ⟨ret_bool (by rw [HB.out]; rfl), rfl⟩

set_option maxHeartbeats 400000 in
theorem sizeOk_impl (P R C : Int) (w : World) :
    Calls Try.prog 158 #[.int .i64 P, .int .i64 R, .int .i64 C] w fun e w' => e = .returned (.bool (isP P && inB R 0 40 && inB C 0 40)) ∧ w = w' := by
  rcases hp : isP P with _ | _
  · go_enter Try.func158, Try.ntmps158
    go_wp2_with fail
    refine (isPrime_impl _ _).mono ?_
    rintro e w' ⟨rfl, rfl⟩
    go_wp2
    go_ret
    exact ⟨rfl, rfl⟩
  by_cases h1 : 0 ≤ R
  · by_cases h2 : R ≤ 40
    · have hr : Hid (inB R 0 40 = true) := inB_iff.2 ⟨h1, h2⟩
      by_cases h3 : 0 ≤ C
      · by_cases h4 : C ≤ 40
        · have hc : Hid (inB C 0 40 = true) := inB_iff.2 ⟨h3, h4⟩
          go_enter Try.func158, Try.ntmps158
          go_wp2_with fail
          refine (isPrime_impl _ _).mono ?_
          rintro e w' ⟨rfl, rfl⟩
          go_wp2
          go_ret
          exact ⟨ret_bool (by rw [hr.out, hc.out]; try simp), rfl⟩
        · have hc : Hid (inB C 0 40 = false) := inB_false.2 (fun h => h4 h.2)
          go_enter Try.func158, Try.ntmps158
          go_wp2_with fail
          refine (isPrime_impl _ _).mono ?_
          rintro e w' ⟨rfl, rfl⟩
          go_wp2
          go_ret
          exact ⟨ret_bool (by rw [hr.out, hc.out]; try simp [h4]), rfl⟩
      · have hc : Hid (inB C 0 40 = false) := inB_false.2 (fun h => h3 h.1)
        have hb : decide (0 ≤ C) = false := by simpa using h3
        go_enter Try.func158, Try.ntmps158
        go_wp2_with fail
        refine (isPrime_impl _ _).mono ?_
        rintro e w' ⟨rfl, rfl⟩
        go_wp2
        go_ret
        exact ⟨ret_bool (by rw [hr.out, hc.out]; rfl), rfl⟩
    · have hr : Hid (inB R 0 40 = false) := inB_false.2 (fun h => h2 h.2)
      have hb : decide (R ≤ 40) = false := by simpa using h2
      go_enter Try.func158, Try.ntmps158
      go_wp2_with fail
      refine (isPrime_impl _ _).mono ?_
      rintro e w' ⟨rfl, rfl⟩
      go_wp2
      go_ret
      exact ⟨ret_bool (by rw [hr.out]; rfl), rfl⟩
  · have hr : Hid (inB R 0 40 = false) := inB_false.2 (fun h => h1 h.1)
    have hb : decide (0 ≤ R) = false := by simpa using h1
    go_enter Try.func158, Try.ntmps158
    go_wp2_with fail
    refine (isPrime_impl _ _).mono ?_
    rintro e w' ⟨rfl, rfl⟩
    go_wp2
    go_ret
    exact ⟨ret_bool (by rw [hr.out]; rfl), rfl⟩

set_option maxHeartbeats 800000 in
theorem matrixOk_spec (P R C : Int) (a : Option Addr) (n c : Nat) (xs : List Int) (w : World) (hr : Reads w a n xs) (hm : n ≤ maxLen) :
    Calls Try.prog 119 #[.agg #[.int .i64 P, .int .i64 R, .int .i64 C, .slice a n c]] w fun e w' => e = .returned (.bool (mok P R C xs)) ∧ Ext w w' := by
  have HR := Lib.hid hr
  clear hr
  rcases hp : isP P with _ | _
  · have HF : Hid (mok P R C xs = false) := mok_false (fun h => by simp [h.1] at hp)
    go_enter Try.func119, Try.ntmps119
    go_wp2_with fail
    refine (isPrime_spec _ _).mono ?_
    rintro e w' ⟨rfl, rfl⟩
    go_wp2
    go_ret
    exact ⟨ret_bool HF.out.symm, (Ext.refl _).alloc _⟩

  rcases hq : inB R 0 40 with _ | _
  · have HF : Hid (mok P R C xs = false) := mok_false (fun h => by simp [h.2.1] at hq)
    go_enter Try.func119, Try.ntmps119
    go_wp2_with fail
    refine (isPrime_spec _ _).mono ?_
    rintro e w' ⟨rfl, rfl⟩
    go_wp2_with fail
    refine (l1In_spec _ _ _ _).mono ?_
    rintro e w' ⟨rfl, rfl⟩
    go_wp2
    go_ret
    exact ⟨ret_bool HF.out.symm, (Ext.refl _).alloc _⟩

  rcases hs : inB C 0 40 with _ | _
  · have HF : Hid (mok P R C xs = false) := mok_false (fun h => by simp [h.2.2.1] at hs)
    go_enter Try.func119, Try.ntmps119
    go_wp2_with fail
    refine (isPrime_spec _ _).mono ?_
    rintro e w' ⟨rfl, rfl⟩
    go_wp2_with fail
    refine (l1In_spec _ _ _ _).mono ?_
    rintro e w' ⟨rfl, rfl⟩
    go_wp2_with fail
    refine (l1In_spec _ _ _ _).mono ?_
    rintro e w' ⟨rfl, rfl⟩
    go_wp2
    go_ret
    exact ⟨ret_bool HF.out.symm, (Ext.refl _).alloc _⟩

  obtain ⟨g1, g2⟩ := prod_hi hq hs
  rcases ht : ((n : Int) == R * C) with _ | _
  · have HF : Hid (mok P R C xs = false) := mok_false (fun h => by have := h.2.2.2.1; rw [HR.out.1] at this; simp [this] at ht)
    go_enter Try.func119, Try.ntmps119
    go_wp2_with fail
    refine (isPrime_spec _ _).mono ?_
    rintro e w' ⟨rfl, rfl⟩
    go_wp2_with fail
    refine (l1In_spec _ _ _ _).mono ?_
    rintro e w' ⟨rfl, rfl⟩
    go_wp2_with fail
    refine (l1In_spec _ _ _ _).mono ?_
    rintro e w' ⟨rfl, rfl⟩
    go_wp2
    go_ret
    exact ⟨ret_bool HF.out.symm, (Ext.refl _).alloc _⟩

  · have HF : Hid (mok P R C xs = resB xs P) := by
      rcases hv : resB xs P with _ | _
      · exact mok_false (fun h => by simp [h.2.2.2.2] at hv)
      · exact mok_true ⟨hp, hq, hs, by rw [HR.out.1]; simpa using ht, hv⟩
    go_enter Try.func119, Try.ntmps119
    go_wp2_with fail
    refine (isPrime_spec _ _).mono ?_
    rintro e w' ⟨rfl, rfl⟩
    go_wp2_with fail
    refine (l1In_spec _ _ _ _).mono ?_
    rintro e w' ⟨rfl, rfl⟩
    go_wp2_with fail
    refine (l1In_spec _ _ _ _).mono ?_
    rintro e w' ⟨rfl, rfl⟩
    go_wp2_with fail
    refine (l1Residues_spec _ _ _ xs _ _ (HR.out.ext ((Ext.refl _).alloc _)) hm).mono ?_
    rintro e w' ⟨rfl, rfl⟩
    go_wp2
    go_ret
    exact ⟨ret_bool HF.out.symm, (Ext.refl _).alloc _⟩

set_option maxHeartbeats 800000 in
theorem matrixOk_impl (P R C : Int) (a : Option Addr) (n c : Nat) (xs : List Int) (w : World) (hr : Reads w a n xs) (hm : n ≤ maxLen) :
    Calls Try.prog 138 #[.agg #[.int .i64 P, .int .i64 R, .int .i64 C, .slice a n c]] w fun e w' => e = .returned (.bool (mok P R C xs)) ∧ Ext w w' := by
  have HR := Lib.hid hr
  clear hr
  rcases hp : (isP P && inB R 0 40 && inB C 0 40) with _ | _
  · have HF : Hid (mok P R C xs = false) := mok_false (fun h => by simp [h.1, h.2.1, h.2.2.1] at hp)
    have HP := Lib.hid hp
    clear hp
    go_enter Try.func138, Try.ntmps138
    go_wp2_with fail
    refine (sizeOk_impl _ _ _ _).mono ?_
    rintro e w' ⟨rfl, rfl⟩
    rw [HP.out]
    go_wp2
    go_ret
    exact ⟨ret_bool HF.out.symm, (Ext.refl _).alloc _⟩

  · have hps : isP P = true ∧ inB R 0 40 = true ∧ inB C 0 40 = true := by simpa [and_assoc] using hp
    obtain ⟨hp1, hq, hs⟩ := hps
    obtain ⟨g1, g2⟩ := prod_hi hq hs
    have HF : Hid (mok P R C xs = (((n : Int) == R * C) && resB xs P)) := by
      rcases hv : (((n : Int) == R * C) && resB xs P) with _ | _
      · refine mok_false (fun h => ?_)
        have h1 := h.2.2.2.1
        rw [HR.out.1] at h1
        simp [h1, h.2.2.2.2] at hv
      · simp only [Bool.and_eq_true, beq_iff_eq] at hv
        exact mok_true ⟨hp1, hq, hs, by rw [HR.out.1]; exact hv.1, hv.2⟩
    have HP := Lib.hid hp
    clear hp hp1 hq hs
    go_enter Try.func138, Try.ntmps138
    go_wp2_with fail
    refine (sizeOk_impl _ _ _ _).mono ?_
    rintro e w' ⟨rfl, rfl⟩
    rw [HP.out]
    go_wp2_with fail
    refine (isVector_impl _ _ _ xs _ _ _ (HR.out.ext ((Ext.refl _).alloc _)) hm).mono ?_
    rintro e w' ⟨rfl, rfl⟩
    go_wp2
    go_ret
    exact ⟨ret_bool HF.out.symm, (Ext.refl _).alloc _⟩

theorem matrixOk_specB {P R C : Int} {a : Option Addr} {n c : Nat} {xs : List Int} {w : World} {i : Bool} (hr : Reads w a n xs) (hm : n ≤ 1048576) (hM : mok P R C xs = i) :
    Calls Try.prog 119 #[.agg #[.int .i64 P, .int .i64 R, .int .i64 C, .slice a n c]] w fun e w' => e = .returned (.bool i) ∧ Ext w w' := by
  subst hM; exact matrixOk_spec P R C a n c xs w hr (by unfold maxLen; omega)
theorem matrixOk_implB {P R C : Int} {a : Option Addr} {n c : Nat} {xs : List Int} {w : World} {i : Bool} (hr : Reads w a n xs) (hm : n ≤ 1048576) (hM : mok P R C xs = i) :
    Calls Try.prog 138 #[.agg #[.int .i64 P, .int .i64 R, .int .i64 C, .slice a n c]] w fun e w' => e = .returned (.bool i) ∧ Ext w w' := by
  subst hM; exact matrixOk_impl P R C a n c xs w hr (by unfold maxLen; omega)
end Go.Proofs.Ytgmipolgnpjmnaa
