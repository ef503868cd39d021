/-
  Matrices: when a matrix is valid, and the walks of the two MatrixOk, ZeroMatrix and UnitMatrix.
-/
import Derived.Test.YtnikfalpjieibaaM0
import Derived.Test.YtnikfalpjieibaaFr
import Derived.Deep.RegionHeld3
import Derived.Laws.AppendOwnNone
import Derived.ChangeOld
import Derived.Lib.SmallJoins
namespace Go.Proofs.Ytnikfalpjieibaa
open Go.RowKit
set_option linter.unusedVariables false

/-- All numbers of the list are residues. -/
def Res (xs : List Int) (p : Int) : Prop := ∀ j, j < xs.length → 0 ≤ gi xs j ∧ gi xs j < p
open Classical in
noncomputable def resB (xs : List Int) (p : Int) : Bool := decide (Res xs p)
theorem resB_false {xs : List Int} {p : Int} (h : ∃ j, j < xs.length ∧ ¬ (0 ≤ gi xs j ∧ gi xs j < p)) : resB xs p = false := by
  obtain ⟨j, h1, h2⟩ := h
  simp only [resB, decide_eq_false_iff_not]
  exact fun h => h2 (h j h1)
theorem resB_true {xs : List Int} {p : Int} (h : Res xs p) : resB xs p = true := by simp [resB, h]
theorem resB_iff {xs : List Int} {p : Int} : resB xs p = true ↔ Res xs p := by simp [resB]

def inB (n lo hi : Int) : Bool := decide (lo ≤ n ∧ n ≤ hi)
theorem inB_iff {n lo hi : Int} : inB n lo hi = true ↔ lo ≤ n ∧ n ≤ hi := by simp [inB]
theorem inB_false {n lo hi : Int} : inB n lo hi = false ↔ ¬ (lo ≤ n ∧ n ≤ hi) := by simp only [inB, decide_eq_false_iff_not]

/-- A valid matrix. -/
def Mok (P R C : Int) (xs : List Int) : Prop := isP P = true ∧ inB R 0 40 = true ∧ inB C 0 40 = true ∧ (xs.length : Int) = R * C ∧ resB xs P = true
open Classical in
noncomputable def mok (P R C : Int) (xs : List Int) : Bool := decide (Mok P R C xs)
theorem mok_false {P R C : Int} {xs : List Int} (h : ¬ Mok P R C xs) : mok P R C xs = false := by simp [mok, h]
theorem mok_true {P R C : Int} {xs : List Int} (h : Mok P R C xs) : mok P R C xs = true := by simp [mok, h]
theorem mok_iff {P R C : Int} {xs : List Int} : mok P R C xs = true ↔ Mok P R C xs := by simp [mok]
/-- A matrix as data. -/
structure Mat where
  p : Int
  r : Int
  c : Int
  d : List Int
def noMat : Mat := ⟨0, 0, 0, []⟩
theorem prod_hi {R C : Int} (h : inB R 0 40 = true) (h' : inB C 0 40 = true) : 0 ≤ R * C ∧ R * C ≤ 1600 := by
  rw [inB_iff] at h h'
  have h1 := Int.mul_nonneg h.1 h'.1
  have h2 : R * C ≤ 40 * 40 := Int.mul_le_mul h.2 h'.2 h'.1 (by omega)
  omega

set_option maxHeartbeats 400000 in
theorem l1In_spec (n lo hi : Int) (w : World) : Calls Try.prog 66 #[.int .i64 n, .int .i64 lo, .int .i64 hi] w fun e w' => e = .returned (.bool (inB n lo hi)) ∧ w = w' := by
  by_cases h1 : lo ≤ n
  · by_cases h2 : n ≤ hi
    · have HF : Hid (inB n lo hi = true) := inB_iff.2 ⟨h1, h2⟩
      go_enter Try.func66, Try.ntmps66
      go_wp2
      go_ret
      exact ⟨ret_bool (by rw [HF.out]; try simpa using h2), rfl⟩
    · have HF : Hid (inB n lo hi = false) := inB_false.2 (fun h => h2 h.2)
      go_enter Try.func66, Try.ntmps66
      go_wp2
      go_ret
      exact ⟨ret_bool (by rw [HF.out]; try simpa using h2), rfl⟩
  · have HF : Hid (inB n lo hi = false) := inB_false.2 (fun h => h1 h.1)
    have hb : decide (lo ≤ n) = false := by simpa using h1
    go_enter Try.func66, Try.ntmps66
    go_wp2
    go_ret
    exact ⟨ret_bool HF.out.symm, rfl⟩

set_option maxHeartbeats 400000 in
theorem l1Residues_spec (a : Option Addr) (n c : Nat) (xs : List Int) (p : Int) (w : World) (hr : Reads w a n xs) (hm : n ≤ maxLen) :
    Calls Try.prog 92 #[.slice a n c, .int .i64 p] w fun e w' => e = .returned (.bool (resB xs p)) ∧ w = w' := by
    unfold maxLen at hm
    have HR := Lib.hid hr
    clear hr
    go_enter Try.func92, Try.ntmps92
    go_wp2
    go_loop [5] (fun i => ∃ k : Nat, k ≤ n ∧ i = .int .i64 k ∧ Hid (∀ j, j < k → 0 ≤ gi xs j ∧ gi xs j < p)) (fun i => n - (intOf i).toNat)
    case atStart => exact ⟨0, by omega, rfl, fun j hj => by omega⟩
    case round =>
      obtain ⟨k, hk, rfl, h1⟩ := hrel
      by_cases hlt : k < n
      · rcases HR.out.2 with h | ⟨b, off, rfl, hb, hc⟩
        · omega
        have hc1 := hc k hlt
        clear hc
        by_cases hx : gi xs k < 0
        · have HF : Hid (resB xs p = false) := resB_false ⟨k, by rw [HR.out.1]; exact hlt, fun h => by omega⟩
          go_wp2
          go_ret
          exact ⟨ret_bool HF.out.symm, rfl⟩
        · by_cases hy : p ≤ gi xs k
          · have HF : Hid (resB xs p = false) := resB_false ⟨k, by rw [HR.out.1]; exact hlt, fun h => by omega⟩
            have hyb : decide (p ≤ gi xs k) = true := by simpa using hy
            go_wp2
            go_ret
            exact ⟨ret_bool HF.out.symm, rfl⟩
          · have HN : Hid (∀ j, j < k + 1 → 0 ≤ gi xs j ∧ gi xs j < p) := fun j hj => if he : j = k then by subst he; exact ⟨by omega, by omega⟩ else h1.out j (by omega)
            have hyb : decide (p ≤ gi xs k) = false := by simpa using hy
            go_wp2
            exact ⟨⟨k + 1, by omega, by simp, HN⟩, by simp [intOf]; omega⟩
      · obtain rfl : k = n := by omega
        have HF : Hid (resB xs p = true) := resB_true (fun j hj => h1.out j (by rw [← HR.out.1]; exact hj))
        go_wp2
        go_ret
        exact ⟨ret_bool HF.out.symm, rfl⟩

set_option maxHeartbeats 400000 in
theorem isVector_impl (a : Option Addr) (n c : Nat) (xs : List Int) (m p : Int) (w : World) (hr : Reads w a n xs) (hm : n ≤ maxLen) :
    Calls Try.prog 100 #[.slice a n c, .int .i64 m, .int .i64 p] w fun e w' => e = .returned (.bool (((n : Int) == m) && resB xs p)) ∧ w = w' := by
  unfold maxLen at hm
  have HR := Lib.hid hr
  clear hr
  by_cases hnm : (n : Int) = m
  · subst hnm
    go_enter Try.func100, Try.ntmps100
    go_wp2
    go_loop [15] (fun i => ∃ k : Nat, k ≤ n ∧ i = .int .i64 k ∧ Hid (∀ j, j < k → 0 ≤ gi xs j ∧ gi xs j < p)) (fun i => n - (intOf i).toNat)
    case atStart => exact ⟨0, by omega, rfl, fun j hj => by omega⟩
    case round =>
      obtain ⟨k, hk, rfl, h1⟩ := hrel
      by_cases hlt : k < n
      · rcases HR.out.2 with h | ⟨b, off, rfl, hb, hc⟩
        · omega
        have hc1 := hc k hlt
        clear hc
        by_cases hx : gi xs k < 0
        · have HF : Hid (resB xs p = false) := resB_false ⟨k, by rw [HR.out.1]; exact hlt, fun h => by omega⟩
          go_wp2
          go_ret
          exact ⟨ret_bool (by rw [HF.out]; try simp), rfl⟩
        · by_cases hy : p ≤ gi xs k
          · have HF : Hid (resB xs p = false) := resB_false ⟨k, by rw [HR.out.1]; exact hlt, fun h => by omega⟩
            have hyb : decide (p ≤ gi xs k) = true := by simpa using hy
            go_wp2
            go_ret
            exact ⟨ret_bool (by rw [HF.out]; try simp), rfl⟩
          · have HN : Hid (∀ j, j < k + 1 → 0 ≤ gi xs j ∧ gi xs j < p) := fun j hj => if he : j = k then by subst he; exact ⟨by omega, by omega⟩ else h1.out j (by omega)
            have hyb : decide (p ≤ gi xs k) = false := by simpa using hy
            go_wp2
            exact ⟨⟨k + 1, by omega, by simp, HN⟩, by simp [intOf]; omega⟩
      · obtain rfl : k = n := by omega
        have HF : Hid (resB xs p = true) := resB_true (fun j hj => h1.out j (by rw [← HR.out.1]; exact hj))
        go_wp2
        go_ret
        exact ⟨ret_bool (by rw [HF.out]; try simp), rfl⟩
  · have hb : ((n : Int) == m) = false := by simpa using hnm
    have hb2 : ((n : Int) != m) = true := by simpa using hnm
    clear hnm
    go_enter Try.func100, Try.ntmps100
    have HB := Lib.hid hb
    go_wp2
    go_ret
    exact ⟨ret_bool (by rw [HB.out]; rfl), rfl⟩

set_option maxHeartbeats 400000 in
theorem sizeOk_impl (P R C : Int) (w : World) :
    Calls Try.prog 132 #[.int .i64 P, .int .i64 R, .int .i64 C] w fun e w' => e = .returned (.bool (isP P && inB R 0 40 && inB C 0 40)) ∧ w = w' := by
  rcases hp : isP P with _ | _
  · go_enter Try.func132, Try.ntmps132
    go_wp2_with fail
    refine (isPrime_impl _ _).mono ?_
    rintro e w' ⟨rfl, rfl⟩
    go_wp2
    go_ret
    exact ⟨rfl, rfl⟩
  by_cases h1 : 0 ≤ R
  · by_cases h2 : R ≤ 40
    · have hr : Hid (inB R 0 40 = true) := inB_iff.2 ⟨h1, h2⟩
      by_cases h3 : 0 ≤ C
      · by_cases h4 : C ≤ 40
        · have hc : Hid (inB C 0 40 = true) := inB_iff.2 ⟨h3, h4⟩
          go_enter Try.func132, Try.ntmps132
          go_wp2_with fail
          refine (isPrime_impl _ _).mono ?_
          rintro e w' ⟨rfl, rfl⟩
          go_wp2
          go_ret
          exact ⟨ret_bool (by rw [hr.out, hc.out]; try simp), rfl⟩
        · have hc : Hid (inB C 0 40 = false) := inB_false.2 (fun h => h4 h.2)
          go_enter Try.func132, Try.ntmps132
          go_wp2_with fail
          refine (isPrime_impl _ _).mono ?_
          rintro e w' ⟨rfl, rfl⟩
          go_wp2
          go_ret
          exact ⟨ret_bool (by rw [hr.out, hc.out]; try simp [h4]), rfl⟩
      · have hc : Hid (inB C 0 40 = false) := inB_false.2 (fun h => h3 h.1)
        have hb : decide (0 ≤ C) = false := by simpa using h3
        go_enter Try.func132, Try.ntmps132
        go_wp2_with fail
        refine (isPrime_impl _ _).mono ?_
        rintro e w' ⟨rfl, rfl⟩
        go_wp2
        go_ret
        exact ⟨ret_bool (by rw [hr.out, hc.out]; rfl), rfl⟩
    · have hr : Hid (inB R 0 40 = false) := inB_false.2 (fun h => h2 h.2)
      have hb : decide (R ≤ 40) = false := by simpa using h2
      go_enter Try.func132, Try.ntmps132
      go_wp2_with fail
      refine (isPrime_impl _ _).mono ?_
      rintro e w' ⟨rfl, rfl⟩
      go_wp2
      go_ret
      exact ⟨ret_bool (by rw [hr.out]; rfl), rfl⟩
  · have hr : Hid (inB R 0 40 = false) := inB_false.2 (fun h => h1 h.1)
    have hb : decide (0 ≤ R) = false := by simpa using h1
    go_enter Try.func132, Try.ntmps132
    go_wp2_with fail
    refine (isPrime_impl _ _).mono ?_
    rintro e w' ⟨rfl, rfl⟩
    go_wp2
    go_ret
    exact ⟨ret_bool (by rw [hr.out]; rfl), rfl⟩

set_option maxHeartbeats 800000 in
theorem matrixOk_spec (P R C : Int) (a : Option Addr) (n c : Nat) (xs : List Int) (w : World) (hr : Reads w a n xs) (hm : n ≤ maxLen) :
    Calls Try.prog 49 #[.agg #[.int .i64 P, .int .i64 R, .int .i64 C, .slice a n c]] w fun e w' => e = .returned (.bool (mok P R C xs)) ∧ Ext w w' := by
  have HR := Lib.hid hr
  clear hr
  rcases hp : isP P with _ | _
  · have HF : Hid (mok P R C xs = false) := mok_false (fun h => by simp [h.1] at hp)
    go_enter Try.func49, Try.ntmps49
    go_wp2_with fail
    refine (isPrime_spec _ _).mono ?_
    rintro e w' ⟨rfl, rfl⟩
    go_wp2
    go_ret
    exact ⟨ret_bool HF.out.symm, (Ext.refl _).alloc _⟩

  rcases hq : inB R 0 40 with _ | _
  · have HF : Hid (mok P R C xs = false) := mok_false (fun h => by simp [h.2.1] at hq)
    go_enter Try.func49, Try.ntmps49
    go_wp2_with fail
    refine (isPrime_spec _ _).mono ?_
    rintro e w' ⟨rfl, rfl⟩
    go_wp2_with fail
    refine (l1In_spec _ _ _ _).mono ?_
    rintro e w' ⟨rfl, rfl⟩
    go_wp2
    go_ret
    exact ⟨ret_bool HF.out.symm, (Ext.refl _).alloc _⟩

  rcases hs : inB C 0 40 with _ | _
  · have HF : Hid (mok P R C xs = false) := mok_false (fun h => by simp [h.2.2.1] at hs)
    go_enter Try.func49, Try.ntmps49
    go_wp2_with fail
    refine (isPrime_spec _ _).mono ?_
    rintro e w' ⟨rfl, rfl⟩
    go_wp2_with fail
    refine (l1In_spec _ _ _ _).mono ?_
    rintro e w' ⟨rfl, rfl⟩
    go_wp2_with fail
    refine (l1In_spec _ _ _ _).mono ?_
    rintro e w' ⟨rfl, rfl⟩
    go_wp2
    go_ret
    exact ⟨ret_bool HF.out.symm, (Ext.refl _).alloc _⟩

  obtain ⟨g1, g2⟩ := prod_hi hq hs
  rcases ht : ((n : Int) == R * C) with _ | _
  · have HF : Hid (mok P R C xs = false) := mok_false (fun h => by have := h.2.2.2.1; rw [HR.out.1] at this; simp [this] at ht)
    go_enter Try.func49, Try.ntmps49
    go_wp2_with fail
    refine (isPrime_spec _ _).mono ?_
    rintro e w' ⟨rfl, rfl⟩
    go_wp2_with fail
    refine (l1In_spec _ _ _ _).mono ?_
    rintro e w' ⟨rfl, rfl⟩
    go_wp2_with fail
    refine (l1In_spec _ _ _ _).mono ?_
    rintro e w' ⟨rfl, rfl⟩
    go_wp2
    go_ret
    exact ⟨ret_bool HF.out.symm, (Ext.refl _).alloc _⟩

  · have HF : Hid (mok P R C xs = resB xs P) := by
      rcases hv : resB xs P with _ | _
      · exact mok_false (fun h => by simp [h.2.2.2.2] at hv)
      · exact mok_true ⟨hp, hq, hs, by rw [HR.out.1]; simpa using ht, hv⟩
    go_enter Try.func49, Try.ntmps49
    go_wp2_with fail
    refine (isPrime_spec _ _).mono ?_
    rintro e w' ⟨rfl, rfl⟩
    go_wp2_with fail
    refine (l1In_spec _ _ _ _).mono ?_
    rintro e w' ⟨rfl, rfl⟩
    go_wp2_with fail
    refine (l1In_spec _ _ _ _).mono ?_
    rintro e w' ⟨rfl, rfl⟩
    go_wp2_with fail
    refine (l1Residues_spec _ _ _ xs _ _ (HR.out.ext ((Ext.refl _).alloc _)) hm).mono ?_
    rintro e w' ⟨rfl, rfl⟩
    go_wp2
    go_ret
    exact ⟨ret_bool HF.out.symm, (Ext.refl _).alloc _⟩

set_option maxHeartbeats 800000 in
theorem matrixOk_impl (P R C : Int) (a : Option Addr) (n c : Nat) (xs : List Int) (w : World) (hr : Reads w a n xs) (hm : n ≤ maxLen) :
    Calls Try.prog 109 #[.agg #[.int .i64 P, .int .i64 R, .int .i64 C, .slice a n c]] w fun e w' => e = .returned (.bool (mok P R C xs)) ∧ Ext w w' := by
  have HR := Lib.hid hr
  clear hr
  rcases hp : (isP P && inB R 0 40 && inB C 0 40) with _ | _
  · have HF : Hid (mok P R C xs = false) := mok_false (fun h => by simp [h.1, h.2.1, h.2.2.1] at hp)
    have HP := Lib.hid hp
    clear hp
    go_enter Try.func109, Try.ntmps109
    go_wp2_with fail
    refine (sizeOk_impl _ _ _ _).mono ?_
    rintro e w' ⟨rfl, rfl⟩
    rw [HP.out]
    go_wp2
    go_ret
    exact ⟨ret_bool HF.out.symm, (Ext.refl _).alloc _⟩

  · have hps : isP P = true ∧ inB R 0 40 = true ∧ inB C 0 40 = true := by simpa [and_assoc] using hp
    obtain ⟨hp1, hq, hs⟩ := hps
    obtain ⟨g1, g2⟩ := prod_hi hq hs
    have HF : Hid (mok P R C xs = (((n : Int) == R * C) && resB xs P)) := by
      rcases hv : (((n : Int) == R * C) && resB xs P) with _ | _
      · refine mok_false (fun h => ?_)
        have h1 := h.2.2.2.1
        rw [HR.out.1] at h1
        simp [h1, h.2.2.2.2] at hv
      · simp only [Bool.and_eq_true, beq_iff_eq] at hv
        exact mok_true ⟨hp1, hq, hs, by rw [HR.out.1]; exact hv.1, hv.2⟩
    have HP := Lib.hid hp
    clear hp hp1 hq hs
    go_enter Try.func109, Try.ntmps109
    go_wp2_with fail
    refine (sizeOk_impl _ _ _ _).mono ?_
    rintro e w' ⟨rfl, rfl⟩
    rw [HP.out]
    go_wp2_with fail
    refine (isVector_impl _ _ _ xs _ _ _ (HR.out.ext ((Ext.refl _).alloc _)) hm).mono ?_
    rintro e w' ⟨rfl, rfl⟩
    go_wp2
    go_ret
    exact ⟨ret_bool HF.out.symm, (Ext.refl _).alloc _⟩

theorem matrixOk_specB {P R C : Int} {a : Option Addr} {n c : Nat} {xs : List Int} {w : World} {i : Bool} (hr : Reads w a n xs) (hm : n ≤ 1048576) (hM : mok P R C xs = i) :
    Calls Try.prog 49 #[.agg #[.int .i64 P, .int .i64 R, .int .i64 C, .slice a n c]] w fun e w' => e = .returned (.bool i) ∧ Ext w w' := by
  subst hM; exact matrixOk_spec P R C a n c xs w hr (by unfold maxLen; omega)
theorem matrixOk_implB {P R C : Int} {a : Option Addr} {n c : Nat} {xs : List Int} {w : World} {i : Bool} (hr : Reads w a n xs) (hm : n ≤ 1048576) (hM : mok P R C xs = i) :
    Calls Try.prog 109 #[.agg #[.int .i64 P, .int .i64 R, .int .i64 C, .slice a n c]] w fun e w' => e = .returned (.bool i) ∧ Ext w w' := by
  subst hM; exact matrixOk_impl P R C a n c xs w hr (by unfold maxLen; omega)
end Go.Proofs.Ytnikfalpjieibaa

/-
  Copies: the specification's l1Ints and l1Copy.
-/
namespace Go.Proofs.Ytnikfalpjieibaa
open Go.ChangeShapes Go.WideShapes Go.ChangeAt Go.RowKit
set_option linter.unusedVariables false

/-- A fresh slice of n integers. -/
def PInts (w : World) (n : Nat) (xs : List Int) (e : Ending) (w' : World) : Prop := ∃ b c', e = .returned (.slice (some ⟨b, 0, none⟩) n c') ∧ w.heap.size ≤ b ∧ Has w' b xs ∧ Ext w w' ∧ n ≤ c'

set_option maxHeartbeats 800000 in
theorem l1Ints_spec (a : Option Addr) (n c : Nat) (xs : List Int) (w : World) (hr : Reads w a n xs) (hn : n ≤ 1048576) (ha : a = none → n = 0 ∧ c = 0) :
    Calls Try.prog 131 #[.slice a n c] w (PInts w n xs) := by
  obtain ⟨i0, hi, hz0, hz1, hz2⟩ := info_parts Try.infoInt
  obtain ⟨hl, hr⟩ := hr
  have own0 : (w.alloc (.cells #[] 3)).ownsRow w.heap.size 3 1 (.slice (some ⟨w.heap.size, 0, none⟩) 0 0) 0 [] := World.ownsRow_lit w #[] 0 (Nat.le_refl _) (by unfold maxLen; omega) (by simp)
  cases a with
  | none =>
    obtain ⟨rfl, rfl⟩ := ha rfl
    obtain rfl : xs = [] := List.length_eq_zero_iff.1 hl
    go_enter Try.func131, Try.ntmps131
    go_wp2_with (at_builtin; refine wpList_append_own_none rfl _ _ 22 rfl w.heap.size 3 i0 1 Try.underlying22 hi _ 0 [] rfl own0 rfl ?_)
    go_ret
    exact ⟨w.heap.size, 0, rfl, Nat.le_refl _, (Has.new w []), (Ext.refl _).alloc _, Nat.le_refl _⟩
  | some ad =>
    have hnews : ∀ (j : Nat) (u : Value), (xs.map (Value.int .i64))[j]? = some u → (w.alloc (.cells #[] 3)).cell? (ad.add j) = some u := by
      intro j u hu
      have hj : j < xs.length := by have := (List.getElem?_eq_some_iff.1 hu).1; simpa using this
      rcases hr with h | ⟨b, off, h, hb, hc⟩
      · omega
      · simp at h
        subst h
        have e : (⟨b, off, none⟩ : Addr).add j = ⟨b, off + j, none⟩ := add_plain ..
        rw [e, World.cell?_alloc_past _ _ _ hb, hc j (by omega)]
        simp [hj] at hu
        simp [gi, hj, hu]
    go_enter Try.func131, Try.ntmps131
    go_wp2_with (at_builtin; refine wpList_append_own _ rfl _ _ 22 rfl w.heap.size 3 i0 (.int .i64 0) 1 8 Try.underlying22 hi hz0 hz1 hz2 rfl (by decide) _ 0 [] rfl own0 ad n _ (xs.map (Value.int .i64)) rfl ?c1 hnews ?c2 ?c3 ?c4 ?c5 ?_)
    case c1 => simpa using hl
    case c2 => intro u hu; obtain ⟨z, _, rfl⟩ := List.mem_map.1 hu; rfl
    case c3 => unfold maxLen; omega
    case c4 => omega
    case c5 => simp
    intro v' w1 ho hg hnil
    have hne : ¬ v' = .slice none 0 0 := hnil
    rcases ho.2 with ⟨h, _⟩ | ⟨g, cap, cur, h, _, _, hcap, _⟩
    · exact absurd h hne
    · subst h
      have hcp : Hid (n ≤ cap) := by simpa [Hid] using hcap
      clear hcap
      have hh := Lib.hid (Has.ofOwns ho)
      have hE : Hid (Ext w w1) := ((Ext.refl w).alloc _).grown hg (fun k hk => by simp [Value.ownBlock] at hk; omega)
      clear ho hg hnil hne
      go_wp2
      go_ret
      refine ⟨g, cap, by simp, hh.out.2.1, hh.out.1, hE.out, hcp.out⟩

set_option maxHeartbeats 1600000 in
theorem l1Copy_spec2 (P R C : Int) (a : Option Addr) (n c : Nat) (xs : List Int) (w : World) (hr : Reads w a n xs) (hn : n ≤ 1048576) (ha : a = none → n = 0 ∧ c = 0) :
    Calls Try.prog 107 #[.agg #[.int .i64 P, .int .i64 R, .int .i64 C, .slice a n c]] w fun e w' => ∃ b c', e = .returned (.agg #[.int .i64 P, .int .i64 R, .int .i64 C, .slice (some ⟨b, 0, none⟩) n c']) ∧ w.heap.size ≤ b ∧ b < w'.heap.size ∧ Has w' b xs ∧ Ext w w' ∧ n ≤ c' := by
  have HR := Lib.hid hr
  clear hr
  go_enter Try.func107, Try.ntmps107
  have B0 := (cells_new w #[.int .i64 P, .int .i64 R, .int .i64 C, .slice a n c] 37).ext ((Ext.refl _).alloc (.cells #[.int .i64 0, .int .i64 0, .int .i64 0, .slice none 0 0] 37))
  have B1 := cells_new' (w.alloc (.cells #[.int .i64 P, .int .i64 R, .int .i64 C, .slice a n c] 37)) #[.int .i64 0, .int .i64 0, .int .i64 0, .slice none 0 0] 37 (w.heap.size + 1) (by simp)
  have hE0 : Hid (Ext w ((w.alloc (.cells #[.int .i64 P, .int .i64 R, .int .i64 C, .slice a n c] 37)).alloc (.cells #[.int .i64 0, .int .i64 0, .int .i64 0, .slice none 0 0] 37))) := ((Ext.refl _).alloc _).alloc _
  go_wp2_with fail
  generalize ((w.alloc (.cells #[.int .i64 P, .int .i64 R, .int .i64 C, .slice a n c] 37)).alloc (.cells #[.int .i64 0, .int .i64 0, .int .i64 0, .slice none 0 0] 37)) = W0 at *
  have l0 := B0.1
  have l1 := B1.1
  have q0 := B0.2 0 _ rfl
  have q1 := B0.2 1 _ rfl
  have q2 := B0.2 2 _ rfl
  have q3 := B0.2 3 _ rfl
  have r0 := B1.2 0 _ rfl
  have r1 := B1.2 1 _ rfl
  have r2 := B1.2 2 _ rfl
  have r3 := B1.2 3 _ rfl
  have t1 := B1.3
  clear B0 B1
  go_region_held3 (fun w' => Ext w w' ∧ w.heap.size + 1 ≤ w'.heap.size ∧ ∀ b o, b < w.heap.size + 1 → w'.cell? ⟨b, o, none⟩ = W0.cell? ⟨b, o, none⟩) (first | (with_reducible exact KeptR.call ‹Ext w _ ∧ w.heap.size + 1 ≤ _ ∧ _› ‹Ext _ _›) | exact ⟨hE0.out, Nat.le_of_lt l1, fun _ _ _ => rfl⟩ | exact ⟨hE0.out.drew, Nat.le_of_lt l1, fun _ _ _ => rfl⟩ | (with_reducible exact KeptR.set4 ‹Ext w _ ∧ w.heap.size + 1 ≤ _ ∧ _› (Nat.le_succ _) _ _ _ _)) (first
    | (go_at_call 131; refine (l1Ints_spec _ _ _ xs _ (HR.out.ext (And.left ‹Ext w _ ∧ w.heap.size + 1 ≤ _ ∧ _›)) hn ha).mono ?_; rintro e w1 ⟨b, c', rfl, hb, hh, hE, hcc⟩; have c1 : w1.cell? ⟨w.heap.size + 1, 0, none⟩ = some (.int .i64 0) := (hE.cells _ 0 l1).trans r0; have c2 : w1.cell? ⟨w.heap.size + 1, 1, none⟩ = some (.int .i64 0) := (hE.cells _ 1 l1).trans r1; have c3 : w1.cell? ⟨w.heap.size + 1, 2, none⟩ = some (.int .i64 0) := (hE.cells _ 2 l1).trans r2; have c4 : w1.cell? ⟨w.heap.size + 1, 3, none⟩ = some (.slice none 0 0) := (hE.cells _ 3 l1).trans r3; have f1 : ∀ j, w1.frozen? ⟨w.heap.size + 1, j, none⟩ = false := fun j => (hE.frees _ j l1).trans (t1 j)))
  have hx := (‹Ext w _ ∧ w.heap.size + 1 ≤ _ ∧ _› : Ext w _ ∧ w.heap.size + 1 ≤ _ ∧ _).1
  simp at hb
  go_wp2
  refine bodyPost_ret (v := .agg #[.int .i64 P, .int .i64 R, .int .i64 C, .slice (some ⟨b, 0, none⟩) n c']) (by simp [results, Try.results107, go_sem, c1, c2, c3, c4]) rfl ⟨b, c', rfl, by omega, ?_, ?_, hx, hcc⟩
  · have := hh.lt; simpa using this
  · repeat with_reducible (first | exact hh | refine Has.setOther ?_ (by simp <;> omega) _)
theorem l1Copy_spec (P R C : Int) (a : Option Addr) (n c : Nat) (xs : List Int) (w : World) (hr : Reads w a n xs) (hn : n ≤ 1048576) (ha : a = none → n = 0 ∧ c = 0) :
    Calls Try.prog 107 #[.agg #[.int .i64 P, .int .i64 R, .int .i64 C, .slice a n c]] w fun e w' => ∃ b c', e = .returned (.agg #[.int .i64 P, .int .i64 R, .int .i64 C, .slice (some ⟨b, 0, none⟩) n c']) ∧ w.heap.size ≤ b ∧ b < w'.heap.size ∧ Has w' b xs ∧ Ext w w' :=
  (l1Copy_spec2 P R C a n c xs w hr hn ha).mono fun e w' ⟨b, c', h1, h2, h3, h4, h5, _⟩ => ⟨b, c', h1, h2, h3, h4, h5⟩
end Go.Proofs.Ytnikfalpjieibaa

/-
  Matrices of zeros and unit matrices, both texts.
-/
namespace Go.Proofs.Ytnikfalpjieibaa
open Go.RowKit
set_option linter.unusedVariables false

noncomputable def zeroM (P R C : Int) : Mat := if isP P && inB R 0 40 && inB C 0 40 then ⟨P, R, C, List.replicate (R * C).toNat 0⟩ else noMat
/-- The numbers of a unit matrix, its first k ones laid. -/
def unitTo (m : Nat) : Nat → List Int
  | 0 => List.replicate (m * m) 0
  | k + 1 => (unitTo m k).set (k * m + k) 1
theorem unitTo_length (m k : Nat) : (unitTo m k).length = m * m := by
  induction k with
  | zero => simp [unitTo]
  | succ k ih => simp [unitTo, ih]
noncomputable def unitM (P n : Int) : Mat := if isP P && inB n 0 40 then ⟨P, n, n, unitTo n.toNat n.toNat⟩ else noMat
theorem sq40 {m : Nat} (h : m ≤ 40) : m * m ≤ 1600 := by
  have := Nat.mul_le_mul h h
  omega
theorem diag_lt {m k : Nat} (h : k < m) : k * m + k < m * m := by
  have : (k + 1) * m ≤ m * m := Nat.mul_le_mul_right m h
  rw [Nat.add_mul] at this
  omega

set_option maxHeartbeats 400000 in
theorem l1Zero_spec (P R C : Int) (w : World) (h0 : 0 ≤ R * C) (h1 : R * C ≤ 1048576) :
    Calls Try.prog 67 #[.int .i64 P, .int .i64 R, .int .i64 C] w fun e w' => ∃ b, e = .returned (.agg #[.int .i64 P, .int .i64 R, .int .i64 C, .slice (some ⟨b, 0, none⟩) (R * C).toNat (R * C).toNat]) ∧ w.heap.size ≤ b ∧ b < w'.heap.size ∧ Has w' b (List.replicate (R * C).toNat 0) ∧ Ext w w' := by
  have hmk := make_intsz (R * C) h0 h1
  go_enter Try.func67, Try.ntmps67
  go_wp2
  refine bodyPost_ret (v := .agg #[.int .i64 P, .int .i64 R, .int .i64 C, .slice (some ⟨w.heap.size + 1, 0, none⟩) (R * C).toNat (R * C).toNat]) (by simp [results, Try.results67, go_sem]) rfl ⟨w.heap.size + 1, rfl, by omega, by simp, ?_, ?_⟩
  · exact Has.new' _ _ _ (by simp)
  · exact ((Ext.refl _).alloc _).alloc _

set_option maxHeartbeats 400000 in
theorem zeros_impl (P R C : Int) (w : World) (h0 : 0 ≤ R * C) (h1 : R * C ≤ 1048576) :
    Calls Try.prog 69 #[.int .i64 P, .int .i64 R, .int .i64 C] w fun e w' => ∃ b, e = .returned (.agg #[.int .i64 P, .int .i64 R, .int .i64 C, .slice (some ⟨b, 0, none⟩) (R * C).toNat (R * C).toNat]) ∧ w.heap.size ≤ b ∧ b < w'.heap.size ∧ Has w' b (List.replicate (R * C).toNat 0) ∧ Ext w w' := by
  have hmk := make_intsz (R * C) h0 h1
  go_enter Try.func69, Try.ntmps69
  go_wp2
  refine bodyPost_ret (v := .agg #[.int .i64 P, .int .i64 R, .int .i64 C, .slice (some ⟨w.heap.size + 1, 0, none⟩) (R * C).toNat (R * C).toNat]) (by simp [results, Try.results69, go_sem]) rfl ⟨w.heap.size + 1, rfl, by omega, by simp, ?_, ?_⟩
  · exact Has.new' _ _ _ (by simp)
  · exact ((Ext.refl _).alloc _).alloc _

set_option maxHeartbeats 800000 in
theorem unit_impl (P : Int) (m : Nat) (w : World) (h1 : m ≤ 40) :
    Calls Try.prog 80 #[.int .i64 P, .int .i64 m] w fun e w' => ∃ b, e = .returned (.agg #[.int .i64 P, .int .i64 m, .int .i64 m, .slice (some ⟨b, 0, none⟩) (m * m) (m * m)]) ∧ w.heap.size ≤ b ∧ b < w'.heap.size ∧ Has w' b (unitTo m m) ∧ Ext w w' := by
  have g1 := sq40 h1
  have e1 : ((m : Int) * (m : Int)).toNat = m * m := by rw [← Int.natCast_mul, Int.toNat_natCast]
  have g2 : 0 ≤ (m : Int) * (m : Int) := by rw [← Int.natCast_mul]; omega
  have g3 : (m : Int) * (m : Int) ≤ 1048576 := by rw [← Int.natCast_mul]; omega
  have E1 := Lib.hid e1
  clear e1
  go_enter Try.func80, Try.ntmps80
  go_wp2_with fail
  refine (zeros_impl _ _ _ _ g2 g3).mono ?_
  rintro e w1 ⟨b, rfl, hb1, hb2, hh, hE⟩
  rw [E1.out] at hh ⊢
  have L0 : Hid (Loc w (w1.alloc (.cells #[.int .i64 P, .int .i64 m, .int .i64 m, .slice (some ⟨b, 0, none⟩) (m * m) (m * m)] 37)) w1.heap.size b [.int .i64 P, .int .i64 m, .int .i64 m, .slice (some ⟨b, 0, none⟩) (m * m) (m * m)] (unitTo m 0)) :=
    ⟨cells_new _ _ _, hh.alloc _, (((Ext.refl w).alloc _).trans hE).alloc _, by simp at hb1; omega, by simp; omega, by omega⟩
  have hw : Hid (Cells (w1.alloc (.cells #[.int .i64 P, .int .i64 m, .int .i64 m, .slice (some ⟨b, 0, none⟩) (m * m) (m * m)] 37)) w.heap.size [.int .i64 0, .int .i64 0, .int .i64 0, .slice none 0 0]) := ((cells_new w _ _).ext hE).ext ((Ext.refl _).alloc _)
  have hs : Hid (w.heap.size < b) := by simp at hb1; exact hb1
  clear hh hE hb1 hb2
  go_wp2
  go_loopw [12] (fun i wr => ∃ k : Nat, k ≤ m ∧ i = .int .i64 k ∧ Hid (Loc w wr w1.heap.size b [.int .i64 P, .int .i64 m, .int .i64 m, .slice (some ⟨b, 0, none⟩) (m * m) (m * m)] (unitTo m k)) ∧ Hid (Cells wr w.heap.size [.int .i64 0, .int .i64 0, .int .i64 0, .slice none 0 0])) (fun i _ => m - (intOf i).toNat)
  case atStart => exact ⟨0, by omega, rfl, L0, hw⟩
  case round =>
    obtain ⟨k, hk, rfl, L, hw2⟩ := hrel
    have q0 := L.out.box.2 0 _ rfl
    have q1 := L.out.box.2 1 _ rfl
    have q2 := L.out.box.2 2 _ rfl
    have q3 := L.out.box.2 3 _ rfl
    by_cases hlt : k < m
    · have d1 := diag_lt hlt
      have d2 : ((k : Int) * (m : Int) + (k : Int)) = ((k * m + k : Nat) : Int) := by simp
      have d4 : 0 ≤ (k : Int) * (m : Int) + (k : Int) := by rw [d2]; omega
      have d5 : (k : Int) * (m : Int) + (k : Int) < ((m * m : Nat) : Int) := by rw [d2]; omega
      have d6 : 0 ≤ (k : Int) * (m : Int) := by rw [← Int.natCast_mul]; omega
      have hc1 := L.out.has.cell (k * m + k) (by rw [unitTo_length]; exact d1)
      have hf1 := L.out.has.free (k * m + k)
      have N : Hid (Loc w (wr.setCell ⟨b, k * m + k, none⟩ (.int .i64 1)) w1.heap.size b [.int .i64 P, .int .i64 m, .int .i64 m, .slice (some ⟨b, 0, none⟩) (m * m) (m * m)] (unitTo m (k + 1))) := by
        exact L.out.set (k * m + k) (by rw [unitTo_length]; exact d1) 1
      have N2 : Hid (Cells (wr.setCell ⟨b, k * m + k, none⟩ (.int .i64 1)) w.heap.size [.int .i64 0, .int .i64 0, .int .i64 0, .slice none 0 0]) :=
        hw2.out.grown (grownBy_set (p := ⟨b, k * m + k, none⟩) (grownBy_refl _ (some b)) rfl _) (fun q hq => by simp at hq; have := hs.out; omega)
      clear d2 L hw2
      go_wp2
      exact ⟨⟨k + 1, by omega, by simp, N, N2⟩, by simp [intOf]; omega⟩
    · obtain rfl : k = m := by omega
      have f0 := hw2.out.2 0 _ rfl
      have f1 := hw2.out.2 1 _ rfl
      have f2 := hw2.out.2 2 _ rfl
      have f3 := hw2.out.2 3 _ rfl
      have t0 := hw2.out.3
      go_wp2
      refine bodyPost_ret (v := .agg #[.int .i64 P, .int .i64 k, .int .i64 k, .slice (some ⟨b, 0, none⟩) (k * k) (k * k)]) (by simp [results, Try.results80, go_sem, f0, f1, f2, f3]) rfl ⟨b, rfl, L.out.lo, ?_, ?_, ?_⟩
      · have := L.out.lt; simpa using this
      · have := hs.out
        repeat with_reducible (first | exact L.out.has | refine Has.setOther ?_ (by simp <;> omega) _)
      · exact ext4 L.out.ext (Nat.le_refl _) _ _ _ _

end Go.Proofs.Ytnikfalpjieibaa
