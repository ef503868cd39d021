/-
  Traces, both texts; one number of a matrix (l1At).
-/
import Derived.Test.YtgmipolgnpjmnaaAddM
namespace Go.Proofs.Ytgmipolgnpjmnaa
open Go.RowKit
set_option linter.unusedVariables false

/-- The first k numbers of the diagonal, added. -/
def traceTo (xs : List Int) (m : Nat) : Nat → Int
  | 0 => 0
  | k + 1 => traceTo xs m k + gi xs (k * m + k)
noncomputable def traceM (P R C : Int) (xs : List Int) : Int × Bool := if mok P R C xs && (R == C) then (traceTo xs R.toNat R.toNat % P, true) else (0, false)
theorem traceTo_bd (xs : List Int) (m : Nat) (p : Int) (hp : p ≤ 10007) (hx : Res xs p) (hl : xs.length = m * m) (k : Nat) (hk : k ≤ m) (hm : m ≤ 40) : 0 ≤ traceTo xs m k ∧ traceTo xs m k ≤ 10007 * k := by
  induction k with
  | zero => simp [traceTo]
  | succ k ih =>
    obtain ⟨i0, i1⟩ := ih (by omega)
    obtain ⟨x0, x1⟩ := hx (k * m + k) (by rw [hl]; exact diag_lt (by omega))
    simp only [traceTo]
    omega

set_option maxHeartbeats 800000 in
theorem l1At_spec (P R : Int) (cc i j : Nat) (a : Option Addr) (n c : Nat) (xs : List Int) (w : World) (hr : Reads w a n xs) (hlt : i * cc + j < n) (hn : n ≤ 1048576) :
    Calls Try.prog 123 #[.agg #[.int .i64 P, .int .i64 R, .int .i64 cc, .slice a n c], .int .i64 i, .int .i64 j] w fun e w' => e = .returned (.int .i64 (gi xs (i * cc + j))) ∧ Ext w w' := by
  rcases hr.2 with h | ⟨b, off, rfl, hb, hc⟩
  · omega
  have hc1 := hc _ hlt
  have hc2 : (w.alloc (.cells #[.int .i64 P, .int .i64 R, .int .i64 cc, .slice (some ⟨b, off, none⟩) n c] 36)).cell? ⟨b, off + (i * cc + j), none⟩ = some (.int .i64 (gi xs (i * cc + j))) := by rw [World.cell?_alloc_past _ _ _ hb]; exact hc1
  have e1 : (i : Int) * (cc : Int) = ((i * cc : Nat) : Int) := by simp
  have e2 : 0 ≤ (i : Int) * (cc : Int) := by rw [e1]; omega
  have e3 : (i : Int) * (cc : Int) ≤ 1048576 := by rw [e1]; omega
  have e4 : (i : Int) * (cc : Int) + (j : Int) < (n : Int) := by rw [e1]; omega
  have e5 : 0 ≤ (i : Int) * (cc : Int) + (j : Int) := by rw [e1]; omega
  clear hc hc1 e1
  go_enter Try.func123, Try.ntmps123
  go_wp2
  go_ret
  exact ⟨rfl, (Ext.refl _).alloc _⟩

set_option maxRecDepth 100000 in
set_option maxHeartbeats 1600000 in
theorem l1Trace_spec (P : Int) (m : Nat) (a : Option Addr) (n c : Nat) (xs : List Int) (w : World) (hr : Reads w a n xs) (hn : n = m * m) (hm : m ≤ 40) (hp : 2 ≤ P) (hp2 : P ≤ 10007) (hx : Res xs P) :
    Calls Try.prog 140 #[.agg #[.int .i64 P, .int .i64 m, .int .i64 m, .slice a n c]] w fun e w' => e = .returned (.int .i64 (traceTo xs m m % P)) ∧ Ext w w' := by
  have HR := Lib.hid hr
  have HN := Lib.hid hn
  have g40 := sq40 hm
  clear hr hn
  go_enter Try.func140, Try.ntmps140
  have A0_1 := Lib.hid (cells_new' w #[.int .i64 P, .int .i64 m, .int .i64 m, .slice a n c] 36 (w.heap.size) (by simp))
  have E_2 := Lib.hid ((Ext.refl w).alloc (.cells #[.int .i64 P, .int .i64 m, .int .i64 m, .slice a n c] 36))
  go_wp2
  go_loopw [3, 4] (fun s i wr => ∃ k : Nat, k ≤ m ∧ i = .int .i64 k ∧ s = .int .i64 (traceTo xs m k) ∧ Hid (Ext w wr) ∧ Hid (Cells wr w.heap.size [.int .i64 P, .int .i64 m, .int .i64 m, .slice a n c])) (fun _ i _ => m - (intOf i).toNat)
  case atStart => exact ⟨0, by omega, rfl, rfl, E_2.out, A0_1.out⟩
  case round =>
    obtain ⟨k, hk, rfl, rfl, hE, hB⟩ := hrel
    have lA := hB.out.1
    have q0 := hB.out.2 0 _ rfl
    have q1 := hB.out.2 1 _ rfl
    have q2 := hB.out.2 2 _ rfl
    have q3 := hB.out.2 3 _ rfl
    have b0 := traceTo_bd xs m P hp2 hx (by rw [HR.out.1, HN.out]) k hk hm
    obtain ⟨b1, b2⟩ := b0
    by_cases hlt : k < m
    · obtain ⟨x0, x1⟩ := hx (k * m + k) (by rw [HR.out.1, HN.out]; exact diag_lt hlt)
      go_wp2_with fail
      refine (l1At_spec _ _ _ _ _ _ _ _ xs _ (HR.out.ext hE.out) (by rw [HN.out]; exact diag_lt hlt) (by rw [HN.out]; omega)).mono ?_
      rintro e w2 ⟨rfl, hE2⟩
      have G1 := Lib.hid (hE.out.trans hE2)
      have G2 := Lib.hid (hB.out.ext hE2)
      clear hE2 hE hB lA q0 q1 q2 q3
      go_wp2
      exact ⟨⟨k + 1, by omega, by simp, rfl, G1, G2⟩, by simp [intOf]; omega⟩
    · obtain rfl : k = m := by omega
      go_wp2
      go_ret
      exact ⟨rfl, hE.out⟩

set_option maxRecDepth 100000 in
set_option maxHeartbeats 1600000 in
theorem squareOk_impl (P R C : Int) (a : Option Addr) (n c : Nat) (xs : List Int) (w : World) (hr : Reads w a n xs) (hm : n ≤ maxLen) :
    Calls Try.prog 130 #[.agg #[.int .i64 P, .int .i64 R, .int .i64 C, .slice a n c]] w fun e w' => e = .returned (.bool (mok P R C xs && (R == C))) ∧ Ext w w' := by
  have HR := Lib.hid hr
  clear hr
  rcases h1 : mok P R C xs with _ | _
  · go_enter Try.func130, Try.ntmps130
    have A0_1 := Lib.hid (cells_new' w #[.int .i64 P, .int .i64 R, .int .i64 C, .slice a n c] 36 (w.heap.size) (by simp))
    have E_2 := Lib.hid ((Ext.refl w).alloc (.cells #[.int .i64 P, .int .i64 R, .int .i64 C, .slice a n c] 36))
    have lA0 := A0_1.out.1
    have qA00 := A0_1.out.2 0 _ rfl
    have qA01 := A0_1.out.2 1 _ rfl
    have qA02 := A0_1.out.2 2 _ rfl
    have qA03 := A0_1.out.2 3 _ rfl
    try simp only [World.size_alloc] at lA0
    go_wp2_with fail
    refine (matrixOk_impl _ _ _ _ _ _ xs _ (HR.out.ext E_2.out) hm).mono ?_
    rintro e w_3 ⟨rfl, h_3⟩
    clear lA0 qA00 qA01 qA02 qA03
    have A0_4 := Lib.hid (A0_1.out.ext h_3)
    clear A0_1
    have E_5 := Lib.hid (E_2.out.trans h_3)
    clear E_2
    rw [h1]
    have lA0 := A0_4.out.1
    have qA00 := A0_4.out.2 0 _ rfl
    have qA01 := A0_4.out.2 1 _ rfl
    have qA02 := A0_4.out.2 2 _ rfl
    have qA03 := A0_4.out.2 3 _ rfl
    try simp only [World.size_alloc] at lA0
    go_wp2
    go_ret
    exact ⟨rfl, E_5.out⟩
  · go_enter Try.func130, Try.ntmps130
    have A0_1 := Lib.hid (cells_new' w #[.int .i64 P, .int .i64 R, .int .i64 C, .slice a n c] 36 (w.heap.size) (by simp))
    have E_2 := Lib.hid ((Ext.refl w).alloc (.cells #[.int .i64 P, .int .i64 R, .int .i64 C, .slice a n c] 36))
    have lA0 := A0_1.out.1
    have qA00 := A0_1.out.2 0 _ rfl
    have qA01 := A0_1.out.2 1 _ rfl
    have qA02 := A0_1.out.2 2 _ rfl
    have qA03 := A0_1.out.2 3 _ rfl
    try simp only [World.size_alloc] at lA0
    go_wp2_with fail
    refine (matrixOk_impl _ _ _ _ _ _ xs _ (HR.out.ext E_2.out) hm).mono ?_
    rintro e w_3 ⟨rfl, h_3⟩
    clear lA0 qA00 qA01 qA02 qA03
    have A0_4 := Lib.hid (A0_1.out.ext h_3)
    clear A0_1
    have E_5 := Lib.hid (E_2.out.trans h_3)
    clear E_2
    rw [h1]
    have lA0 := A0_4.out.1
    have qA00 := A0_4.out.2 0 _ rfl
    have qA01 := A0_4.out.2 1 _ rfl
    have qA02 := A0_4.out.2 2 _ rfl
    have qA03 := A0_4.out.2 3 _ rfl
    try simp only [World.size_alloc] at lA0
    go_wp2
    go_ret
    exact ⟨by simp, E_5.out⟩

end Go.Proofs.Ytgmipolgnpjmnaa
