/-
  Traces, both texts; one number of a matrix (l1At).
-/
import Derived.Test.YthblbaglemoalaaAddM
namespace Go.Proofs.Ythblbaglemoalaa
open Go.RowKit
set_option linter.unusedVariables false

/-- The first k numbers of the diagonal, added. -/
def traceTo (xs : List Int) (m : Nat) : Nat → Int
  | 0 => 0
  | k + 1 => traceTo xs m k + gi xs (k * m + k)
noncomputable def traceM (P R C : Int) (xs : List Int) : Int × Bool := if mok P R C xs && (R == C) then (traceTo xs R.toNat R.toNat % P, true) else (0, false)
theorem traceTo_bd (xs : List Int) (m : Nat) (p : Int) (hp : p ≤ 10007) (hx : Res xs p) (hl : xs.length = m * m) (k : Nat) (hk : k ≤ m) (hm : m ≤ 40) : 0 ≤ traceTo xs m k ∧ traceTo xs m k ≤ 10007 * k := by
  induction k with
  | zero => simp [traceTo]
  | succ k ih =>
    obtain ⟨i0, i1⟩ := ih (by omega)
    obtain ⟨x0, x1⟩ := hx (k * m + k) (by rw [hl]; exact diag_lt (by omega))
    simp only [traceTo]
    omega

set_option maxHeartbeats 800000 in
theorem l1At_spec (P R : Int) (cc i j : Nat) (a : Option Addr) (n c : Nat) (xs : List Int) (w : World) (hr : Reads w a n xs) (hlt : i * cc + j < n) (hn : n ≤ 1048576) :
    Calls Try.prog 73 #[.agg #[.int .i64 P, .int .i64 R, .int .i64 cc, .slice a n c], .int .i64 i, .int .i64 j] w fun e w' => e = .returned (.int .i64 (gi xs (i * cc + j))) ∧ Ext w w' := by
  rcases hr.2 with h | ⟨b, off, rfl, hb, hc⟩
  · omega
  have hc1 := hc _ hlt
  have hc2 : (w.alloc (.cells #[.int .i64 P, .int .i64 R, .int .i64 cc, .slice (some ⟨b, off, none⟩) n c] 30)).cell? ⟨b, off + (i * cc + j), none⟩ = some (.int .i64 (gi xs (i * cc + j))) := by rw [World.cell?_alloc_past _ _ _ hb]; exact hc1
  have e1 : (i : Int) * (cc : Int) = ((i * cc : Nat) : Int) := by simp
  have e2 : 0 ≤ (i : Int) * (cc : Int) := by rw [e1]; omega
  have e3 : (i : Int) * (cc : Int) ≤ 1048576 := by rw [e1]; omega
  have e4 : (i : Int) * (cc : Int) + (j : Int) < (n : Int) := by rw [e1]; omega
  have e5 : 0 ≤ (i : Int) * (cc : Int) + (j : Int) := by rw [e1]; omega
  clear hc hc1 e1
  go_enter Try.func73, Try.ntmps73
  go_wp2
  go_ret
  exact ⟨rfl, (Ext.refl _).alloc _⟩

set_option maxRecDepth 100000 in
set_option maxHeartbeats 1600000 in
theorem l1Trace_spec (P : Int) (m : Nat) (a : Option Addr) (n c : Nat) (xs : List Int) (w : World) (hr : Reads w a n xs) (hn : n = m * m) (hm : m ≤ 40) (hp : 2 ≤ P) (hp2 : P ≤ 10007) (hx : Res xs P) :
    Calls Try.prog 66 #[.agg #[.int .i64 P, .int .i64 m, .int .i64 m, .slice a n c]] w fun e w' => e = .returned (.int .i64 (traceTo xs m m % P)) ∧ Ext w w' := by
  have HR := Lib.hid hr
  have HN := Lib.hid hn
  have g40 := sq40 hm
  clear hr hn
  go_enter Try.func66, Try.ntmps66
  have A0_1 := Lib.hid (cells_new' w #[.int .i64 P, .int .i64 m, .int .i64 m, .slice a n c] 30 (w.heap.size) (by simp))
  have E_2 := Lib.hid ((Ext.refl w).alloc (.cells #[.int .i64 P, .int .i64 m, .int .i64 m, .slice a n c] 30))
  go_wp2
  go_loopw [3, 4] (fun s i wr => ∃ k : Nat, k ≤ m ∧ i = .int .i64 k ∧ s = .int .i64 (traceTo xs m k) ∧ Hid (Ext w wr) ∧ Hid (Cells wr w.heap.size [.int .i64 P, .int .i64 m, .int .i64 m, .slice a n c])) (fun _ i _ => m - (intOf i).toNat)
  case atStart => exact ⟨0, by omega, rfl, rfl, E_2.out, A0_1.out⟩
  case round =>
    obtain ⟨k, hk, rfl, rfl, hE, hB⟩ := hrel
    have lA := hB.out.1
    have q0 := hB.out.2 0 _ rfl
    have q1 := hB.out.2 1 _ rfl
    have q2 := hB.out.2 2 _ rfl
    have q3 := hB.out.2 3 _ rfl
    have b0 := traceTo_bd xs m P hp2 hx (by rw [HR.out.1, HN.out]) k hk hm
    obtain ⟨b1, b2⟩ := b0
    by_cases hlt : k < m
    · obtain ⟨x0, x1⟩ := hx (k * m + k) (by rw [HR.out.1, HN.out]; exact diag_lt hlt)
      go_wp2_with fail
      refine (l1At_spec _ _ _ _ _ _ _ _ xs _ (HR.out.ext hE.out) (by rw [HN.out]; exact diag_lt hlt) (by rw [HN.out]; omega)).mono ?_
      rintro e w2 ⟨rfl, hE2⟩
      have G1 := Lib.hid (hE.out.trans hE2)
      have G2 := Lib.hid (hB.out.ext hE2)
      clear hE2 hE hB lA q0 q1 q2 q3
      go_wp2
      exact ⟨⟨k + 1, by omega, by simp, rfl, G1, G2⟩, by simp [intOf]; omega⟩
    · obtain rfl : k = m := by omega
      go_wp2
      go_ret
      exact ⟨rfl, hE.out⟩

set_option maxRecDepth 100000 in
set_option maxHeartbeats 1600000 in
theorem squareOk_impl (P R C : Int) (a : Option Addr) (n c : Nat) (xs : List Int) (w : World) (hr : Reads w a n xs) (hm : n ≤ maxLen) :
    Calls Try.prog 67 #[.agg #[.int .i64 P, .int .i64 R, .int .i64 C, .slice a n c]] w fun e w' => e = .returned (.bool (mok P R C xs && (R == C))) ∧ Ext w w' := by
  have HR := Lib.hid hr
  clear hr
  rcases h1 : mok P R C xs with _ | _
  · go_enter Try.func67, Try.ntmps67
    have A0_1 := Lib.hid (cells_new' w #[.int .i64 P, .int .i64 R, .int .i64 C, .slice a n c] 30 (w.heap.size) (by simp))
    have E_2 := Lib.hid ((Ext.refl w).alloc (.cells #[.int .i64 P, .int .i64 R, .int .i64 C, .slice a n c] 30))
    have lA0 := A0_1.out.1
    have qA00 := A0_1.out.2 0 _ rfl
    have qA01 := A0_1.out.2 1 _ rfl
    have qA02 := A0_1.out.2 2 _ rfl
    have qA03 := A0_1.out.2 3 _ rfl
    try simp only [World.size_alloc] at lA0
    go_wp2_with fail
    refine (matrixOk_impl _ _ _ _ _ _ xs _ (HR.out.ext E_2.out) hm).mono ?_
    rintro e w_3 ⟨rfl, h_3⟩
    clear lA0 qA00 qA01 qA02 qA03
    have A0_4 := Lib.hid (A0_1.out.ext h_3)
    clear A0_1
    have E_5 := Lib.hid (E_2.out.trans h_3)
    clear E_2
    rw [h1]
    have lA0 := A0_4.out.1
    have qA00 := A0_4.out.2 0 _ rfl
    have qA01 := A0_4.out.2 1 _ rfl
    have qA02 := A0_4.out.2 2 _ rfl
    have qA03 := A0_4.out.2 3 _ rfl
    try simp only [World.size_alloc] at lA0
    go_wp2
    go_ret
    exact ⟨rfl, E_5.out⟩
  · go_enter Try.func67, Try.ntmps67
    have A0_1 := Lib.hid (cells_new' w #[.int .i64 P, .int .i64 R, .int .i64 C, .slice a n c] 30 (w.heap.size) (by simp))
    have E_2 := Lib.hid ((Ext.refl w).alloc (.cells #[.int .i64 P, .int .i64 R, .int .i64 C, .slice a n c] 30))
    have lA0 := A0_1.out.1
    have qA00 := A0_1.out.2 0 _ rfl
    have qA01 := A0_1.out.2 1 _ rfl
    have qA02 := A0_1.out.2 2 _ rfl
    have qA03 := A0_1.out.2 3 _ rfl
    try simp only [World.size_alloc] at lA0
    go_wp2_with fail
    refine (matrixOk_impl _ _ _ _ _ _ xs _ (HR.out.ext E_2.out) hm).mono ?_
    rintro e w_3 ⟨rfl, h_3⟩
    clear lA0 qA00 qA01 qA02 qA03
    have A0_4 := Lib.hid (A0_1.out.ext h_3)
    clear A0_1
    have E_5 := Lib.hid (E_2.out.trans h_3)
    clear E_2
    rw [h1]
    have lA0 := A0_4.out.1
    have qA00 := A0_4.out.2 0 _ rfl
    have qA01 := A0_4.out.2 1 _ rfl
    have qA02 := A0_4.out.2 2 _ rfl
    have qA03 := A0_4.out.2 3 _ rfl
    try simp only [World.size_alloc] at lA0
    go_wp2
    go_ret
    exact ⟨by simp, E_5.out⟩

set_option maxRecDepth 100000 in
set_option maxHeartbeats 1600000 in
theorem traceOf_spec {P R C : Int} {a : Option Addr} {n c : Nat} {xs : List Int} {w : World} {i : Int} {ok : Bool} (h : Reads w a n xs) (hm : n ≤ 1048576) (hM : traceM P R C xs = (i, ok)) :
    Calls Try.prog 38 #[.agg #[.int .i64 P, .int .i64 R, .int .i64 C, .slice a n c]] w fun e w' => e = .returned (.tuple #[.int .i64 i, .bool ok]) ∧ Ext w w' := by
  have HR := Lib.hid h
  have hm1 : n ≤ maxLen := by unfold maxLen; omega
  clear h
  rcases h1 : mok P R C xs with _ | _
  · simp only [traceM, h1, Bool.false_and, Bool.false_eq_true, if_false, Prod.mk.injEq] at hM
    obtain ⟨rfl, rfl⟩ := hM
    go_enter Try.func38, Try.ntmps38
    have A0_1 := Lib.hid (cells_new' w #[.int .i64 P, .int .i64 R, .int .i64 C, .slice a n c] 30 (w.heap.size) (by simp))
    have E_2 := Lib.hid ((Ext.refl w).alloc (.cells #[.int .i64 P, .int .i64 R, .int .i64 C, .slice a n c] 30))
    have lA0 := A0_1.out.1
    have qA00 := A0_1.out.2 0 _ rfl
    have qA01 := A0_1.out.2 1 _ rfl
    have qA02 := A0_1.out.2 2 _ rfl
    have qA03 := A0_1.out.2 3 _ rfl
    try simp only [World.size_alloc] at lA0
    go_wp2_with fail
    refine (matrixOk_spec _ _ _ _ _ _ xs _ (HR.out.ext E_2.out) hm1).mono ?_
    rintro e w_3 ⟨rfl, h_3⟩
    clear lA0 qA00 qA01 qA02 qA03
    have A0_4 := Lib.hid (A0_1.out.ext h_3)
    clear A0_1
    have E_5 := Lib.hid (E_2.out.trans h_3)
    clear E_2
    rw [h1]
    have lA0 := A0_4.out.1
    have qA00 := A0_4.out.2 0 _ rfl
    have qA01 := A0_4.out.2 1 _ rfl
    have qA02 := A0_4.out.2 2 _ rfl
    have qA03 := A0_4.out.2 3 _ rfl
    try simp only [World.size_alloc] at lA0
    go_wp2
    go_ret2
    exact ⟨rfl, E_5.out⟩
  by_cases e1 : R = C
  case neg =>
    have hb : (R == C) = false := by simpa using e1
    have hb2 : (R != C) = true := by simpa using e1
    simp only [traceM, hb, Bool.and_false, Bool.false_eq_true, if_false, Prod.mk.injEq] at hM
    obtain ⟨rfl, rfl⟩ := hM
    clear e1
    go_enter Try.func38, Try.ntmps38
    have A0_1 := Lib.hid (cells_new' w #[.int .i64 P, .int .i64 R, .int .i64 C, .slice a n c] 30 (w.heap.size) (by simp))
    have E_2 := Lib.hid ((Ext.refl w).alloc (.cells #[.int .i64 P, .int .i64 R, .int .i64 C, .slice a n c] 30))
    have lA0 := A0_1.out.1
    have qA00 := A0_1.out.2 0 _ rfl
    have qA01 := A0_1.out.2 1 _ rfl
    have qA02 := A0_1.out.2 2 _ rfl
    have qA03 := A0_1.out.2 3 _ rfl
    try simp only [World.size_alloc] at lA0
    go_wp2_with fail
    refine (matrixOk_spec _ _ _ _ _ _ xs _ (HR.out.ext E_2.out) hm1).mono ?_
    rintro e w_3 ⟨rfl, h_3⟩
    clear lA0 qA00 qA01 qA02 qA03
    have A0_4 := Lib.hid (A0_1.out.ext h_3)
    clear A0_1
    have E_5 := Lib.hid (E_2.out.trans h_3)
    clear E_2
    rw [h1]
    have lA0 := A0_4.out.1
    have qA00 := A0_4.out.2 0 _ rfl
    have qA01 := A0_4.out.2 1 _ rfl
    have qA02 := A0_4.out.2 2 _ rfl
    have qA03 := A0_4.out.2 3 _ rfl
    try simp only [World.size_alloc] at lA0
    go_wp2
    go_ret2
    exact ⟨rfl, E_5.out⟩
  subst e1
  have hl1 := mok_len h1
  have hr1 := mok_res h1
  have hp1 := mok_lo h1
  have hp2 := mok_hi h1
  have hq := inB_iff.1 (mok_iff.1 h1).2.1
  obtain ⟨m, rfl⟩ := Int.eq_ofNat_of_zero_le hq.1
  have hm40 : m ≤ 40 := by omega
  have hnn : n = m * m := by rw [HR.out.1, ← Int.natCast_mul] at hl1; omega
  simp only [traceM, h1, beq_self_eq_true, Bool.and_self, if_true, Prod.mk.injEq, Int.toNat_natCast] at hM
  obtain ⟨rfl, rfl⟩ := hM
  have HN := Lib.hid hnn
  have H1 := Lib.hid h1
  clear hl1 hnn hq h1
  go_enter Try.func38, Try.ntmps38
  have A0_1 := Lib.hid (cells_new' w #[.int .i64 P, .int .i64 m, .int .i64 m, .slice a n c] 30 (w.heap.size) (by simp))
  have E_2 := Lib.hid ((Ext.refl w).alloc (.cells #[.int .i64 P, .int .i64 m, .int .i64 m, .slice a n c] 30))
  have lA0 := A0_1.out.1
  have qA00 := A0_1.out.2 0 _ rfl
  have qA01 := A0_1.out.2 1 _ rfl
  have qA02 := A0_1.out.2 2 _ rfl
  have qA03 := A0_1.out.2 3 _ rfl
  try simp only [World.size_alloc] at lA0
  go_wp2_with fail
  refine (matrixOk_spec _ _ _ _ _ _ xs _ (HR.out.ext E_2.out) hm1).mono ?_
  rintro e w_3 ⟨rfl, h_3⟩
  clear lA0 qA00 qA01 qA02 qA03
  have A0_4 := Lib.hid (A0_1.out.ext h_3)
  clear A0_1
  have E_5 := Lib.hid (E_2.out.trans h_3)
  clear E_2
  rw [H1.out]
  have lA0 := A0_4.out.1
  have qA00 := A0_4.out.2 0 _ rfl
  have qA01 := A0_4.out.2 1 _ rfl
  have qA02 := A0_4.out.2 2 _ rfl
  have qA03 := A0_4.out.2 3 _ rfl
  try simp only [World.size_alloc] at lA0
  go_wp2_with fail
  refine (l1Trace_spec _ _ _ _ _ xs _ (HR.out.ext E_5.out) HN.out hm40 hp1 hp2 hr1).mono ?_
  rintro e w_6 ⟨rfl, h_6⟩
  clear lA0 qA00 qA01 qA02 qA03
  have A0_7 := Lib.hid (A0_4.out.ext h_6)
  clear A0_4
  have E_8 := Lib.hid (E_5.out.trans h_6)
  clear E_5
  have lA0 := A0_7.out.1
  have qA00 := A0_7.out.2 0 _ rfl
  have qA01 := A0_7.out.2 1 _ rfl
  have qA02 := A0_7.out.2 2 _ rfl
  have qA03 := A0_7.out.2 3 _ rfl
  try simp only [World.size_alloc] at lA0
  go_wp2
  go_ret2
  exact ⟨rfl, E_8.out⟩

set_option maxRecDepth 100000 in
set_option maxHeartbeats 1600000 in
theorem traceOf_impl {P R C : Int} {a : Option Addr} {n c : Nat} {xs : List Int} {w : World} {i : Int} {ok : Bool} (h : Reads w a n xs) (hm : n ≤ 1048576) (hM : traceM P R C xs = (i, ok)) :
    Calls Try.prog 39 #[.agg #[.int .i64 P, .int .i64 R, .int .i64 C, .slice a n c]] w fun e w' => e = .returned (.tuple #[.int .i64 i, .bool ok]) ∧ Ext w w' := by
  have HR := Lib.hid h
  have hm1 : n ≤ maxLen := by unfold maxLen; omega
  clear h
  rcases h1 : mok P R C xs with _ | _
  · simp only [traceM, h1, Bool.false_and, Bool.false_eq_true, if_false, Prod.mk.injEq] at hM
    obtain ⟨rfl, rfl⟩ := hM
    go_enter Try.func39, Try.ntmps39
    have A0_1 := Lib.hid (cells_new' w #[.int .i64 P, .int .i64 R, .int .i64 C, .slice a n c] 30 (w.heap.size) (by simp))
    have E_2 := Lib.hid ((Ext.refl w).alloc (.cells #[.int .i64 P, .int .i64 R, .int .i64 C, .slice a n c] 30))
    have lA0 := A0_1.out.1
    have qA00 := A0_1.out.2 0 _ rfl
    have qA01 := A0_1.out.2 1 _ rfl
    have qA02 := A0_1.out.2 2 _ rfl
    have qA03 := A0_1.out.2 3 _ rfl
    try simp only [World.size_alloc] at lA0
    go_wp2_with fail
    refine (squareOk_impl _ _ _ _ _ _ xs _ (HR.out.ext E_2.out) hm1).mono ?_
    rintro e w_3 ⟨rfl, h_3⟩
    clear lA0 qA00 qA01 qA02 qA03
    have A0_4 := Lib.hid (A0_1.out.ext h_3)
    clear A0_1
    have E_5 := Lib.hid (E_2.out.trans h_3)
    clear E_2
    simp only [h1, Bool.false_and]
    have lA0 := A0_4.out.1
    have qA00 := A0_4.out.2 0 _ rfl
    have qA01 := A0_4.out.2 1 _ rfl
    have qA02 := A0_4.out.2 2 _ rfl
    have qA03 := A0_4.out.2 3 _ rfl
    try simp only [World.size_alloc] at lA0
    go_wp2
    go_ret2
    exact ⟨rfl, E_5.out⟩
  by_cases e1 : R = C
  case neg =>
    have hb : (R == C) = false := by simpa using e1
    have hb2 : (R != C) = true := by simpa using e1
    simp only [traceM, hb, Bool.and_false, Bool.false_eq_true, if_false, Prod.mk.injEq] at hM
    obtain ⟨rfl, rfl⟩ := hM
    clear e1
    go_enter Try.func39, Try.ntmps39
    have A0_1 := Lib.hid (cells_new' w #[.int .i64 P, .int .i64 R, .int .i64 C, .slice a n c] 30 (w.heap.size) (by simp))
    have E_2 := Lib.hid ((Ext.refl w).alloc (.cells #[.int .i64 P, .int .i64 R, .int .i64 C, .slice a n c] 30))
    have lA0 := A0_1.out.1
    have qA00 := A0_1.out.2 0 _ rfl
    have qA01 := A0_1.out.2 1 _ rfl
    have qA02 := A0_1.out.2 2 _ rfl
    have qA03 := A0_1.out.2 3 _ rfl
    try simp only [World.size_alloc] at lA0
    go_wp2_with fail
    refine (squareOk_impl _ _ _ _ _ _ xs _ (HR.out.ext E_2.out) hm1).mono ?_
    rintro e w_3 ⟨rfl, h_3⟩
    clear lA0 qA00 qA01 qA02 qA03
    have A0_4 := Lib.hid (A0_1.out.ext h_3)
    clear A0_1
    have E_5 := Lib.hid (E_2.out.trans h_3)
    clear E_2
    simp only [h1, hb, Bool.and_false]
    have lA0 := A0_4.out.1
    have qA00 := A0_4.out.2 0 _ rfl
    have qA01 := A0_4.out.2 1 _ rfl
    have qA02 := A0_4.out.2 2 _ rfl
    have qA03 := A0_4.out.2 3 _ rfl
    try simp only [World.size_alloc] at lA0
    go_wp2
    go_ret2
    exact ⟨rfl, E_5.out⟩
  subst e1
  have hl1 := mok_len h1
  have hr1 := mok_res h1
  have hp1 := mok_lo h1
  have hp2 := mok_hi h1
  have hq := inB_iff.1 (mok_iff.1 h1).2.1
  obtain ⟨m, rfl⟩ := Int.eq_ofNat_of_zero_le hq.1
  have hm40 : m ≤ 40 := by omega
  have hnn : n = m * m := by rw [HR.out.1, ← Int.natCast_mul] at hl1; omega
  simp only [traceM, h1, beq_self_eq_true, Bool.and_self, if_true, Prod.mk.injEq, Int.toNat_natCast] at hM
  obtain ⟨rfl, rfl⟩ := hM
  have HN := Lib.hid hnn
  have H1 := Lib.hid h1
  clear hl1 hnn hq h1
  go_enter Try.func39, Try.ntmps39
  have A0_1 := Lib.hid (cells_new' w #[.int .i64 P, .int .i64 m, .int .i64 m, .slice a n c] 30 (w.heap.size) (by simp))
  have E_2 := Lib.hid ((Ext.refl w).alloc (.cells #[.int .i64 P, .int .i64 m, .int .i64 m, .slice a n c] 30))
  have lA0 := A0_1.out.1
  have qA00 := A0_1.out.2 0 _ rfl
  have qA01 := A0_1.out.2 1 _ rfl
  have qA02 := A0_1.out.2 2 _ rfl
  have qA03 := A0_1.out.2 3 _ rfl
  try simp only [World.size_alloc] at lA0
  go_wp2_with fail
  refine (squareOk_impl _ _ _ _ _ _ xs _ (HR.out.ext E_2.out) hm1).mono ?_
  rintro e w_3 ⟨rfl, h_3⟩
  clear lA0 qA00 qA01 qA02 qA03
  have A0_4 := Lib.hid (A0_1.out.ext h_3)
  clear A0_1
  have E_5 := Lib.hid (E_2.out.trans h_3)
  clear E_2
  simp only [H1.out, beq_self_eq_true, Bool.and_self]
  have lA0 := A0_4.out.1
  have qA00 := A0_4.out.2 0 _ rfl
  have qA01 := A0_4.out.2 1 _ rfl
  have qA02 := A0_4.out.2 2 _ rfl
  have qA03 := A0_4.out.2 3 _ rfl
  try simp only [World.size_alloc] at lA0
  go_wp2
  clear lA0 qA00 qA01 qA02 qA03
  go_loop [4, 11] (fun s i => ∃ k : Nat, k ≤ m ∧ i = .int .i64 k ∧ s = .int .i64 (traceTo xs m k)) (fun _ i => m - (intOf i).toNat)
  case atStart => exact ⟨0, by omega, rfl, rfl⟩
  case round =>
    obtain ⟨k, hk, rfl, rfl⟩ := hrel
    have b0 := traceTo_bd xs m P hp2 hr1 (by rw [HR.out.1, HN.out]) k hk hm40
    obtain ⟨b1, b2⟩ := b0
    have lA0 := A0_4.out.1
    have qA00 := A0_4.out.2 0 _ rfl
    have qA01 := A0_4.out.2 1 _ rfl
    have qA02 := A0_4.out.2 2 _ rfl
    have qA03 := A0_4.out.2 3 _ rfl
    try simp only [World.size_alloc] at lA0
    by_cases hlt : k < m
    · obtain ⟨x0, x1⟩ := hr1 (k * m + k) (by rw [HR.out.1, HN.out]; exact diag_lt hlt)
      have d1 := diag_lt hlt
      rcases (HR.out.ext E_5.out).2 with h | ⟨b, off, rfl, hb, hc⟩
      · have := HN.out; omega
      have hc1 := hc (k * m + k) (by rw [HN.out]; exact d1)
      have e1 : (k : Int) * (m : Int) = ((k * m : Nat) : Int) := by simp
      have g40 := sq40 hm40
      have e2 : 0 ≤ (k : Int) * (m : Int) := by rw [e1]; omega
      have e3 : (k : Int) * (m : Int) ≤ 1600 := by rw [e1]; omega
      have e4 : (k : Int) * (m : Int) + (k : Int) < (n : Int) := by rw [e1, HN.out]; omega
      have e5 : 0 ≤ (k : Int) * (m : Int) + (k : Int) := by rw [e1]; omega
      clear hc e1
      go_wp2
      exact ⟨⟨k + 1, by omega, by simp, rfl⟩, by simp [intOf]; omega⟩
    · obtain rfl : k = m := by omega
      go_wp2
      go_ret2
      exact ⟨rfl, E_5.out⟩
end Go.Proofs.Ythblbaglemoalaa
