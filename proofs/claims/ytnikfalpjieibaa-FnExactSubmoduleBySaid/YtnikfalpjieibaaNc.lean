/-
  The first row with a number in a column; rows exchanged: the program's.
-/
import Derived.Test.YtnikfalpjieibaaRs
import Derived.BigRegion
import Derived.Deep.RegionHeld3
import Derived.BigQuiet
import Derived.Deep.QuietTactic
namespace Go.Proofs.Ytnikfalpjieibaa
open Go.RowKit
set_option linter.unusedVariables false

/-- What 'nonzeroRow' answers. -/
def nzR (xs : List Int) (C c R k : Nat) : Int := if fnz xs C c R k = R then -1 else (fnz xs C c R k : Int)

set_option maxHeartbeats 800000 in
theorem nonzeroRow_impl (P : Int) (R C c k b0 o0 n d : Nat) (xs : List Int) (w : World) (hr : Reads w (some ⟨b0, o0, none⟩) n xs) (hn : n = R * C) (hb : n ≤ 1048576) (hc : c < C) (hk : k ≤ R) (hR : R ≤ 1048576) :
    Calls Try.prog 141 #[.agg #[.int .i64 P, .int .i64 R, .int .i64 C, .slice (some ⟨b0, o0, none⟩) n d], .int .i64 k, .int .i64 c] w fun e w' => e = .returned (.int .i64 (nzR xs C c R k)) ∧ Ext w w' := by
  have HR := Lib.hid hr
  have HN := Lib.hid hn
  clear hr hn
  have A := cells_new w #[.int .i64 P, .int .i64 R, .int .i64 C, .slice (some ⟨b0, o0, none⟩) n d] 37
  have hE : Hid (Ext w (w.alloc (.cells #[.int .i64 P, .int .i64 R, .int .i64 C, .slice (some ⟨b0, o0, none⟩) n d] 37))) := (Ext.refl w).alloc _
  have HA := Lib.hid A
  clear A
  go_enter Try.func141, Try.ntmps141
  go_wp2
  go_loop [7] (fun z => ∃ i : Nat, k ≤ i ∧ i ≤ R ∧ z = .int .i64 i ∧ Hid (fnz xs C c R k = fnz xs C c R i)) (fun z => R - (intOf z).toNat)
  case atStart => exact ⟨k, by omega, hk, rfl, rfl⟩
  case round =>
    obtain ⟨i, hi, hi2, rfl, hf⟩ := hrel
    by_cases hlt : i < R
    · have hpl := place_lt hlt hc
      have hcell : (w.alloc (.cells #[.int .i64 P, .int .i64 R, .int .i64 C, .slice (some ⟨b0, o0, none⟩) n d] 37)).cell? ⟨b0, o0 + (i * C + c), none⟩ = some (.int .i64 (gi xs (i * C + c))) := by
        rcases (HR.out.ext hE.out).2 with h | ⟨b', off', h, hb', hc'⟩
        · have := HN.out; omega
        simp only [Option.some.injEq, Addr.mk.injEq, and_true] at h
        obtain ⟨rfl, rfl⟩ := h
        exact hc' _ (by rw [HN.out]; exact hpl)
      have e1 : (i : Int) * (C : Int) = ((i * C : Nat) : Int) := by simp
      have g1 : 0 ≤ (i : Int) * (C : Int) := by rw [e1]; omega
      have g2 : (i : Int) * (C : Int) + (c : Int) < (n : Int) := by rw [e1, HN.out]; omega
      have g3 : 0 ≤ (i : Int) * (C : Int) + (c : Int) := by omega
      have hz := @fnz_zero xs C c R i hlt
      have hh := @fnz_here xs C c R i hlt
      have HZ := Lib.hid hz
      have HH := Lib.hid hh
      clear e1 hpl hz hh
      by_cases h0 : gi xs (i * C + c) = 0
      · have hb0 : (gi xs (i * C + c) != 0) = false := by simpa using h0
        have HF : Hid (fnz xs C c R k = fnz xs C c R (i + 1)) := hf.out.trans (HZ.out h0)
        clear h0
        go_wp2
        exact ⟨⟨i + 1, by omega, by omega, by simp, HF⟩, by simp [intOf]; omega⟩
      · have hb0 : (gi xs (i * C + c) != 0) = true := by simpa using h0
        have HF : Hid (nzR xs C c R k = (i : Int)) := by rw [Hid, nzR, hf.out, HH.out h0, if_neg (by omega)]
        clear h0
        go_wp2
        go_ret
        exact ⟨ret_int HF.out.symm, hE.out⟩
    · obtain rfl : i = R := by omega
      have HF : Hid (nzR xs C c i k = -1) := by rw [Hid, nzR, hf.out, fnz_end (Nat.le_refl _), if_pos rfl]
      go_wp2
      go_ret
      exact ⟨ret_int HF.out.symm, hE.out⟩
end Go.Proofs.Ytnikfalpjieibaa

/-
  Rows exchanged: the program's.
-/
namespace Go.Proofs.Ytnikfalpjieibaa
open Go.RowKit
set_option linter.unusedVariables false

theorem row_n {R C i n : Nat} (h : i < R) (hn : n = R * C) : (i + 1) * C ≤ n := by
  rw [hn]; exact Nat.mul_le_mul_right C h

set_option maxRecDepth 100000 in
set_option maxHeartbeats 1600000 in
theorem exchangeRows_impl (P : Int) (R C r s b n : Nat) (l : List Int) (w : World) (hh : Has w b l) (hl : l.length = n) (hn : n = R * C) (hb : n ≤ 1048576) (hr : r < R) (hs : s < R) (hne : r ≠ s) (hR : R ≤ 1048576) :
    Calls Try.prog 142 #[.agg #[.int .i64 P, .int .i64 R, .int .i64 C, .slice (some ⟨b, 0, none⟩) n n], .int .i64 r, .int .i64 s] w fun e w' => e = .returned (.tuple #[]) ∧ Has w' b (swTo (s * C) (r * C) l C) ∧ w.grownBy w' (some b) := by
  have HH := Lib.hid hh
  have HL := Lib.hid hl
  have hlt := Lib.hid hh.lt
  have c1 : ∀ w1, Calls Try.prog 111 #[.agg #[.int .i64 P, .int .i64 R, .int .i64 C, .slice (some ⟨b, 0, none⟩) n n], .int .i64 r] w1 fun e w' => e = .returned (.slice (some ⟨b, 0 + r * C, none⟩) C (n - r * C)) ∧ Ext w1 w' := fun w1 => rowOf_impl P R C r b 0 n w1 (row_n hr hn) hb (by omega)
  have c2 : ∀ w1, Calls Try.prog 111 #[.agg #[.int .i64 P, .int .i64 R, .int .i64 C, .slice (some ⟨b, 0, none⟩) n n], .int .i64 s] w1 fun e w' => e = .returned (.slice (some ⟨b, 0 + s * C, none⟩) C (n - s * C)) ∧ Ext w1 w' := fun w1 => rowOf_impl P R C s b 0 n w1 (row_n hs hn) hb (by omega)
  have HC1 := Lib.hid c1
  have HC2 := Lib.hid c2
  have hr1 := row_lt (C := C) hr
  have hr2 := row_lt (C := C) hs
  rw [← hn] at hr1 hr2
  have hap := rows_apart (C := C) hne
  have HP1 := Lib.hid hr1
  have HP2 := Lib.hid hr2
  have HAP := Lib.hid hap
  have A := Lib.hid (cells_new w #[.int .i64 P, .int .i64 R, .int .i64 C, .slice (some ⟨b, 0, none⟩) n n] 37)
  have hE : Hid (Ext w (w.alloc (.cells #[.int .i64 P, .int .i64 R, .int .i64 C, .slice (some ⟨b, 0, none⟩) n n] 37))) := (Ext.refl w).alloc _
  clear hh hl c1 c2 hr1 hr2 hap hn hne
  go_enter Try.func142, Try.ntmps142
  go_wp2_with fail
  generalize hW : w.alloc (.cells #[.int .i64 P, .int .i64 R, .int .i64 C, .slice (some ⟨b, 0, none⟩) n n] 37) = W at A hE ⊢
  clear hW
  have lA := A.out.1
  have q0 := A.out.2 0 _ rfl
  have q1 := A.out.2 1 _ rfl
  have q2 := A.out.2 2 _ rfl
  have q3 := A.out.2 3 _ rfl
  go_region_held3 (fun w' => Ext W w' ∧ (∀ b o, b < W.heap.size → w'.cell? ⟨b, o, none⟩ = W.cell? ⟨b, o, none⟩)) (first | (with_reducible exact ext2 (Ext.trans (And.left ‹Ext W _ ∧ _›) ‹Ext _ _›)) | (refine ext2 ?_; with_reducible repeat (first | exact Ext.refl _ | refine Ext.drew ?_))) (first
    | (go_at_call 111; with_reducible refine (HC1.out _).mono ?_; rintro e w1 ⟨rfl, h1⟩)
    | (go_at_call 111; with_reducible refine (HC2.out _).mono ?_; rintro e w2 ⟨rfl, h2⟩))
  have hE2 : Hid (Ext w w2) := hE.out.trans (And.left ‹Ext W w2 ∧ _›)
  have HH2 := Lib.hid (HH.out.ext hE2.out)
  have c2 : w2.cell? ⟨w.heap.size, 2, none⟩ = some (.int .i64 C) := ((‹Ext W w2 ∧ _› : Ext W w2 ∧ ∀ (b o : Nat), b < W.heap.size → w2.cell? ⟨b, o, none⟩ = W.cell? ⟨b, o, none⟩).2 _ 2 lA).trans q2
  clear lA q0 q1 q2 q3 h1 h2 A hE HH HC1 HC2
  go_wp2_with fail
  clear c2
  go_loopw [17, 8] (fun z _ wr => ∃ j : Nat, j ≤ C ∧ z = .int .i64 j ∧ Hid (Has wr b (swTo (s * C) (r * C) l j)) ∧ Hid (w.grownBy wr (some b))) (fun z _ _ => C - (intOf z).toNat)
  case atStart => exact ⟨0, by omega, rfl, HH2.out, ext_grownBy hE2.out _⟩
  case round =>
    obtain ⟨j, hj, rfl, h1, h2⟩ := hrel
    by_cases hlt2 : j < C
    · have hC : C ≤ 1048576 := by have := HP1.out; omega
      have hA : Apart (s * C) (r * C) C := by rcases HAP.out with h | h <;> simp only [Apart] <;> omega
      have g1 : s * C + j < n := by have := HP2.out; omega
      have g2 : r * C + j < n := by have := HP1.out; omega
      have hll : (swTo (s * C) (r * C) l j).length = n := by rw [swTo_length]; exact HL.out
      have x1 := h1.out.cell (s * C + j) (by omega)
      have x2 := h1.out.cell (r * C + j) (by omega)
      rw [gi_swTo_out _ _ C _ (by rw [HL.out]; exact HP2.out) (by rw [HL.out]; exact HP1.out) _ _ hj (by omega) (by rcases HAP.out with h | h <;> omega)] at x1
      rw [gi_swTo_out _ _ C _ (by rw [HL.out]; exact HP2.out) (by rw [HL.out]; exact HP1.out) _ _ hj (by rcases HAP.out with h | h <;> omega) (by omega)] at x2
      have f1 := h1.out.free (s * C + j)
      have f2 := h1.out.free (r * C + j)
      have hne : s * C + j ≠ r * C + j := by rcases HAP.out with h | h <;> omega
      have N2 : Hid (Has ((wr.setCell ⟨b, r * C + j, none⟩ (.int .i64 (gi l (s * C + j)))).setCell ⟨b, s * C + j, none⟩ (.int .i64 (gi l (r * C + j)))) b (swTo (s * C) (r * C) l (j + 1))) := by
        have := (h1.out.set (r * C + j) (by omega) (gi l (s * C + j))).set (s * C + j) (by rw [List.length_set]; omega) (gi l (r * C + j))
        rw [List.set_comm _ _ (Ne.symm hne)] at this
        exact this
      have N3 : ∀ p q u v, p.block = b → q.block = b → Hid (w.grownBy ((wr.setCell p u).setCell q v) (some b)) := fun p q u v hp hq => grownBy_set (grownBy_set h2.out (by rw [hp]) u) (by rw [hq]) v
      have HN3 := Lib.hid N3
      clear h1 h2 N3 hA hll g1 g2
      go_wp2_with fail
      go_region
      go_wp2
      exact ⟨⟨j + 1, by omega, by simp, N2.out.ext (Ext.refl _).drew, grownBy_ext (HN3.out ⟨b, r * C + j, none⟩ ⟨b, s * C + j, none⟩ _ _ rfl rfl).out (Ext.refl _).drew⟩, by simp [intOf]; omega⟩
    · obtain rfl : j = C := by omega
      go_wp2
      go_end0
      exact ⟨rfl, h1.out, h2.out⟩
end Go.Proofs.Ytnikfalpjieibaa

/-
  The first number other than 0; lists that are compared; lists of zeros.
-/
namespace Go.Proofs.Ytnikfalpjieibaa
open Go.RowKit
set_option linter.unusedVariables false

/-- The first place from k on with a number other than 0, or the length. -/
def fz (xs : List Int) (k : Nat) : Nat := if k < xs.length then (if gi xs k = 0 then fz xs (k + 1) else k) else xs.length
termination_by xs.length - k
theorem fz_zero {xs : List Int} {k : Nat} (h : k < xs.length) (h0 : gi xs k = 0) : fz xs k = fz xs (k + 1) := by rw [fz, if_pos h, if_pos h0]
theorem fz_here {xs : List Int} {k : Nat} (h : k < xs.length) (h0 : gi xs k ≠ 0) : fz xs k = k := by rw [fz, if_pos h, if_neg h0]
theorem fz_end {xs : List Int} {k : Nat} (h : xs.length ≤ k) : fz xs k = xs.length := by rw [fz, if_neg (by omega)]
theorem fz_spec (xs : List Int) : ∀ d k, xs.length - k = d → k ≤ xs.length → k ≤ fz xs k ∧ fz xs k ≤ xs.length ∧ (∀ i, k ≤ i → i < fz xs k → gi xs i = 0) ∧ (fz xs k < xs.length → gi xs (fz xs k) ≠ 0) := by
  intro d
  induction d with
  | zero =>
    intro k h1 h2
    obtain rfl : k = xs.length := by omega
    rw [fz_end (Nat.le_refl _)]
    exact ⟨Nat.le_refl _, Nat.le_refl _, fun i h h' => by omega, fun h => by omega⟩
  | succ d ih =>
    intro k h1 h2
    have hk : k < xs.length := by omega
    by_cases h0 : gi xs k = 0
    · rw [fz_zero hk h0]
      obtain ⟨a, b, e, f⟩ := ih (k + 1) (by omega) (by omega)
      refine ⟨by omega, b, fun i h h' => ?_, f⟩
      by_cases hi : i = k
      · subst hi; exact h0
      · exact e i (by omega) h'
    · rw [fz_here hk h0]
      exact ⟨Nat.le_refl _, by omega, fun i h h' => by omega, fun _ => h0⟩
/-- What 'firstNonzero' answers. -/
def fzR (xs : List Int) : Int := if fz xs 0 = xs.length then -1 else (fz xs 0 : Int)
theorem fz_le (xs : List Int) : fz xs 0 ≤ xs.length := (fz_spec xs _ 0 rfl (Nat.zero_le _)).2.1
theorem fz_all (xs : List Int) : fz xs 0 = xs.length ↔ ∀ i, i < xs.length → gi xs i = 0 := by
  obtain ⟨a, b, c, d⟩ := fz_spec xs _ 0 rfl (Nat.zero_le _)
  constructor
  · intro h i hi
    exact c i (Nat.zero_le _) (by omega)
  · intro h
    apply Classical.byContradiction
    intro hne
    exact d (by omega) (h _ (by omega))

set_option maxHeartbeats 400000 in
theorem nonzero_fn (x : Int) (w : World) : Calls Try.prog 139 #[.int .i64 x] w fun e w' => e = .returned (.bool (x != 0)) ∧ w = w' := by
  go_enter Try.func139, Try.ntmps139
  go_wp2
  go_ret
  exact ⟨rfl, rfl⟩

set_option maxHeartbeats 800000 in
theorem indexFunc_fn (a : Option Addr) (n c : Nat) (xs : List Int) (w : World) (hr : Reads w a n xs) (hm : n ≤ maxLen) :
    Calls Try.prog 138 #[.slice a n c, .func (.func 139) #[] #[]] w fun e w' => e = .returned (.int .i64 (fzR xs)) ∧ w = w' := by
  have hl := Lib.hid hr.1
  have HR := Lib.hid hr.2
  unfold maxLen at hm
  clear hr
  go_enter Try.func138, Try.ntmps138
  go_wp2
  go_loop [8, 5] (fun z _ => ∃ k : Nat, k ≤ n ∧ z = .int .i64 k ∧ Hid (fz xs 0 = fz xs k)) (fun z _ => n - (intOf z).toNat)
  case atStart => exact ⟨0, by omega, rfl, rfl⟩
  case round =>
    obtain ⟨k, hk, rfl, hf⟩ := hrel
    by_cases hlt : k < n
    · rcases HR.out with h | ⟨b, off, rfl, hb, hc⟩
      · omega
      have hc1 := hc k hlt
      have hlx : k < xs.length := by rw [hl.out]; exact hlt
      have HZ := Lib.hid (@fz_zero xs k hlx)
      have HH := Lib.hid (@fz_here xs k hlx)
      clear hc
      go_wp2_with fail
      refine (nonzero_fn _ _).mono ?_
      rintro e w' ⟨rfl, rfl⟩
      by_cases h0 : gi xs k = 0
      · have hb0 : (gi xs k != 0) = false := by simpa using h0
        have HF : Hid (fz xs 0 = fz xs (k + 1)) := hf.out.trans (HZ.out h0)
        clear h0
        go_wp2
        exact ⟨⟨k + 1, by omega, by simp, HF⟩, by simp [intOf]; omega⟩
      · have hb0 : (gi xs k != 0) = true := by simpa using h0
        have HF : Hid (fzR xs = (k : Int)) := by rw [Hid, fzR, hf.out, HH.out h0, if_neg (by omega)]
        clear h0
        go_wp2
        go_ret
        exact ⟨ret_int HF.out.symm, rfl⟩
    · obtain rfl : k = n := by omega
      have HF : Hid (fzR xs = -1) := by rw [Hid, fzR, hf.out, fz_end (by rw [hl.out]; exact Nat.le_refl _), if_pos rfl]
      go_wp2
      go_ret
      exact ⟨ret_int HF.out.symm, rfl⟩

set_option maxHeartbeats 400000 in
theorem firstNonzero_impl (a : Option Addr) (n c : Nat) (xs : List Int) (w : World) (hr : Reads w a n xs) (hm : n ≤ maxLen) :
    Calls Try.prog 127 #[.slice a n c] w fun e w' => e = .returned (.int .i64 (fzR xs)) ∧ w = w' := by
  have H := Lib.hid (indexFunc_fn a n c xs w hr hm)
  clear hr hm
  go_enter Try.func127, Try.ntmps127
  go_wp2_with fail
  refine H.out.mono ?_
  rintro e w' ⟨rfl, rfl⟩
  go_wp2
  go_ret
  exact ⟨rfl, rfl⟩

/-- All numbers are 0. -/
def zeroB (xs : List Int) : Bool := decide (fz xs 0 = xs.length)
set_option maxHeartbeats 800000 in
theorem l1IsZero_spec (a : Option Addr) (n c : Nat) (xs : List Int) (w : World) (hr : Reads w a n xs) (hm : n ≤ maxLen) :
    Calls Try.prog 121 #[.slice a n c] w fun e w' => e = .returned (.bool (zeroB xs)) ∧ w = w' := by
  have hl := Lib.hid hr.1
  have HR := Lib.hid hr.2
  unfold maxLen at hm
  clear hr
  go_enter Try.func121, Try.ntmps121
  go_wp2
  go_loop [3] (fun z => ∃ k : Nat, k ≤ n ∧ z = .int .i64 k ∧ Hid (fz xs 0 = fz xs k)) (fun z => n - (intOf z).toNat)
  case atStart => exact ⟨0, by omega, rfl, rfl⟩
  case round =>
    obtain ⟨k, hk, rfl, hf⟩ := hrel
    by_cases hlt : k < n
    · rcases HR.out with h | ⟨b, off, rfl, hb, hc⟩
      · omega
      have hc1 := hc k hlt
      have hlx : k < xs.length := by rw [hl.out]; exact hlt
      have HZ := Lib.hid (@fz_zero xs k hlx)
      have HH := Lib.hid (@fz_here xs k hlx)
      clear hc
      by_cases h0 : gi xs k = 0
      · have hb0 : (gi xs k != 0) = false := by simpa using h0
        have HF : Hid (fz xs 0 = fz xs (k + 1)) := hf.out.trans (HZ.out h0)
        clear h0
        go_wp2
        exact ⟨⟨k + 1, by omega, by simp, HF⟩, by simp [intOf]; omega⟩
      · have hb0 : (gi xs k != 0) = true := by simpa using h0
        have HF : Hid (zeroB xs = false) := by simp only [Hid, zeroB, hf.out, HH.out h0]; exact decide_eq_false (by omega)
        clear h0
        go_wp2
        go_ret
        exact ⟨ret_bool HF.out.symm, rfl⟩
    · obtain rfl : k = n := by omega
      have HF : Hid (zeroB xs = true) := by simp only [Hid, zeroB, hf.out, fz_end (show xs.length ≤ k by rw [hl.out]; exact Nat.le_refl _), decide_true]
      go_wp2
      go_ret
      exact ⟨ret_bool HF.out.symm, rfl⟩

/-- Lists that are compared place by place. -/
def sameB (xs ys : List Int) : Bool := decide (xs = ys)
set_option maxHeartbeats 800000 in
theorem l1Same_spec (a a' : Option Addr) (n n' c c' : Nat) (xs ys : List Int) (w : World) (hr : Reads w a n xs) (hr' : Reads w a' n' ys) (hm : n ≤ 1048576) (hm' : n' ≤ 1048576) :
    Calls Try.prog 95 #[.slice a n c, .slice a' n' c'] w fun e w' => e = .returned (.bool (sameB xs ys)) ∧ ∃ m, w' = w.drewN m := by
  have hl := Lib.hid hr.1
  have hl' := Lib.hid hr'.1
  have HR := Lib.hid hr.2
  have HR' := Lib.hid hr'.2
  clear hr hr'
  by_cases hnn : n = n'
  case neg =>
    have hb : ((n : Int) != (n' : Int)) = true := by simp; omega
    have HF : Hid (sameB xs ys = false) := by
      refine decide_eq_false (fun e => hnn ?_)
      rw [← hl.out, ← hl'.out, e]
    clear hnn
    go_enter Try.func95, Try.ntmps95
    go_wp2
    go_ret
    exact ⟨ret_bool HF.out.symm, 0, rfl⟩
  subst hnn
  go_enter Try.func95, Try.ntmps95
  go_wp2
  go_loopw [5] (fun z wr => ∃ (k m : Nat), k ≤ n ∧ z = .int .i64 k ∧ wr = w.drewN m ∧ Hid (∀ i, i < k → gi xs i = gi ys i)) (fun z _ => n - (intOf z).toNat)
  case atStart => exact ⟨0, 0, by omega, rfl, rfl, fun i hi => by omega⟩
  case round =>
    obtain ⟨k, m, hk, rfl, rfl, hf⟩ := hrel
    by_cases hlt : k < n
    · rcases HR.out with h | ⟨b, off, rfl, hb, hc⟩
      · omega
      rcases HR'.out with h | ⟨b', off', rfl, hb', hc'⟩
      · omega
      have hc1 := hc k hlt
      have hc2 := hc' k hlt
      have hlt' : (k : Int) < (n : Int) := by omega
      clear hc hc'
      by_cases h0 : gi xs k = gi ys k
      · have hb0 : (gi xs k != gi ys k) = false := by simpa using h0
        have HF : Hid (∀ i, i < k + 1 → gi xs i = gi ys i) := fun i hi => by
          by_cases e : i = k
          · subst e; exact h0
          · exact hf.out i (by omega)
        clear h0
        go_wp2
        go_quiet (fail)
        go_wp2
        exact ⟨⟨k + 1, m + nq, by omega, by simp, by simp, HF⟩, by simp [intOf]; omega⟩
      · have hb0 : (gi xs k != gi ys k) = true := by simpa using h0
        have HF : Hid (sameB xs ys = false) := decide_eq_false (fun e => h0 (by rw [e]))
        clear h0
        go_wp2
        go_quiet (fail)
        go_wp2
        go_ret
        exact ⟨ret_bool HF.out.symm, m + nq, by simp⟩
    · obtain rfl : k = n := by omega
      have HF : Hid (sameB xs ys = true) := decide_eq_true (ext_gi (by rw [hl.out, hl'.out]) (fun i hi => hf.out i (by rw [hl.out] at hi; exact hi)))
      go_wp2
      go_ret
      exact ⟨ret_bool HF.out.symm, m, rfl⟩
end Go.Proofs.Ytnikfalpjieibaa

/-
  A column cleared: the program's.
-/
namespace Go.Proofs.Ytnikfalpjieibaa
open Go.RowKit
set_option linter.unusedVariables false

/-- In a call that began in w: a box of the call's own, and a block that was there and that is written. -/
structure InP (w wr : World) (B b : Nat) (vs : List Value) (l : List Int) : Prop where
  box : Cells wr B vs
  has : Has wr b l
  gr : w.grownBy wr (some b)
  ne : B ≠ b
theorem InP.set {w wr : World} {B b : Nat} {vs : List Value} {l : List Int} (h : InP w wr B b vs l) (j : Nat) (hj : j < l.length) (v : Int) : InP w (wr.setCell ⟨b, j, none⟩ (.int .i64 v)) B b vs (l.set j v) :=
  ⟨h.box.grown (grownBy_set (p := ⟨b, j, none⟩) (grownBy_refl wr (some b)) rfl _) (fun k hk => by simp at hk; have := h.ne; omega), h.has.set j hj v, grownBy_set (p := ⟨b, j, none⟩) h.gr rfl _, h.ne⟩
theorem InP.step {w wr wr' : World} {B b : Nat} {vs : List Value} {l : List Int} (h : InP w wr B b vs l) (hE : Ext wr wr') : InP w wr' B b vs l :=
  ⟨h.box.ext hE, h.has.ext hE, grownBy_ext h.gr hE, h.ne⟩
theorem InP.drew {w wr : World} {B b : Nat} {vs : List Value} {l : List Int} (h : InP w wr B b vs l) : InP w wr.drew B b vs l := h.step (Ext.refl _).drew
theorem InP.row {w wr wr' : World} {B b : Nat} {vs : List Value} {l l' : List Int} (h : InP w wr B b vs l) (hh : Has wr' b l') (hg : wr.grownBy wr' (some b)) : InP w wr' B b vs l' :=
  ⟨h.box.grown hg (fun k hk => by simp at hk; have := h.ne; omega), hh, grownBy_trans h.gr hg, h.ne⟩

theorem clOne_skip {P : Int} {C r c i : Nat} {m : List Int} (h : i = r ∨ gi m (i * C + c) = 0) : clOne P C r c i m = m := if_pos h
theorem clOne_ax {P : Int} {C r c i : Nat} {m : List Int} (h1 : i ≠ r) (h2 : gi m (i * C + c) ≠ 0) (hP : gi m (i * C + c) < P) : clOne P C r c i m = axL P (P - gi m (i * C + c)) m (i * C) (r * C) C m := by
  rw [clOne, if_neg (fun h => h.elim h1 h2), axL, if_neg (by omega)]

set_option maxRecDepth 100000 in
set_option maxHeartbeats 3200000 in
theorem clearColumn_impl (P : Int) (R C r c b n : Nat) (l : List Int) (w : World) (hh : Has w b l) (hl : l.length = n) (hn : n = R * C) (hb : n ≤ 1048576) (hr : r < R) (hc : c < C) (hR : R ≤ 1048576) (hp : 2 ≤ P) (hp2 : P ≤ 10007) (hx : Res l P) :
    Calls Try.prog 143 #[.agg #[.int .i64 P, .int .i64 R, .int .i64 C, .slice (some ⟨b, 0, none⟩) n n], .int .i64 r, .int .i64 c] w fun e w' => e = .returned (.tuple #[]) ∧ Has w' b (clTo P C r c (scTo P (inv (gi l (r * C + c)) P) (r * C) l C) R) ∧ w.grownBy w' (some b) := by
  have HL := Lib.hid hl
  have HX := Lib.hid hx
  have hr1 := row_lt (C := C) hr
  rw [← hn] at hr1
  have HP1 := Lib.hid hr1
  have hC : C ≤ 1048576 := by omega
  have HN := Lib.hid hn
  have L0 : Hid (InP w (w.alloc (.cells #[.int .i64 P, .int .i64 R, .int .i64 C, .slice (some ⟨b, 0, none⟩) n n] 37)) w.heap.size b [.int .i64 P, .int .i64 R, .int .i64 C, .slice (some ⟨b, 0, none⟩) n n] l) :=
    ⟨cells_new _ _ _, hh.alloc _, ext_grownBy ((Ext.refl w).alloc _) _, by have := hh.lt; omega⟩
  clear hl hx hr1 hn hh
  go_enter Try.func143, Try.ntmps143
  go_wp2_with fail
  generalize hW : w.alloc (.cells #[.int .i64 P, .int .i64 R, .int .i64 C, .slice (some ⟨b, 0, none⟩) n n] 37) = W at L0 ⊢
  clear hW
  have lA := L0.out.box.1
  have q0 := L0.out.box.2 0 _ rfl
  have q1 := L0.out.box.2 1 _ rfl
  have q2 := L0.out.box.2 2 _ rfl
  have q3 := L0.out.box.2 3 _ rfl
  go_wp2_with fail
  refine (rowOf_impl P R C r b 0 n _ (row_n hr HN.out) hb (by omega)).mono ?_
  rintro e w1 ⟨rfl, h1⟩
  clear lA q0 q1 q2 q3
  have L1 := Lib.hid (L0.out.step h1)
  clear L0 h1
  have lA := L1.out.box.1
  have q0 := L1.out.box.2 0 _ rfl
  have lB := L1.out.has.lt
  have hx0 := L1.out.has.cell (r * C + c) (by have := HL.out; have := HP1.out; omega)
  obtain ⟨x0, x1⟩ := HX.out (r * C + c) (by have := HL.out; have := HP1.out; omega)
  simp only [Nat.zero_add]
  go_wp2_with fail
  go_region_held3 (fun w' => Ext w1 w' ∧ (∀ b o, b < w1.heap.size → w'.cell? ⟨b, o, none⟩ = w1.cell? ⟨b, o, none⟩)) (first | (with_reducible exact ext2 (Ext.trans (And.left ‹Ext w1 _ ∧ _›) ‹Ext _ _›)) | (refine ext2 ?_; with_reducible repeat (first | exact Ext.refl _ | refine Ext.drew ?_)) | assumption) (first
    | (go_at_call 146; with_reducible refine (inverse_impl _ _ _ hp hp2 x0 x1).mono ?_; rintro e w2 ⟨rfl, rfl⟩))
  have L2 := Lib.hid L1.out.drew
  have hi0 : 0 ≤ inv (gi l (r * C + c)) P ∧ inv (gi l (r * C + c)) P < P := by
    unfold inv; split
    · omega
    · exact ⟨powm_lo _ _ _ (by omega), powm_hi _ _ _ (by omega)⟩
  obtain ⟨i0, i1⟩ := hi0
  generalize hk : inv (gi l (r * C + c)) P = k at i0 i1 ⊢
  have HK := Lib.hid hk
  clear hk
  clear lA lB q0 hx0 x0 x1 L1
  obtain ⟨W1, rfl⟩ : ∃ W1 : World, W1 = w1.drew := ⟨_, rfl⟩
  go_wp2_with fail
  go_loopw [23, 8] (fun z _ wr => ∃ j : Nat, j ≤ C ∧ z = .int .i64 j ∧ Hid (InP w wr w.heap.size b [.int .i64 P, .int .i64 R, .int .i64 C, .slice (some ⟨b, 0, none⟩) n n] (scTo P k (r * C) l j))) (fun z _ _ => C - (intOf z).toNat)
  case atStart => exact ⟨0, by omega, rfl, L2⟩
  case round =>
    obtain ⟨j, hj, rfl, L⟩ := hrel
    by_cases hlt2 : j < C
    · have lA := L.out.box.1
      have q0 := L.out.box.2 0 _ rfl
      have x1 := L.out.has.cell (r * C + j) (by rw [scTo_length, HL.out]; have := HP1.out; omega)
      rw [gi_scTo_out _ _ _ C _ (by rw [HL.out]; exact HP1.out) _ _ hj (by omega)] at x1
      have f1 := L.out.has.free (r * C + j)
      obtain ⟨y0, y1⟩ := HX.out (r * C + j) (by have := HL.out; have := HP1.out; omega)
      have m0 := Int.mul_nonneg y0 i0
      have m1 := mul_hi y0 y1 i0 i1 hp2
      have N : Hid (InP w (wr.setCell ⟨b, r * C + j, none⟩ (.int .i64 (gi l (r * C + j) * k % P))) w.heap.size b [.int .i64 P, .int .i64 R, .int .i64 C, .slice (some ⟨b, 0, none⟩) n n] (scTo P k (r * C) l (j + 1))) := L.out.set (r * C + j) (by rw [scTo_length, HL.out]; have := HP1.out; omega) _
      clear L
      go_wp2_with fail
      go_region
      go_wp2
      exact ⟨⟨j + 1, by omega, by simp, N.out.drew⟩, by simp [intOf]; omega⟩
    · obtain rfl : C = j := by omega
      have L1 : Hid (InP w wr w.heap.size b [.int .i64 P, .int .i64 R, .int .i64 C, .slice (some ⟨b, 0, none⟩) n n] (clTo P C r c (scTo P k (r * C) l C) 0)) := L
      have HL1 : Hid ((scTo P k (r * C) l C).length = n) := by rw [Hid, scTo_length]; exact HL.out
      have HX1 : Hid (Res (scTo P k (r * C) l C) P) := scTo_res _ _ _ _ (by omega) HX.out _
      generalize hl1 : scTo P k (r * C) l C = l1 at L1 HL1 HX1 ⊢
      have HLE := Lib.hid hl1
      clear hl1
      clear L L2 hlt2
      have lA := L1.out.box.1
      have q1 := L1.out.box.2 1 _ rfl
      go_wp2_with fail
      clear lA q1
      obtain ⟨W2, rfl⟩ : ∃ W2 : World, W2 = wr := ⟨_, rfl⟩
      go_loopw [41, 9, 10] (fun z _ _ wr => ∃ i : Nat, i ≤ R ∧ z = .int .i64 i ∧ Hid (InP w wr w.heap.size b [.int .i64 P, .int .i64 R, .int .i64 C, .slice (some ⟨b, 0, none⟩) n n] (clTo P C r c l1 i))) (fun z _ _ _ => R - (intOf z).toNat)
      case atStart => exact ⟨0, by omega, rfl, L1⟩
      case round =>
        obtain ⟨i, hi, rfl, L⟩ := hrel
        by_cases hlt2 : i < R
        · have HLm : Hid ((clTo P C r c l1 i).length = n) := by rw [Hid, clTo_length]; exact HL1.out
          have HXm : Hid (Res (clTo P C r c l1 i) P) := clTo_res _ _ _ _ _ _ (by omega) HX1.out
          have HS : Hid (clTo P C r c l1 (i + 1) = clOne P C r c i (clTo P C r c l1 i)) := rfl
          generalize clTo P C r c l1 i = lm at L HLm HXm HS ⊢
          have hpl := place_lt hlt2 hc
          have hri := Lib.hid (row_lt (C := C) hlt2)
          have lA := L.out.box.1
          have q0 := L.out.box.2 0 _ rfl
          have q2 := L.out.box.2 2 _ rfl
          have q3 := L.out.box.2 3 _ rfl
          have x1 := L.out.has.cell (i * C + c) (by rw [HLm.out, HN.out]; exact hpl)
          obtain ⟨y0, y1⟩ := HXm.out (i * C + c) (by rw [HLm.out, HN.out]; exact hpl)
          have e1 : (i : Int) * (C : Int) = ((i * C : Nat) : Int) := by simp
          have g1 : 0 ≤ (i : Int) * (C : Int) := by rw [e1]; omega
          have g2 : (i : Int) * (C : Int) + (c : Int) < (n : Int) := by rw [e1, HN.out]; omega
          have g3 : 0 ≤ (i : Int) * (C : Int) + (c : Int) := by omega
          clear e1 hpl
          by_cases hir : i = r
          · have N : Hid (InP w wr w.heap.size b [.int .i64 P, .int .i64 R, .int .i64 C, .slice (some ⟨b, 0, none⟩) n n] (clTo P C r c l1 (i + 1))) := by rw [HS.out, clOne_skip (.inl hir)]; exact L
            have hb1 : ((i : Int) != (r : Int)) = false := by subst hir; simp
            clear hir
            go_wp2
            exact ⟨⟨i + 1, by omega, by simp, N⟩, by simp [intOf]; omega⟩
          · have hb1 : ((i : Int) != (r : Int)) = true := by simp; omega
            by_cases hz : gi lm (i * C + c) = 0
            · have N : Hid (InP w wr w.heap.size b [.int .i64 P, .int .i64 R, .int .i64 C, .slice (some ⟨b, 0, none⟩) n n] (clTo P C r c l1 (i + 1))) := by rw [HS.out, clOne_skip (.inr hz)]; exact L
              have hb2 : (gi lm (i * C + c) != 0) = false := by simpa using hz
              clear hz
              go_wp2
              exact ⟨⟨i + 1, by omega, by simp, N⟩, by simp [intOf]; omega⟩
            · have hb2 : (gi lm (i * C + c) != 0) = true := by simpa using hz
              have HS2 : Hid (clTo P C r c l1 (i + 1) = axL P (P - gi lm (i * C + c)) lm (i * C) (r * C) C lm) := by rw [Hid, HS.out, clOne_ax hir hz y1]
              have z0 : 0 ≤ P - gi lm (i * C + c) := by omega
              have z1 : P - gi lm (i * C + c) < P := by omega
              have hap := Lib.hid (rows_apart (C := C) hir)
              have nA := L.out.ne
              have q1 := L.out.box.2 1 _ rfl
              have HC1 : Hid (∀ w3, Calls Try.prog 111 #[.agg #[.int .i64 P, .int .i64 R, .int .i64 C, .slice (some ⟨b, 0, none⟩) n n], .int .i64 i] w3 fun e w' => e = .returned (.slice (some ⟨b, i * C, none⟩) C (n - i * C)) ∧ Ext w3 w') := fun w3 => by
                have := rowOf_impl P R C i b 0 n w3 (row_n hlt2 HN.out) hb (by omega)
                rwa [Nat.zero_add] at this
              have HC2 : Hid (∀ w3, Ext wr.drew w3 → Calls Try.prog 101 #[.slice (some ⟨b, i * C, none⟩) C (n - i * C), .int .i64 (P - gi lm (i * C + c)), .slice (some ⟨b, r * C, none⟩) C (n - r * C), .int .i64 P] w3 fun e w' => e = .returned (.tuple #[]) ∧ Has w' b (axL P (P - gi lm (i * C + c)) lm (i * C) (r * C) C lm) ∧ w3.grownBy w' (some b)) := fun w3 hE =>
                addToRow_impl b (i * C) C _ (P - gi lm (i * C + c)) b (r * C) _ lm (r * C) P lm w3 (L.out.drew.step hE).has (by omega) (by rw [HLm.out, HN.out]; exact hri.out) (fun wz l' hg hz ho hl' j hj => by
                    have hq := hz.cell (r * C + j) (by rw [hl', HLm.out]; have := HP1.out; omega)
                    rw [ho _ (by rcases hap.out with h | h <;> omega)] at hq
                    exact hq) hp hp2 z0 z1 (fun j hj => HXm.out _ (by rw [HLm.out, HN.out]; have := hri.out; omega)) (fun j hj => HXm.out _ (by rw [HLm.out]; have := HP1.out; omega))
              clear hz hir
              go_wp2_with fail
              have v1 : IntKind.i64.wrap (P - gi lm (i * C + c)) = P - gi lm (i * C + c) := IntWalk.i64_in _ ⟨by omega, by omega⟩
              go_region_held3 (fun w' => wr.grownBy w' (some b) ∧ ∀ B o, B ≠ b → B < wr.heap.size → w'.cell? ⟨B, o, none⟩ = wr.cell? ⟨B, o, none⟩) (first | exact keptB_refl _ _ | exact keptB_drew | (with_reducible exact keptB_call ‹wr.grownBy _ (some b) ∧ _› ‹Ext _ _›) | (with_reducible exact keptB_grown ‹wr.grownBy _ (some b) ∧ _› ‹World.grownBy _ _ (some b)›)) (first
                | (go_at_call 111; with_reducible refine (HC1.out _).mono ?_; rintro e w3 ⟨rfl, hE⟩)
                | (go_at_call 101; with_reducible refine (HC2.out _ hE).mono ?_; rintro e w4 ⟨rfl, hh4, hg4⟩))
              clear v1
              have N : Hid (InP w w4 w.heap.size b [.int .i64 P, .int .i64 R, .int .i64 C, .slice (some ⟨b, 0, none⟩) n n] (clTo P C r c l1 (i + 1))) := by
                rw [HS2.out]; exact ((L.out.drew.step hE).row hh4 hg4)
              clear L hE hh4 hg4
              go_wp2
              exact ⟨⟨i + 1, by omega, by simp, N⟩, by simp [intOf]; omega⟩
        · obtain rfl : i = R := by omega
          go_wp2
          go_end0
          exact ⟨rfl, by have := L.out.has; rw [← HLE.out, ← HK.out] at this; exact this, L.out.gr⟩
end Go.Proofs.Ytnikfalpjieibaa
