/-
  Tables behind a pointer: the program's methods that only read.
-/
import Derived.Test.YtgmipolgnpjmnaaJacP
import Derived.Deep.RegionHeld3
import Derived.Deep.QuietTactic
import Derived.BigQuiet
import Derived.Lib.SliceRun
import Derived.BigFrame
namespace Go.Proofs.Ytgmipolgnpjmnaa
open Go.ChangeShapes Go.WideShapes Go.ChangeAt Go.RowKit
set_option linter.unusedVariables false

theorem place3 {D i j : Nat} (hi : i < D) (hj : j < D) : (i * D + j) * D + D ≤ D * D * D := by
  have := tb_lt (k := D - 1) hi hj (by omega); omega
theorem cube28 {D : Nat} (h : D ≤ 28) : D * D * D ≤ 21952 := Nat.mul_le_mul (Nat.mul_le_mul h h) h

set_option maxRecDepth 100000 in
set_option maxHeartbeats 1600000 in
theorem bracket_impl (P : Int) (D B a0 oa n d i j : Nat) (w : World) (hc : Cells w B [.int .i64 P, .int .i64 D, .slice (some ⟨a0, oa, none⟩) n d]) (hD : D ≤ 28) (hn : n = D * D * D) (hd : n ≤ d) (hd2 : d ≤ maxLen) (hi : i < D) (hj : j < D) :
    Calls Try.prog 112 #[.pointer (some ⟨B, 0, none⟩), .int .i64 i, .int .i64 j] w fun e w' => e = .returned (.slice (some ⟨a0, oa + (i * D + j) * D, none⟩) D (d - (i * D + j) * D)) ∧ Ext w w' := by
  have h3 := place3 hi hj
  have h28 := cube28 hD
  rw [← hn] at h3 h28
  unfold maxLen at hd2
  have e1 : (i : Int) * (D : Int) = ((i * D : Nat) : Int) := by simp
  have e2 : (i : Int) * (D : Int) + (j : Int) = ((i * D + j : Nat) : Int) := by simp
  have e3 : ((i : Int) * (D : Int) + (j : Int)) * (D : Int) = (((i * D + j) * D : Nat) : Int) := by rw [e2]; simp
  have k1 : i * D ≤ 21952 := by have := Nat.mul_le_mul_left (i * D) (show 1 ≤ D by omega); rw [Nat.add_mul] at h3; omega
  have g1 : 0 ≤ (i : Int) * (D : Int) := by rw [e1]; omega
  have g2 : (i : Int) * (D : Int) ≤ 21952 := by rw [e1]; omega
  have g3 : 0 ≤ ((i : Int) * (D : Int) + (j : Int)) * (D : Int) := by rw [e3]; omega
  have g4 : ((i : Int) * (D : Int) + (j : Int)) * (D : Int) ≤ 21952 := by rw [e3]; omega
  have g5 : ((i : Int) * (D : Int) + (j : Int)) * (D : Int) + (D : Int) ≤ (d : Int) := by rw [e3]; omega
  have g6 : ((i : Int) * (D : Int) + (j : Int)) * (D : Int) < (d : Int) := by rw [e3]; omega
  have v1 : IntKind.i64.wrap ((i : Int) * (D : Int)) = (i : Int) * (D : Int) := IntWalk.i64_in _ ⟨by omega, by omega⟩
  have v2 : IntKind.i64.wrap ((i : Int) * (D : Int) + (j : Int)) = (i : Int) * (D : Int) + (j : Int) := IntWalk.i64_in _ ⟨by omega, by omega⟩
  have v3 : IntKind.i64.wrap (((i : Int) * (D : Int) + (j : Int)) * (D : Int)) = ((i : Int) * (D : Int) + (j : Int)) * (D : Int) := IntWalk.i64_in _ ⟨by omega, by omega⟩
  have v4 : IntKind.i64.wrap (((i : Int) * (D : Int) + (j : Int)) * (D : Int) + (D : Int)) = ((i : Int) * (D : Int) + (j : Int)) * (D : Int) + (D : Int) := IntWalk.i64_in _ ⟨by omega, by omega⟩
  have lB := hc.1
  have q1 := hc.2 1 _ rfl
  have q2 := hc.2 2 _ rfl
  have E3 := Lib.hid e3
  have K3 := Lib.hid h3
  clear e1 e2 e3 hn h3
  go_enter Try.func112, Try.ntmps112
  go_wp2_with fail
  go_quiet (fail)
  go_wp2_with fail
  go_quiet (fail)
  go_wp2
  go_ret
  exact ⟨by rw [Nat.add_sub_cancel_left]; rfl, by with_reducible repeat (first | exact Ext.refl _ | refine Ext.drewN ?_ _)⟩

/-- Lists whose sums are 0. -/
def OppP (P : Int) (n : Nat) (xs ys : List Int) : Prop := ∀ k, k < n → (gi xs k + gi ys k) % P = 0
noncomputable def oppB (P : Int) (n : Nat) (xs ys : List Int) : Bool := @decide (OppP P n xs ys) (Classical.propDecidable _)
theorem oppB_true {P : Int} {n : Nat} {xs ys : List Int} (h : OppP P n xs ys) : oppB P n xs ys = true := by simp [oppB, h]
theorem oppB_false {P : Int} {n : Nat} {xs ys : List Int} (h : ¬ OppP P n xs ys) : oppB P n xs ys = false := by simp [oppB, h]
set_option maxHeartbeats 800000 in
theorem opposite_impl (P : Int) (a a' : Option Addr) (n c c' : Nat) (xs ys : List Int) (w : World) (hr : Reads w a n xs) (hr' : Reads w a' n ys) (hm : n ≤ 1048576) (hp : 2 ≤ P) (hp2 : P ≤ 10007) (hx : Res xs P) (hy : Res ys P) :
    Calls Try.prog 144 #[.slice a n c, .slice a' n c', .int .i64 P] w fun e w' => e = .returned (.bool (oppB P n xs ys)) ∧ Ext w w' := by
  have hl := Lib.hid hr.1
  have hl' := Lib.hid hr'.1
  have HR := Lib.hid hr.2
  have HR' := Lib.hid hr'.2
  have HX := Lib.hid hx
  have HY := Lib.hid hy
  clear hr hr' hx hy
  go_enter Try.func144, Try.ntmps144
  go_wp2
  go_loopw [10, 7] (fun z _ wr => ∃ (k m : Nat), k ≤ n ∧ z = .int .i64 k ∧ wr = w.drewN m ∧ Hid (∀ i, i < k → (gi xs i + gi ys i) % P = 0)) (fun z _ _ => n - (intOf z).toNat)
  case atStart => exact ⟨0, 0, by omega, rfl, rfl, fun i hi => by omega⟩
  case round =>
    obtain ⟨k, m, hk, rfl, rfl, hf⟩ := hrel
    by_cases hlt : k < n
    · rcases HR.out with h | ⟨b, off, rfl, hb, hc⟩
      · omega
      rcases HR'.out with h | ⟨b', off', rfl, hb', hc'⟩
      · omega
      have hc1 := hc k hlt
      have hc2 := hc' k hlt
      have hlt' : (k : Int) < (n : Int) := by omega
      obtain ⟨x0, x1⟩ := HX.out k (by rw [hl.out]; exact hlt)
      obtain ⟨y0, y1⟩ := HY.out k (by rw [hl'.out]; exact hlt)
      have v1 : IntKind.i64.wrap (gi xs k + gi ys k) = gi xs k + gi ys k := IntWalk.i64_in _ ⟨by omega, by omega⟩
      have s0 : 0 ≤ gi xs k + gi ys k := by omega
      have v2 : (gi xs k + gi ys k).tmod P = (gi xs k + gi ys k) % P := Int.tmod_eq_emod_of_nonneg s0
      have p0 : (P == 0) = false := by simp; omega
      clear hc hc'
      by_cases h0 : (gi xs k + gi ys k) % P = 0
      · have hb0 : ((gi xs k + gi ys k) % P != 0) = false := by simpa using h0
        have HF : Hid (∀ i, i < k + 1 → (gi xs i + gi ys i) % P = 0) := fun i hi => by
          by_cases e : i = k
          · subst e; exact h0
          · exact hf.out i (by omega)
        clear h0
        go_wp2
        go_quiet (fail)
        go_wp2
        exact ⟨⟨k + 1, m + nq, by omega, by simp, by simp, HF⟩, by simp [intOf]; omega⟩
      · have hb0 : ((gi xs k + gi ys k) % P != 0) = true := by simpa using h0
        have HF : Hid (oppB P n xs ys = false) := oppB_false (fun h => h0 (h k hlt))
        clear h0
        go_wp2
        go_quiet (fail)
        go_wp2
        go_ret
        exact ⟨ret_bool HF.out.symm, by with_reducible repeat (first | exact Ext.refl _ | refine Ext.drewN ?_ _)⟩
    · obtain rfl : n = k := by omega
      have HF : Hid (oppB P n xs ys = true) := oppB_true hf.out
      go_wp2
      go_ret
      exact ⟨ret_bool HF.out.symm, (Ext.refl _).drewN _⟩

/-- All are multiples of P. -/
def MulP (P : Int) (n : Nat) (xs : List Int) : Prop := ∀ k, k < n → gi xs k % P = 0
noncomputable def mulB (P : Int) (n : Nat) (xs : List Int) : Bool := @decide (MulP P n xs) (Classical.propDecidable _)
theorem mulB_true {P : Int} {n : Nat} {xs : List Int} (h : MulP P n xs) : mulB P n xs = true := by simp [mulB, h]
theorem mulB_false {P : Int} {n : Nat} {xs : List Int} (h : ¬ MulP P n xs) : mulB P n xs = false := by simp [mulB, h]
set_option maxHeartbeats 800000 in
theorem multiplesOf_impl (P : Int) (a : Option Addr) (n c : Nat) (xs : List Int) (w : World) (hr : Reads w a n xs) (hm : n ≤ 1048576) (hp : 2 ≤ P) (hp2 : P ≤ 10007) (hx : ∀ k, k < n → 0 ≤ gi xs k) :
    Calls Try.prog 146 #[.int .i64 P, .slice a n c] w fun e w' => e = .returned (.bool (mulB P n xs)) ∧ w = w' := by
  have HR := Lib.hid hr.2
  have HX := Lib.hid hx
  clear hr hx
  go_enter Try.func146, Try.ntmps146
  go_wp2
  go_loop [9, 6] (fun z _ => ∃ k : Nat, k ≤ n ∧ z = .int .i64 k ∧ Hid (∀ i, i < k → gi xs i % P = 0)) (fun z _ => n - (intOf z).toNat)
  case atStart => exact ⟨0, by omega, rfl, fun i hi => by omega⟩
  case round =>
    obtain ⟨k, hk, rfl, hf⟩ := hrel
    by_cases hlt : k < n
    · rcases HR.out with h | ⟨b, off, rfl, hb, hc⟩
      · omega
      have hc1 := hc k hlt
      have x0 := HX.out k hlt
      clear hc
      by_cases h0 : gi xs k % P = 0
      · have hb0 : (gi xs k % P != 0) = false := by simpa using h0
        have HF : Hid (∀ i, i < k + 1 → gi xs i % P = 0) := fun i hi => by
          by_cases e : i = k
          · subst e; exact h0
          · exact hf.out i (by omega)
        clear h0
        go_wp2
        exact ⟨⟨k + 1, by omega, by simp, HF⟩, by simp [intOf]; omega⟩
      · have hb0 : (gi xs k % P != 0) = true := by simpa using h0
        have HF : Hid (mulB P n xs = false) := mulB_false (fun h => h0 (h k hlt))
        clear h0
        go_wp2
        go_ret
        exact ⟨ret_bool HF.out.symm, rfl⟩
    · obtain rfl : n = k := by omega
      have HF : Hid (mulB P n xs = true) := mulB_true hf.out
      go_wp2
      go_ret
      exact ⟨ret_bool HF.out.symm, rfl⟩
/-- clear over a slice of the call's own. -/
theorem has_clearTo (b : Nat) : ∀ (k o : Nat) (l : List Int) (w : World), Has w b l → o + k ≤ l.length → ∃ l', Has (w.setCells b o (List.replicate k (.int .i64 0))) b l' ∧ l'.length = l.length ∧ (∀ j, gi l' j = if o ≤ j ∧ j < o + k then 0 else gi l j) ∧ w.grownBy (w.setCells b o (List.replicate k (.int .i64 0))) (some b) := by
  intro k
  induction k with
  | zero => intro o l w h _; exact ⟨l, h, rfl, fun j => by rw [if_neg (by omega)], grownBy_refl _ _⟩
  | succ k ih =>
    intro o l w h ho
    obtain ⟨l', h1, h2, h3, h4⟩ := ih (o + 1) (l.set o 0) (w.setCell ⟨b, o, none⟩ (.int .i64 0)) (h.set o (by omega) 0) (by simp; omega)
    refine ⟨l', h1, by simpa using h2, fun j => ?_, ?_⟩
    · rw [h3 j, gi_set _ _ _ _ (by omega)]
      by_cases e : j = o
      · subst e; rw [if_neg (by omega), if_pos rfl, if_pos (by omega)]
      · by_cases e2 : o + 1 ≤ j ∧ j < o + 1 + k
        · rw [if_pos e2, if_pos (by omega)]
        · rw [if_neg e2, if_neg e, if_neg (by omega)]
    · exact ⟨h4.os, h4.tape, h4.output, Nat.le_trans (Nat.le_of_eq (by simp : w.heap.size = (w.setCell ⟨b, o, none⟩ (.int .i64 0)).heap.size)) h4.size, fun i hi hne => (h4.block i (by simpa using hi) hne).trans (Below.heap_setCell _ _ _ _ (fun e => hne (by rw [e])))⟩
theorem has_clear {w : World} {b n : Nat} {l : List Int} (h : Has w b l) (hn : l.length = n) : Has (w.setCells b 0 (List.replicate n (.int .i64 0))) b (List.replicate n 0) ∧ w.grownBy (w.setCells b 0 (List.replicate n (.int .i64 0))) (some b) := by
  obtain ⟨l', h1, h2, h3, h4⟩ := has_clearTo b n 0 l w h (by omega)
  have e : l' = List.replicate n 0 := by
    refine ext_gi (by rw [h2, hn, List.length_replicate]) (fun j hj => ?_)
    rw [h3 j, if_pos (by omega)]
    simp only [gi, List.getD_eq_getElem?_getD, List.getElem?_replicate]; split <;> rfl
  rw [← e]
  exact ⟨h1, h4⟩
end Go.Proofs.Ytgmipolgnpjmnaa
