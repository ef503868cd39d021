/-
  Rows exchanged: the program's.
-/
import Derived.Test.YtgmipolgnpjmnaaSol
import Derived.BigRegion
import Derived.Deep.RegionHeld3
namespace Go.Proofs.Ytgmipolgnpjmnaa
open Go.RowKit
set_option linter.unusedVariables false

theorem row_n {R C i n : Nat} (h : i < R) (hn : n = R * C) : (i + 1) * C ≤ n := by
  rw [hn]; exact Nat.mul_le_mul_right C h

set_option maxRecDepth 100000 in
set_option maxHeartbeats 1600000 in
theorem exchangeRows_impl (P : Int) (R C r s b n : Nat) (l : List Int) (w : World) (hh : Has w b l) (hl : l.length = n) (hn : n = R * C) (hb : n ≤ 1048576) (hr : r < R) (hs : s < R) (hne : r ≠ s) (hR : R ≤ 1048576) :
    Calls Try.prog 150 #[.agg #[.int .i64 P, .int .i64 R, .int .i64 C, .slice (some ⟨b, 0, none⟩) n n], .int .i64 r, .int .i64 s] w fun e w' => e = .returned (.tuple #[]) ∧ Has w' b (swTo (s * C) (r * C) l C) ∧ w.grownBy w' (some b) := by
  have HH := Lib.hid hh
  have HL := Lib.hid hl
  have hlt := Lib.hid hh.lt
  have c1 : ∀ w1, Calls Try.prog 101 #[.agg #[.int .i64 P, .int .i64 R, .int .i64 C, .slice (some ⟨b, 0, none⟩) n n], .int .i64 r] w1 fun e w' => e = .returned (.slice (some ⟨b, 0 + r * C, none⟩) C (n - r * C)) ∧ Ext w1 w' := fun w1 => rowOf_impl P R C r b 0 n w1 (row_n hr hn) hb (by omega)
  have c2 : ∀ w1, Calls Try.prog 101 #[.agg #[.int .i64 P, .int .i64 R, .int .i64 C, .slice (some ⟨b, 0, none⟩) n n], .int .i64 s] w1 fun e w' => e = .returned (.slice (some ⟨b, 0 + s * C, none⟩) C (n - s * C)) ∧ Ext w1 w' := fun w1 => rowOf_impl P R C s b 0 n w1 (row_n hs hn) hb (by omega)
  have HC1 := Lib.hid c1
  have HC2 := Lib.hid c2
  have hr1 := row_lt (C := C) hr
  have hr2 := row_lt (C := C) hs
  rw [← hn] at hr1 hr2
  have hap := rows_apart (C := C) hne
  have HP1 := Lib.hid hr1
  have HP2 := Lib.hid hr2
  have HAP := Lib.hid hap
  have A := Lib.hid (cells_new w #[.int .i64 P, .int .i64 R, .int .i64 C, .slice (some ⟨b, 0, none⟩) n n] 36)
  have hE : Hid (Ext w (w.alloc (.cells #[.int .i64 P, .int .i64 R, .int .i64 C, .slice (some ⟨b, 0, none⟩) n n] 36))) := (Ext.refl w).alloc _
  clear hh hl c1 c2 hr1 hr2 hap hn hne
  go_enter Try.func150, Try.ntmps150
  go_wp2_with fail
  generalize hW : w.alloc (.cells #[.int .i64 P, .int .i64 R, .int .i64 C, .slice (some ⟨b, 0, none⟩) n n] 36) = W at A hE ⊢
  clear hW
  have lA := A.out.1
  have q0 := A.out.2 0 _ rfl
  have q1 := A.out.2 1 _ rfl
  have q2 := A.out.2 2 _ rfl
  have q3 := A.out.2 3 _ rfl
  go_region_held3 (fun w' => Ext W w' ∧ (∀ b o, b < W.heap.size → w'.cell? ⟨b, o, none⟩ = W.cell? ⟨b, o, none⟩)) (first | (with_reducible exact ext2 (Ext.trans (And.left ‹Ext W _ ∧ _›) ‹Ext _ _›)) | (refine ext2 ?_; with_reducible repeat (first | exact Ext.refl _ | refine Ext.drew ?_))) (first
    | (go_at_call 101; with_reducible refine (HC1.out _).mono ?_; rintro e w1 ⟨rfl, h1⟩)
    | (go_at_call 101; with_reducible refine (HC2.out _).mono ?_; rintro e w2 ⟨rfl, h2⟩))
  have hE2 : Hid (Ext w w2) := hE.out.trans (And.left ‹Ext W w2 ∧ _›)
  have HH2 := Lib.hid (HH.out.ext hE2.out)
  have c2 : w2.cell? ⟨w.heap.size, 2, none⟩ = some (.int .i64 C) := ((‹Ext W w2 ∧ _› : Ext W w2 ∧ ∀ (b o : Nat), b < W.heap.size → w2.cell? ⟨b, o, none⟩ = W.cell? ⟨b, o, none⟩).2 _ 2 lA).trans q2
  clear lA q0 q1 q2 q3 h1 h2 A hE HH HC1 HC2
  go_wp2_with fail
  clear c2
  go_loopw [17, 8] (fun z _ wr => ∃ j : Nat, j ≤ C ∧ z = .int .i64 j ∧ Hid (Has wr b (swTo (s * C) (r * C) l j)) ∧ Hid (w.grownBy wr (some b))) (fun z _ _ => C - (intOf z).toNat)
  case atStart => exact ⟨0, by omega, rfl, HH2.out, ext_grownBy hE2.out _⟩
  case round =>
    obtain ⟨j, hj, rfl, h1, h2⟩ := hrel
    by_cases hlt2 : j < C
    · have hC : C ≤ 1048576 := by have := HP1.out; omega
      have hA : Apart (s * C) (r * C) C := by rcases HAP.out with h | h <;> simp only [Apart] <;> omega
      have g1 : s * C + j < n := by have := HP2.out; omega
      have g2 : r * C + j < n := by have := HP1.out; omega
      have hll : (swTo (s * C) (r * C) l j).length = n := by rw [swTo_length]; exact HL.out
      have x1 := h1.out.cell (s * C + j) (by omega)
      have x2 := h1.out.cell (r * C + j) (by omega)
      rw [gi_swTo_out _ _ C _ (by rw [HL.out]; exact HP2.out) (by rw [HL.out]; exact HP1.out) _ _ hj (by omega) (by rcases HAP.out with h | h <;> omega)] at x1
      rw [gi_swTo_out _ _ C _ (by rw [HL.out]; exact HP2.out) (by rw [HL.out]; exact HP1.out) _ _ hj (by rcases HAP.out with h | h <;> omega) (by omega)] at x2
      have f1 := h1.out.free (s * C + j)
      have f2 := h1.out.free (r * C + j)
      have hne : s * C + j ≠ r * C + j := by rcases HAP.out with h | h <;> omega
      have N2 : Hid (Has ((wr.setCell ⟨b, r * C + j, none⟩ (.int .i64 (gi l (s * C + j)))).setCell ⟨b, s * C + j, none⟩ (.int .i64 (gi l (r * C + j)))) b (swTo (s * C) (r * C) l (j + 1))) := by
        have := (h1.out.set (r * C + j) (by omega) (gi l (s * C + j))).set (s * C + j) (by rw [List.length_set]; omega) (gi l (r * C + j))
        rw [List.set_comm _ _ (Ne.symm hne)] at this
        exact this
      have N3 : ∀ p q u v, p.block = b → q.block = b → Hid (w.grownBy ((wr.setCell p u).setCell q v) (some b)) := fun p q u v hp hq => grownBy_set (grownBy_set h2.out (by rw [hp]) u) (by rw [hq]) v
      have HN3 := Lib.hid N3
      clear h1 h2 N3 hA hll g1 g2
      go_wp2_with fail
      go_region
      go_wp2
      exact ⟨⟨j + 1, by omega, by simp, N2.out.ext (Ext.refl _).drew, grownBy_ext (HN3.out ⟨b, r * C + j, none⟩ ⟨b, s * C + j, none⟩ _ _ rfl rfl).out (Ext.refl _).drew⟩, by simp [intOf]; omega⟩
    · obtain rfl : j = C := by omega
      go_wp2
      go_end0
      exact ⟨rfl, h1.out, h2.out⟩
end Go.Proofs.Ytgmipolgnpjmnaa
