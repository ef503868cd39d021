/-
  Matrices of zeros and unit matrices, both texts.
-/
import Derived.Test.YtgmipolgnpjmnaaMat
import Derived.Test.YtgmipolgnpjmnaaSMatrix
namespace Go.Proofs.Ytgmipolgnpjmnaa
open Go.RowKit
set_option linter.unusedVariables false

noncomputable def zeroM (P R C : Int) : Mat := if isP P && inB R 0 40 && inB C 0 40 then ⟨P, R, C, List.replicate (R * C).toNat 0⟩ else noMat
/-- The numbers of a unit matrix, its first k ones laid. -/
def unitTo (m : Nat) : Nat → List Int
  | 0 => List.replicate (m * m) 0
  | k + 1 => (unitTo m k).set (k * m + k) 1
theorem unitTo_length (m k : Nat) : (unitTo m k).length = m * m := by
  induction k with
  | zero => simp [unitTo]
  | succ k ih => simp [unitTo, ih]
noncomputable def unitM (P n : Int) : Mat := if isP P && inB n 0 40 then ⟨P, n, n, unitTo n.toNat n.toNat⟩ else noMat
theorem sq40 {m : Nat} (h : m ≤ 40) : m * m ≤ 1600 := by
  have := Nat.mul_le_mul h h
  omega
theorem diag_lt {m k : Nat} (h : k < m) : k * m + k < m * m := by
  have : (k + 1) * m ≤ m * m := Nat.mul_le_mul_right m h
  rw [Nat.add_mul] at this
  omega

set_option maxHeartbeats 400000 in
theorem l1Zero_spec (P R C : Int) (w : World) (h0 : 0 ≤ R * C) (h1 : R * C ≤ 1048576) :
    Calls Try.prog 75 #[.int .i64 P, .int .i64 R, .int .i64 C] w fun e w' => ∃ b, e = .returned (.agg #[.int .i64 P, .int .i64 R, .int .i64 C, .slice (some ⟨b, 0, none⟩) (R * C).toNat (R * C).toNat]) ∧ w.heap.size ≤ b ∧ b < w'.heap.size ∧ Has w' b (List.replicate (R * C).toNat 0) ∧ Ext w w' := by
  have hmk := make_intsz (R * C) h0 h1
  go_enter Try.func75, Try.ntmps75
  go_wp2
  refine bodyPost_ret (v := .agg #[.int .i64 P, .int .i64 R, .int .i64 C, .slice (some ⟨w.heap.size + 1, 0, none⟩) (R * C).toNat (R * C).toNat]) (by simp [results, Try.results75, go_sem]) rfl ⟨w.heap.size + 1, rfl, by omega, by simp, ?_, ?_⟩
  · exact Has.new' _ _ _ (by simp)
  · exact ((Ext.refl _).alloc _).alloc _

set_option maxHeartbeats 400000 in
theorem zeros_impl (P R C : Int) (w : World) (h0 : 0 ≤ R * C) (h1 : R * C ≤ 1048576) :
    Calls Try.prog 90 #[.int .i64 P, .int .i64 R, .int .i64 C] w fun e w' => ∃ b, e = .returned (.agg #[.int .i64 P, .int .i64 R, .int .i64 C, .slice (some ⟨b, 0, none⟩) (R * C).toNat (R * C).toNat]) ∧ w.heap.size ≤ b ∧ b < w'.heap.size ∧ Has w' b (List.replicate (R * C).toNat 0) ∧ Ext w w' := by
  have hmk := make_intsz (R * C) h0 h1
  go_enter Try.func90, Try.ntmps90
  go_wp2
  refine bodyPost_ret (v := .agg #[.int .i64 P, .int .i64 R, .int .i64 C, .slice (some ⟨w.heap.size + 1, 0, none⟩) (R * C).toNat (R * C).toNat]) (by simp [results, Try.results90, go_sem]) rfl ⟨w.heap.size + 1, rfl, by omega, by simp, ?_, ?_⟩
  · exact Has.new' _ _ _ (by simp)
  · exact ((Ext.refl _).alloc _).alloc _

set_option maxHeartbeats 800000 in
theorem l1Unit_spec (P : Int) (m : Nat) (w : World) (h1 : m ≤ 40) :
    Calls Try.prog 76 #[.int .i64 P, .int .i64 m] w fun e w' => ∃ b, e = .returned (.agg #[.int .i64 P, .int .i64 m, .int .i64 m, .slice (some ⟨b, 0, none⟩) (m * m) (m * m)]) ∧ w.heap.size ≤ b ∧ b < w'.heap.size ∧ Has w' b (unitTo m m) ∧ Ext w w' := by
  have g1 := sq40 h1
  have e1 : ((m : Int) * (m : Int)).toNat = m * m := by rw [← Int.natCast_mul, Int.toNat_natCast]
  have g2 : 0 ≤ (m : Int) * (m : Int) := by rw [← Int.natCast_mul]; omega
  have g3 : (m : Int) * (m : Int) ≤ 1048576 := by rw [← Int.natCast_mul]; omega
  have E1 := Lib.hid e1
  clear e1
  go_enter Try.func76, Try.ntmps76
  go_wp2_with fail
  refine (l1Zero_spec _ _ _ _ g2 g3).mono ?_
  rintro e w1 ⟨b, rfl, hb1, hb2, hh, hE⟩
  rw [E1.out] at hh ⊢
  have L0 : Hid (Loc w (w1.alloc (.cells #[.int .i64 P, .int .i64 m, .int .i64 m, .slice (some ⟨b, 0, none⟩) (m * m) (m * m)] 36)) w1.heap.size b [.int .i64 P, .int .i64 m, .int .i64 m, .slice (some ⟨b, 0, none⟩) (m * m) (m * m)] (unitTo m 0)) :=
    ⟨cells_new _ _ _, hh.alloc _, (((Ext.refl w).alloc _).trans hE).alloc _, by simp at hb1; omega, by simp; omega, by omega⟩
  have hw : Hid (Cells (w1.alloc (.cells #[.int .i64 P, .int .i64 m, .int .i64 m, .slice (some ⟨b, 0, none⟩) (m * m) (m * m)] 36)) w.heap.size [.int .i64 0, .int .i64 0, .int .i64 0, .slice none 0 0]) := ((cells_new w _ _).ext hE).ext ((Ext.refl _).alloc _)
  have hs : Hid (w.heap.size < b) := by simp at hb1; exact hb1
  clear hh hE hb1 hb2
  go_wp2
  go_loopw [6] (fun i wr => ∃ k : Nat, k ≤ m ∧ i = .int .i64 k ∧ Hid (Loc w wr w1.heap.size b [.int .i64 P, .int .i64 m, .int .i64 m, .slice (some ⟨b, 0, none⟩) (m * m) (m * m)] (unitTo m k)) ∧ Hid (Cells wr w.heap.size [.int .i64 0, .int .i64 0, .int .i64 0, .slice none 0 0])) (fun i _ => m - (intOf i).toNat)
  case atStart => exact ⟨0, by omega, rfl, L0, hw⟩
  case round =>
    obtain ⟨k, hk, rfl, L, hw2⟩ := hrel
    have q0 := L.out.box.2 0 _ rfl
    have q1 := L.out.box.2 1 _ rfl
    have q2 := L.out.box.2 2 _ rfl
    have q3 := L.out.box.2 3 _ rfl
    by_cases hlt : k < m
    · have d1 := diag_lt hlt
      have d2 : ((k : Int) * (m : Int) + (k : Int)) = ((k * m + k : Nat) : Int) := by simp
      have d4 : 0 ≤ (k : Int) * (m : Int) + (k : Int) := by rw [d2]; omega
      have d5 : (k : Int) * (m : Int) + (k : Int) < ((m * m : Nat) : Int) := by rw [d2]; omega
      have d6 : 0 ≤ (k : Int) * (m : Int) := by rw [← Int.natCast_mul]; omega
      have hc1 := L.out.has.cell (k * m + k) (by rw [unitTo_length]; exact d1)
      have hf1 := L.out.has.free (k * m + k)
      have N : Hid (Loc w (wr.setCell ⟨b, k * m + k, none⟩ (.int .i64 1)) w1.heap.size b [.int .i64 P, .int .i64 m, .int .i64 m, .slice (some ⟨b, 0, none⟩) (m * m) (m * m)] (unitTo m (k + 1))) := by
        exact L.out.set (k * m + k) (by rw [unitTo_length]; exact d1) 1
      have N2 : Hid (Cells (wr.setCell ⟨b, k * m + k, none⟩ (.int .i64 1)) w.heap.size [.int .i64 0, .int .i64 0, .int .i64 0, .slice none 0 0]) :=
        hw2.out.grown (grownBy_set (p := ⟨b, k * m + k, none⟩) (grownBy_refl _ (some b)) rfl _) (fun q hq => by simp at hq; have := hs.out; omega)
      clear d2 L hw2
      go_wp2
      exact ⟨⟨k + 1, by omega, by simp, N, N2⟩, by simp [intOf]; omega⟩
    · obtain rfl : k = m := by omega
      have f0 := hw2.out.2 0 _ rfl
      have f1 := hw2.out.2 1 _ rfl
      have f2 := hw2.out.2 2 _ rfl
      have f3 := hw2.out.2 3 _ rfl
      have t0 := hw2.out.3
      go_wp2
      refine bodyPost_ret (v := .agg #[.int .i64 P, .int .i64 k, .int .i64 k, .slice (some ⟨b, 0, none⟩) (k * k) (k * k)]) (by simp [results, Try.results76, go_sem, f0, f1, f2, f3]) rfl ⟨b, rfl, L.out.lo, ?_, ?_, ?_⟩
      · have := L.out.lt; simpa using this
      · have := hs.out
        repeat with_reducible (first | exact L.out.has | refine Has.setOther ?_ (by simp <;> omega) _)
      · exact ext4 L.out.ext (Nat.le_refl _) _ _ _ _

set_option maxHeartbeats 800000 in
theorem unit_impl (P : Int) (m : Nat) (w : World) (h1 : m ≤ 40) :
    Calls Try.prog 81 #[.int .i64 P, .int .i64 m] w fun e w' => ∃ b, e = .returned (.agg #[.int .i64 P, .int .i64 m, .int .i64 m, .slice (some ⟨b, 0, none⟩) (m * m) (m * m)]) ∧ w.heap.size ≤ b ∧ b < w'.heap.size ∧ Has w' b (unitTo m m) ∧ Ext w w' := by
  have g1 := sq40 h1
  have e1 : ((m : Int) * (m : Int)).toNat = m * m := by rw [← Int.natCast_mul, Int.toNat_natCast]
  have g2 : 0 ≤ (m : Int) * (m : Int) := by rw [← Int.natCast_mul]; omega
  have g3 : (m : Int) * (m : Int) ≤ 1048576 := by rw [← Int.natCast_mul]; omega
  have E1 := Lib.hid e1
  clear e1
  go_enter Try.func81, Try.ntmps81
  go_wp2_with fail
  refine (zeros_impl _ _ _ _ g2 g3).mono ?_
  rintro e w1 ⟨b, rfl, hb1, hb2, hh, hE⟩
  rw [E1.out] at hh ⊢
  have L0 : Hid (Loc w (w1.alloc (.cells #[.int .i64 P, .int .i64 m, .int .i64 m, .slice (some ⟨b, 0, none⟩) (m * m) (m * m)] 36)) w1.heap.size b [.int .i64 P, .int .i64 m, .int .i64 m, .slice (some ⟨b, 0, none⟩) (m * m) (m * m)] (unitTo m 0)) :=
    ⟨cells_new _ _ _, hh.alloc _, (((Ext.refl w).alloc _).trans hE).alloc _, by simp at hb1; omega, by simp; omega, by omega⟩
  have hw : Hid (Cells (w1.alloc (.cells #[.int .i64 P, .int .i64 m, .int .i64 m, .slice (some ⟨b, 0, none⟩) (m * m) (m * m)] 36)) w.heap.size [.int .i64 0, .int .i64 0, .int .i64 0, .slice none 0 0]) := ((cells_new w _ _).ext hE).ext ((Ext.refl _).alloc _)
  have hs : Hid (w.heap.size < b) := by simp at hb1; exact hb1
  clear hh hE hb1 hb2
  go_wp2
  go_loopw [12] (fun i wr => ∃ k : Nat, k ≤ m ∧ i = .int .i64 k ∧ Hid (Loc w wr w1.heap.size b [.int .i64 P, .int .i64 m, .int .i64 m, .slice (some ⟨b, 0, none⟩) (m * m) (m * m)] (unitTo m k)) ∧ Hid (Cells wr w.heap.size [.int .i64 0, .int .i64 0, .int .i64 0, .slice none 0 0])) (fun i _ => m - (intOf i).toNat)
  case atStart => exact ⟨0, by omega, rfl, L0, hw⟩
  case round =>
    obtain ⟨k, hk, rfl, L, hw2⟩ := hrel
    have q0 := L.out.box.2 0 _ rfl
    have q1 := L.out.box.2 1 _ rfl
    have q2 := L.out.box.2 2 _ rfl
    have q3 := L.out.box.2 3 _ rfl
    by_cases hlt : k < m
    · have d1 := diag_lt hlt
      have d2 : ((k : Int) * (m : Int) + (k : Int)) = ((k * m + k : Nat) : Int) := by simp
      have d4 : 0 ≤ (k : Int) * (m : Int) + (k : Int) := by rw [d2]; omega
      have d5 : (k : Int) * (m : Int) + (k : Int) < ((m * m : Nat) : Int) := by rw [d2]; omega
      have d6 : 0 ≤ (k : Int) * (m : Int) := by rw [← Int.natCast_mul]; omega
      have hc1 := L.out.has.cell (k * m + k) (by rw [unitTo_length]; exact d1)
      have hf1 := L.out.has.free (k * m + k)
      have N : Hid (Loc w (wr.setCell ⟨b, k * m + k, none⟩ (.int .i64 1)) w1.heap.size b [.int .i64 P, .int .i64 m, .int .i64 m, .slice (some ⟨b, 0, none⟩) (m * m) (m * m)] (unitTo m (k + 1))) := by
        exact L.out.set (k * m + k) (by rw [unitTo_length]; exact d1) 1
      have N2 : Hid (Cells (wr.setCell ⟨b, k * m + k, none⟩ (.int .i64 1)) w.heap.size [.int .i64 0, .int .i64 0, .int .i64 0, .slice none 0 0]) :=
        hw2.out.grown (grownBy_set (p := ⟨b, k * m + k, none⟩) (grownBy_refl _ (some b)) rfl _) (fun q hq => by simp at hq; have := hs.out; omega)
      clear d2 L hw2
      go_wp2
      exact ⟨⟨k + 1, by omega, by simp, N, N2⟩, by simp [intOf]; omega⟩
    · obtain rfl : k = m := by omega
      have f0 := hw2.out.2 0 _ rfl
      have f1 := hw2.out.2 1 _ rfl
      have f2 := hw2.out.2 2 _ rfl
      have f3 := hw2.out.2 3 _ rfl
      have t0 := hw2.out.3
      go_wp2
      refine bodyPost_ret (v := .agg #[.int .i64 P, .int .i64 k, .int .i64 k, .slice (some ⟨b, 0, none⟩) (k * k) (k * k)]) (by simp [results, Try.results81, go_sem, f0, f1, f2, f3]) rfl ⟨b, rfl, L.out.lo, ?_, ?_, ?_⟩
      · have := L.out.lt; simpa using this
      · have := hs.out
        repeat with_reducible (first | exact L.out.has | refine Has.setOther ?_ (by simp <;> omega) _)
      · exact ext4 L.out.ext (Nat.le_refl _) _ _ _ _

end Go.Proofs.Ytgmipolgnpjmnaa
