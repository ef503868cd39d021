/-
  The families of types, behind an interface: what their methods give.
-/
import Derived.Test.YtlnpaplbcocmkaaGreatKb
import Derived.Test.YtlnpaplbcocmkaaGreatCar
import Derived.Laws.EntriesVeiled
namespace Go.Proofs.YtlnpaplbcocmkaaGreat
open Go.ChangeShapes Go.WideShapes Go.ChangeAt Go.RowKit
set_option linter.unusedVariables false
set_option linter.unusedSimpArgs false

def famU : Nat → TypeId
  | 0 => 178
  | 1 => 182
  | 2 => 183
  | 3 => 180
  | 4 => 180
  | 5 => 184
  | 6 => 180
  | 7 => 184
  | 8 => 185
  | 9 => 180
  | 10 => 184
  | _ => 185
def famW : Nat → Value
  | 0 => .agg #[]
  | 1 => .agg #[.int .i64 4]
  | 2 => .agg #[]
  | 3 => .agg #[.int .i64 1]
  | 4 => .agg #[.int .i64 2]
  | 5 => .agg #[.int .i64 2]
  | 6 => .agg #[.int .i64 3]
  | 7 => .agg #[.int .i64 3]
  | 8 => .agg #[.int .i64 3]
  | 9 => .agg #[.int .i64 4]
  | 10 => .agg #[.int .i64 4]
  | _ => .agg #[.int .i64 4]
/-- The name of a family, as bytes. -/
def nmB : Nat → List UInt8
  | 0 => [68, 52]
  | 1 => [70, 52]
  | 2 => [71, 50]
  | 3 => [65, 49]
  | 4 => [65, 50]
  | 5 => [66, 50]
  | 6 => [65, 51]
  | 7 => [66, 51]
  | 8 => [67, 51]
  | 9 => [65, 52]
  | 10 => [66, 52]
  | _ => [67, 52]
def nmS (k : Nat) : ByteArray := ⟨(nmB k).toArray⟩
set_option maxRecDepth 100000 in
set_option maxHeartbeats 1600000 in
theorem rank_chain (n : Int) (w : World) : Calls Tryz.prog 235 #[.agg #[.int .i64 n]] w fun e w' => e = .returned (.int .i64 n) ∧ Ext w w' := by
  go_enter Tryz.func235, Tryz.ntmps235
  go_wp2
  go_ret
  exact ⟨rfl, (Ext.refl _).alloc _⟩
set_option maxRecDepth 100000 in
set_option maxHeartbeats 1600000 in
theorem rank_star (w : World) : Calls Tryz.prog 232 #[.agg #[]] w fun e w' => e = .returned (.int .i64 4) ∧ Ext w w' := by
  go_enter Tryz.func232, Tryz.ntmps232
  go_wp2
  go_ret
  exact ⟨rfl, (Ext.refl _).alloc _⟩
set_option maxRecDepth 100000 in
set_option maxHeartbeats 1600000 in
theorem rank_triple (w : World) : Calls Tryz.prog 253 #[.agg #[]] w fun e w' => e = .returned (.int .i64 2) ∧ Ext w w' := by
  go_enter Tryz.func253, Tryz.ntmps253
  go_wp2
  go_ret
  exact ⟨rfl, (Ext.refl _).alloc _⟩
set_option maxRecDepth 100000 in
set_option maxHeartbeats 1600000 in
theorem beside_star (i j : Nat) (hi : i ≤ 8) (hj : j ≤ 8) (w : World) : Calls Tryz.prog 230 #[.agg #[], .int .i64 i, .int .i64 j] w fun e w' => e = .returned (.int .i64 (besM 3 4 i j)) ∧ Ext w w' := by
  go_enter Tryz.func230, Tryz.ntmps230
  by_cases h1 : i = 2
  · subst h1
    go_wp2
    go_ret
    exact ⟨rfl, (by first | exact (Ext.refl _).alloc _ | exact ((Ext.refl _).alloc _).drew | exact ((Ext.refl _).alloc _).drewN _)⟩
  · by_cases h2 : j = 2
    · subst h2
      have h3 : ((i : Int) == 2) = false := by simp; omega
      go_wp2
      go_ret
      exact ⟨by simp [besM], (by first | exact (Ext.refl _).alloc _ | exact ((Ext.refl _).alloc _).drew | exact ((Ext.refl _).alloc _).drewN _)⟩
    · have h3 : ((i : Int) == 2) = false := by simp; omega
      have h4 : ((j : Int) == 2) = false := by simp; omega
      go_wp2
      go_ret
      exact ⟨by simp [besM, h1, h2], (by first | exact (Ext.refl _).alloc _ | exact ((Ext.refl _).alloc _).drew | exact ((Ext.refl _).alloc _).drewN _)⟩
set_option maxRecDepth 100000 in
set_option maxHeartbeats 1600000 in
theorem beside_chain (n : Int) (i j : Nat) (hi : i ≤ 8) (hj : j ≤ 8) (w : World) : Calls Tryz.prog 233 #[.agg #[.int .i64 n], .int .i64 i, .int .i64 j] w fun e w' => e = .returned (.int .i64 (chM i j)) ∧ Ext w w' := by
  go_enter Tryz.func233, Tryz.ntmps233
  by_cases h1 : i = j + 1
  · have h3 : ((i : Int) == (j : Int) + 1) = true := by simp; omega
    have hF : Hid (chM i j = -1) := by rw [Hid, chM, if_pos (Or.inl h1)]
    clear h1
    go_wp2
    go_ret
    exact ⟨ret_int hF.out.symm, (by first | exact (Ext.refl _).alloc _ | exact ((Ext.refl _).alloc _).drew | exact ((Ext.refl _).alloc _).drewN _)⟩
  · have h3 : ((i : Int) == (j : Int) + 1) = false := by simp; omega
    by_cases h2 : j = i + 1
    · have h4 : ((j : Int) == (i : Int) + 1) = true := by simp; omega
      have hF : Hid (chM i j = -1) := by rw [Hid, chM, if_pos (Or.inr h2)]
      clear h1 h2
      go_wp2
      go_ret
      exact ⟨ret_int hF.out.symm, (by first | exact (Ext.refl _).alloc _ | exact ((Ext.refl _).alloc _).drew | exact ((Ext.refl _).alloc _).drewN _)⟩
    · have h4 : ((j : Int) == (i : Int) + 1) = false := by simp; omega
      have hF : Hid (chM i j = 0) := by rw [Hid, chM, if_neg (by omega)]
      clear h1 h2
      go_wp2
      go_ret
      exact ⟨ret_int hF.out.symm, (by first | exact (Ext.refl _).alloc _ | exact ((Ext.refl _).alloc _).drew | exact ((Ext.refl _).alloc _).drewN _)⟩
set_option maxRecDepth 100000 in
set_option maxHeartbeats 1600000 in
theorem beside_shortEnd (n : Nat) (hn : n ≤ 4) (i j : Nat) (hi : i ≤ 8) (hj : j ≤ 8) (w : World) : Calls Tryz.prog 254 #[.agg #[.int .i64 n], .int .i64 i, .int .i64 j] w fun e w' => e = .returned (.int .i64 (besM 1 n i j)) ∧ Ext w w' := by
  go_enter Tryz.func254, Tryz.ntmps254
  by_cases h1 : i = n
  · have h3 : ((i : Int) == (n : Int)) = true := by simp; omega
    by_cases h2 : j + 1 = n
    · have h4 : ((j : Int) == (n : Int) - 1) = true := by simp; omega
      have hF : Hid (besM 1 n i j = -2) := by simp only [Hid, besM]; rw [if_pos (by omega)]
      clear h1 h2
      go_wp2
      go_ret
      exact ⟨ret_int hF.out.symm, (by first | exact (Ext.refl _).alloc _ | exact ((Ext.refl _).alloc _).drew | exact ((Ext.refl _).alloc _).drewN _)⟩
    · have h4 : ((j : Int) == (n : Int) - 1) = false := by simp; omega
      have hF : Hid (besM 1 n i j = chM i j) := by simp only [Hid, besM]; rw [if_neg (by omega)]
      clear h1 h2
      go_wp2_with fail
      obtain ⟨w0, hw0⟩ : ∃ w0 : World, w0 = w.alloc (.cells #[.int .i64 n] 184) := ⟨_, rfl⟩
      refine (beside_chain _ i j hi hj _).mono ?_
      rintro e w2 ⟨rfl, h2⟩
      go_wp2
      go_ret
      exact ⟨ret_int hF.out.symm, ((Ext.refl _).alloc _).trans (by first | exact h2 | exact (Ext.refl _).drew.trans h2)⟩
  · have h3 : ((i : Int) == (n : Int)) = false := by simp; omega
    have hF : Hid (besM 1 n i j = chM i j) := by simp only [Hid, besM]; rw [if_neg (by omega)]
    clear h1
    go_wp2_with fail
    obtain ⟨w0, hw0⟩ : ∃ w0 : World, w0 = w.alloc (.cells #[.int .i64 n] 184) := ⟨_, rfl⟩
    refine (beside_chain _ i j hi hj _).mono ?_
    rintro e w2 ⟨rfl, h2⟩
    go_wp2
    go_ret
    exact ⟨ret_int hF.out.symm, ((Ext.refl _).alloc _).trans (by first | exact h2 | exact (Ext.refl _).drew.trans h2)⟩
set_option maxRecDepth 100000 in
set_option maxHeartbeats 1600000 in
theorem beside_longEnd (n : Nat) (hn : n ≤ 4) (i j : Nat) (hi : i ≤ 8) (hj : j ≤ 8) (w : World) : Calls Tryz.prog 256 #[.agg #[.int .i64 n], .int .i64 i, .int .i64 j] w fun e w' => e = .returned (.int .i64 (besM 2 n i j)) ∧ Ext w w' := by
  go_enter Tryz.func256, Tryz.ntmps256
  by_cases h1 : i + 1 = n
  · have h3 : ((i : Int) == (n : Int) - 1) = true := by simp; omega
    by_cases h2 : j = n
    · have h4 : ((j : Int) == (n : Int)) = true := by simp; omega
      have hF : Hid (besM 2 n i j = -2) := by simp only [Hid, besM]; rw [if_pos (by omega)]
      clear h1 h2
      go_wp2
      go_ret
      exact ⟨ret_int hF.out.symm, (by first | exact (Ext.refl _).alloc _ | exact ((Ext.refl _).alloc _).drew | exact ((Ext.refl _).alloc _).drewN _)⟩
    · have h4 : ((j : Int) == (n : Int)) = false := by simp; omega
      have hF : Hid (besM 2 n i j = chM i j) := by simp only [Hid, besM]; rw [if_neg (by omega)]
      clear h1 h2
      go_wp2_with fail
      obtain ⟨w0, hw0⟩ : ∃ w0 : World, w0 = w.alloc (.cells #[.int .i64 n] 185) := ⟨_, rfl⟩
      refine (beside_chain _ i j hi hj _).mono ?_
      rintro e w2 ⟨rfl, h2⟩
      go_wp2
      go_ret
      exact ⟨ret_int hF.out.symm, ((Ext.refl _).alloc _).trans (by first | exact h2 | exact (Ext.refl _).drew.trans h2)⟩
  · have h3 : ((i : Int) == (n : Int) - 1) = false := by simp; omega
    have hF : Hid (besM 2 n i j = chM i j) := by simp only [Hid, besM]; rw [if_neg (by omega)]
    clear h1
    go_wp2_with fail
    obtain ⟨w0, hw0⟩ : ∃ w0 : World, w0 = w.alloc (.cells #[.int .i64 n] 185) := ⟨_, rfl⟩
    refine (beside_chain _ i j hi hj _).mono ?_
    rintro e w2 ⟨rfl, h2⟩
    go_wp2
    go_ret
    exact ⟨ret_int hF.out.symm, ((Ext.refl _).alloc _).trans (by first | exact h2 | exact (Ext.refl _).drew.trans h2)⟩
set_option maxRecDepth 100000 in
set_option maxHeartbeats 1600000 in
theorem beside_shortHalf (n : Nat) (hn : n ≤ 4) (i j : Nat) (hi : i ≤ 8) (hj : j ≤ 8) (w : World) : Calls Tryz.prog 249 #[.agg #[.int .i64 n], .int .i64 i, .int .i64 j] w fun e w' => e = .returned (.int .i64 (besM 4 n i j)) ∧ Ext w w' := by
  go_enter Tryz.func249, Tryz.ntmps249
  by_cases h1 : i = 3
  · have h3 : ((i : Int) == 3) = true := by simp; omega
    by_cases h2 : j = 2
    · have h4 : ((j : Int) == 2) = true := by simp; omega
      have hF : Hid (besM 4 n i j = -2) := by simp only [Hid, besM]; rw [if_pos (by omega)]
      clear h1 h2
      go_wp2
      go_ret
      exact ⟨ret_int hF.out.symm, (by first | exact (Ext.refl _).alloc _ | exact ((Ext.refl _).alloc _).drew | exact ((Ext.refl _).alloc _).drewN _)⟩
    · have h4 : ((j : Int) == 2) = false := by simp; omega
      have hF : Hid (besM 4 n i j = chM i j) := by simp only [Hid, besM]; rw [if_neg (by omega)]
      clear h1 h2
      go_wp2_with fail
      obtain ⟨w0, hw0⟩ : ∃ w0 : World, w0 = w.alloc (.cells #[.int .i64 n] 182) := ⟨_, rfl⟩
      refine (beside_chain _ i j hi hj _).mono ?_
      rintro e w2 ⟨rfl, h2⟩
      go_wp2
      go_ret
      exact ⟨ret_int hF.out.symm, ((Ext.refl _).alloc _).trans (by first | exact h2 | exact (Ext.refl _).drew.trans h2)⟩
  · have h3 : ((i : Int) == 3) = false := by simp; omega
    have hF : Hid (besM 4 n i j = chM i j) := by simp only [Hid, besM]; rw [if_neg (by omega)]
    clear h1
    go_wp2_with fail
    obtain ⟨w0, hw0⟩ : ∃ w0 : World, w0 = w.alloc (.cells #[.int .i64 n] 182) := ⟨_, rfl⟩
    refine (beside_chain _ i j hi hj _).mono ?_
    rintro e w2 ⟨rfl, h2⟩
    go_wp2
    go_ret
    exact ⟨ret_int hF.out.symm, ((Ext.refl _).alloc _).trans (by first | exact h2 | exact (Ext.refl _).drew.trans h2)⟩
set_option maxRecDepth 100000 in
set_option maxHeartbeats 1600000 in
theorem beside_triple (i j : Nat) (hi : i ≤ 8) (hj : j ≤ 8) (w : World) : Calls Tryz.prog 251 #[.agg #[], .int .i64 i, .int .i64 j] w fun e w' => e = .returned (.int .i64 (besM 5 2 i j)) ∧ Ext w w' := by
  go_enter Tryz.func251, Tryz.ntmps251
  by_cases h1 : i = 1
  · subst h1
    go_wp2
    go_ret
    exact ⟨rfl, (by first | exact (Ext.refl _).alloc _ | exact ((Ext.refl _).alloc _).drew | exact ((Ext.refl _).alloc _).drewN _)⟩
  · have h3 : ((i : Int) == 1) = false := by simp; omega
    go_wp2
    go_ret
    exact ⟨by simp [besM, h1], (by first | exact (Ext.refl _).alloc _ | exact ((Ext.refl _).alloc _).drew | exact ((Ext.refl _).alloc _).drewN _)⟩
set_option maxRecDepth 100000 in
set_option maxHeartbeats 1600000 in
theorem name_0 (w : World) : Calls Tryz.prog 231 #[.agg #[]] w fun e w' => e = .returned (.string (nmS 0)) ∧ Ext w w' := by
  go_enter Tryz.func231, Tryz.ntmps231
  go_wp2
  go_ret
  exact ⟨by first | rfl | (congr 1; decide) | decide, (by first | exact (Ext.refl _).alloc _ | exact ((Ext.refl _).alloc _).drew | exact ((Ext.refl _).alloc _).drewN _)⟩
set_option maxRecDepth 100000 in
set_option maxHeartbeats 1600000 in
theorem name_1 (w : World) : Calls Tryz.prog 250 #[.agg #[.int .i64 4]] w fun e w' => e = .returned (.string (nmS 1)) ∧ Ext w w' := by
  go_enter Tryz.func250, Tryz.ntmps250
  go_wp2
  go_ret
  exact ⟨by first | rfl | (congr 1; decide) | decide, (by first | exact (Ext.refl _).alloc _ | exact ((Ext.refl _).alloc _).drew | exact ((Ext.refl _).alloc _).drewN _)⟩
set_option maxRecDepth 100000 in
set_option maxHeartbeats 1600000 in
theorem name_2 (w : World) : Calls Tryz.prog 252 #[.agg #[]] w fun e w' => e = .returned (.string (nmS 2)) ∧ Ext w w' := by
  go_enter Tryz.func252, Tryz.ntmps252
  go_wp2
  go_ret
  exact ⟨by first | rfl | (congr 1; decide) | decide, (by first | exact (Ext.refl _).alloc _ | exact ((Ext.refl _).alloc _).drew | exact ((Ext.refl _).alloc _).drewN _)⟩
set_option maxRecDepth 100000 in
set_option maxHeartbeats 1600000 in
theorem name_3 (w : World) : Calls Tryz.prog 234 #[.agg #[.int .i64 1]] w fun e w' => e = .returned (.string (nmS 3)) ∧ Ext w w' := by
  go_enter Tryz.func234, Tryz.ntmps234
  go_wp2
  go_ret
  exact ⟨by first | rfl | (congr 1; decide) | decide, (by first | exact (Ext.refl _).alloc _ | exact ((Ext.refl _).alloc _).drew | exact ((Ext.refl _).alloc _).drewN _)⟩
set_option maxRecDepth 100000 in
set_option maxHeartbeats 1600000 in
theorem name_4 (w : World) : Calls Tryz.prog 234 #[.agg #[.int .i64 2]] w fun e w' => e = .returned (.string (nmS 4)) ∧ Ext w w' := by
  go_enter Tryz.func234, Tryz.ntmps234
  go_wp2
  go_ret
  exact ⟨by first | rfl | (congr 1; decide) | decide, (by first | exact (Ext.refl _).alloc _ | exact ((Ext.refl _).alloc _).drew | exact ((Ext.refl _).alloc _).drewN _)⟩
set_option maxRecDepth 100000 in
set_option maxHeartbeats 1600000 in
theorem name_5 (w : World) : Calls Tryz.prog 255 #[.agg #[.int .i64 2]] w fun e w' => e = .returned (.string (nmS 5)) ∧ Ext w w' := by
  go_enter Tryz.func255, Tryz.ntmps255
  go_wp2
  go_ret
  exact ⟨by first | rfl | (congr 1; decide) | decide, (by first | exact (Ext.refl _).alloc _ | exact ((Ext.refl _).alloc _).drew | exact ((Ext.refl _).alloc _).drewN _)⟩
set_option maxRecDepth 100000 in
set_option maxHeartbeats 1600000 in
theorem name_6 (w : World) : Calls Tryz.prog 234 #[.agg #[.int .i64 3]] w fun e w' => e = .returned (.string (nmS 6)) ∧ Ext w w' := by
  go_enter Tryz.func234, Tryz.ntmps234
  go_wp2
  go_ret
  exact ⟨by first | rfl | (congr 1; decide) | decide, (by first | exact (Ext.refl _).alloc _ | exact ((Ext.refl _).alloc _).drew | exact ((Ext.refl _).alloc _).drewN _)⟩
set_option maxRecDepth 100000 in
set_option maxHeartbeats 1600000 in
theorem name_7 (w : World) : Calls Tryz.prog 255 #[.agg #[.int .i64 3]] w fun e w' => e = .returned (.string (nmS 7)) ∧ Ext w w' := by
  go_enter Tryz.func255, Tryz.ntmps255
  go_wp2
  go_ret
  exact ⟨by first | rfl | (congr 1; decide) | decide, (by first | exact (Ext.refl _).alloc _ | exact ((Ext.refl _).alloc _).drew | exact ((Ext.refl _).alloc _).drewN _)⟩
set_option maxRecDepth 100000 in
set_option maxHeartbeats 1600000 in
theorem name_8 (w : World) : Calls Tryz.prog 257 #[.agg #[.int .i64 3]] w fun e w' => e = .returned (.string (nmS 8)) ∧ Ext w w' := by
  go_enter Tryz.func257, Tryz.ntmps257
  go_wp2
  go_ret
  exact ⟨by first | rfl | (congr 1; decide) | decide, (by first | exact (Ext.refl _).alloc _ | exact ((Ext.refl _).alloc _).drew | exact ((Ext.refl _).alloc _).drewN _)⟩
set_option maxRecDepth 100000 in
set_option maxHeartbeats 1600000 in
theorem name_9 (w : World) : Calls Tryz.prog 234 #[.agg #[.int .i64 4]] w fun e w' => e = .returned (.string (nmS 9)) ∧ Ext w w' := by
  go_enter Tryz.func234, Tryz.ntmps234
  go_wp2
  go_ret
  exact ⟨by first | rfl | (congr 1; decide) | decide, (by first | exact (Ext.refl _).alloc _ | exact ((Ext.refl _).alloc _).drew | exact ((Ext.refl _).alloc _).drewN _)⟩
set_option maxRecDepth 100000 in
set_option maxHeartbeats 1600000 in
theorem name_10 (w : World) : Calls Tryz.prog 255 #[.agg #[.int .i64 4]] w fun e w' => e = .returned (.string (nmS 10)) ∧ Ext w w' := by
  go_enter Tryz.func255, Tryz.ntmps255
  go_wp2
  go_ret
  exact ⟨by first | rfl | (congr 1; decide) | decide, (by first | exact (Ext.refl _).alloc _ | exact ((Ext.refl _).alloc _).drew | exact ((Ext.refl _).alloc _).drewN _)⟩
set_option maxRecDepth 100000 in
set_option maxHeartbeats 1600000 in
theorem name_11 (w : World) : Calls Tryz.prog 257 #[.agg #[.int .i64 4]] w fun e w' => e = .returned (.string (nmS 11)) ∧ Ext w w' := by
  go_enter Tryz.func257, Tryz.ntmps257
  go_wp2
  go_ret
  exact ⟨by first | rfl | (congr 1; decide) | decide, (by first | exact (Ext.refl _).alloc _ | exact ((Ext.refl _).alloc _).drew | exact ((Ext.refl _).alloc _).drewN _)⟩
end Go.Proofs.YtlnpaplbcocmkaaGreat
