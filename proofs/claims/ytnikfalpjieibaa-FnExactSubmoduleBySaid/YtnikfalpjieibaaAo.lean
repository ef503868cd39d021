/-
  Tables of brackets in the specification: one number, a row, basis elements, sums, the bracket of two elements.
-/
import Derived.Test.YtnikfalpjieibaaLi
import Derived.StillTailTactics
namespace Go.Proofs.Ytnikfalpjieibaa
open Go.ChangeShapes Go.WideShapes Go.ChangeAt Go.RowKit
set_option linter.unusedVariables false

theorem place3i {D i j : Nat} (hD : D ≤ 28) (hi : i < D) (hj : j < D) : ((i : Int) * (D : Int) + (j : Int)) * (D : Int) = (((i * D + j) * D : Nat) : Int) ∧ (i : Int) * (D : Int) = ((i * D : Nat) : Int) ∧ i * D ≤ 784 ∧ (i * D + j) * D + D ≤ D * D * D ∧ D * D * D ≤ 21952 := by
  refine ⟨by simp, by simp, ?_, place3 hi hj, cube28 hD⟩
  have := Nat.mul_le_mul (show i ≤ 28 by omega) hD; omega
set_option maxHeartbeats 1600000 in
theorem l2Get_spec (P : Int) (D a0 oa n d i j k : Nat) (l : List Int) (w : World) (hT : Reads w (some ⟨a0, oa, none⟩) n l) (hD : D ≤ 28) (hn : n = D * D * D) (hi : i < D) (hj : j < D) (hk : k < D) :
    Calls Try.prog 93 #[.agg #[.int .i64 P, .int .i64 D, .slice (some ⟨a0, oa, none⟩) n d], .int .i64 i, .int .i64 j, .int .i64 k] w fun e w' => e = .returned (.int .i64 (tb D l i j k)) ∧ Ext w w' := by
  obtain ⟨e3, e1, k1, k2, k3⟩ := place3i hD hi hj
  have hx := (reads_at (hT.ext ((Ext.refl w).alloc (.cells #[.int .i64 P, .int .i64 D, .slice (some ⟨a0, oa, none⟩) n d] 29))) (k := (i * D + j) * D + k) (by rw [hn]; exact tb_lt hi hj hk)).2
  have hlt : (i * D + j) * D + k < n := by rw [hn]; exact tb_lt hi hj hk
  have g1 : 0 ≤ (i : Int) * (D : Int) := by rw [e1]; omega
  have g2 : (i : Int) * (D : Int) ≤ 21952 := by rw [e1]; omega
  have g3 : 0 ≤ ((i : Int) * (D : Int) + (j : Int)) * (D : Int) := by rw [e3]; omega
  have g4 : ((i : Int) * (D : Int) + (j : Int)) * (D : Int) ≤ 21952 := by rw [e3]; omega
  have g5 : ((i : Int) * (D : Int) + (j : Int)) * (D : Int) + (k : Int) < (n : Int) := by rw [e3]; omega
  have g6 : 0 ≤ ((i : Int) * (D : Int) + (j : Int)) * (D : Int) + (k : Int) := by omega
  have g7 : (((i : Int) * (D : Int) + (j : Int)) * (D : Int) + (k : Int)).toNat = (i * D + j) * D + k := by rw [e3]; omega
  have HT2 : Hid (tb D l i j k = gi l ((i * D + j) * D + k)) := rfl
  generalize tb D l i j k = t at HT2
  clear e1 e3 hn k1 k2 k3 hT
  go_enter Try.func93, Try.ntmps93
  go_wp2
  go_ret
  exact ⟨ret_int HT2.out.symm, (Ext.refl _).alloc _⟩

set_option maxHeartbeats 1600000 in
theorem l2Row_spec (P : Int) (D a0 oa n d i j : Nat) (w : World) (hD : D ≤ 28) (hn : n = D * D * D) (hd : n ≤ d) (hd2 : d ≤ maxLen) (hi : i < D) (hj : j < D) :
    Calls Try.prog 52 #[.agg #[.int .i64 P, .int .i64 D, .slice (some ⟨a0, oa, none⟩) n d], .int .i64 i, .int .i64 j] w fun e w' => e = .returned (.slice (some ⟨a0, oa + (i * D + j) * D, none⟩) D (d - (i * D + j) * D)) ∧ Ext w w' := by
  obtain ⟨e3, e1, k1, k2, k3⟩ := place3i hD hi hj
  rw [← hn] at k2 k3
  unfold maxLen at hd2
  have e5 : ((i : Int) * (D : Int) + (j : Int) + 1) * (D : Int) = (((i * D + j) * D + D : Nat) : Int) := by rw [Int.add_mul, e3]; simp
  have g1 : 0 ≤ (i : Int) * (D : Int) := by rw [e1]; omega
  have g2 : (i : Int) * (D : Int) ≤ 21952 := by rw [e1]; omega
  have g3 : 0 ≤ ((i : Int) * (D : Int) + (j : Int)) * (D : Int) := by rw [e3]; omega
  have g4 : ((i : Int) * (D : Int) + (j : Int)) * (D : Int) ≤ 21952 := by rw [e3]; omega
  have g5 : 0 ≤ ((i : Int) * (D : Int) + (j : Int) + 1) * (D : Int) := by rw [e5]; omega
  have g6 : ((i : Int) * (D : Int) + (j : Int) + 1) * (D : Int) ≤ 21952 := by rw [e5]; omega
  have g7 : ((i : Int) * (D : Int) + (j : Int) + 1) * (D : Int) ≤ (d : Int) := by rw [e5]; omega
  have g8 : ((i : Int) * (D : Int) + (j : Int)) * (D : Int) ≤ ((i : Int) * (D : Int) + (j : Int) + 1) * (D : Int) := by rw [e3, e5]; omega
  have g9 : ((i : Int) * (D : Int) + (j : Int)) * (D : Int) < (d : Int) := by rw [e3]; omega
  have HF : Hid ((((i : Int) * (D : Int) + (j : Int) + 1) * (D : Int)).toNat - (((i : Int) * (D : Int) + (j : Int)) * (D : Int)).toNat = D ∧ (((i : Int) * (D : Int) + (j : Int)) * (D : Int)).toNat = (i * D + j) * D) := by
    refine ⟨?_, ?_⟩
    · rw [e5, e3]; omega
    · rw [e3]; omega
  have HK2 : Hid ((i * D + j + 1) * D - (i * D + j) * D = D) := by rw [Hid, Nat.add_mul (i * D + j) 1, Nat.one_mul, Nat.add_sub_cancel_left]
  have HLT : Hid ((i * D + j) * D ≠ d) := by show (i * D + j) * D ≠ d; omega
  clear e1 e3 e5 hn k1 k2 k3
  go_enter Try.func52, Try.ntmps52
  go_wp2
  go_ret
  exact ⟨by simp [HK2.out], (Ext.refl _).alloc _⟩

set_option maxHeartbeats 800000 in
theorem l2Basis_spec (D k : Nat) (w : World) (hD : D ≤ 28) (hk : k < D) :
    Calls Try.prog 60 #[.int .i64 D, .int .i64 k] w fun e w' => ∃ b, e = .returned (.slice (some ⟨b, 0, none⟩) D D) ∧ Has w' b (basL D k) ∧ Ext w w' := by
  have hmk := make_ints D (by omega)
  have X0 : Hid (Has (w.alloc (.cells ((ints (List.replicate D 0)).setIfInBounds k (.int .i64 1)) 3)) w.heap.size (basL D k)) := by
    rw [Hid, ints_set]; exact Has.new w _
  have x2 : (w.alloc (.cells (ints (List.replicate D 0)) 3)).cell? ⟨w.heap.size, k, none⟩ = some (.int .i64 0) := by
    have := (Has.new w (List.replicate D 0)).cell k (by simpa using hk)
    rwa [gi_repl] at this
  have f2 : (w.alloc (.cells (ints (List.replicate D 0)) 3)).frozen? ⟨w.heap.size, k, none⟩ = false := (Has.new w (List.replicate D 0)).free k
  go_enter Try.func60, Try.ntmps60
  go_wp2
  go_ret
  exact ⟨w.heap.size, rfl, X0.out, (Ext.refl _).alloc _⟩

def plusL (P : Int) (D : Nat) (xs ys : List Int) : List Int := (List.range D).map fun k => (gi xs k + gi ys k) % P
theorem plusL_length {P : Int} {D : Nat} {xs ys : List Int} : (plusL P D xs ys).length = D := by simp [plusL]
theorem gi_plusL {P : Int} {D : Nat} {xs ys : List Int} {k : Nat} (hk : k < D) : gi (plusL P D xs ys) k = (gi xs k + gi ys k) % P := gi_map D _ hk
def PlusPost (w : World) (P : Int) (D : Nat) (xs ys : List Int) (e : Ending) (w' : World) : Prop := ∃ b, e = .returned (.slice (some ⟨b, 0, none⟩) D D) ∧ Has w' b (plusL P D xs ys) ∧ Ext w w'
set_option maxHeartbeats 1600000 in
theorem l2Plus_spec (P : Int) (D c c' : Nat) (a a' : Option Addr) (xs ys : List Int) (w : World) (hr : Reads w a D xs) (hr' : Reads w a' D ys) (hD : D ≤ 28) (hp : 2 ≤ P) (hp2 : P ≤ 10007) (hx : Res xs P) (hy : Res ys P) :
    Calls Try.prog 120 #[.int .i64 P, .slice a D c, .slice a' D c'] w (PlusPost w P D xs ys) := by
  have HR := Lib.hid hr
  have HR' := Lib.hid hr'
  have HX := Lib.hid hx
  have HY := Lib.hid hy
  have hmk := make_ints D (by omega)
  have hml : (plusL P D xs ys).length = (List.replicate D (0 : Int)).length := by rw [plusL_length, List.length_replicate]
  have HML := Lib.hid hml
  have X0 : Hid (Has (w.alloc (.cells (ints (List.replicate D 0)) 3)) w.heap.size (mix (plusL P D xs ys) (List.replicate D 0) 0)) := by rw [Hid, mix_zero]; exact Has.new w _
  have E0 : Hid (Ext w (w.alloc (.cells (ints (List.replicate D 0)) 3))) := (Ext.refl w).alloc _
  clear hr hr' hx hy hml
  go_enter Try.func120, Try.ntmps120
  go_wp2_with fail
  clear hmk
  go_loopw [8] (fun z wr => ∃ k : Nat, k ≤ D ∧ z = .int .i64 k ∧ Hid (Ext w wr) ∧ Hid (Has wr w.heap.size (mix (plusL P D xs ys) (List.replicate D 0) k))) (fun z _ => D - (intOf z).toNat)
  case atStart => exact ⟨0, by omega, rfl, E0, X0⟩
  case round =>
    clear X0 E0
    obtain ⟨k, hk, rfl, hE, hX⟩ := hrel
    by_cases hlt : k < D
    · rcases (HR.out.ext hE.out).2 with h | ⟨b, off, rfl, hb, hc⟩
      · omega
      rcases (HR'.out.ext hE.out).2 with h | ⟨b', off', rfl, hb', hc'⟩
      · omega
      have x1 := hc k hlt
      have x2 := hc' k hlt
      obtain ⟨y0, y1⟩ := HX.out k (by rw [HR.out.1]; exact hlt)
      obtain ⟨z0, z1⟩ := HY.out k (by rw [HR'.out.1]; exact hlt)
      have hml := mix_length (plusL P D xs ys) (List.replicate D (0 : Int)) k HML.out (by rw [List.length_replicate]; exact hk)
      rw [List.length_replicate] at hml
      have x3 := hX.out.cell k (by rw [hml]; exact hlt)
      have f3 := hX.out.free k
      have N1 : Hid (Has (wr.setCell ⟨w.heap.size, k, none⟩ (.int .i64 ((gi xs k + gi ys k) % P))) w.heap.size (mix (plusL P D xs ys) (List.replicate D 0) (k + 1))) := by
        have := hX.out.set k (by rw [hml]; exact hlt) (gi (plusL P D xs ys) k)
        rw [mix_set _ _ _ HML.out (by rw [List.length_replicate]; exact hlt), gi_plusL hlt] at this
        exact this
      have N2 : Hid (Ext w (wr.setCell ⟨w.heap.size, k, none⟩ (.int .i64 ((gi xs k + gi ys k) % P)))) := hE.out.setCell (p := ⟨w.heap.size, k, none⟩) (Nat.le_refl _) _
      have hlt' : (k : Int) < (D : Int) := by omega
      clear hc hc' hml hE hX
      go_wp2_with fail
      go_region
      go_wp2
      exact ⟨⟨k + 1, by omega, by simp, N2.out.drew, N1.out.ext (Ext.refl _).drew⟩, by simp [intOf]; omega⟩
    · obtain rfl : D = k := by omega
      have hmf := mix_full (plusL P D xs ys) (List.replicate D (0 : Int)) HML.out
      rw [List.length_replicate] at hmf
      rw [hmf] at hX
      clear hmf
      go_wp2
      go_ret
      exact ⟨w.heap.size, rfl, hX.out, hE.out⟩

/-! The bracket of two elements, term by term. -/
def brI (P : Int) (D : Nat) (l xs ys : List Int) (i : Nat) : List Int := (List.range D).map fun k => (sumN i fun a => sumN D fun b => gi xs a * gi ys b * tb D l a b k) % P
def brJ (P : Int) (D : Nat) (l xs ys : List Int) (i j : Nat) : List Int := (List.range D).map fun k => ((sumN i fun a => sumN D fun b => gi xs a * gi ys b * tb D l a b k) + sumN j fun b => gi xs i * gi ys b * tb D l i b k) % P
section
variable {P : Int} {D : Nat} {l xs ys : List Int}
theorem brI_length (i : Nat) : (brI P D l xs ys i).length = D := by simp [brI]
theorem brJ_length (i j : Nat) : (brJ P D l xs ys i j).length = D := by simp [brJ]
theorem brJ_zero (i : Nat) : brJ P D l xs ys i 0 = brI P D l xs ys i := by simp [brJ, brI, sumN]
theorem brJ_full (i : Nat) : brJ P D l xs ys i D = brI P D l xs ys (i + 1) := by simp [brJ, brI, sumN]
theorem brI_zero : brI P D l xs ys 0 = List.replicate D 0 := by
  refine ext_gi (by rw [brI_length, List.length_replicate]) (fun k hk => ?_)
  rw [brI_length] at hk
  rw [brI, gi_map D _ hk, gi_repl]; simp [sumN]
theorem brI_skip {i : Nat} (h : gi xs i = 0) : brI P D l xs ys (i + 1) = brI P D l xs ys i := by
  refine ext_gi (by rw [brI_length, brI_length]) (fun k hk => ?_)
  rw [brI_length] at hk
  rw [brI, brI, gi_map D _ hk, gi_map D _ hk, sumN, h]
  have : (sumN D fun b => 0 * gi ys b * tb D l i b k) = 0 := by
    rw [show (fun b => 0 * gi ys b * tb D l i b k) = fun _ => (0 : Int) from funext fun b => by simp]; exact sumN_zero D
  rw [this, Int.add_zero]
theorem brI_all : brI P D l xs ys D = brL P D l xs ys := rfl
theorem brJ_succ (i j : Nat) {k : Nat} (hk : k < D) : gi (brJ P D l xs ys i (j + 1)) k = (gi (brJ P D l xs ys i j) k + (gi xs i * gi ys j % P) * tb D l i j k) % P := by
  rw [brJ, brJ, gi_map D _ hk, gi_map D _ hk, sumN, ← Int.add_assoc]
  exact (((Eqm.emod _).add ((Eqm.emod _).mul (Eqm.refl _))).symm).to_emod
theorem brJ_skip {i j : Nat} (h : gi xs i * gi ys j % P = 0) (hp : 0 < P) : brJ P D l xs ys i (j + 1) = brJ P D l xs ys i j := by
  refine ext_gi (by rw [brJ_length, brJ_length]) (fun k hk => ?_)
  rw [brJ_length] at hk
  rw [brJ_succ i j hk, h, Int.zero_mul, Int.add_zero]
  rw [brJ, gi_map D _ hk]
  exact Int.emod_emod_of_dvd _ (Int.dvd_refl P)
theorem brJ_res (hp : 0 < P) (i j : Nat) : Res (brJ P D l xs ys i j) P := fun k hk => by
  rw [brJ_length] at hk
  rw [brJ, gi_map D _ hk]
  exact ⟨Int.emod_nonneg _ (by omega), Int.emod_lt_of_pos _ hp⟩
theorem brL_length : (brL P D l xs ys).length = D := by simp [brL]
theorem brL_res (hp : 0 < P) : Res (brL P D l xs ys) P := fun k hk => by
  rw [brL_length] at hk
  rw [brL, gi_map D _ hk]
  exact ⟨Int.emod_nonneg _ (by omega), Int.emod_lt_of_pos _ hp⟩
end
def BrPost (w : World) (P : Int) (D : Nat) (l xs ys : List Int) (e : Ending) (w' : World) : Prop := ∃ b, e = .returned (.slice (some ⟨b, 0, none⟩) D D) ∧ w.heap.size ≤ b ∧ Has w' b (brL P D l xs ys) ∧ Ext w w'
set_option maxRecDepth 100000 in
set_option maxHeartbeats 6400000 in
theorem l2Bracket_spec (P : Int) (D a0 oa n d c c' : Nat) (ax ay : Option Addr) (l xs ys : List Int) (w : World) (hT : Reads w (some ⟨a0, oa, none⟩) n l) (hr : Reads w ax D xs) (hr' : Reads w ay D ys) (hD : D ≤ 28) (hn : n = D * D * D) (hp : 2 ≤ P) (hp2 : P ≤ 10007) (hl : Res l P) (hx : Res xs P) (hy : Res ys P) :
    Calls Try.prog 102 #[.agg #[.int .i64 P, .int .i64 D, .slice (some ⟨a0, oa, none⟩) n d], .slice ax D c, .slice ay D c'] w (BrPost w P D l xs ys) := by
  have HT := Lib.hid hT
  have HR := Lib.hid hr
  have HR' := Lib.hid hr'
  have HN := Lib.hid hn
  have HL := Lib.hid hl
  have HX := Lib.hid hx
  have HY := Lib.hid hy
  have hmk := make_ints D (by omega)
  have A0 := Lib.hid (cells_new w #[.int .i64 P, .int .i64 D, .slice (some ⟨a0, oa, none⟩) n d] 29)
  have E0 := Lib.hid ((Ext.refl w).alloc (.cells #[.int .i64 P, .int .i64 D, .slice (some ⟨a0, oa, none⟩) n d] 29))
  have hsz : (w.alloc (.cells #[.int .i64 P, .int .i64 D, .slice (some ⟨a0, oa, none⟩) n d] 29)).heap.size = w.heap.size + 1 := by simp
  have X0 : Hid (Has ((w.alloc (.cells #[.int .i64 P, .int .i64 D, .slice (some ⟨a0, oa, none⟩) n d] 29)).alloc (.cells (ints (List.replicate D 0)) 3)) (w.heap.size + 1) (brI P D l xs ys 0)) := by
    rw [Hid, brI_zero]
    have := Has.new (w.alloc (.cells #[.int .i64 P, .int .i64 D, .slice (some ⟨a0, oa, none⟩) n d] 29)) (List.replicate D 0)
    rw [hsz] at this
    exact this
  have E1 := Lib.hid ((Ext.refl (w.alloc (.cells #[.int .i64 P, .int .i64 D, .slice (some ⟨a0, oa, none⟩) n d] 29))).alloc (.cells (ints (List.replicate D 0)) 3))
  have HSZ := Lib.hid hsz
  have hHN := hn
  clear hT hr hr' hn hl hx hy hsz hHN
  have lA := A0.out.1
  have q1 := A0.out.2 1 _ rfl
  go_enter Try.func102, Try.ntmps102
  go_wp2_with fail
  clear hmk lA q1
  generalize w.alloc (.cells #[.int .i64 P, .int .i64 D, .slice (some ⟨a0, oa, none⟩) n d] 29) = W1 at *
  have nA : w.heap.size ≠ w.heap.size + 1 := by omega
  go_loopw [9, 10, 11, 12] (fun z _ _ _ wr => ∃ i : Nat, i ≤ D ∧ z = .int .i64 i ∧ Hid (Ext W1 wr) ∧ Hid (Has wr (w.heap.size + 1) (brI P D l xs ys i))) (fun z _ _ _ _ => D - (intOf z).toNat)
  case atStart => exact ⟨0, by omega, rfl, E1, X0⟩
  case round =>
    clear X0 E1
    obtain ⟨i, hi, rfl, hE, hX⟩ := hrel
    by_cases hlt : i < D
    · rcases (HR.out.ext (E0.out.trans hE.out)).2 with h | ⟨bx, ox, rfl, hbx, hcx⟩
      · omega
      have x1 := hcx i hlt
      obtain ⟨y0, y1⟩ := HX.out i (by rw [HR.out.1]; exact hlt)
      have HI : gi xs i = 0 → brI P D l xs ys (i + 1) = brI P D l xs ys i := brI_skip
      have HI2 := Lib.hid HI
      have HZ : Hid (brJ P D l xs ys i 0 = brI P D l xs ys i) := brJ_zero i
      have HF : Hid (brJ P D l xs ys i D = brI P D l xs ys (i + 1)) := brJ_full i
      have HS : Hid (∀ j k, k < D → gi (brJ P D l xs ys i (j + 1)) k = (gi (brJ P D l xs ys i j) k + (gi xs i * gi ys j % P) * tb D l i j k) % P) := fun j k hk => brJ_succ i j hk
      have HK : Hid (∀ j, gi xs i * gi ys j % P = 0 → brJ P D l xs ys i (j + 1) = brJ P D l xs ys i j) := fun j h => brJ_skip h (by omega)
      clear HI hcx
      by_cases h0 : gi xs i = 0
      · have hb0 : (gi xs i == 0) = true := by simpa using h0
        have H1 := Lib.hid (HI2.out h0)
        clear h0
        go_wp2
        exact ⟨⟨i + 1, by omega, by simp, hE, by rw [H1.out]; exact hX⟩, by simp [intOf]; omega⟩
      · have hb0 : (gi xs i == 0) = false := by simpa using h0
        have hX0 : Hid (Has wr (w.heap.size + 1) (brJ P D l xs ys i 0)) := by rw [Hid, HZ.out]; exact hX.out
        clear h0 hX
        go_wp2_with fail
        clear x1
        go_loopw [10, 11, 12] (fun z _ _ wr => ∃ j : Nat, j ≤ D ∧ z = .int .i64 j ∧ Hid (Ext W1 wr) ∧ Hid (Has wr (w.heap.size + 1) (brJ P D l xs ys i j))) (fun z _ _ _ => D - (intOf z).toNat)
        case atStart => exact ⟨0, by omega, rfl, hE, hX0⟩
        case round =>
          clear hE hX0
          obtain ⟨j, hj, rfl, hE, hX⟩ := hrel
          by_cases hlt2 : j < D
          · rcases (HR.out.ext (E0.out.trans hE.out)).2 with h | ⟨bx', ox', ex, hbx', hcx'⟩
            · omega
            injection ex with ex1
            injection ex1 with ex2 ex3
            subst ex2 ex3
            have x1 := hcx' i hlt
            rcases (HR'.out.ext (E0.out.trans hE.out)).2 with h | ⟨by', oy', rfl, hby', hcy'⟩
            · omega
            have x2 := hcy' j hlt2
            obtain ⟨z0, z1⟩ := HY.out j (by rw [HR'.out.1]; exact hlt2)
            have m0 := Int.mul_nonneg y0 z0
            have m1 : gi xs i * gi ys j ≤ 100140049 := by
              have := Int.mul_le_mul (show gi xs i ≤ 10007 by omega) (show gi ys j ≤ 10007 by omega) z0 (by omega)
              omega
            have AW := A0.out.ext hE.out
            have lA := AW.1
            have q0 := AW.2 0 _ rfl
            have v1 : IntKind.i64.wrap (gi xs i * gi ys j) = gi xs i * gi ys j := IntWalk.i64_in _ ⟨by omega, by omega⟩
            have v2 : (gi xs i * gi ys j).tmod P = gi xs i * gi ys j % P := Int.tmod_eq_emod_of_nonneg m0
            have p0 : (P == 0) = false := by simp; omega
            have hlt' : (j : Int) < (D : Int) := by omega
            have hlt'' : (i : Int) < (D : Int) := by omega
            clear hcx' hcy' AW
            go_wp2_with fail
            go_quiet (fail)
            clear v1 v2 x1 x2
            have hEq := Lib.hid (hE.out.trans ((Ext.refl wr).drewN nq))
            have hXq := Lib.hid (hX.out.ext ((Ext.refl wr).drewN nq))
            clear hE hX lA q0
            have f0 := Int.emod_nonneg (gi xs i * gi ys j) (show P ≠ 0 by omega)
            have f1 := Int.emod_lt_of_pos (gi xs i * gi ys j) (show 0 < P by omega)
            have HSj := Lib.hid (HS.out j)
            have HKj := Lib.hid (HK.out j)
            clear m0 m1
            generalize gi xs i * gi ys j % P = f at f0 f1 HSj HKj ⊢
            generalize wr.drewN nq = wq at *
            have hX1 : Hid (Has wq (w.heap.size + 1) (mix (brJ P D l xs ys i (j + 1)) (brJ P D l xs ys i j) 0)) := by rw [Hid, mix_zero]; exact hXq.out
            have hml : (brJ P D l xs ys i (j + 1)).length = (brJ P D l xs ys i j).length := by rw [brJ_length, brJ_length]
            have HML := Lib.hid hml
            have HRJ := Lib.hid (brJ_res (P := P) (D := D) (l := l) (xs := xs) (ys := ys) (show 0 < P by omega) i j)
            clear hXq hml
            go_wp2_with fail
            go_loopw [12] (fun z wr => ∃ k : Nat, k ≤ D ∧ Hid (f = 0 → k = 0) ∧ z = .int .i64 k ∧ Hid (Ext W1 wr) ∧ Hid (Has wr (w.heap.size + 1) (mix (brJ P D l xs ys i (j + 1)) (brJ P D l xs ys i j) k))) (fun z _ => D - (intOf z).toNat)
            case atStart => exact ⟨0, by omega, fun _ => rfl, rfl, hEq, hX1⟩
            case round =>
              clear hEq hX1
              obtain ⟨k, hk, hk0, rfl, hE, hX⟩ := hrel
              by_cases hf : f = 0
              · obtain rfl := hk0.out hf
                have H1 := HKj.out hf
                rw [mix_zero, ← H1] at hX
                subst hf
                clear H1
                go_wp2
                exact ⟨⟨j + 1, by omega, by simp, hE, hX⟩, by simp [intOf]; omega⟩
              · have hbf : (f != 0) = true := by simpa using hf
                have HF0 := Lib.hid hf
                clear hf
                by_cases hlt3 : k < D
                · have HTR := Lib.hid (HT.out.ext (E0.out.trans hE.out))
                  have htb := tb_res (a := i) (b := j) (c := k) HL.out (HT.out.1.trans HN.out) hlt hlt2 hlt3
                  have HSk := HSj.out k hlt3
                  have HTB : Hid (∀ w3, Ext wr w3 → Calls Try.prog 93 #[.agg #[.int .i64 P, .int .i64 D, .slice (some ⟨a0, oa, none⟩) n d], .int .i64 i, .int .i64 j, .int .i64 k] w3 fun e w' => e = .returned (.int .i64 (tb D l i j k)) ∧ Ext w3 w') := fun w3 h3 =>
                    l2Get_spec P D a0 oa n d i j k l w3 (HTR.out.ext h3) hD HN.out hlt hlt2 hlt3
                  generalize tb D l i j k = t at htb HSk HTB
                  obtain ⟨t0, t1⟩ := htb
                  have hmk := mix_length (brJ P D l xs ys i (j + 1)) (brJ P D l xs ys i j) k HML.out (by rw [brJ_length]; exact hk)
                  rw [brJ_length] at hmk
                  have HMK := Lib.hid hmk
                  have x3 := hX.out.cell k (by rw [hmk]; exact hlt3)
                  rw [gi_mix _ _ _ HML.out (by rw [brJ_length]; exact hlt3)] at x3
                  have f3 := hX.out.free k
                  have lX := hX.out.lt
                  obtain ⟨o0, o1⟩ := HRJ.out k (by rw [brJ_length]; exact hlt3)
                  have HMS := Lib.hid (mix_set (brJ P D l xs ys i (j + 1)) (brJ P D l xs ys i j) k HML.out (by rw [brJ_length]; exact hlt3))
                  have HG := Lib.hid HSk
                  generalize gi (brJ P D l xs ys i j) k = oo at x3 o0 o1 HG
                  have p1 := Int.mul_nonneg f0 t0
                  have p2 : f * t ≤ 100140049 := by
                    have := Int.mul_le_mul (show f ≤ 10007 by omega) (show t ≤ 10007 by omega) t0 (by omega)
                    omega
                  have AW := A0.out.ext hE.out
                  have lA := AW.1
                  have q0 := AW.2 0 _ rfl
                  have q1 := AW.2 1 _ rfl
                  have q2 := AW.2 2 _ rfl
                  have ew : wr.drew.heap.size = wr.heap.size := rfl
                  have g1 : (k : Int) < (D : Int) := by omega
                  clear AW hmk HSk hk0
                  go_wp2_with fail
                  have v1 : IntKind.i64.wrap (f * t) = f * t := IntWalk.i64_in _ ⟨by omega, by omega⟩
                  have v2 : IntKind.i64.wrap (oo + f * t) = oo + f * t := IntWalk.i64_in _ ⟨by omega, by omega⟩
                  have v3 : (oo + f * t).tmod P = (oo + f * t) % P := Int.tmod_eq_emod_of_nonneg (by omega)
                  have pn0 : ¬ P = 0 := by omega
                  refine wp_region_held_drew (S := (fun w' => wr.grownBy w' (some (w.heap.size + 1)) ∧ ∀ B o, B ≠ w.heap.size + 1 → B < wr.heap.size → w'.cell? ⟨B, o, none⟩ = wr.cell? ⟨B, o, none⟩)) (by kernel_rfl) keptB_drew (fun hHeld => ?_)
                  refine wpAnyH_take (i := 0) (v := ?v1) rfl (by kernel_rfl) (by kernel_rfl) (by kernel_rfl) (fun _ _ _ h => h) (Or.inl ⟨by rfl, ?hy1⟩) hHeld ?rest1
                  case hy1 => (intro wz hSw; (try dsimp only at hSw); go_simp; (try with_reducible rfl))
                  (try simp only [Act.put]); (try simp only [List.setIfInBounds_toArray]); (try simp only [List.set_cons_succ]); (try simp only [List.set_cons_zero])
                  refine wpAnyH_take (i := 1) (v := ?v2) rfl (by kernel_rfl) (by kernel_rfl) (by kernel_rfl) (fun _ _ _ h => h) (Or.inl ⟨by rfl, ?hy2⟩) hHeld ?rest2
                  case hy2 => (intro wz hSw; (try dsimp only at hSw); go_simp; (try with_reducible rfl))
                  (try simp only [Act.put]); (try simp only [List.setIfInBounds_toArray]); (try simp only [List.set_cons_succ]); (try simp only [List.set_cons_zero])
                  refine wpAnyH_take (i := 2) (v := ?v3) rfl (by kernel_rfl) (by kernel_rfl) (by kernel_rfl) (fun _ _ _ h => h) (Or.inl ⟨by rfl, ?hy3⟩) hHeld ?rest3
                  case hy3 => (intro wz hSw; (try dsimp only at hSw); go_simp; (try with_reducible rfl))
                  (try simp only [Act.put]); (try simp only [List.setIfInBounds_toArray]); (try simp only [List.set_cons_succ]); (try simp only [List.set_cons_zero])
                  refine wpAnyH_take (i := 3) (v := ?v4) rfl (by kernel_rfl) (by kernel_rfl) (by kernel_rfl) (fun _ _ _ h => h) (Or.inl ⟨by rfl, ?hy4⟩) hHeld ?rest4
                  case hy4 => (intro wz hSw; (try dsimp only at hSw); go_simp; (try with_reducible rfl))
                  (try simp only [Act.put]); (try simp only [List.setIfInBounds_toArray]); (try simp only [List.set_cons_succ]); (try simp only [List.set_cons_zero])
                  refine wpAnyH_take (i := 4) (v := ?v5) rfl (by kernel_rfl) (by kernel_rfl) (by kernel_rfl) (fun _ _ _ h => h) (Or.inl ⟨by rfl, ?hy5⟩) hHeld ?rest5
                  case hy5 => (intro wz hSw; (try dsimp only at hSw); go_simp; (try with_reducible rfl))
                  (try simp only [Act.put]); (try simp only [List.setIfInBounds_toArray]); (try simp only [List.set_cons_succ]); (try simp only [List.set_cons_zero])
                  refine wpAnyH_take (i := 6) (v := ?v6) rfl (by kernel_rfl) (by kernel_rfl) (by kernel_rfl) (fun _ _ _ h => h) (Or.inl ⟨by rfl, ?hy6⟩) hHeld ?rest6
                  case hy6 => (intro wz hSw; (try dsimp only at hSw); go_simp; (try with_reducible rfl))
                  (try simp only [Act.put]); (try simp only [List.setIfInBounds_toArray]); (try simp only [List.set_cons_succ]); (try simp only [List.set_cons_zero])
                  refine wpAnyH_take (i := 7) (v := ?v7) rfl (by kernel_rfl) (by kernel_rfl) (by kernel_rfl) (fun _ _ _ h => h) (Or.inl ⟨by rfl, ?hy7⟩) hHeld ?rest7
                  case hy7 => (intro wz hSw; (try dsimp only at hSw); go_simp; (try with_reducible rfl))
                  (try simp only [Act.put]); (try simp only [List.setIfInBounds_toArray]); (try simp only [List.set_cons_succ]); (try simp only [List.set_cons_zero])
                  refine wpAnyH_take (i := 8) (v := ?v8) rfl (by kernel_rfl) (by kernel_rfl) (by kernel_rfl) (fun _ _ _ h => h) (Or.inl ⟨by rfl, ?hy8⟩) hHeld ?rest8
                  case hy8 => (intro wz hSw; (try dsimp only at hSw); go_simp; (try with_reducible rfl))
                  (try simp only [Act.put]); (try simp only [List.setIfInBounds_toArray]); (try simp only [List.set_cons_succ]); (try simp only [List.set_cons_zero])
                  refine wpAnyH_take (i := 9) (v := ?v9) rfl (by kernel_rfl) (by kernel_rfl) (by kernel_rfl) (fun _ _ _ h => h) (Or.inl ⟨by rfl, ?hy9⟩) hHeld ?rest9
                  case hy9 => (intro wz hSw; (try dsimp only at hSw); go_simp; (try with_reducible rfl))
                  (try simp only [Act.put]); (try simp only [List.setIfInBounds_toArray]); (try simp only [List.set_cons_succ]); (try simp only [List.set_cons_zero])
                  refine wpAnyH_take (i := 10) (v := ?v10) rfl (by kernel_rfl) (by kernel_rfl) (by kernel_rfl) (fun _ _ _ h => h) (Or.inl ⟨by rfl, ?hy10⟩) hHeld ?rest10
                  case hy10 => (intro wz hSw; (try dsimp only at hSw); go_simp; (try with_reducible rfl))
                  (try simp only [Act.put]); (try simp only [List.setIfInBounds_toArray]); (try simp only [List.set_cons_succ]); (try simp only [List.set_cons_zero])
                  refine wpAnyH_take (i := 14) (v := ?v11) rfl (by kernel_rfl) (by kernel_rfl) (by kernel_rfl) (fun _ _ _ h => h) (Or.inl ⟨by rfl, ?hy11⟩) hHeld ?rest11
                  case hy11 => (intro wz hSw; (try dsimp only at hSw); go_simp; (try with_reducible rfl))
                  (try simp only [Act.put]); (try simp only [List.setIfInBounds_toArray]); (try simp only [List.set_cons_succ]); (try simp only [List.set_cons_zero])
                  refine wpAnyH_take (i := 15) (v := ?v12) rfl (by kernel_rfl) (by kernel_rfl) (by kernel_rfl) (fun _ _ _ h => h) (Or.inl ⟨by rfl, ?hy12⟩) hHeld ?rest12
                  case hy12 => (intro wz hSw; (try dsimp only at hSw); go_simp; (try with_reducible rfl))
                  (try simp only [Act.put]); (try simp only [List.setIfInBounds_toArray]); (try simp only [List.set_cons_succ]); (try simp only [List.set_cons_zero])
                  refine wpAnyH_ready (rs := [5, 11]) (by kernel_rfl) (by simp) ?_
                  refine AllReadyH.cons rfl (fun K' hK => ?_) (AllReadyH.cons rfl (fun K' hK => ?_) AllReadyH.nil)
                  · skip
                    go_simp
                    refine hK.out _ _ hHeld (fun hHeld => ?_)
                    clear hK
                    refine wpAnyH_ready (rs := [11]) (by kernel_rfl) (by simp) ?_
                    refine AllReadyH.cons rfl (fun K' hK => ?_) AllReadyH.nil
                    go_simp
                    refine (HTB.out _ (Ext.refl _).drew).mono ?_
                    rintro e w4 ⟨rfl, h4⟩
                    dsimp only
                    have c1 : w4.cell? ⟨w.heap.size + 1, k, none⟩ = some (.int .i64 oo) := ((h4.cells _ k lX).trans x3)
                    have f1 : w4.frozen? ⟨w.heap.size + 1, k, none⟩ = false := ((h4.frees _ k lX).trans f3)
                    refine hK.out _ _ (keptB_call hHeld h4) (fun hHeld => ?_)
                    clear hK
                    refine wpAnyH_take (i := 12) (v := ?v13) rfl (by kernel_rfl) (by kernel_rfl) (by kernel_rfl) (fun _ _ _ h => h) (Or.inl ⟨by rfl, ?hy13⟩) hHeld ?rest13
                    case hy13 => (intro wz hSw; (try dsimp only at hSw); go_simp; (try with_reducible rfl))
                    (try simp only [Act.put]); (try simp only [List.setIfInBounds_toArray]); (try simp only [List.set_cons_succ]); (try simp only [List.set_cons_zero])
                    refine wpAnyH_take (i := 13) (v := ?v14) rfl (by kernel_rfl) (by kernel_rfl) (by kernel_rfl) (fun _ _ _ h => h) (Or.inl ⟨by rfl, ?hy14⟩) hHeld ?rest14
                    case hy14 => (intro wz hSw; (try dsimp only at hSw); go_simp; (try with_reducible rfl))
                    (try simp only [Act.put]); (try simp only [List.setIfInBounds_toArray]); (try simp only [List.set_cons_succ]); (try simp only [List.set_cons_zero])
                    refine wpAnyH_take (i := 16) (v := ?v15) rfl (by kernel_rfl) (by kernel_rfl) (by kernel_rfl) (fun _ _ _ h => h) (Or.inl ⟨by rfl, ?hy15⟩) hHeld ?rest15
                    case hy15 => (intro wz hSw; (try dsimp only at hSw); go_simp; (try with_reducible rfl))
                    (try simp only [Act.put]); (try simp only [List.setIfInBounds_toArray]); (try simp only [List.set_cons_succ]); (try simp only [List.set_cons_zero])
                    refine wpAnyH_take (i := 17) (v := ?v16) rfl (by kernel_rfl) (by kernel_rfl) (by kernel_rfl) (fun _ _ _ h => h) (Or.inl ⟨by rfl, ?hy16⟩) hHeld ?rest16
                    case hy16 => (intro wz hSw; (try dsimp only at hSw); go_simp; (try with_reducible rfl))
                    (try simp only [Act.put]); (try simp only [List.setIfInBounds_toArray]); (try simp only [List.set_cons_succ]); (try simp only [List.set_cons_zero])
                    refine wpAnyH_ready (rs := [18]) (by kernel_rfl) (by simp) ?_
                    refine AllReadyH.cons rfl (fun K' hK => ?_) AllReadyH.nil
                    go_simp
                    refine hK.out _ _ (keptB_set hHeld _ _) (fun hHeld => ?_)
                    refine wpAnyH_done (by kernel_rfl) ?_ _
                    have N1 : Hid (Has (w4.setCell ⟨w.heap.size + 1, k, none⟩ (.int .i64 ((oo + f * t) % P))) (w.heap.size + 1) (mix (brJ P D l xs ys i (j + 1)) (brJ P D l xs ys i j) (k + 1))) := by
                      have := (hX.out.ext ((Ext.refl _).drew.trans h4)).set k (by rw [HMK.out]; exact hlt3) (gi (brJ P D l xs ys i (j + 1)) k)
                      rw [HMS.out, HG.out] at this
                      exact this
                    have N2 : Hid (Ext W1 (w4.setCell ⟨w.heap.size + 1, k, none⟩ (.int .i64 ((oo + f * t) % P)))) := (hE.out.trans ((Ext.refl _).drew.trans h4)).setCell (p := ⟨w.heap.size + 1, k, none⟩) (show W1.heap.size ≤ w.heap.size + 1 from Nat.le_of_eq HSZ.out) _
                    clear hHeld hK v1 v2 v3 x3 f3 c1 f1 h4 hE hX lA q0 q1 q2
                    go_wp2
                    exact ⟨⟨k + 1, by omega, fun h => absurd h HF0.out, by simp, N2, N1⟩, by simp [intOf]; omega⟩
                  · skip
                    go_simp
                    refine (HTB.out _ (Ext.refl _).drew).mono ?_
                    rintro e w4 ⟨rfl, h4⟩
                    dsimp only
                    have c1 : w4.cell? ⟨w.heap.size + 1, k, none⟩ = some (.int .i64 oo) := ((h4.cells _ k lX).trans x3)
                    have f1 : w4.frozen? ⟨w.heap.size + 1, k, none⟩ = false := ((h4.frees _ k lX).trans f3)
                    refine hK.out _ _ (keptB_call hHeld h4) (fun hHeld => ?_)
                    clear hK
                    refine wpAnyH_take (i := 12) (v := ?v17) rfl (by kernel_rfl) (by kernel_rfl) (by kernel_rfl) (fun _ _ _ h => h) (Or.inl ⟨by rfl, ?hy17⟩) hHeld ?rest17
                    case hy17 => (intro wz hSw; (try dsimp only at hSw); go_simp; (try with_reducible rfl))
                    (try simp only [Act.put]); (try simp only [List.setIfInBounds_toArray]); (try simp only [List.set_cons_succ]); (try simp only [List.set_cons_zero])
                    refine wpAnyH_ready (rs := [5]) (by kernel_rfl) (by simp) ?_
                    refine AllReadyH.cons rfl (fun K' hK => ?_) AllReadyH.nil
                    go_simp
                    refine hK.out _ _ hHeld (fun hHeld => ?_)
                    clear hK
                    refine wpAnyH_take (i := 13) (v := ?v18) rfl (by kernel_rfl) (by kernel_rfl) (by kernel_rfl) (fun _ _ _ h => h) (Or.inl ⟨by rfl, ?hy18⟩) hHeld ?rest18
                    case hy18 => (intro wz hSw; (try dsimp only at hSw); go_simp; (try with_reducible rfl))
                    (try simp only [Act.put]); (try simp only [List.setIfInBounds_toArray]); (try simp only [List.set_cons_succ]); (try simp only [List.set_cons_zero])
                    refine wpAnyH_take (i := 16) (v := ?v19) rfl (by kernel_rfl) (by kernel_rfl) (by kernel_rfl) (fun _ _ _ h => h) (Or.inl ⟨by rfl, ?hy19⟩) hHeld ?rest19
                    case hy19 => (intro wz hSw; (try dsimp only at hSw); go_simp; (try with_reducible rfl))
                    (try simp only [Act.put]); (try simp only [List.setIfInBounds_toArray]); (try simp only [List.set_cons_succ]); (try simp only [List.set_cons_zero])
                    refine wpAnyH_take (i := 17) (v := ?v20) rfl (by kernel_rfl) (by kernel_rfl) (by kernel_rfl) (fun _ _ _ h => h) (Or.inl ⟨by rfl, ?hy20⟩) hHeld ?rest20
                    case hy20 => (intro wz hSw; (try dsimp only at hSw); go_simp; (try with_reducible rfl))
                    (try simp only [Act.put]); (try simp only [List.setIfInBounds_toArray]); (try simp only [List.set_cons_succ]); (try simp only [List.set_cons_zero])
                    refine wpAnyH_ready (rs := [18]) (by kernel_rfl) (by simp) ?_
                    refine AllReadyH.cons rfl (fun K' hK => ?_) AllReadyH.nil
                    go_simp
                    refine hK.out _ _ (keptB_set hHeld _ _) (fun hHeld => ?_)
                    refine wpAnyH_done (by kernel_rfl) ?_ _
                    have N1 : Hid (Has (w4.setCell ⟨w.heap.size + 1, k, none⟩ (.int .i64 ((oo + f * t) % P))) (w.heap.size + 1) (mix (brJ P D l xs ys i (j + 1)) (brJ P D l xs ys i j) (k + 1))) := by
                      have := (hX.out.ext ((Ext.refl _).drew.trans h4)).set k (by rw [HMK.out]; exact hlt3) (gi (brJ P D l xs ys i (j + 1)) k)
                      rw [HMS.out, HG.out] at this
                      exact this
                    have N2 : Hid (Ext W1 (w4.setCell ⟨w.heap.size + 1, k, none⟩ (.int .i64 ((oo + f * t) % P)))) := (hE.out.trans ((Ext.refl _).drew.trans h4)).setCell (p := ⟨w.heap.size + 1, k, none⟩) (show W1.heap.size ≤ w.heap.size + 1 from Nat.le_of_eq HSZ.out) _
                    clear hHeld hK v1 v2 v3 x3 f3 c1 f1 h4 hE hX lA q0 q1 q2
                    go_wp2
                    exact ⟨⟨k + 1, by omega, fun h => absurd h HF0.out, by simp, N2, N1⟩, by simp [intOf]; omega⟩
                · obtain rfl : D = k := by omega
                  have hmf := mix_full _ _ HML.out
                  rw [brJ_length] at hmf
                  rw [hmf] at hX
                  clear hmf hk0
                  go_wp2
                  exact ⟨⟨j + 1, by omega, by simp, hE, hX⟩, by simp [intOf]; omega⟩
          · obtain rfl : D = j := by omega
            rw [HF.out] at hX
            go_wp2
            exact ⟨⟨i + 1, by omega, by simp, hE, hX⟩, by simp [intOf]; omega⟩
    · obtain rfl : D = i := by omega
      have hXX := hX.out
      rw [brI_all] at hXX
      have HXX := Lib.hid hXX
      have HEE := Lib.hid (E0.out.trans hE.out)
      clear hX hE hXX
      go_wp2
      go_ret
      exact ⟨w.heap.size + 1, rfl, Nat.le_succ _, HXX.out, HEE.out⟩
end Go.Proofs.Ytnikfalpjieibaa

/-
  Whether an algebra is valid, in the specification.
-/
namespace Go.Proofs.Ytnikfalpjieibaa
open Go.ChangeShapes Go.WideShapes Go.ChangeAt Go.RowKit
set_option linter.unusedVariables false

/-- The sum that the specification reckons for three basis elements. -/
def spJ (P : Int) (D : Nat) (l : List Int) (i j k : Nat) : List Int := plusL P D (plusL P D (brL P D l (rowT D l i j) (basL D k)) (brL P D l (rowT D l j k) (basL D i))) (brL P D l (rowT D l k i) (basL D j))
theorem gi_brT {P : Int} {D : Nat} {l : List Int} {x y b m : Nat} (hb : b < D) (hm : m < D) : gi (brL P D l (rowT D l x y) (basL D b)) m = adN D l (tb D l x y) b m % P := by
  rw [brL, gi_map D _ hm, brN_bas _ hb]
  congr 1
  exact sumN_congr (fun c hc => by rw [gi_rowT hc])
theorem gi_spJ {P : Int} {D : Nat} {l : List Int} {i j k m : Nat} (hi : i < D) (hj : j < D) (hk : k < D) (hm : m < D) : gi (spJ P D l i j k) m = jacN D l i j k m % P := by
  rw [spJ, gi_plusL hm, gi_plusL hm, gi_brT hk hm, gi_brT hi hm, gi_brT hj hm, jacN]
  exact ((((Eqm.emod _).trans ((Eqm.emod _).add (Eqm.emod _))).add (Eqm.emod _))).to_emod
noncomputable def jacSB (P : Int) (D : Nat) (l : List Int) : Bool := @decide (JacS P D l) (Classical.propDecidable _)
theorem jacSB_true {P : Int} {D : Nat} {l : List Int} (h : JacS P D l) : jacSB P D l = true := by simp [jacSB, h]
theorem jacSB_false {P : Int} {D : Nat} {l : List Int} (h : ¬ JacS P D l) : jacSB P D l = false := by simp [jacSB, h]
theorem plusL_res {P : Int} {D : Nat} {xs ys : List Int} (hp : 0 < P) : Res (plusL P D xs ys) P := fun k hk => by
  rw [plusL_length] at hk
  rw [gi_plusL hk]
  exact ⟨Int.emod_nonneg _ (by omega), Int.emod_lt_of_pos _ hp⟩
theorem basL_length {D k : Nat} : (basL D k).length = D := by simp [basL]
theorem basL_res {P : Int} {D k : Nat} (hp : 2 ≤ P) : Res (basL D k) P := res_set _ _ _ _ (res_zero _ hp) (by omega) (by omega)
def BrP (w : World) (P : Int) (D : Nat) (l xs ys : List Int) (e : Ending) (w' : World) : Prop := BrPost w P D l xs ys e w'

set_option maxRecDepth 100000 in
set_option maxHeartbeats 6400000 in
theorem l2Jacobi_spec (P : Int) (D a0 oa n d : Nat) (l : List Int) (w : World) (hT : Reads w (some ⟨a0, oa, none⟩) n l) (hD : D ≤ 28) (hn : n = D * D * D) (hd : n ≤ d) (hd2 : d ≤ maxLen) (hp : 2 ≤ P) (hp2 : P ≤ 10007) (hl : Res l P) :
    Calls Try.prog 94 #[.agg #[.int .i64 P, .int .i64 D, .slice (some ⟨a0, oa, none⟩) n d]] w fun e w' => e = .returned (.bool (jacSB P D l)) ∧ Ext w w' := by
  have HT := Lib.hid hT
  have HN := Lib.hid hn
  have HRL := Lib.hid hl
  have HD2 := Lib.hid hd2
  have A0 := Lib.hid (cells_new w #[.int .i64 P, .int .i64 D, .slice (some ⟨a0, oa, none⟩) n d] 29)
  have E0 := Lib.hid ((Ext.refl w).alloc (.cells #[.int .i64 P, .int .i64 D, .slice (some ⟨a0, oa, none⟩) n d] 29))
  have E1 := Lib.hid (Ext.refl (w.alloc (.cells #[.int .i64 P, .int .i64 D, .slice (some ⟨a0, oa, none⟩) n d] 29)))
  have lA := A0.out.1
  have q1 := A0.out.2 1 _ rfl
  clear hT hn hl hd2
  go_enter Try.func94, Try.ntmps94
  go_wp2_with fail
  clear lA q1
  generalize w.alloc (.cells #[.int .i64 P, .int .i64 D, .slice (some ⟨a0, oa, none⟩) n d] 29) = W1 at *
  go_loopw [4, 5, 6, 7] (fun z _ _ _ wr => ∃ i : Nat, i ≤ D ∧ z = .int .i64 i ∧ Hid (Ext W1 wr) ∧ Hid (∀ x, x < i → ∀ j k, x < j → j < k → k < D → ∀ m, m < D → jacN D l x j k m % P = 0)) (fun z _ _ _ _ => D - (intOf z).toNat)
  case atStart => exact ⟨0, by omega, rfl, E1, fun x hx => by omega⟩
  case round =>
    clear E1
    obtain ⟨i, hi, rfl, hE, hF⟩ := hrel
    by_cases hlt : i < D
    · go_wp2_with fail
      go_loopw [5, 6, 7] (fun z _ _ wr => ∃ j : Nat, i < j ∧ j ≤ D ∧ z = .int .i64 j ∧ Hid (Ext W1 wr) ∧ Hid (∀ x, i < x → x < j → ∀ k, x < k → k < D → ∀ m, m < D → jacN D l i x k m % P = 0)) (fun z _ _ _ => D - (intOf z).toNat)
      case atStart => exact ⟨i + 1, by omega, by omega, by simp, hE, fun x h1 h2 => by omega⟩
      case round =>
        clear hE
        obtain ⟨j, hj0, hj, rfl, hE, hG⟩ := hrel
        by_cases hlt2 : j < D
        · go_wp2_with fail
          go_loopw [6, 7] (fun z _ wr => ∃ k : Nat, j < k ∧ k ≤ D ∧ z = .int .i64 k ∧ Hid (Ext W1 wr) ∧ Hid (∀ x, j < x → x < k → ∀ m, m < D → jacN D l i j x m % P = 0)) (fun z _ _ => D - (intOf z).toNat)
          case atStart => exact ⟨j + 1, by omega, by omega, by simp, hE, fun x h1 h2 => by omega⟩
          case round =>
            clear hE
            obtain ⟨k, hk0, hk, rfl, hE, hK⟩ := hrel
            by_cases hlt3 : k < D
            · have HTRwr := Lib.hid (HT.out.ext (E0.out.trans hE.out))
              have AW := A0.out.ext hE.out
              have lA := AW.1
              have q0 := AW.2 0 _ rfl
              have q1 := AW.2 1 _ rfl
              have q2 := AW.2 2 _ rfl
              clear AW
              go_wp2_with fail
              go_region_held3 (fun w' => Ext wr w' ∧ (∀ b o, b < wr.heap.size → w'.cell? ⟨b, o, none⟩ = wr.cell? ⟨b, o, none⟩)) (first | assumption | (with_reducible exact ext2 (Ext.trans (And.left ‹Ext wr _ ∧ _›) ‹Ext _ _›)) | (refine ext2 ?_; with_reducible repeat (first | exact Ext.refl _ | refine Ext.drew ?_))) (first
                | (go_at_call 52; with_reducible refine (l2Row_spec P D a0 oa n d i j _ hD HN.out hd HD2.out hlt hlt2).mono ?_; rintro e wak ⟨rfl, hak⟩)
                | (go_at_call 60; with_reducible refine (l2Basis_spec D k _ hD hlt3).mono ?_; rintro e wbk ⟨bbk, rfl, hhk, hbk⟩)
                | (go_at_call 102; (with_reducible refine (l2Bracket_spec P D a0 oa n d _ _ _ _ l (rowT D l i j) (basL D k) _ (HTRwr.out.ext (And.left ‹Ext wr _ ∧ _›)) ((rowT_reads HTRwr.out HN.out hlt hlt2).ext (And.left ‹Ext wr _ ∧ _›)) (Has.reads (Has.ext hhk (by with_reducible first | exact Ext.refl _ | exact hak)) basL_length) hD HN.out hp hp2 HRL.out (rowT_res (by omega) HRL.out _ _) (basL_res hp)).mono ?_); rintro e wck ⟨bck, rfl, hlok, hck, hEk⟩))
              have hx1 := (And.left ‹Ext wr wck ∧ _›)
              have hE1 := Lib.hid (hE.out.trans hx1)
              have HX1 := Lib.hid hck
              have HTRwck := Lib.hid (HTRwr.out.ext hx1)
              clear hx1 hck hE hhk hbk hak hEk HTRwr lA q0 q1 q2 hlok
              have AW := A0.out.ext hE1.out
              have lA := AW.1
              have q0 := AW.2 0 _ rfl
              have q1 := AW.2 1 _ rfl
              have q2 := AW.2 2 _ rfl
              clear AW
              go_wp2_with fail
              go_region_held3 (fun w' => Ext wck w' ∧ (∀ b o, b < wck.heap.size → w'.cell? ⟨b, o, none⟩ = wck.cell? ⟨b, o, none⟩)) (first | assumption | (with_reducible exact ext2 (Ext.trans (And.left ‹Ext wck _ ∧ _›) ‹Ext _ _›)) | (refine ext2 ?_; with_reducible repeat (first | exact Ext.refl _ | refine Ext.drew ?_))) (first
                | (go_at_call 52; with_reducible refine (l2Row_spec P D a0 oa n d j k _ hD HN.out hd HD2.out hlt2 hlt3).mono ?_; rintro e wai ⟨rfl, hai⟩)
                | (go_at_call 60; with_reducible refine (l2Basis_spec D i _ hD hlt).mono ?_; rintro e wbi ⟨bbi, rfl, hhi, hbi⟩)
                | (go_at_call 102; (with_reducible refine (l2Bracket_spec P D a0 oa n d _ _ _ _ l (rowT D l j k) (basL D i) _ (HTRwck.out.ext (And.left ‹Ext wck _ ∧ _›)) ((rowT_reads HTRwck.out HN.out hlt2 hlt3).ext (And.left ‹Ext wck _ ∧ _›)) (Has.reads (Has.ext hhi (by with_reducible first | exact Ext.refl _ | exact hai)) basL_length) hD HN.out hp hp2 HRL.out (rowT_res (by omega) HRL.out _ _) (basL_res hp)).mono ?_); rintro e wci ⟨bci, rfl, hloi, hci, hEi⟩)
                | (go_at_call 120; (with_reducible refine (l2Plus_spec P D _ _ _ _ _ (brL P D l (rowT D l j k) (basL D i)) _ (Has.reads (Has.ext HX1.out (And.left ‹Ext wck _ ∧ _›)) brL_length) (Has.reads hci brL_length) hD hp hp2 (brL_res (by omega)) (brL_res (by omega))).mono ?_); rintro e wdi ⟨bdi, rfl, hdi, hdEi⟩))
              have hx1 := (And.left ‹Ext wck wdi ∧ _›)
              have hE2 := Lib.hid (hE1.out.trans hx1)
              have HX2 := Lib.hid hdi
              have HTRwdi := Lib.hid (HTRwck.out.ext hx1)
              clear hx1 hdi hE1 hhi hbi hai hEi hci hdEi HX1 HTRwck lA q0 q1 q2 hloi
              have AW := A0.out.ext hE2.out
              have lA := AW.1
              have q0 := AW.2 0 _ rfl
              have q1 := AW.2 1 _ rfl
              have q2 := AW.2 2 _ rfl
              clear AW
              go_wp2_with fail
              go_region_held3 (fun w' => Ext wdi w' ∧ (∀ b o, b < wdi.heap.size → w'.cell? ⟨b, o, none⟩ = wdi.cell? ⟨b, o, none⟩)) (first | assumption | (with_reducible exact ext2 (Ext.trans (And.left ‹Ext wdi _ ∧ _›) ‹Ext _ _›)) | (refine ext2 ?_; with_reducible repeat (first | exact Ext.refl _ | refine Ext.drew ?_))) (first
                | (go_at_call 52; with_reducible refine (l2Row_spec P D a0 oa n d k i _ hD HN.out hd HD2.out hlt3 hlt).mono ?_; rintro e waj ⟨rfl, haj⟩)
                | (go_at_call 60; with_reducible refine (l2Basis_spec D j _ hD hlt2).mono ?_; rintro e wbj ⟨bbj, rfl, hhj, hbj⟩)
                | (go_at_call 102; (with_reducible refine (l2Bracket_spec P D a0 oa n d _ _ _ _ l (rowT D l k i) (basL D j) _ (HTRwdi.out.ext (And.left ‹Ext wdi _ ∧ _›)) ((rowT_reads HTRwdi.out HN.out hlt3 hlt).ext (And.left ‹Ext wdi _ ∧ _›)) (Has.reads (Has.ext hhj (by with_reducible first | exact Ext.refl _ | exact haj)) basL_length) hD HN.out hp hp2 HRL.out (rowT_res (by omega) HRL.out _ _) (basL_res hp)).mono ?_); rintro e wcj ⟨bcj, rfl, hloj, hcj, hEj⟩)
                | (go_at_call 120; (with_reducible refine (l2Plus_spec P D _ _ _ _ _ (brL P D l (rowT D l k i) (basL D j)) _ (Has.reads (Has.ext HX2.out (And.left ‹Ext wdi _ ∧ _›)) plusL_length) (Has.reads hcj brL_length) hD hp hp2 (plusL_res (by omega)) (brL_res (by omega))).mono ?_); rintro e wdj ⟨bdj, rfl, hdj, hdEj⟩))
              have hx1 := (And.left ‹Ext wdi wdj ∧ _›)
              have hE3 := Lib.hid (hE2.out.trans hx1)
              have HX3 : Hid (Has wdj bdj (spJ P D l i j k)) := hdj
              have HSL : Hid ((spJ P D l i j k).length = D) := plusL_length
              have HGI : Hid (∀ m, m < D → gi (spJ P D l i j k) m = jacN D l i j k m % P) := fun m hm => gi_spJ hlt hlt2 hlt3 hm
              clear hx1 hdj hE2 hhj hbj haj hEj hcj hdEj HX2 HTRwdi lA q0 q1 q2 hloj
              go_wp2_with fail
              refine (l1IsZero_spec _ D _ (spJ P D l i j k) _ (HX3.out.reads HSL.out) (by unfold maxLen; omega)).mono ?_
              rintro e w' ⟨rfl, rfl⟩
              rcases hok : zeroB (spJ P D l i j k) with _ | _
              · have HF2 : Hid (jacSB P D l = false) := jacSB_false (fun h => by
                  have : fz (spJ P D l i j k) 0 = (spJ P D l i j k).length := (fz_all _).2 (fun m hm => by rw [HSL.out] at hm; rw [HGI.out m hm]; exact h i j k hj0 hk0 hlt3 m hm)
                  simp only [zeroB, decide_eq_false_iff_not] at hok
                  exact hok this)
                have HEE := Lib.hid (E0.out.trans hE3.out)
                clear hok hE3
                go_wp2
                go_ret
                exact ⟨ret_bool HF2.out.symm, HEE.out⟩
              · have HK2 : Hid (∀ x, j < x → x < k + 1 → ∀ m, m < D → jacN D l i j x m % P = 0) := fun x h1 h2 m hm => by
                  by_cases e : x = k
                  · subst e
                    simp only [zeroB, decide_eq_true_eq] at hok
                    have := (fz_all _).1 hok m (by rw [HSL.out]; exact hm)
                    rwa [HGI.out m hm] at this
                  · exact hK.out x h1 (by omega) m hm
                clear hok hK
                go_wp2
                exact ⟨⟨k + 1, by omega, by omega, by simp, hE3, HK2⟩, by simp [intOf]; omega⟩
            · obtain rfl : D = k := by omega
              have HG2 : Hid (∀ x, i < x → x < j + 1 → ∀ k, x < k → k < D → ∀ m, m < D → jacN D l i x k m % P = 0) := fun x h1 h2 k h3 h4 m hm => by
                by_cases e : x = j
                · subst e; exact hK.out k h3 h4 m hm
                · exact hG.out x h1 (by omega) k h3 h4 m hm
              clear hK hG
              go_wp2
              exact ⟨⟨j + 1, by omega, by omega, by simp, hE, HG2⟩, by simp [intOf]; omega⟩
        · obtain rfl : D = j := by omega
          have HG2 : Hid (∀ x, x < i + 1 → ∀ j k, x < j → j < k → k < D → ∀ m, m < D → jacN D l x j k m % P = 0) := fun x h1 j k h2 h3 h4 m hm => by
            by_cases e : x = i
            · subst e; exact hG.out j h2 (by omega) k h3 h4 m hm
            · exact hF.out x (by omega) j k h2 h3 h4 m hm
          clear hG hF
          go_wp2
          exact ⟨⟨i + 1, by omega, by simp, hE, HG2⟩, by simp [intOf]; omega⟩
    · obtain rfl : D = i := by omega
      have HF2 : Hid (jacSB P D l = true) := jacSB_true (fun i j k h1 h2 h3 m hm => hF.out i (by omega) j k h1 h2 h3 m hm)
      have HEE := Lib.hid (E0.out.trans hE.out)
      clear hF hE
      go_wp2
      go_ret
      exact ⟨ret_bool HF2.out.symm, HEE.out⟩
end Go.Proofs.Ytnikfalpjieibaa
