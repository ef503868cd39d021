/-
  The matrix of a type of one part, in the specification.
-/
import Derived.Test.YtlnpaplbcocmkaaGreatSat
namespace Go.Proofs.YtlnpaplbcocmkaaGreat
open Go.ChangeShapes Go.WideShapes Go.ChangeAt Go.RowKit
set_option linter.unusedVariables false
set_option linter.unusedSimpArgs false

/-- The matrix of family k. -/
def oneL (k : Nat) : List Int := (List.range (frk k * frk k)).map fun e => elM k (e / frk k + 1) (e % frk k + 1)
theorem oneL_at : ∀ k, k < 12 → (oneL k).length = frk k * frk k ∧ ∀ i, i < frk k → ∀ j, j < frk k → gi (oneL k) (i * frk k + j) = elM k (i + 1) (j + 1) := by decide +kernel
def oneI (n : Nat) (st : Bool) : Nat → List Int
  | 0 => List.replicate (n * n) 0
  | i + 1 => if i + 1 < n ∧ st = false then (((oneI n st i).set (i * n + i) 2).set (i * n + i + 1) (-1)).set ((i + 1) * n + i) (-1) else (oneI n st i).set (i * n + i) 2
def starI : Nat → List Int
  | 0 => oneI 4 true 4
  | i + 1 => if i = 1 then starI i else ((starI i).set (4 + i) (-1)).set (i * 4 + 1) (-1)
theorem Cells.setB {w : World} {b c j : Nat} {vs : List Value} (h : Cells w b vs) (hne : c ≠ b) (v : Value) : Cells (w.setCell ⟨c, j, none⟩ v) b vs :=
  h.grown (grownBy_set (p := ⟨c, j, none⟩) (grownBy_refl w (some c)) rfl v) (fun k hk => by simp at hk; omega)

set_option maxRecDepth 100000 in
set_option maxHeartbeats 3200000 in
theorem l5One_0 (w : World) : Calls Tryz.prog 143 #[.string ⟨#[68, 52]⟩] w fun e w' => ∃ b, e = .returned (.agg #[.int .i64 4, .slice (some ⟨b, 0, none⟩) 16 16]) ∧ w.heap.size ≤ b ∧ Has w' b (oneL 0) ∧ Ext w w' := by
  have hmk : ∀ w : World, (Instr.makeSlice 22 (.int .i64 16) (.int .i64 16)).run Tryz.prog w = .ok (.slice (some ⟨w.heap.size, 0, none⟩) 16 16) (w.alloc (.cells (ints (List.replicate 16 0)) 3)) := make_ints 16 (by omega)
  have hb1 : ((⟨#[68, 52]⟩ : ByteArray)[1]'(by decide)).toNat = 52 := rfl
  have hb0 : ((⟨#[68, 52]⟩ : ByteArray)[0]'(by decide)).toNat = 68 := rfl
  go_enter Tryz.func143, Tryz.ntmps143
  go_wp2_with fail
  have L0 : Hid (Loc w (((w.alloc (.cells #[.int .i64 0, .slice none 0 0] 27)).alloc (.cells (ints (List.replicate 16 0)) 3)).alloc (.cells #[.int .i64 4, .slice (some ⟨w.heap.size + 1, 0, none⟩) 16 16] 27)) (w.heap.size + 1 + 1) (w.heap.size + 1) [.int .i64 4, .slice (some ⟨w.heap.size + 1, 0, none⟩) 16 16] (oneI 4 true 0)) :=
    ⟨cells_new' _ _ _ _ (by simp), (Has.new' (w.alloc (.cells #[.int .i64 0, .slice none 0 0] 27)) (List.replicate 16 0) _ (by simp)).alloc _, (((Ext.refl w).alloc _).alloc _).alloc _, by omega, by simp, by omega⟩
  have R0 : Hid (Cells (((w.alloc (.cells #[.int .i64 0, .slice none 0 0] 27)).alloc (.cells (ints (List.replicate 16 0)) 3)).alloc (.cells #[.int .i64 4, .slice (some ⟨w.heap.size + 1, 0, none⟩) 16 16] 27)) (w.heap.size) [.int .i64 0, .slice none 0 0]) :=
    (cells_new w #[.int .i64 0, .slice none 0 0] 27).ext (((Ext.refl _).alloc _).alloc _)
  go_loopw [5] (fun z wr => (z = .int .i64 0 ∧ Hid (Loc w wr (w.heap.size + 1 + 1) (w.heap.size + 1) [.int .i64 4, .slice (some ⟨w.heap.size + 1, 0, none⟩) 16 16] (oneI 4 true 0)) ∧ Hid (Cells wr (w.heap.size) [.int .i64 0, .slice none 0 0])) ∨ (z = .int .i64 1 ∧ Hid (Loc w wr (w.heap.size + 1 + 1) (w.heap.size + 1) [.int .i64 4, .slice (some ⟨w.heap.size + 1, 0, none⟩) 16 16] (oneI 4 true 1)) ∧ Hid (Cells wr (w.heap.size) [.int .i64 0, .slice none 0 0])) ∨ (z = .int .i64 2 ∧ Hid (Loc w wr (w.heap.size + 1 + 1) (w.heap.size + 1) [.int .i64 4, .slice (some ⟨w.heap.size + 1, 0, none⟩) 16 16] (oneI 4 true 2)) ∧ Hid (Cells wr (w.heap.size) [.int .i64 0, .slice none 0 0])) ∨ (z = .int .i64 3 ∧ Hid (Loc w wr (w.heap.size + 1 + 1) (w.heap.size + 1) [.int .i64 4, .slice (some ⟨w.heap.size + 1, 0, none⟩) 16 16] (oneI 4 true 3)) ∧ Hid (Cells wr (w.heap.size) [.int .i64 0, .slice none 0 0])) ∨ (z = .int .i64 4 ∧ Hid (Loc w wr (w.heap.size + 1 + 1) (w.heap.size + 1) [.int .i64 4, .slice (some ⟨w.heap.size + 1, 0, none⟩) 16 16] (oneI 4 true 4)) ∧ Hid (Cells wr (w.heap.size) [.int .i64 0, .slice none 0 0]))) (fun z _ => 4 - (intOf z).toNat)
  case atStart => exact .inl ⟨rfl, L0, R0⟩
  case round =>
    clear L0 R0
    rcases hrel with ⟨rfl, hL, hR⟩ | ⟨rfl, hL, hR⟩ | ⟨rfl, hL, hR⟩ | ⟨rfl, hL, hR⟩ | ⟨rfl, hL, hR⟩
    · skip
      have lB := hL.out.box.1
      have q1 := hL.out.box.2 1 _ rfl
      have lD := hL.out.lt
      have x0 := hL.out.has.cell 0 (by decide)
      have f0 := hL.out.has.free 0
      have L1 := Lib.hid (Loc.set hL.out 0 (by decide) (2))
      have R1 := Lib.hid (Cells.setB (c := w.heap.size + 1) (j := 0) hR.out (by omega) (.int .i64 (2)))
      have e1 : ((oneI 4 true 0).set 0 2) = oneI 4 true 1 := by decide
      rw [e1] at L1
      clear hL hR e1
      go_wp2
      exact ⟨.inr (.inl ⟨by simp, L1, R1⟩), by simp [intOf]⟩
    · skip
      have lB := hL.out.box.1
      have q1 := hL.out.box.2 1 _ rfl
      have lD := hL.out.lt
      have x5 := hL.out.has.cell 5 (by decide)
      have f5 := hL.out.has.free 5
      have L1 := Lib.hid (Loc.set hL.out 5 (by decide) (2))
      have R1 := Lib.hid (Cells.setB (c := w.heap.size + 1) (j := 5) hR.out (by omega) (.int .i64 (2)))
      have e1 : ((oneI 4 true 1).set 5 2) = oneI 4 true 2 := by decide
      rw [e1] at L1
      clear hL hR e1
      go_wp2
      exact ⟨.inr (.inr (.inl ⟨by simp, L1, R1⟩)), by simp [intOf]⟩
    · skip
      have lB := hL.out.box.1
      have q1 := hL.out.box.2 1 _ rfl
      have lD := hL.out.lt
      have x10 := hL.out.has.cell 10 (by decide)
      have f10 := hL.out.has.free 10
      have L1 := Lib.hid (Loc.set hL.out 10 (by decide) (2))
      have R1 := Lib.hid (Cells.setB (c := w.heap.size + 1) (j := 10) hR.out (by omega) (.int .i64 (2)))
      have e1 : ((oneI 4 true 2).set 10 2) = oneI 4 true 3 := by decide
      rw [e1] at L1
      clear hL hR e1
      go_wp2
      exact ⟨.inr (.inr (.inr (.inl ⟨by simp, L1, R1⟩))), by simp [intOf]⟩
    · skip
      have lB := hL.out.box.1
      have q1 := hL.out.box.2 1 _ rfl
      have lD := hL.out.lt
      have x15 := hL.out.has.cell 15 (by decide)
      have f15 := hL.out.has.free 15
      have L1 := Lib.hid (Loc.set hL.out 15 (by decide) (2))
      have R1 := Lib.hid (Cells.setB (c := w.heap.size + 1) (j := 15) hR.out (by omega) (.int .i64 (2)))
      have e1 : ((oneI 4 true 3).set 15 2) = oneI 4 true 4 := by decide
      rw [e1] at L1
      clear hL hR e1
      go_wp2
      exact ⟨.inr (.inr (.inr (.inr (⟨by simp, L1, R1⟩)))), by simp [intOf]⟩
    · have lB := hL.out.box.1
      have q1 := hL.out.box.2 1 _ rfl
      have L0 : Hid (Loc w wr (w.heap.size + 1 + 1) (w.heap.size + 1) [.int .i64 4, .slice (some ⟨w.heap.size + 1, 0, none⟩) 16 16] (starI 0)) := hL
      have R0 := hR
      clear hL hR
      go_wp2_with fail
      clear lB q1
      go_loopw [6] (fun z wr => (z = .int .i64 0 ∧ Hid (Loc w wr (w.heap.size + 1 + 1) (w.heap.size + 1) [.int .i64 4, .slice (some ⟨w.heap.size + 1, 0, none⟩) 16 16] (starI 0)) ∧ Hid (Cells wr (w.heap.size) [.int .i64 0, .slice none 0 0])) ∨ (z = .int .i64 1 ∧ Hid (Loc w wr (w.heap.size + 1 + 1) (w.heap.size + 1) [.int .i64 4, .slice (some ⟨w.heap.size + 1, 0, none⟩) 16 16] (starI 1)) ∧ Hid (Cells wr (w.heap.size) [.int .i64 0, .slice none 0 0])) ∨ (z = .int .i64 2 ∧ Hid (Loc w wr (w.heap.size + 1 + 1) (w.heap.size + 1) [.int .i64 4, .slice (some ⟨w.heap.size + 1, 0, none⟩) 16 16] (starI 2)) ∧ Hid (Cells wr (w.heap.size) [.int .i64 0, .slice none 0 0])) ∨ (z = .int .i64 3 ∧ Hid (Loc w wr (w.heap.size + 1 + 1) (w.heap.size + 1) [.int .i64 4, .slice (some ⟨w.heap.size + 1, 0, none⟩) 16 16] (starI 3)) ∧ Hid (Cells wr (w.heap.size) [.int .i64 0, .slice none 0 0])) ∨ (z = .int .i64 4 ∧ Hid (Loc w wr (w.heap.size + 1 + 1) (w.heap.size + 1) [.int .i64 4, .slice (some ⟨w.heap.size + 1, 0, none⟩) 16 16] (starI 4)) ∧ Hid (Cells wr (w.heap.size) [.int .i64 0, .slice none 0 0]))) (fun z _ => 4 - (intOf z).toNat)
      case atStart => exact .inl ⟨rfl, L0, R0⟩
      case round =>
        clear L0 R0
        rcases hrel with ⟨rfl, hL, hR⟩ | ⟨rfl, hL, hR⟩ | ⟨rfl, hL, hR⟩ | ⟨rfl, hL, hR⟩ | ⟨rfl, hL, hR⟩
        · skip
          have lB := hL.out.box.1
          have q1 := hL.out.box.2 1 _ rfl
          have lD := hL.out.lt
          have x1 := hL.out.has.cell 1 (by decide)
          have f1 := hL.out.has.free 1
          have x4 := hL.out.has.cell 4 (by decide)
          have f4 := hL.out.has.free 4
          have L1 := Lib.hid (Loc.set (Loc.set hL.out 4 (by decide) (-1)) 1 (by decide) (-1))
          have R1 := Lib.hid (Cells.setB (c := w.heap.size + 1) (j := 1) (Cells.setB (c := w.heap.size + 1) (j := 4) hR.out (by omega) (.int .i64 (-1))) (by omega) (.int .i64 (-1)))
          have e1 : (((starI 0).set 4 (-1)).set 1 (-1)) = starI 1 := by decide
          rw [e1] at L1
          clear hL hR e1
          go_wp2
          exact ⟨.inr (.inl ⟨by simp, L1, R1⟩), by simp [intOf]⟩
        · skip
          have lB := hL.out.box.1
          have q1 := hL.out.box.2 1 _ rfl
          have lD := hL.out.lt
          have L1 := Lib.hid hL.out
          have R1 := Lib.hid hR.out
          have e1 : (starI 1) = starI 2 := by decide
          rw [e1] at L1
          clear hL hR e1
          go_wp2
          exact ⟨.inr (.inr (.inl ⟨by simp, L1, R1⟩)), by simp [intOf]⟩
        · skip
          have lB := hL.out.box.1
          have q1 := hL.out.box.2 1 _ rfl
          have lD := hL.out.lt
          have x6 := hL.out.has.cell 6 (by decide)
          have f6 := hL.out.has.free 6
          have x9 := hL.out.has.cell 9 (by decide)
          have f9 := hL.out.has.free 9
          have L1 := Lib.hid (Loc.set (Loc.set hL.out 6 (by decide) (-1)) 9 (by decide) (-1))
          have R1 := Lib.hid (Cells.setB (c := w.heap.size + 1) (j := 9) (Cells.setB (c := w.heap.size + 1) (j := 6) hR.out (by omega) (.int .i64 (-1))) (by omega) (.int .i64 (-1)))
          have e1 : (((starI 2).set 6 (-1)).set 9 (-1)) = starI 3 := by decide
          rw [e1] at L1
          clear hL hR e1
          go_wp2
          exact ⟨.inr (.inr (.inr (.inl ⟨by simp, L1, R1⟩))), by simp [intOf]⟩
        · skip
          have lB := hL.out.box.1
          have q1 := hL.out.box.2 1 _ rfl
          have lD := hL.out.lt
          have x7 := hL.out.has.cell 7 (by decide)
          have f7 := hL.out.has.free 7
          have x13 := hL.out.has.cell 13 (by decide)
          have f13 := hL.out.has.free 13
          have L1 := Lib.hid (Loc.set (Loc.set hL.out 7 (by decide) (-1)) 13 (by decide) (-1))
          have R1 := Lib.hid (Cells.setB (c := w.heap.size + 1) (j := 13) (Cells.setB (c := w.heap.size + 1) (j := 7) hR.out (by omega) (.int .i64 (-1))) (by omega) (.int .i64 (-1)))
          have e1 : (((starI 3).set 7 (-1)).set 13 (-1)) = starI 4 := by decide
          rw [e1] at L1
          clear hL hR e1
          go_wp2
          exact ⟨.inr (.inr (.inr (.inr (⟨by simp, L1, R1⟩)))), by simp [intOf]⟩
        · skip
          have lB := hL.out.box.1
          have q1 := hL.out.box.2 1 _ rfl
          have lD := hL.out.lt
          have L1 := Lib.hid hL.out
          have R1 := Lib.hid hR.out
          have e1 : (starI 4) = oneL 0 := by decide +kernel
          rw [e1] at L1
          have q0 := hL.out.box.2 0 _ rfl
          have r0 := hR.out.2 0 _ rfl
          have r1 := hR.out.2 1 _ rfl
          have tR := hR.out.3
          have lR := hR.out.1
          have B2 := Lib.hid (early2 (lo := 0) (v0 := .int .i64 4) (v1 := .slice (some ⟨w.heap.size + 1, 0, none⟩) 16 16) R1.out)
          have E2 := Lib.hid (L1.out.ext)
          have H2 := Lib.hid (L1.out.has)
          clear hL hR e1
          go_wp2
          have r20 := B2.out.2 0 _ rfl
          have r21 := B2.out.2 1 _ rfl
          refine bodyPost_ret (v := .agg #[.int .i64 4, .slice (some ⟨w.heap.size + 1, 0, none⟩) 16 16]) (by simp [results, Tryz.results143, go_sem, r20, r21]) rfl ⟨w.heap.size + 1, rfl, by omega, ?_, ?_⟩
          · exact (H2.out.setOther (p := ⟨w.heap.size, 0, none⟩) (by simp) _).setOther (p := ⟨w.heap.size, 1, none⟩) (by simp) _
          · exact (E2.out.setCell (p := ⟨w.heap.size, 0, none⟩) (Nat.le_refl _) _).setCell (p := ⟨w.heap.size, 1, none⟩) (Nat.le_refl _) _

set_option maxRecDepth 100000 in
set_option maxHeartbeats 3200000 in
theorem l5One_1 (w : World) : Calls Tryz.prog 143 #[.string ⟨#[70, 52]⟩] w fun e w' => ∃ b, e = .returned (.agg #[.int .i64 4, .slice (some ⟨b, 0, none⟩) 16 16]) ∧ w.heap.size ≤ b ∧ Has w' b (oneL 1) ∧ Ext w w' := by
  have hmk : ∀ w : World, (Instr.makeSlice 22 (.int .i64 16) (.int .i64 16)).run Tryz.prog w = .ok (.slice (some ⟨w.heap.size, 0, none⟩) 16 16) (w.alloc (.cells (ints (List.replicate 16 0)) 3)) := make_ints 16 (by omega)
  have hb1 : ((⟨#[70, 52]⟩ : ByteArray)[1]'(by decide)).toNat = 52 := rfl
  have hb0 : ((⟨#[70, 52]⟩ : ByteArray)[0]'(by decide)).toNat = 70 := rfl
  go_enter Tryz.func143, Tryz.ntmps143
  go_wp2_with fail
  have L0 : Hid (Loc w (((w.alloc (.cells #[.int .i64 0, .slice none 0 0] 27)).alloc (.cells (ints (List.replicate 16 0)) 3)).alloc (.cells #[.int .i64 4, .slice (some ⟨w.heap.size + 1, 0, none⟩) 16 16] 27)) (w.heap.size + 1 + 1) (w.heap.size + 1) [.int .i64 4, .slice (some ⟨w.heap.size + 1, 0, none⟩) 16 16] (oneI 4 false 0)) :=
    ⟨cells_new' _ _ _ _ (by simp), (Has.new' (w.alloc (.cells #[.int .i64 0, .slice none 0 0] 27)) (List.replicate 16 0) _ (by simp)).alloc _, (((Ext.refl w).alloc _).alloc _).alloc _, by omega, by simp, by omega⟩
  have R0 : Hid (Cells (((w.alloc (.cells #[.int .i64 0, .slice none 0 0] 27)).alloc (.cells (ints (List.replicate 16 0)) 3)).alloc (.cells #[.int .i64 4, .slice (some ⟨w.heap.size + 1, 0, none⟩) 16 16] 27)) (w.heap.size) [.int .i64 0, .slice none 0 0]) :=
    (cells_new w #[.int .i64 0, .slice none 0 0] 27).ext (((Ext.refl _).alloc _).alloc _)
  go_loopw [5] (fun z wr => (z = .int .i64 0 ∧ Hid (Loc w wr (w.heap.size + 1 + 1) (w.heap.size + 1) [.int .i64 4, .slice (some ⟨w.heap.size + 1, 0, none⟩) 16 16] (oneI 4 false 0)) ∧ Hid (Cells wr (w.heap.size) [.int .i64 0, .slice none 0 0])) ∨ (z = .int .i64 1 ∧ Hid (Loc w wr (w.heap.size + 1 + 1) (w.heap.size + 1) [.int .i64 4, .slice (some ⟨w.heap.size + 1, 0, none⟩) 16 16] (oneI 4 false 1)) ∧ Hid (Cells wr (w.heap.size) [.int .i64 0, .slice none 0 0])) ∨ (z = .int .i64 2 ∧ Hid (Loc w wr (w.heap.size + 1 + 1) (w.heap.size + 1) [.int .i64 4, .slice (some ⟨w.heap.size + 1, 0, none⟩) 16 16] (oneI 4 false 2)) ∧ Hid (Cells wr (w.heap.size) [.int .i64 0, .slice none 0 0])) ∨ (z = .int .i64 3 ∧ Hid (Loc w wr (w.heap.size + 1 + 1) (w.heap.size + 1) [.int .i64 4, .slice (some ⟨w.heap.size + 1, 0, none⟩) 16 16] (oneI 4 false 3)) ∧ Hid (Cells wr (w.heap.size) [.int .i64 0, .slice none 0 0])) ∨ (z = .int .i64 4 ∧ Hid (Loc w wr (w.heap.size + 1 + 1) (w.heap.size + 1) [.int .i64 4, .slice (some ⟨w.heap.size + 1, 0, none⟩) 16 16] (oneI 4 false 4)) ∧ Hid (Cells wr (w.heap.size) [.int .i64 0, .slice none 0 0]))) (fun z _ => 4 - (intOf z).toNat)
  case atStart => exact .inl ⟨rfl, L0, R0⟩
  case round =>
    clear L0 R0
    rcases hrel with ⟨rfl, hL, hR⟩ | ⟨rfl, hL, hR⟩ | ⟨rfl, hL, hR⟩ | ⟨rfl, hL, hR⟩ | ⟨rfl, hL, hR⟩
    · skip
      have lB := hL.out.box.1
      have q1 := hL.out.box.2 1 _ rfl
      have lD := hL.out.lt
      have x0 := hL.out.has.cell 0 (by decide)
      have f0 := hL.out.has.free 0
      have x1 := hL.out.has.cell 1 (by decide)
      have f1 := hL.out.has.free 1
      have x4 := hL.out.has.cell 4 (by decide)
      have f4 := hL.out.has.free 4
      have L1 := Lib.hid (Loc.set (Loc.set (Loc.set hL.out 0 (by decide) (2)) 1 (by decide) (-1)) 4 (by decide) (-1))
      have R1 := Lib.hid (Cells.setB (c := w.heap.size + 1) (j := 4) (Cells.setB (c := w.heap.size + 1) (j := 1) (Cells.setB (c := w.heap.size + 1) (j := 0) hR.out (by omega) (.int .i64 (2))) (by omega) (.int .i64 (-1))) (by omega) (.int .i64 (-1)))
      have e1 : ((((oneI 4 false 0).set 0 2).set 1 (-1)).set 4 (-1)) = oneI 4 false 1 := by decide
      rw [e1] at L1
      clear hL hR e1
      go_wp2
      exact ⟨.inr (.inl ⟨by simp, L1, R1⟩), by simp [intOf]⟩
    · skip
      have lB := hL.out.box.1
      have q1 := hL.out.box.2 1 _ rfl
      have lD := hL.out.lt
      have x5 := hL.out.has.cell 5 (by decide)
      have f5 := hL.out.has.free 5
      have x6 := hL.out.has.cell 6 (by decide)
      have f6 := hL.out.has.free 6
      have x9 := hL.out.has.cell 9 (by decide)
      have f9 := hL.out.has.free 9
      have L1 := Lib.hid (Loc.set (Loc.set (Loc.set hL.out 5 (by decide) (2)) 6 (by decide) (-1)) 9 (by decide) (-1))
      have R1 := Lib.hid (Cells.setB (c := w.heap.size + 1) (j := 9) (Cells.setB (c := w.heap.size + 1) (j := 6) (Cells.setB (c := w.heap.size + 1) (j := 5) hR.out (by omega) (.int .i64 (2))) (by omega) (.int .i64 (-1))) (by omega) (.int .i64 (-1)))
      have e1 : ((((oneI 4 false 1).set 5 2).set 6 (-1)).set 9 (-1)) = oneI 4 false 2 := by decide
      rw [e1] at L1
      clear hL hR e1
      go_wp2
      exact ⟨.inr (.inr (.inl ⟨by simp, L1, R1⟩)), by simp [intOf]⟩
    · skip
      have lB := hL.out.box.1
      have q1 := hL.out.box.2 1 _ rfl
      have lD := hL.out.lt
      have x10 := hL.out.has.cell 10 (by decide)
      have f10 := hL.out.has.free 10
      have x11 := hL.out.has.cell 11 (by decide)
      have f11 := hL.out.has.free 11
      have x14 := hL.out.has.cell 14 (by decide)
      have f14 := hL.out.has.free 14
      have L1 := Lib.hid (Loc.set (Loc.set (Loc.set hL.out 10 (by decide) (2)) 11 (by decide) (-1)) 14 (by decide) (-1))
      have R1 := Lib.hid (Cells.setB (c := w.heap.size + 1) (j := 14) (Cells.setB (c := w.heap.size + 1) (j := 11) (Cells.setB (c := w.heap.size + 1) (j := 10) hR.out (by omega) (.int .i64 (2))) (by omega) (.int .i64 (-1))) (by omega) (.int .i64 (-1)))
      have e1 : ((((oneI 4 false 2).set 10 2).set 11 (-1)).set 14 (-1)) = oneI 4 false 3 := by decide
      rw [e1] at L1
      clear hL hR e1
      go_wp2
      exact ⟨.inr (.inr (.inr (.inl ⟨by simp, L1, R1⟩))), by simp [intOf]⟩
    · skip
      have lB := hL.out.box.1
      have q1 := hL.out.box.2 1 _ rfl
      have lD := hL.out.lt
      have x15 := hL.out.has.cell 15 (by decide)
      have f15 := hL.out.has.free 15
      have L1 := Lib.hid (Loc.set hL.out 15 (by decide) (2))
      have R1 := Lib.hid (Cells.setB (c := w.heap.size + 1) (j := 15) hR.out (by omega) (.int .i64 (2)))
      have e1 : ((oneI 4 false 3).set 15 2) = oneI 4 false 4 := by decide
      rw [e1] at L1
      clear hL hR e1
      go_wp2
      exact ⟨.inr (.inr (.inr (.inr (⟨by simp, L1, R1⟩)))), by simp [intOf]⟩
    · skip
      have lB := hL.out.box.1
      have q1 := hL.out.box.2 1 _ rfl
      have lD := hL.out.lt
      have x9 := hL.out.has.cell 9 (by decide)
      have f9 := hL.out.has.free 9
      have L1 := Lib.hid (Loc.set hL.out 9 (by decide) (-2))
      have R1 := Lib.hid (Cells.setB (c := w.heap.size + 1) (j := 9) hR.out (by omega) (.int .i64 (-2)))
      have e1 : ((oneI 4 false 4).set 9 (-2)) = oneL 1 := by decide +kernel
      rw [e1] at L1
      have q0 := hL.out.box.2 0 _ rfl
      have r0 := hR.out.2 0 _ rfl
      have r1 := hR.out.2 1 _ rfl
      have tR := hR.out.3
      have lR := hR.out.1
      have B2 := Lib.hid (early2 (lo := 0) (v0 := .int .i64 4) (v1 := .slice (some ⟨w.heap.size + 1, 0, none⟩) 16 16) R1.out)
      have E2 := Lib.hid (L1.out.ext)
      have H2 := Lib.hid (L1.out.has)
      clear hL hR e1
      go_wp2
      have r20 := B2.out.2 0 _ rfl
      have r21 := B2.out.2 1 _ rfl
      refine bodyPost_ret (v := .agg #[.int .i64 4, .slice (some ⟨w.heap.size + 1, 0, none⟩) 16 16]) (by simp [results, Tryz.results143, go_sem, r20, r21]) rfl ⟨w.heap.size + 1, rfl, by omega, ?_, ?_⟩
      · exact (H2.out.setOther (p := ⟨w.heap.size, 0, none⟩) (by simp) _).setOther (p := ⟨w.heap.size, 1, none⟩) (by simp) _
      · exact (E2.out.setCell (p := ⟨w.heap.size, 0, none⟩) (Nat.le_refl _) _).setCell (p := ⟨w.heap.size, 1, none⟩) (Nat.le_refl _) _

set_option maxRecDepth 100000 in
set_option maxHeartbeats 3200000 in
theorem l5One_2 (w : World) : Calls Tryz.prog 143 #[.string ⟨#[71, 50]⟩] w fun e w' => ∃ b, e = .returned (.agg #[.int .i64 2, .slice (some ⟨b, 0, none⟩) 4 4]) ∧ w.heap.size ≤ b ∧ Has w' b (oneL 2) ∧ Ext w w' := by
  have hmk : ∀ w : World, (Instr.makeSlice 22 (.int .i64 4) (.int .i64 4)).run Tryz.prog w = .ok (.slice (some ⟨w.heap.size, 0, none⟩) 4 4) (w.alloc (.cells (ints (List.replicate 4 0)) 3)) := make_ints 4 (by omega)
  have hb1 : ((⟨#[71, 50]⟩ : ByteArray)[1]'(by decide)).toNat = 50 := rfl
  have hb0 : ((⟨#[71, 50]⟩ : ByteArray)[0]'(by decide)).toNat = 71 := rfl
  go_enter Tryz.func143, Tryz.ntmps143
  go_wp2_with fail
  have L0 : Hid (Loc w (((w.alloc (.cells #[.int .i64 0, .slice none 0 0] 27)).alloc (.cells (ints (List.replicate 4 0)) 3)).alloc (.cells #[.int .i64 2, .slice (some ⟨w.heap.size + 1, 0, none⟩) 4 4] 27)) (w.heap.size + 1 + 1) (w.heap.size + 1) [.int .i64 2, .slice (some ⟨w.heap.size + 1, 0, none⟩) 4 4] (oneI 2 false 0)) :=
    ⟨cells_new' _ _ _ _ (by simp), (Has.new' (w.alloc (.cells #[.int .i64 0, .slice none 0 0] 27)) (List.replicate 4 0) _ (by simp)).alloc _, (((Ext.refl w).alloc _).alloc _).alloc _, by omega, by simp, by omega⟩
  have R0 : Hid (Cells (((w.alloc (.cells #[.int .i64 0, .slice none 0 0] 27)).alloc (.cells (ints (List.replicate 4 0)) 3)).alloc (.cells #[.int .i64 2, .slice (some ⟨w.heap.size + 1, 0, none⟩) 4 4] 27)) (w.heap.size) [.int .i64 0, .slice none 0 0]) :=
    (cells_new w #[.int .i64 0, .slice none 0 0] 27).ext (((Ext.refl _).alloc _).alloc _)
  go_loopw [5] (fun z wr => (z = .int .i64 0 ∧ Hid (Loc w wr (w.heap.size + 1 + 1) (w.heap.size + 1) [.int .i64 2, .slice (some ⟨w.heap.size + 1, 0, none⟩) 4 4] (oneI 2 false 0)) ∧ Hid (Cells wr (w.heap.size) [.int .i64 0, .slice none 0 0])) ∨ (z = .int .i64 1 ∧ Hid (Loc w wr (w.heap.size + 1 + 1) (w.heap.size + 1) [.int .i64 2, .slice (some ⟨w.heap.size + 1, 0, none⟩) 4 4] (oneI 2 false 1)) ∧ Hid (Cells wr (w.heap.size) [.int .i64 0, .slice none 0 0])) ∨ (z = .int .i64 2 ∧ Hid (Loc w wr (w.heap.size + 1 + 1) (w.heap.size + 1) [.int .i64 2, .slice (some ⟨w.heap.size + 1, 0, none⟩) 4 4] (oneI 2 false 2)) ∧ Hid (Cells wr (w.heap.size) [.int .i64 0, .slice none 0 0]))) (fun z _ => 2 - (intOf z).toNat)
  case atStart => exact .inl ⟨rfl, L0, R0⟩
  case round =>
    clear L0 R0
    rcases hrel with ⟨rfl, hL, hR⟩ | ⟨rfl, hL, hR⟩ | ⟨rfl, hL, hR⟩
    · skip
      have lB := hL.out.box.1
      have q1 := hL.out.box.2 1 _ rfl
      have lD := hL.out.lt
      have x0 := hL.out.has.cell 0 (by decide)
      have f0 := hL.out.has.free 0
      have x1 := hL.out.has.cell 1 (by decide)
      have f1 := hL.out.has.free 1
      have x2 := hL.out.has.cell 2 (by decide)
      have f2 := hL.out.has.free 2
      have L1 := Lib.hid (Loc.set (Loc.set (Loc.set hL.out 0 (by decide) (2)) 1 (by decide) (-1)) 2 (by decide) (-1))
      have R1 := Lib.hid (Cells.setB (c := w.heap.size + 1) (j := 2) (Cells.setB (c := w.heap.size + 1) (j := 1) (Cells.setB (c := w.heap.size + 1) (j := 0) hR.out (by omega) (.int .i64 (2))) (by omega) (.int .i64 (-1))) (by omega) (.int .i64 (-1)))
      have e1 : ((((oneI 2 false 0).set 0 2).set 1 (-1)).set 2 (-1)) = oneI 2 false 1 := by decide
      rw [e1] at L1
      clear hL hR e1
      go_wp2
      exact ⟨.inr (.inl ⟨by simp, L1, R1⟩), by simp [intOf]⟩
    · skip
      have lB := hL.out.box.1
      have q1 := hL.out.box.2 1 _ rfl
      have lD := hL.out.lt
      have x3 := hL.out.has.cell 3 (by decide)
      have f3 := hL.out.has.free 3
      have L1 := Lib.hid (Loc.set hL.out 3 (by decide) (2))
      have R1 := Lib.hid (Cells.setB (c := w.heap.size + 1) (j := 3) hR.out (by omega) (.int .i64 (2)))
      have e1 : ((oneI 2 false 1).set 3 2) = oneI 2 false 2 := by decide
      rw [e1] at L1
      clear hL hR e1
      go_wp2
      exact ⟨.inr (.inr (⟨by simp, L1, R1⟩)), by simp [intOf]⟩
    · skip
      have lB := hL.out.box.1
      have q1 := hL.out.box.2 1 _ rfl
      have lD := hL.out.lt
      have x1 := hL.out.has.cell 1 (by decide)
      have f1 := hL.out.has.free 1
      have L1 := Lib.hid (Loc.set hL.out 1 (by decide) (-3))
      have R1 := Lib.hid (Cells.setB (c := w.heap.size + 1) (j := 1) hR.out (by omega) (.int .i64 (-3)))
      have e1 : ((oneI 2 false 2).set 1 (-3)) = oneL 2 := by decide +kernel
      rw [e1] at L1
      have q0 := hL.out.box.2 0 _ rfl
      have r0 := hR.out.2 0 _ rfl
      have r1 := hR.out.2 1 _ rfl
      have tR := hR.out.3
      have lR := hR.out.1
      have B2 := Lib.hid (early2 (lo := 0) (v0 := .int .i64 2) (v1 := .slice (some ⟨w.heap.size + 1, 0, none⟩) 4 4) R1.out)
      have E2 := Lib.hid (L1.out.ext)
      have H2 := Lib.hid (L1.out.has)
      clear hL hR e1
      go_wp2
      have r20 := B2.out.2 0 _ rfl
      have r21 := B2.out.2 1 _ rfl
      refine bodyPost_ret (v := .agg #[.int .i64 2, .slice (some ⟨w.heap.size + 1, 0, none⟩) 4 4]) (by simp [results, Tryz.results143, go_sem, r20, r21]) rfl ⟨w.heap.size + 1, rfl, by omega, ?_, ?_⟩
      · exact (H2.out.setOther (p := ⟨w.heap.size, 0, none⟩) (by simp) _).setOther (p := ⟨w.heap.size, 1, none⟩) (by simp) _
      · exact (E2.out.setCell (p := ⟨w.heap.size, 0, none⟩) (Nat.le_refl _) _).setCell (p := ⟨w.heap.size, 1, none⟩) (Nat.le_refl _) _

set_option maxRecDepth 100000 in
set_option maxHeartbeats 3200000 in
theorem l5One_3 (w : World) : Calls Tryz.prog 143 #[.string ⟨#[65, 49]⟩] w fun e w' => ∃ b, e = .returned (.agg #[.int .i64 1, .slice (some ⟨b, 0, none⟩) 1 1]) ∧ w.heap.size ≤ b ∧ Has w' b (oneL 3) ∧ Ext w w' := by
  have hmk : ∀ w : World, (Instr.makeSlice 22 (.int .i64 1) (.int .i64 1)).run Tryz.prog w = .ok (.slice (some ⟨w.heap.size, 0, none⟩) 1 1) (w.alloc (.cells (ints (List.replicate 1 0)) 3)) := make_ints 1 (by omega)
  have hb1 : ((⟨#[65, 49]⟩ : ByteArray)[1]'(by decide)).toNat = 49 := rfl
  have hb0 : ((⟨#[65, 49]⟩ : ByteArray)[0]'(by decide)).toNat = 65 := rfl
  go_enter Tryz.func143, Tryz.ntmps143
  go_wp2_with fail
  have L0 : Hid (Loc w (((w.alloc (.cells #[.int .i64 0, .slice none 0 0] 27)).alloc (.cells (ints (List.replicate 1 0)) 3)).alloc (.cells #[.int .i64 1, .slice (some ⟨w.heap.size + 1, 0, none⟩) 1 1] 27)) (w.heap.size + 1 + 1) (w.heap.size + 1) [.int .i64 1, .slice (some ⟨w.heap.size + 1, 0, none⟩) 1 1] (oneI 1 false 0)) :=
    ⟨cells_new' _ _ _ _ (by simp), (Has.new' (w.alloc (.cells #[.int .i64 0, .slice none 0 0] 27)) (List.replicate 1 0) _ (by simp)).alloc _, (((Ext.refl w).alloc _).alloc _).alloc _, by omega, by simp, by omega⟩
  have R0 : Hid (Cells (((w.alloc (.cells #[.int .i64 0, .slice none 0 0] 27)).alloc (.cells (ints (List.replicate 1 0)) 3)).alloc (.cells #[.int .i64 1, .slice (some ⟨w.heap.size + 1, 0, none⟩) 1 1] 27)) (w.heap.size) [.int .i64 0, .slice none 0 0]) :=
    (cells_new w #[.int .i64 0, .slice none 0 0] 27).ext (((Ext.refl _).alloc _).alloc _)
  go_loopw [5] (fun z wr => (z = .int .i64 0 ∧ Hid (Loc w wr (w.heap.size + 1 + 1) (w.heap.size + 1) [.int .i64 1, .slice (some ⟨w.heap.size + 1, 0, none⟩) 1 1] (oneI 1 false 0)) ∧ Hid (Cells wr (w.heap.size) [.int .i64 0, .slice none 0 0])) ∨ (z = .int .i64 1 ∧ Hid (Loc w wr (w.heap.size + 1 + 1) (w.heap.size + 1) [.int .i64 1, .slice (some ⟨w.heap.size + 1, 0, none⟩) 1 1] (oneI 1 false 1)) ∧ Hid (Cells wr (w.heap.size) [.int .i64 0, .slice none 0 0]))) (fun z _ => 1 - (intOf z).toNat)
  case atStart => exact .inl ⟨rfl, L0, R0⟩
  case round =>
    clear L0 R0
    rcases hrel with ⟨rfl, hL, hR⟩ | ⟨rfl, hL, hR⟩
    · skip
      have lB := hL.out.box.1
      have q1 := hL.out.box.2 1 _ rfl
      have lD := hL.out.lt
      have x0 := hL.out.has.cell 0 (by decide)
      have f0 := hL.out.has.free 0
      have L1 := Lib.hid (Loc.set hL.out 0 (by decide) (2))
      have R1 := Lib.hid (Cells.setB (c := w.heap.size + 1) (j := 0) hR.out (by omega) (.int .i64 (2)))
      have e1 : ((oneI 1 false 0).set 0 2) = oneI 1 false 1 := by decide
      rw [e1] at L1
      clear hL hR e1
      go_wp2
      exact ⟨.inr (⟨by simp, L1, R1⟩), by simp [intOf]⟩
    · skip
      have lB := hL.out.box.1
      have q1 := hL.out.box.2 1 _ rfl
      have lD := hL.out.lt
      have L1 := Lib.hid hL.out
      have R1 := Lib.hid hR.out
      have e1 : (oneI 1 false 1) = oneL 3 := by decide +kernel
      rw [e1] at L1
      have q0 := hL.out.box.2 0 _ rfl
      have r0 := hR.out.2 0 _ rfl
      have r1 := hR.out.2 1 _ rfl
      have tR := hR.out.3
      have lR := hR.out.1
      have B2 := Lib.hid (early2 (lo := 0) (v0 := .int .i64 1) (v1 := .slice (some ⟨w.heap.size + 1, 0, none⟩) 1 1) R1.out)
      have E2 := Lib.hid (L1.out.ext)
      have H2 := Lib.hid (L1.out.has)
      clear hL hR e1
      go_wp2
      have r20 := B2.out.2 0 _ rfl
      have r21 := B2.out.2 1 _ rfl
      refine bodyPost_ret (v := .agg #[.int .i64 1, .slice (some ⟨w.heap.size + 1, 0, none⟩) 1 1]) (by simp [results, Tryz.results143, go_sem, r20, r21]) rfl ⟨w.heap.size + 1, rfl, by omega, ?_, ?_⟩
      · exact (H2.out.setOther (p := ⟨w.heap.size, 0, none⟩) (by simp) _).setOther (p := ⟨w.heap.size, 1, none⟩) (by simp) _
      · exact (E2.out.setCell (p := ⟨w.heap.size, 0, none⟩) (Nat.le_refl _) _).setCell (p := ⟨w.heap.size, 1, none⟩) (Nat.le_refl _) _

set_option maxRecDepth 100000 in
set_option maxHeartbeats 3200000 in
theorem l5One_4 (w : World) : Calls Tryz.prog 143 #[.string ⟨#[65, 50]⟩] w fun e w' => ∃ b, e = .returned (.agg #[.int .i64 2, .slice (some ⟨b, 0, none⟩) 4 4]) ∧ w.heap.size ≤ b ∧ Has w' b (oneL 4) ∧ Ext w w' := by
  have hmk : ∀ w : World, (Instr.makeSlice 22 (.int .i64 4) (.int .i64 4)).run Tryz.prog w = .ok (.slice (some ⟨w.heap.size, 0, none⟩) 4 4) (w.alloc (.cells (ints (List.replicate 4 0)) 3)) := make_ints 4 (by omega)
  have hb1 : ((⟨#[65, 50]⟩ : ByteArray)[1]'(by decide)).toNat = 50 := rfl
  have hb0 : ((⟨#[65, 50]⟩ : ByteArray)[0]'(by decide)).toNat = 65 := rfl
  go_enter Tryz.func143, Tryz.ntmps143
  go_wp2_with fail
  have L0 : Hid (Loc w (((w.alloc (.cells #[.int .i64 0, .slice none 0 0] 27)).alloc (.cells (ints (List.replicate 4 0)) 3)).alloc (.cells #[.int .i64 2, .slice (some ⟨w.heap.size + 1, 0, none⟩) 4 4] 27)) (w.heap.size + 1 + 1) (w.heap.size + 1) [.int .i64 2, .slice (some ⟨w.heap.size + 1, 0, none⟩) 4 4] (oneI 2 false 0)) :=
    ⟨cells_new' _ _ _ _ (by simp), (Has.new' (w.alloc (.cells #[.int .i64 0, .slice none 0 0] 27)) (List.replicate 4 0) _ (by simp)).alloc _, (((Ext.refl w).alloc _).alloc _).alloc _, by omega, by simp, by omega⟩
  have R0 : Hid (Cells (((w.alloc (.cells #[.int .i64 0, .slice none 0 0] 27)).alloc (.cells (ints (List.replicate 4 0)) 3)).alloc (.cells #[.int .i64 2, .slice (some ⟨w.heap.size + 1, 0, none⟩) 4 4] 27)) (w.heap.size) [.int .i64 0, .slice none 0 0]) :=
    (cells_new w #[.int .i64 0, .slice none 0 0] 27).ext (((Ext.refl _).alloc _).alloc _)
  go_loopw [5] (fun z wr => (z = .int .i64 0 ∧ Hid (Loc w wr (w.heap.size + 1 + 1) (w.heap.size + 1) [.int .i64 2, .slice (some ⟨w.heap.size + 1, 0, none⟩) 4 4] (oneI 2 false 0)) ∧ Hid (Cells wr (w.heap.size) [.int .i64 0, .slice none 0 0])) ∨ (z = .int .i64 1 ∧ Hid (Loc w wr (w.heap.size + 1 + 1) (w.heap.size + 1) [.int .i64 2, .slice (some ⟨w.heap.size + 1, 0, none⟩) 4 4] (oneI 2 false 1)) ∧ Hid (Cells wr (w.heap.size) [.int .i64 0, .slice none 0 0])) ∨ (z = .int .i64 2 ∧ Hid (Loc w wr (w.heap.size + 1 + 1) (w.heap.size + 1) [.int .i64 2, .slice (some ⟨w.heap.size + 1, 0, none⟩) 4 4] (oneI 2 false 2)) ∧ Hid (Cells wr (w.heap.size) [.int .i64 0, .slice none 0 0]))) (fun z _ => 2 - (intOf z).toNat)
  case atStart => exact .inl ⟨rfl, L0, R0⟩
  case round =>
    clear L0 R0
    rcases hrel with ⟨rfl, hL, hR⟩ | ⟨rfl, hL, hR⟩ | ⟨rfl, hL, hR⟩
    · skip
      have lB := hL.out.box.1
      have q1 := hL.out.box.2 1 _ rfl
      have lD := hL.out.lt
      have x0 := hL.out.has.cell 0 (by decide)
      have f0 := hL.out.has.free 0
      have x1 := hL.out.has.cell 1 (by decide)
      have f1 := hL.out.has.free 1
      have x2 := hL.out.has.cell 2 (by decide)
      have f2 := hL.out.has.free 2
      have L1 := Lib.hid (Loc.set (Loc.set (Loc.set hL.out 0 (by decide) (2)) 1 (by decide) (-1)) 2 (by decide) (-1))
      have R1 := Lib.hid (Cells.setB (c := w.heap.size + 1) (j := 2) (Cells.setB (c := w.heap.size + 1) (j := 1) (Cells.setB (c := w.heap.size + 1) (j := 0) hR.out (by omega) (.int .i64 (2))) (by omega) (.int .i64 (-1))) (by omega) (.int .i64 (-1)))
      have e1 : ((((oneI 2 false 0).set 0 2).set 1 (-1)).set 2 (-1)) = oneI 2 false 1 := by decide
      rw [e1] at L1
      clear hL hR e1
      go_wp2
      exact ⟨.inr (.inl ⟨by simp, L1, R1⟩), by simp [intOf]⟩
    · skip
      have lB := hL.out.box.1
      have q1 := hL.out.box.2 1 _ rfl
      have lD := hL.out.lt
      have x3 := hL.out.has.cell 3 (by decide)
      have f3 := hL.out.has.free 3
      have L1 := Lib.hid (Loc.set hL.out 3 (by decide) (2))
      have R1 := Lib.hid (Cells.setB (c := w.heap.size + 1) (j := 3) hR.out (by omega) (.int .i64 (2)))
      have e1 : ((oneI 2 false 1).set 3 2) = oneI 2 false 2 := by decide
      rw [e1] at L1
      clear hL hR e1
      go_wp2
      exact ⟨.inr (.inr (⟨by simp, L1, R1⟩)), by simp [intOf]⟩
    · skip
      have lB := hL.out.box.1
      have q1 := hL.out.box.2 1 _ rfl
      have lD := hL.out.lt
      have L1 := Lib.hid hL.out
      have R1 := Lib.hid hR.out
      have e1 : (oneI 2 false 2) = oneL 4 := by decide +kernel
      rw [e1] at L1
      have q0 := hL.out.box.2 0 _ rfl
      have r0 := hR.out.2 0 _ rfl
      have r1 := hR.out.2 1 _ rfl
      have tR := hR.out.3
      have lR := hR.out.1
      have B2 := Lib.hid (early2 (lo := 0) (v0 := .int .i64 2) (v1 := .slice (some ⟨w.heap.size + 1, 0, none⟩) 4 4) R1.out)
      have E2 := Lib.hid (L1.out.ext)
      have H2 := Lib.hid (L1.out.has)
      clear hL hR e1
      go_wp2
      have r20 := B2.out.2 0 _ rfl
      have r21 := B2.out.2 1 _ rfl
      refine bodyPost_ret (v := .agg #[.int .i64 2, .slice (some ⟨w.heap.size + 1, 0, none⟩) 4 4]) (by simp [results, Tryz.results143, go_sem, r20, r21]) rfl ⟨w.heap.size + 1, rfl, by omega, ?_, ?_⟩
      · exact (H2.out.setOther (p := ⟨w.heap.size, 0, none⟩) (by simp) _).setOther (p := ⟨w.heap.size, 1, none⟩) (by simp) _
      · exact (E2.out.setCell (p := ⟨w.heap.size, 0, none⟩) (Nat.le_refl _) _).setCell (p := ⟨w.heap.size, 1, none⟩) (Nat.le_refl _) _

set_option maxRecDepth 100000 in
set_option maxHeartbeats 3200000 in
theorem l5One_5 (w : World) : Calls Tryz.prog 143 #[.string ⟨#[66, 50]⟩] w fun e w' => ∃ b, e = .returned (.agg #[.int .i64 2, .slice (some ⟨b, 0, none⟩) 4 4]) ∧ w.heap.size ≤ b ∧ Has w' b (oneL 5) ∧ Ext w w' := by
  have hmk : ∀ w : World, (Instr.makeSlice 22 (.int .i64 4) (.int .i64 4)).run Tryz.prog w = .ok (.slice (some ⟨w.heap.size, 0, none⟩) 4 4) (w.alloc (.cells (ints (List.replicate 4 0)) 3)) := make_ints 4 (by omega)
  have hb1 : ((⟨#[66, 50]⟩ : ByteArray)[1]'(by decide)).toNat = 50 := rfl
  have hb0 : ((⟨#[66, 50]⟩ : ByteArray)[0]'(by decide)).toNat = 66 := rfl
  go_enter Tryz.func143, Tryz.ntmps143
  go_wp2_with fail
  have L0 : Hid (Loc w (((w.alloc (.cells #[.int .i64 0, .slice none 0 0] 27)).alloc (.cells (ints (List.replicate 4 0)) 3)).alloc (.cells #[.int .i64 2, .slice (some ⟨w.heap.size + 1, 0, none⟩) 4 4] 27)) (w.heap.size + 1 + 1) (w.heap.size + 1) [.int .i64 2, .slice (some ⟨w.heap.size + 1, 0, none⟩) 4 4] (oneI 2 false 0)) :=
    ⟨cells_new' _ _ _ _ (by simp), (Has.new' (w.alloc (.cells #[.int .i64 0, .slice none 0 0] 27)) (List.replicate 4 0) _ (by simp)).alloc _, (((Ext.refl w).alloc _).alloc _).alloc _, by omega, by simp, by omega⟩
  have R0 : Hid (Cells (((w.alloc (.cells #[.int .i64 0, .slice none 0 0] 27)).alloc (.cells (ints (List.replicate 4 0)) 3)).alloc (.cells #[.int .i64 2, .slice (some ⟨w.heap.size + 1, 0, none⟩) 4 4] 27)) (w.heap.size) [.int .i64 0, .slice none 0 0]) :=
    (cells_new w #[.int .i64 0, .slice none 0 0] 27).ext (((Ext.refl _).alloc _).alloc _)
  go_loopw [5] (fun z wr => (z = .int .i64 0 ∧ Hid (Loc w wr (w.heap.size + 1 + 1) (w.heap.size + 1) [.int .i64 2, .slice (some ⟨w.heap.size + 1, 0, none⟩) 4 4] (oneI 2 false 0)) ∧ Hid (Cells wr (w.heap.size) [.int .i64 0, .slice none 0 0])) ∨ (z = .int .i64 1 ∧ Hid (Loc w wr (w.heap.size + 1 + 1) (w.heap.size + 1) [.int .i64 2, .slice (some ⟨w.heap.size + 1, 0, none⟩) 4 4] (oneI 2 false 1)) ∧ Hid (Cells wr (w.heap.size) [.int .i64 0, .slice none 0 0])) ∨ (z = .int .i64 2 ∧ Hid (Loc w wr (w.heap.size + 1 + 1) (w.heap.size + 1) [.int .i64 2, .slice (some ⟨w.heap.size + 1, 0, none⟩) 4 4] (oneI 2 false 2)) ∧ Hid (Cells wr (w.heap.size) [.int .i64 0, .slice none 0 0]))) (fun z _ => 2 - (intOf z).toNat)
  case atStart => exact .inl ⟨rfl, L0, R0⟩
  case round =>
    clear L0 R0
    rcases hrel with ⟨rfl, hL, hR⟩ | ⟨rfl, hL, hR⟩ | ⟨rfl, hL, hR⟩
    · skip
      have lB := hL.out.box.1
      have q1 := hL.out.box.2 1 _ rfl
      have lD := hL.out.lt
      have x0 := hL.out.has.cell 0 (by decide)
      have f0 := hL.out.has.free 0
      have x1 := hL.out.has.cell 1 (by decide)
      have f1 := hL.out.has.free 1
      have x2 := hL.out.has.cell 2 (by decide)
      have f2 := hL.out.has.free 2
      have L1 := Lib.hid (Loc.set (Loc.set (Loc.set hL.out 0 (by decide) (2)) 1 (by decide) (-1)) 2 (by decide) (-1))
      have R1 := Lib.hid (Cells.setB (c := w.heap.size + 1) (j := 2) (Cells.setB (c := w.heap.size + 1) (j := 1) (Cells.setB (c := w.heap.size + 1) (j := 0) hR.out (by omega) (.int .i64 (2))) (by omega) (.int .i64 (-1))) (by omega) (.int .i64 (-1)))
      have e1 : ((((oneI 2 false 0).set 0 2).set 1 (-1)).set 2 (-1)) = oneI 2 false 1 := by decide
      rw [e1] at L1
      clear hL hR e1
      go_wp2
      exact ⟨.inr (.inl ⟨by simp, L1, R1⟩), by simp [intOf]⟩
    · skip
      have lB := hL.out.box.1
      have q1 := hL.out.box.2 1 _ rfl
      have lD := hL.out.lt
      have x3 := hL.out.has.cell 3 (by decide)
      have f3 := hL.out.has.free 3
      have L1 := Lib.hid (Loc.set hL.out 3 (by decide) (2))
      have R1 := Lib.hid (Cells.setB (c := w.heap.size + 1) (j := 3) hR.out (by omega) (.int .i64 (2)))
      have e1 : ((oneI 2 false 1).set 3 2) = oneI 2 false 2 := by decide
      rw [e1] at L1
      clear hL hR e1
      go_wp2
      exact ⟨.inr (.inr (⟨by simp, L1, R1⟩)), by simp [intOf]⟩
    · skip
      have lB := hL.out.box.1
      have q1 := hL.out.box.2 1 _ rfl
      have lD := hL.out.lt
      have x2 := hL.out.has.cell 2 (by decide)
      have f2 := hL.out.has.free 2
      have L1 := Lib.hid (Loc.set hL.out 2 (by decide) (-2))
      have R1 := Lib.hid (Cells.setB (c := w.heap.size + 1) (j := 2) hR.out (by omega) (.int .i64 (-2)))
      have e1 : ((oneI 2 false 2).set 2 (-2)) = oneL 5 := by decide +kernel
      rw [e1] at L1
      have q0 := hL.out.box.2 0 _ rfl
      have r0 := hR.out.2 0 _ rfl
      have r1 := hR.out.2 1 _ rfl
      have tR := hR.out.3
      have lR := hR.out.1
      have B2 := Lib.hid (early2 (lo := 0) (v0 := .int .i64 2) (v1 := .slice (some ⟨w.heap.size + 1, 0, none⟩) 4 4) R1.out)
      have E2 := Lib.hid (L1.out.ext)
      have H2 := Lib.hid (L1.out.has)
      clear hL hR e1
      go_wp2
      have r20 := B2.out.2 0 _ rfl
      have r21 := B2.out.2 1 _ rfl
      refine bodyPost_ret (v := .agg #[.int .i64 2, .slice (some ⟨w.heap.size + 1, 0, none⟩) 4 4]) (by simp [results, Tryz.results143, go_sem, r20, r21]) rfl ⟨w.heap.size + 1, rfl, by omega, ?_, ?_⟩
      · exact (H2.out.setOther (p := ⟨w.heap.size, 0, none⟩) (by simp) _).setOther (p := ⟨w.heap.size, 1, none⟩) (by simp) _
      · exact (E2.out.setCell (p := ⟨w.heap.size, 0, none⟩) (Nat.le_refl _) _).setCell (p := ⟨w.heap.size, 1, none⟩) (Nat.le_refl _) _

set_option maxRecDepth 100000 in
set_option maxHeartbeats 3200000 in
theorem l5One_6 (w : World) : Calls Tryz.prog 143 #[.string ⟨#[65, 51]⟩] w fun e w' => ∃ b, e = .returned (.agg #[.int .i64 3, .slice (some ⟨b, 0, none⟩) 9 9]) ∧ w.heap.size ≤ b ∧ Has w' b (oneL 6) ∧ Ext w w' := by
  have hmk : ∀ w : World, (Instr.makeSlice 22 (.int .i64 9) (.int .i64 9)).run Tryz.prog w = .ok (.slice (some ⟨w.heap.size, 0, none⟩) 9 9) (w.alloc (.cells (ints (List.replicate 9 0)) 3)) := make_ints 9 (by omega)
  have hb1 : ((⟨#[65, 51]⟩ : ByteArray)[1]'(by decide)).toNat = 51 := rfl
  have hb0 : ((⟨#[65, 51]⟩ : ByteArray)[0]'(by decide)).toNat = 65 := rfl
  go_enter Tryz.func143, Tryz.ntmps143
  go_wp2_with fail
  have L0 : Hid (Loc w (((w.alloc (.cells #[.int .i64 0, .slice none 0 0] 27)).alloc (.cells (ints (List.replicate 9 0)) 3)).alloc (.cells #[.int .i64 3, .slice (some ⟨w.heap.size + 1, 0, none⟩) 9 9] 27)) (w.heap.size + 1 + 1) (w.heap.size + 1) [.int .i64 3, .slice (some ⟨w.heap.size + 1, 0, none⟩) 9 9] (oneI 3 false 0)) :=
    ⟨cells_new' _ _ _ _ (by simp), (Has.new' (w.alloc (.cells #[.int .i64 0, .slice none 0 0] 27)) (List.replicate 9 0) _ (by simp)).alloc _, (((Ext.refl w).alloc _).alloc _).alloc _, by omega, by simp, by omega⟩
  have R0 : Hid (Cells (((w.alloc (.cells #[.int .i64 0, .slice none 0 0] 27)).alloc (.cells (ints (List.replicate 9 0)) 3)).alloc (.cells #[.int .i64 3, .slice (some ⟨w.heap.size + 1, 0, none⟩) 9 9] 27)) (w.heap.size) [.int .i64 0, .slice none 0 0]) :=
    (cells_new w #[.int .i64 0, .slice none 0 0] 27).ext (((Ext.refl _).alloc _).alloc _)
  go_loopw [5] (fun z wr => (z = .int .i64 0 ∧ Hid (Loc w wr (w.heap.size + 1 + 1) (w.heap.size + 1) [.int .i64 3, .slice (some ⟨w.heap.size + 1, 0, none⟩) 9 9] (oneI 3 false 0)) ∧ Hid (Cells wr (w.heap.size) [.int .i64 0, .slice none 0 0])) ∨ (z = .int .i64 1 ∧ Hid (Loc w wr (w.heap.size + 1 + 1) (w.heap.size + 1) [.int .i64 3, .slice (some ⟨w.heap.size + 1, 0, none⟩) 9 9] (oneI 3 false 1)) ∧ Hid (Cells wr (w.heap.size) [.int .i64 0, .slice none 0 0])) ∨ (z = .int .i64 2 ∧ Hid (Loc w wr (w.heap.size + 1 + 1) (w.heap.size + 1) [.int .i64 3, .slice (some ⟨w.heap.size + 1, 0, none⟩) 9 9] (oneI 3 false 2)) ∧ Hid (Cells wr (w.heap.size) [.int .i64 0, .slice none 0 0])) ∨ (z = .int .i64 3 ∧ Hid (Loc w wr (w.heap.size + 1 + 1) (w.heap.size + 1) [.int .i64 3, .slice (some ⟨w.heap.size + 1, 0, none⟩) 9 9] (oneI 3 false 3)) ∧ Hid (Cells wr (w.heap.size) [.int .i64 0, .slice none 0 0]))) (fun z _ => 3 - (intOf z).toNat)
  case atStart => exact .inl ⟨rfl, L0, R0⟩
  case round =>
    clear L0 R0
    rcases hrel with ⟨rfl, hL, hR⟩ | ⟨rfl, hL, hR⟩ | ⟨rfl, hL, hR⟩ | ⟨rfl, hL, hR⟩
    · skip
      have lB := hL.out.box.1
      have q1 := hL.out.box.2 1 _ rfl
      have lD := hL.out.lt
      have x0 := hL.out.has.cell 0 (by decide)
      have f0 := hL.out.has.free 0
      have x1 := hL.out.has.cell 1 (by decide)
      have f1 := hL.out.has.free 1
      have x3 := hL.out.has.cell 3 (by decide)
      have f3 := hL.out.has.free 3
      have L1 := Lib.hid (Loc.set (Loc.set (Loc.set hL.out 0 (by decide) (2)) 1 (by decide) (-1)) 3 (by decide) (-1))
      have R1 := Lib.hid (Cells.setB (c := w.heap.size + 1) (j := 3) (Cells.setB (c := w.heap.size + 1) (j := 1) (Cells.setB (c := w.heap.size + 1) (j := 0) hR.out (by omega) (.int .i64 (2))) (by omega) (.int .i64 (-1))) (by omega) (.int .i64 (-1)))
      have e1 : ((((oneI 3 false 0).set 0 2).set 1 (-1)).set 3 (-1)) = oneI 3 false 1 := by decide
      rw [e1] at L1
      clear hL hR e1
      go_wp2
      exact ⟨.inr (.inl ⟨by simp, L1, R1⟩), by simp [intOf]⟩
    · skip
      have lB := hL.out.box.1
      have q1 := hL.out.box.2 1 _ rfl
      have lD := hL.out.lt
      have x4 := hL.out.has.cell 4 (by decide)
      have f4 := hL.out.has.free 4
      have x5 := hL.out.has.cell 5 (by decide)
      have f5 := hL.out.has.free 5
      have x7 := hL.out.has.cell 7 (by decide)
      have f7 := hL.out.has.free 7
      have L1 := Lib.hid (Loc.set (Loc.set (Loc.set hL.out 4 (by decide) (2)) 5 (by decide) (-1)) 7 (by decide) (-1))
      have R1 := Lib.hid (Cells.setB (c := w.heap.size + 1) (j := 7) (Cells.setB (c := w.heap.size + 1) (j := 5) (Cells.setB (c := w.heap.size + 1) (j := 4) hR.out (by omega) (.int .i64 (2))) (by omega) (.int .i64 (-1))) (by omega) (.int .i64 (-1)))
      have e1 : ((((oneI 3 false 1).set 4 2).set 5 (-1)).set 7 (-1)) = oneI 3 false 2 := by decide
      rw [e1] at L1
      clear hL hR e1
      go_wp2
      exact ⟨.inr (.inr (.inl ⟨by simp, L1, R1⟩)), by simp [intOf]⟩
    · skip
      have lB := hL.out.box.1
      have q1 := hL.out.box.2 1 _ rfl
      have lD := hL.out.lt
      have x8 := hL.out.has.cell 8 (by decide)
      have f8 := hL.out.has.free 8
      have L1 := Lib.hid (Loc.set hL.out 8 (by decide) (2))
      have R1 := Lib.hid (Cells.setB (c := w.heap.size + 1) (j := 8) hR.out (by omega) (.int .i64 (2)))
      have e1 : ((oneI 3 false 2).set 8 2) = oneI 3 false 3 := by decide
      rw [e1] at L1
      clear hL hR e1
      go_wp2
      exact ⟨.inr (.inr (.inr (⟨by simp, L1, R1⟩))), by simp [intOf]⟩
    · skip
      have lB := hL.out.box.1
      have q1 := hL.out.box.2 1 _ rfl
      have lD := hL.out.lt
      have L1 := Lib.hid hL.out
      have R1 := Lib.hid hR.out
      have e1 : (oneI 3 false 3) = oneL 6 := by decide +kernel
      rw [e1] at L1
      have q0 := hL.out.box.2 0 _ rfl
      have r0 := hR.out.2 0 _ rfl
      have r1 := hR.out.2 1 _ rfl
      have tR := hR.out.3
      have lR := hR.out.1
      have B2 := Lib.hid (early2 (lo := 0) (v0 := .int .i64 3) (v1 := .slice (some ⟨w.heap.size + 1, 0, none⟩) 9 9) R1.out)
      have E2 := Lib.hid (L1.out.ext)
      have H2 := Lib.hid (L1.out.has)
      clear hL hR e1
      go_wp2
      have r20 := B2.out.2 0 _ rfl
      have r21 := B2.out.2 1 _ rfl
      refine bodyPost_ret (v := .agg #[.int .i64 3, .slice (some ⟨w.heap.size + 1, 0, none⟩) 9 9]) (by simp [results, Tryz.results143, go_sem, r20, r21]) rfl ⟨w.heap.size + 1, rfl, by omega, ?_, ?_⟩
      · exact (H2.out.setOther (p := ⟨w.heap.size, 0, none⟩) (by simp) _).setOther (p := ⟨w.heap.size, 1, none⟩) (by simp) _
      · exact (E2.out.setCell (p := ⟨w.heap.size, 0, none⟩) (Nat.le_refl _) _).setCell (p := ⟨w.heap.size, 1, none⟩) (Nat.le_refl _) _

set_option maxRecDepth 100000 in
set_option maxHeartbeats 3200000 in
theorem l5One_7 (w : World) : Calls Tryz.prog 143 #[.string ⟨#[66, 51]⟩] w fun e w' => ∃ b, e = .returned (.agg #[.int .i64 3, .slice (some ⟨b, 0, none⟩) 9 9]) ∧ w.heap.size ≤ b ∧ Has w' b (oneL 7) ∧ Ext w w' := by
  have hmk : ∀ w : World, (Instr.makeSlice 22 (.int .i64 9) (.int .i64 9)).run Tryz.prog w = .ok (.slice (some ⟨w.heap.size, 0, none⟩) 9 9) (w.alloc (.cells (ints (List.replicate 9 0)) 3)) := make_ints 9 (by omega)
  have hb1 : ((⟨#[66, 51]⟩ : ByteArray)[1]'(by decide)).toNat = 51 := rfl
  have hb0 : ((⟨#[66, 51]⟩ : ByteArray)[0]'(by decide)).toNat = 66 := rfl
  go_enter Tryz.func143, Tryz.ntmps143
  go_wp2_with fail
  have L0 : Hid (Loc w (((w.alloc (.cells #[.int .i64 0, .slice none 0 0] 27)).alloc (.cells (ints (List.replicate 9 0)) 3)).alloc (.cells #[.int .i64 3, .slice (some ⟨w.heap.size + 1, 0, none⟩) 9 9] 27)) (w.heap.size + 1 + 1) (w.heap.size + 1) [.int .i64 3, .slice (some ⟨w.heap.size + 1, 0, none⟩) 9 9] (oneI 3 false 0)) :=
    ⟨cells_new' _ _ _ _ (by simp), (Has.new' (w.alloc (.cells #[.int .i64 0, .slice none 0 0] 27)) (List.replicate 9 0) _ (by simp)).alloc _, (((Ext.refl w).alloc _).alloc _).alloc _, by omega, by simp, by omega⟩
  have R0 : Hid (Cells (((w.alloc (.cells #[.int .i64 0, .slice none 0 0] 27)).alloc (.cells (ints (List.replicate 9 0)) 3)).alloc (.cells #[.int .i64 3, .slice (some ⟨w.heap.size + 1, 0, none⟩) 9 9] 27)) (w.heap.size) [.int .i64 0, .slice none 0 0]) :=
    (cells_new w #[.int .i64 0, .slice none 0 0] 27).ext (((Ext.refl _).alloc _).alloc _)
  go_loopw [5] (fun z wr => (z = .int .i64 0 ∧ Hid (Loc w wr (w.heap.size + 1 + 1) (w.heap.size + 1) [.int .i64 3, .slice (some ⟨w.heap.size + 1, 0, none⟩) 9 9] (oneI 3 false 0)) ∧ Hid (Cells wr (w.heap.size) [.int .i64 0, .slice none 0 0])) ∨ (z = .int .i64 1 ∧ Hid (Loc w wr (w.heap.size + 1 + 1) (w.heap.size + 1) [.int .i64 3, .slice (some ⟨w.heap.size + 1, 0, none⟩) 9 9] (oneI 3 false 1)) ∧ Hid (Cells wr (w.heap.size) [.int .i64 0, .slice none 0 0])) ∨ (z = .int .i64 2 ∧ Hid (Loc w wr (w.heap.size + 1 + 1) (w.heap.size + 1) [.int .i64 3, .slice (some ⟨w.heap.size + 1, 0, none⟩) 9 9] (oneI 3 false 2)) ∧ Hid (Cells wr (w.heap.size) [.int .i64 0, .slice none 0 0])) ∨ (z = .int .i64 3 ∧ Hid (Loc w wr (w.heap.size + 1 + 1) (w.heap.size + 1) [.int .i64 3, .slice (some ⟨w.heap.size + 1, 0, none⟩) 9 9] (oneI 3 false 3)) ∧ Hid (Cells wr (w.heap.size) [.int .i64 0, .slice none 0 0]))) (fun z _ => 3 - (intOf z).toNat)
  case atStart => exact .inl ⟨rfl, L0, R0⟩
  case round =>
    clear L0 R0
    rcases hrel with ⟨rfl, hL, hR⟩ | ⟨rfl, hL, hR⟩ | ⟨rfl, hL, hR⟩ | ⟨rfl, hL, hR⟩
    · skip
      have lB := hL.out.box.1
      have q1 := hL.out.box.2 1 _ rfl
      have lD := hL.out.lt
      have x0 := hL.out.has.cell 0 (by decide)
      have f0 := hL.out.has.free 0
      have x1 := hL.out.has.cell 1 (by decide)
      have f1 := hL.out.has.free 1
      have x3 := hL.out.has.cell 3 (by decide)
      have f3 := hL.out.has.free 3
      have L1 := Lib.hid (Loc.set (Loc.set (Loc.set hL.out 0 (by decide) (2)) 1 (by decide) (-1)) 3 (by decide) (-1))
      have R1 := Lib.hid (Cells.setB (c := w.heap.size + 1) (j := 3) (Cells.setB (c := w.heap.size + 1) (j := 1) (Cells.setB (c := w.heap.size + 1) (j := 0) hR.out (by omega) (.int .i64 (2))) (by omega) (.int .i64 (-1))) (by omega) (.int .i64 (-1)))
      have e1 : ((((oneI 3 false 0).set 0 2).set 1 (-1)).set 3 (-1)) = oneI 3 false 1 := by decide
      rw [e1] at L1
      clear hL hR e1
      go_wp2
      exact ⟨.inr (.inl ⟨by simp, L1, R1⟩), by simp [intOf]⟩
    · skip
      have lB := hL.out.box.1
      have q1 := hL.out.box.2 1 _ rfl
      have lD := hL.out.lt
      have x4 := hL.out.has.cell 4 (by decide)
      have f4 := hL.out.has.free 4
      have x5 := hL.out.has.cell 5 (by decide)
      have f5 := hL.out.has.free 5
      have x7 := hL.out.has.cell 7 (by decide)
      have f7 := hL.out.has.free 7
      have L1 := Lib.hid (Loc.set (Loc.set (Loc.set hL.out 4 (by decide) (2)) 5 (by decide) (-1)) 7 (by decide) (-1))
      have R1 := Lib.hid (Cells.setB (c := w.heap.size + 1) (j := 7) (Cells.setB (c := w.heap.size + 1) (j := 5) (Cells.setB (c := w.heap.size + 1) (j := 4) hR.out (by omega) (.int .i64 (2))) (by omega) (.int .i64 (-1))) (by omega) (.int .i64 (-1)))
      have e1 : ((((oneI 3 false 1).set 4 2).set 5 (-1)).set 7 (-1)) = oneI 3 false 2 := by decide
      rw [e1] at L1
      clear hL hR e1
      go_wp2
      exact ⟨.inr (.inr (.inl ⟨by simp, L1, R1⟩)), by simp [intOf]⟩
    · skip
      have lB := hL.out.box.1
      have q1 := hL.out.box.2 1 _ rfl
      have lD := hL.out.lt
      have x8 := hL.out.has.cell 8 (by decide)
      have f8 := hL.out.has.free 8
      have L1 := Lib.hid (Loc.set hL.out 8 (by decide) (2))
      have R1 := Lib.hid (Cells.setB (c := w.heap.size + 1) (j := 8) hR.out (by omega) (.int .i64 (2)))
      have e1 : ((oneI 3 false 2).set 8 2) = oneI 3 false 3 := by decide
      rw [e1] at L1
      clear hL hR e1
      go_wp2
      exact ⟨.inr (.inr (.inr (⟨by simp, L1, R1⟩))), by simp [intOf]⟩
    · skip
      have lB := hL.out.box.1
      have q1 := hL.out.box.2 1 _ rfl
      have lD := hL.out.lt
      have x7 := hL.out.has.cell 7 (by decide)
      have f7 := hL.out.has.free 7
      have L1 := Lib.hid (Loc.set hL.out 7 (by decide) (-2))
      have R1 := Lib.hid (Cells.setB (c := w.heap.size + 1) (j := 7) hR.out (by omega) (.int .i64 (-2)))
      have e1 : ((oneI 3 false 3).set 7 (-2)) = oneL 7 := by decide +kernel
      rw [e1] at L1
      have q0 := hL.out.box.2 0 _ rfl
      have r0 := hR.out.2 0 _ rfl
      have r1 := hR.out.2 1 _ rfl
      have tR := hR.out.3
      have lR := hR.out.1
      have B2 := Lib.hid (early2 (lo := 0) (v0 := .int .i64 3) (v1 := .slice (some ⟨w.heap.size + 1, 0, none⟩) 9 9) R1.out)
      have E2 := Lib.hid (L1.out.ext)
      have H2 := Lib.hid (L1.out.has)
      clear hL hR e1
      go_wp2
      have r20 := B2.out.2 0 _ rfl
      have r21 := B2.out.2 1 _ rfl
      refine bodyPost_ret (v := .agg #[.int .i64 3, .slice (some ⟨w.heap.size + 1, 0, none⟩) 9 9]) (by simp [results, Tryz.results143, go_sem, r20, r21]) rfl ⟨w.heap.size + 1, rfl, by omega, ?_, ?_⟩
      · exact (H2.out.setOther (p := ⟨w.heap.size, 0, none⟩) (by simp) _).setOther (p := ⟨w.heap.size, 1, none⟩) (by simp) _
      · exact (E2.out.setCell (p := ⟨w.heap.size, 0, none⟩) (Nat.le_refl _) _).setCell (p := ⟨w.heap.size, 1, none⟩) (Nat.le_refl _) _

set_option maxRecDepth 100000 in
set_option maxHeartbeats 3200000 in
theorem l5One_8 (w : World) : Calls Tryz.prog 143 #[.string ⟨#[67, 51]⟩] w fun e w' => ∃ b, e = .returned (.agg #[.int .i64 3, .slice (some ⟨b, 0, none⟩) 9 9]) ∧ w.heap.size ≤ b ∧ Has w' b (oneL 8) ∧ Ext w w' := by
  have hmk : ∀ w : World, (Instr.makeSlice 22 (.int .i64 9) (.int .i64 9)).run Tryz.prog w = .ok (.slice (some ⟨w.heap.size, 0, none⟩) 9 9) (w.alloc (.cells (ints (List.replicate 9 0)) 3)) := make_ints 9 (by omega)
  have hb1 : ((⟨#[67, 51]⟩ : ByteArray)[1]'(by decide)).toNat = 51 := rfl
  have hb0 : ((⟨#[67, 51]⟩ : ByteArray)[0]'(by decide)).toNat = 67 := rfl
  go_enter Tryz.func143, Tryz.ntmps143
  go_wp2_with fail
  have L0 : Hid (Loc w (((w.alloc (.cells #[.int .i64 0, .slice none 0 0] 27)).alloc (.cells (ints (List.replicate 9 0)) 3)).alloc (.cells #[.int .i64 3, .slice (some ⟨w.heap.size + 1, 0, none⟩) 9 9] 27)) (w.heap.size + 1 + 1) (w.heap.size + 1) [.int .i64 3, .slice (some ⟨w.heap.size + 1, 0, none⟩) 9 9] (oneI 3 false 0)) :=
    ⟨cells_new' _ _ _ _ (by simp), (Has.new' (w.alloc (.cells #[.int .i64 0, .slice none 0 0] 27)) (List.replicate 9 0) _ (by simp)).alloc _, (((Ext.refl w).alloc _).alloc _).alloc _, by omega, by simp, by omega⟩
  have R0 : Hid (Cells (((w.alloc (.cells #[.int .i64 0, .slice none 0 0] 27)).alloc (.cells (ints (List.replicate 9 0)) 3)).alloc (.cells #[.int .i64 3, .slice (some ⟨w.heap.size + 1, 0, none⟩) 9 9] 27)) (w.heap.size) [.int .i64 0, .slice none 0 0]) :=
    (cells_new w #[.int .i64 0, .slice none 0 0] 27).ext (((Ext.refl _).alloc _).alloc _)
  go_loopw [5] (fun z wr => (z = .int .i64 0 ∧ Hid (Loc w wr (w.heap.size + 1 + 1) (w.heap.size + 1) [.int .i64 3, .slice (some ⟨w.heap.size + 1, 0, none⟩) 9 9] (oneI 3 false 0)) ∧ Hid (Cells wr (w.heap.size) [.int .i64 0, .slice none 0 0])) ∨ (z = .int .i64 1 ∧ Hid (Loc w wr (w.heap.size + 1 + 1) (w.heap.size + 1) [.int .i64 3, .slice (some ⟨w.heap.size + 1, 0, none⟩) 9 9] (oneI 3 false 1)) ∧ Hid (Cells wr (w.heap.size) [.int .i64 0, .slice none 0 0])) ∨ (z = .int .i64 2 ∧ Hid (Loc w wr (w.heap.size + 1 + 1) (w.heap.size + 1) [.int .i64 3, .slice (some ⟨w.heap.size + 1, 0, none⟩) 9 9] (oneI 3 false 2)) ∧ Hid (Cells wr (w.heap.size) [.int .i64 0, .slice none 0 0])) ∨ (z = .int .i64 3 ∧ Hid (Loc w wr (w.heap.size + 1 + 1) (w.heap.size + 1) [.int .i64 3, .slice (some ⟨w.heap.size + 1, 0, none⟩) 9 9] (oneI 3 false 3)) ∧ Hid (Cells wr (w.heap.size) [.int .i64 0, .slice none 0 0]))) (fun z _ => 3 - (intOf z).toNat)
  case atStart => exact .inl ⟨rfl, L0, R0⟩
  case round =>
    clear L0 R0
    rcases hrel with ⟨rfl, hL, hR⟩ | ⟨rfl, hL, hR⟩ | ⟨rfl, hL, hR⟩ | ⟨rfl, hL, hR⟩
    · skip
      have lB := hL.out.box.1
      have q1 := hL.out.box.2 1 _ rfl
      have lD := hL.out.lt
      have x0 := hL.out.has.cell 0 (by decide)
      have f0 := hL.out.has.free 0
      have x1 := hL.out.has.cell 1 (by decide)
      have f1 := hL.out.has.free 1
      have x3 := hL.out.has.cell 3 (by decide)
      have f3 := hL.out.has.free 3
      have L1 := Lib.hid (Loc.set (Loc.set (Loc.set hL.out 0 (by decide) (2)) 1 (by decide) (-1)) 3 (by decide) (-1))
      have R1 := Lib.hid (Cells.setB (c := w.heap.size + 1) (j := 3) (Cells.setB (c := w.heap.size + 1) (j := 1) (Cells.setB (c := w.heap.size + 1) (j := 0) hR.out (by omega) (.int .i64 (2))) (by omega) (.int .i64 (-1))) (by omega) (.int .i64 (-1)))
      have e1 : ((((oneI 3 false 0).set 0 2).set 1 (-1)).set 3 (-1)) = oneI 3 false 1 := by decide
      rw [e1] at L1
      clear hL hR e1
      go_wp2
      exact ⟨.inr (.inl ⟨by simp, L1, R1⟩), by simp [intOf]⟩
    · skip
      have lB := hL.out.box.1
      have q1 := hL.out.box.2 1 _ rfl
      have lD := hL.out.lt
      have x4 := hL.out.has.cell 4 (by decide)
      have f4 := hL.out.has.free 4
      have x5 := hL.out.has.cell 5 (by decide)
      have f5 := hL.out.has.free 5
      have x7 := hL.out.has.cell 7 (by decide)
      have f7 := hL.out.has.free 7
      have L1 := Lib.hid (Loc.set (Loc.set (Loc.set hL.out 4 (by decide) (2)) 5 (by decide) (-1)) 7 (by decide) (-1))
      have R1 := Lib.hid (Cells.setB (c := w.heap.size + 1) (j := 7) (Cells.setB (c := w.heap.size + 1) (j := 5) (Cells.setB (c := w.heap.size + 1) (j := 4) hR.out (by omega) (.int .i64 (2))) (by omega) (.int .i64 (-1))) (by omega) (.int .i64 (-1)))
      have e1 : ((((oneI 3 false 1).set 4 2).set 5 (-1)).set 7 (-1)) = oneI 3 false 2 := by decide
      rw [e1] at L1
      clear hL hR e1
      go_wp2
      exact ⟨.inr (.inr (.inl ⟨by simp, L1, R1⟩)), by simp [intOf]⟩
    · skip
      have lB := hL.out.box.1
      have q1 := hL.out.box.2 1 _ rfl
      have lD := hL.out.lt
      have x8 := hL.out.has.cell 8 (by decide)
      have f8 := hL.out.has.free 8
      have L1 := Lib.hid (Loc.set hL.out 8 (by decide) (2))
      have R1 := Lib.hid (Cells.setB (c := w.heap.size + 1) (j := 8) hR.out (by omega) (.int .i64 (2)))
      have e1 : ((oneI 3 false 2).set 8 2) = oneI 3 false 3 := by decide
      rw [e1] at L1
      clear hL hR e1
      go_wp2
      exact ⟨.inr (.inr (.inr (⟨by simp, L1, R1⟩))), by simp [intOf]⟩
    · skip
      have lB := hL.out.box.1
      have q1 := hL.out.box.2 1 _ rfl
      have lD := hL.out.lt
      have x5 := hL.out.has.cell 5 (by decide)
      have f5 := hL.out.has.free 5
      have L1 := Lib.hid (Loc.set hL.out 5 (by decide) (-2))
      have R1 := Lib.hid (Cells.setB (c := w.heap.size + 1) (j := 5) hR.out (by omega) (.int .i64 (-2)))
      have e1 : ((oneI 3 false 3).set 5 (-2)) = oneL 8 := by decide +kernel
      rw [e1] at L1
      have q0 := hL.out.box.2 0 _ rfl
      have r0 := hR.out.2 0 _ rfl
      have r1 := hR.out.2 1 _ rfl
      have tR := hR.out.3
      have lR := hR.out.1
      have B2 := Lib.hid (early2 (lo := 0) (v0 := .int .i64 3) (v1 := .slice (some ⟨w.heap.size + 1, 0, none⟩) 9 9) R1.out)
      have E2 := Lib.hid (L1.out.ext)
      have H2 := Lib.hid (L1.out.has)
      clear hL hR e1
      go_wp2
      have r20 := B2.out.2 0 _ rfl
      have r21 := B2.out.2 1 _ rfl
      refine bodyPost_ret (v := .agg #[.int .i64 3, .slice (some ⟨w.heap.size + 1, 0, none⟩) 9 9]) (by simp [results, Tryz.results143, go_sem, r20, r21]) rfl ⟨w.heap.size + 1, rfl, by omega, ?_, ?_⟩
      · exact (H2.out.setOther (p := ⟨w.heap.size, 0, none⟩) (by simp) _).setOther (p := ⟨w.heap.size, 1, none⟩) (by simp) _
      · exact (E2.out.setCell (p := ⟨w.heap.size, 0, none⟩) (Nat.le_refl _) _).setCell (p := ⟨w.heap.size, 1, none⟩) (Nat.le_refl _) _

set_option maxRecDepth 100000 in
set_option maxHeartbeats 3200000 in
theorem l5One_9 (w : World) : Calls Tryz.prog 143 #[.string ⟨#[65, 52]⟩] w fun e w' => ∃ b, e = .returned (.agg #[.int .i64 4, .slice (some ⟨b, 0, none⟩) 16 16]) ∧ w.heap.size ≤ b ∧ Has w' b (oneL 9) ∧ Ext w w' := by
  have hmk : ∀ w : World, (Instr.makeSlice 22 (.int .i64 16) (.int .i64 16)).run Tryz.prog w = .ok (.slice (some ⟨w.heap.size, 0, none⟩) 16 16) (w.alloc (.cells (ints (List.replicate 16 0)) 3)) := make_ints 16 (by omega)
  have hb1 : ((⟨#[65, 52]⟩ : ByteArray)[1]'(by decide)).toNat = 52 := rfl
  have hb0 : ((⟨#[65, 52]⟩ : ByteArray)[0]'(by decide)).toNat = 65 := rfl
  go_enter Tryz.func143, Tryz.ntmps143
  go_wp2_with fail
  have L0 : Hid (Loc w (((w.alloc (.cells #[.int .i64 0, .slice none 0 0] 27)).alloc (.cells (ints (List.replicate 16 0)) 3)).alloc (.cells #[.int .i64 4, .slice (some ⟨w.heap.size + 1, 0, none⟩) 16 16] 27)) (w.heap.size + 1 + 1) (w.heap.size + 1) [.int .i64 4, .slice (some ⟨w.heap.size + 1, 0, none⟩) 16 16] (oneI 4 false 0)) :=
    ⟨cells_new' _ _ _ _ (by simp), (Has.new' (w.alloc (.cells #[.int .i64 0, .slice none 0 0] 27)) (List.replicate 16 0) _ (by simp)).alloc _, (((Ext.refl w).alloc _).alloc _).alloc _, by omega, by simp, by omega⟩
  have R0 : Hid (Cells (((w.alloc (.cells #[.int .i64 0, .slice none 0 0] 27)).alloc (.cells (ints (List.replicate 16 0)) 3)).alloc (.cells #[.int .i64 4, .slice (some ⟨w.heap.size + 1, 0, none⟩) 16 16] 27)) (w.heap.size) [.int .i64 0, .slice none 0 0]) :=
    (cells_new w #[.int .i64 0, .slice none 0 0] 27).ext (((Ext.refl _).alloc _).alloc _)
  go_loopw [5] (fun z wr => (z = .int .i64 0 ∧ Hid (Loc w wr (w.heap.size + 1 + 1) (w.heap.size + 1) [.int .i64 4, .slice (some ⟨w.heap.size + 1, 0, none⟩) 16 16] (oneI 4 false 0)) ∧ Hid (Cells wr (w.heap.size) [.int .i64 0, .slice none 0 0])) ∨ (z = .int .i64 1 ∧ Hid (Loc w wr (w.heap.size + 1 + 1) (w.heap.size + 1) [.int .i64 4, .slice (some ⟨w.heap.size + 1, 0, none⟩) 16 16] (oneI 4 false 1)) ∧ Hid (Cells wr (w.heap.size) [.int .i64 0, .slice none 0 0])) ∨ (z = .int .i64 2 ∧ Hid (Loc w wr (w.heap.size + 1 + 1) (w.heap.size + 1) [.int .i64 4, .slice (some ⟨w.heap.size + 1, 0, none⟩) 16 16] (oneI 4 false 2)) ∧ Hid (Cells wr (w.heap.size) [.int .i64 0, .slice none 0 0])) ∨ (z = .int .i64 3 ∧ Hid (Loc w wr (w.heap.size + 1 + 1) (w.heap.size + 1) [.int .i64 4, .slice (some ⟨w.heap.size + 1, 0, none⟩) 16 16] (oneI 4 false 3)) ∧ Hid (Cells wr (w.heap.size) [.int .i64 0, .slice none 0 0])) ∨ (z = .int .i64 4 ∧ Hid (Loc w wr (w.heap.size + 1 + 1) (w.heap.size + 1) [.int .i64 4, .slice (some ⟨w.heap.size + 1, 0, none⟩) 16 16] (oneI 4 false 4)) ∧ Hid (Cells wr (w.heap.size) [.int .i64 0, .slice none 0 0]))) (fun z _ => 4 - (intOf z).toNat)
  case atStart => exact .inl ⟨rfl, L0, R0⟩
  case round =>
    clear L0 R0
    rcases hrel with ⟨rfl, hL, hR⟩ | ⟨rfl, hL, hR⟩ | ⟨rfl, hL, hR⟩ | ⟨rfl, hL, hR⟩ | ⟨rfl, hL, hR⟩
    · skip
      have lB := hL.out.box.1
      have q1 := hL.out.box.2 1 _ rfl
      have lD := hL.out.lt
      have x0 := hL.out.has.cell 0 (by decide)
      have f0 := hL.out.has.free 0
      have x1 := hL.out.has.cell 1 (by decide)
      have f1 := hL.out.has.free 1
      have x4 := hL.out.has.cell 4 (by decide)
      have f4 := hL.out.has.free 4
      have L1 := Lib.hid (Loc.set (Loc.set (Loc.set hL.out 0 (by decide) (2)) 1 (by decide) (-1)) 4 (by decide) (-1))
      have R1 := Lib.hid (Cells.setB (c := w.heap.size + 1) (j := 4) (Cells.setB (c := w.heap.size + 1) (j := 1) (Cells.setB (c := w.heap.size + 1) (j := 0) hR.out (by omega) (.int .i64 (2))) (by omega) (.int .i64 (-1))) (by omega) (.int .i64 (-1)))
      have e1 : ((((oneI 4 false 0).set 0 2).set 1 (-1)).set 4 (-1)) = oneI 4 false 1 := by decide
      rw [e1] at L1
      clear hL hR e1
      go_wp2
      exact ⟨.inr (.inl ⟨by simp, L1, R1⟩), by simp [intOf]⟩
    · skip
      have lB := hL.out.box.1
      have q1 := hL.out.box.2 1 _ rfl
      have lD := hL.out.lt
      have x5 := hL.out.has.cell 5 (by decide)
      have f5 := hL.out.has.free 5
      have x6 := hL.out.has.cell 6 (by decide)
      have f6 := hL.out.has.free 6
      have x9 := hL.out.has.cell 9 (by decide)
      have f9 := hL.out.has.free 9
      have L1 := Lib.hid (Loc.set (Loc.set (Loc.set hL.out 5 (by decide) (2)) 6 (by decide) (-1)) 9 (by decide) (-1))
      have R1 := Lib.hid (Cells.setB (c := w.heap.size + 1) (j := 9) (Cells.setB (c := w.heap.size + 1) (j := 6) (Cells.setB (c := w.heap.size + 1) (j := 5) hR.out (by omega) (.int .i64 (2))) (by omega) (.int .i64 (-1))) (by omega) (.int .i64 (-1)))
      have e1 : ((((oneI 4 false 1).set 5 2).set 6 (-1)).set 9 (-1)) = oneI 4 false 2 := by decide
      rw [e1] at L1
      clear hL hR e1
      go_wp2
      exact ⟨.inr (.inr (.inl ⟨by simp, L1, R1⟩)), by simp [intOf]⟩
    · skip
      have lB := hL.out.box.1
      have q1 := hL.out.box.2 1 _ rfl
      have lD := hL.out.lt
      have x10 := hL.out.has.cell 10 (by decide)
      have f10 := hL.out.has.free 10
      have x11 := hL.out.has.cell 11 (by decide)
      have f11 := hL.out.has.free 11
      have x14 := hL.out.has.cell 14 (by decide)
      have f14 := hL.out.has.free 14
      have L1 := Lib.hid (Loc.set (Loc.set (Loc.set hL.out 10 (by decide) (2)) 11 (by decide) (-1)) 14 (by decide) (-1))
      have R1 := Lib.hid (Cells.setB (c := w.heap.size + 1) (j := 14) (Cells.setB (c := w.heap.size + 1) (j := 11) (Cells.setB (c := w.heap.size + 1) (j := 10) hR.out (by omega) (.int .i64 (2))) (by omega) (.int .i64 (-1))) (by omega) (.int .i64 (-1)))
      have e1 : ((((oneI 4 false 2).set 10 2).set 11 (-1)).set 14 (-1)) = oneI 4 false 3 := by decide
      rw [e1] at L1
      clear hL hR e1
      go_wp2
      exact ⟨.inr (.inr (.inr (.inl ⟨by simp, L1, R1⟩))), by simp [intOf]⟩
    · skip
      have lB := hL.out.box.1
      have q1 := hL.out.box.2 1 _ rfl
      have lD := hL.out.lt
      have x15 := hL.out.has.cell 15 (by decide)
      have f15 := hL.out.has.free 15
      have L1 := Lib.hid (Loc.set hL.out 15 (by decide) (2))
      have R1 := Lib.hid (Cells.setB (c := w.heap.size + 1) (j := 15) hR.out (by omega) (.int .i64 (2)))
      have e1 : ((oneI 4 false 3).set 15 2) = oneI 4 false 4 := by decide
      rw [e1] at L1
      clear hL hR e1
      go_wp2
      exact ⟨.inr (.inr (.inr (.inr (⟨by simp, L1, R1⟩)))), by simp [intOf]⟩
    · skip
      have lB := hL.out.box.1
      have q1 := hL.out.box.2 1 _ rfl
      have lD := hL.out.lt
      have L1 := Lib.hid hL.out
      have R1 := Lib.hid hR.out
      have e1 : (oneI 4 false 4) = oneL 9 := by decide +kernel
      rw [e1] at L1
      have q0 := hL.out.box.2 0 _ rfl
      have r0 := hR.out.2 0 _ rfl
      have r1 := hR.out.2 1 _ rfl
      have tR := hR.out.3
      have lR := hR.out.1
      have B2 := Lib.hid (early2 (lo := 0) (v0 := .int .i64 4) (v1 := .slice (some ⟨w.heap.size + 1, 0, none⟩) 16 16) R1.out)
      have E2 := Lib.hid (L1.out.ext)
      have H2 := Lib.hid (L1.out.has)
      clear hL hR e1
      go_wp2
      have r20 := B2.out.2 0 _ rfl
      have r21 := B2.out.2 1 _ rfl
      refine bodyPost_ret (v := .agg #[.int .i64 4, .slice (some ⟨w.heap.size + 1, 0, none⟩) 16 16]) (by simp [results, Tryz.results143, go_sem, r20, r21]) rfl ⟨w.heap.size + 1, rfl, by omega, ?_, ?_⟩
      · exact (H2.out.setOther (p := ⟨w.heap.size, 0, none⟩) (by simp) _).setOther (p := ⟨w.heap.size, 1, none⟩) (by simp) _
      · exact (E2.out.setCell (p := ⟨w.heap.size, 0, none⟩) (Nat.le_refl _) _).setCell (p := ⟨w.heap.size, 1, none⟩) (Nat.le_refl _) _

set_option maxRecDepth 100000 in
set_option maxHeartbeats 3200000 in
theorem l5One_10 (w : World) : Calls Tryz.prog 143 #[.string ⟨#[66, 52]⟩] w fun e w' => ∃ b, e = .returned (.agg #[.int .i64 4, .slice (some ⟨b, 0, none⟩) 16 16]) ∧ w.heap.size ≤ b ∧ Has w' b (oneL 10) ∧ Ext w w' := by
  have hmk : ∀ w : World, (Instr.makeSlice 22 (.int .i64 16) (.int .i64 16)).run Tryz.prog w = .ok (.slice (some ⟨w.heap.size, 0, none⟩) 16 16) (w.alloc (.cells (ints (List.replicate 16 0)) 3)) := make_ints 16 (by omega)
  have hb1 : ((⟨#[66, 52]⟩ : ByteArray)[1]'(by decide)).toNat = 52 := rfl
  have hb0 : ((⟨#[66, 52]⟩ : ByteArray)[0]'(by decide)).toNat = 66 := rfl
  go_enter Tryz.func143, Tryz.ntmps143
  go_wp2_with fail
  have L0 : Hid (Loc w (((w.alloc (.cells #[.int .i64 0, .slice none 0 0] 27)).alloc (.cells (ints (List.replicate 16 0)) 3)).alloc (.cells #[.int .i64 4, .slice (some ⟨w.heap.size + 1, 0, none⟩) 16 16] 27)) (w.heap.size + 1 + 1) (w.heap.size + 1) [.int .i64 4, .slice (some ⟨w.heap.size + 1, 0, none⟩) 16 16] (oneI 4 false 0)) :=
    ⟨cells_new' _ _ _ _ (by simp), (Has.new' (w.alloc (.cells #[.int .i64 0, .slice none 0 0] 27)) (List.replicate 16 0) _ (by simp)).alloc _, (((Ext.refl w).alloc _).alloc _).alloc _, by omega, by simp, by omega⟩
  have R0 : Hid (Cells (((w.alloc (.cells #[.int .i64 0, .slice none 0 0] 27)).alloc (.cells (ints (List.replicate 16 0)) 3)).alloc (.cells #[.int .i64 4, .slice (some ⟨w.heap.size + 1, 0, none⟩) 16 16] 27)) (w.heap.size) [.int .i64 0, .slice none 0 0]) :=
    (cells_new w #[.int .i64 0, .slice none 0 0] 27).ext (((Ext.refl _).alloc _).alloc _)
  go_loopw [5] (fun z wr => (z = .int .i64 0 ∧ Hid (Loc w wr (w.heap.size + 1 + 1) (w.heap.size + 1) [.int .i64 4, .slice (some ⟨w.heap.size + 1, 0, none⟩) 16 16] (oneI 4 false 0)) ∧ Hid (Cells wr (w.heap.size) [.int .i64 0, .slice none 0 0])) ∨ (z = .int .i64 1 ∧ Hid (Loc w wr (w.heap.size + 1 + 1) (w.heap.size + 1) [.int .i64 4, .slice (some ⟨w.heap.size + 1, 0, none⟩) 16 16] (oneI 4 false 1)) ∧ Hid (Cells wr (w.heap.size) [.int .i64 0, .slice none 0 0])) ∨ (z = .int .i64 2 ∧ Hid (Loc w wr (w.heap.size + 1 + 1) (w.heap.size + 1) [.int .i64 4, .slice (some ⟨w.heap.size + 1, 0, none⟩) 16 16] (oneI 4 false 2)) ∧ Hid (Cells wr (w.heap.size) [.int .i64 0, .slice none 0 0])) ∨ (z = .int .i64 3 ∧ Hid (Loc w wr (w.heap.size + 1 + 1) (w.heap.size + 1) [.int .i64 4, .slice (some ⟨w.heap.size + 1, 0, none⟩) 16 16] (oneI 4 false 3)) ∧ Hid (Cells wr (w.heap.size) [.int .i64 0, .slice none 0 0])) ∨ (z = .int .i64 4 ∧ Hid (Loc w wr (w.heap.size + 1 + 1) (w.heap.size + 1) [.int .i64 4, .slice (some ⟨w.heap.size + 1, 0, none⟩) 16 16] (oneI 4 false 4)) ∧ Hid (Cells wr (w.heap.size) [.int .i64 0, .slice none 0 0]))) (fun z _ => 4 - (intOf z).toNat)
  case atStart => exact .inl ⟨rfl, L0, R0⟩
  case round =>
    clear L0 R0
    rcases hrel with ⟨rfl, hL, hR⟩ | ⟨rfl, hL, hR⟩ | ⟨rfl, hL, hR⟩ | ⟨rfl, hL, hR⟩ | ⟨rfl, hL, hR⟩
    · skip
      have lB := hL.out.box.1
      have q1 := hL.out.box.2 1 _ rfl
      have lD := hL.out.lt
      have x0 := hL.out.has.cell 0 (by decide)
      have f0 := hL.out.has.free 0
      have x1 := hL.out.has.cell 1 (by decide)
      have f1 := hL.out.has.free 1
      have x4 := hL.out.has.cell 4 (by decide)
      have f4 := hL.out.has.free 4
      have L1 := Lib.hid (Loc.set (Loc.set (Loc.set hL.out 0 (by decide) (2)) 1 (by decide) (-1)) 4 (by decide) (-1))
      have R1 := Lib.hid (Cells.setB (c := w.heap.size + 1) (j := 4) (Cells.setB (c := w.heap.size + 1) (j := 1) (Cells.setB (c := w.heap.size + 1) (j := 0) hR.out (by omega) (.int .i64 (2))) (by omega) (.int .i64 (-1))) (by omega) (.int .i64 (-1)))
      have e1 : ((((oneI 4 false 0).set 0 2).set 1 (-1)).set 4 (-1)) = oneI 4 false 1 := by decide
      rw [e1] at L1
      clear hL hR e1
      go_wp2
      exact ⟨.inr (.inl ⟨by simp, L1, R1⟩), by simp [intOf]⟩
    · skip
      have lB := hL.out.box.1
      have q1 := hL.out.box.2 1 _ rfl
      have lD := hL.out.lt
      have x5 := hL.out.has.cell 5 (by decide)
      have f5 := hL.out.has.free 5
      have x6 := hL.out.has.cell 6 (by decide)
      have f6 := hL.out.has.free 6
      have x9 := hL.out.has.cell 9 (by decide)
      have f9 := hL.out.has.free 9
      have L1 := Lib.hid (Loc.set (Loc.set (Loc.set hL.out 5 (by decide) (2)) 6 (by decide) (-1)) 9 (by decide) (-1))
      have R1 := Lib.hid (Cells.setB (c := w.heap.size + 1) (j := 9) (Cells.setB (c := w.heap.size + 1) (j := 6) (Cells.setB (c := w.heap.size + 1) (j := 5) hR.out (by omega) (.int .i64 (2))) (by omega) (.int .i64 (-1))) (by omega) (.int .i64 (-1)))
      have e1 : ((((oneI 4 false 1).set 5 2).set 6 (-1)).set 9 (-1)) = oneI 4 false 2 := by decide
      rw [e1] at L1
      clear hL hR e1
      go_wp2
      exact ⟨.inr (.inr (.inl ⟨by simp, L1, R1⟩)), by simp [intOf]⟩
    · skip
      have lB := hL.out.box.1
      have q1 := hL.out.box.2 1 _ rfl
      have lD := hL.out.lt
      have x10 := hL.out.has.cell 10 (by decide)
      have f10 := hL.out.has.free 10
      have x11 := hL.out.has.cell 11 (by decide)
      have f11 := hL.out.has.free 11
      have x14 := hL.out.has.cell 14 (by decide)
      have f14 := hL.out.has.free 14
      have L1 := Lib.hid (Loc.set (Loc.set (Loc.set hL.out 10 (by decide) (2)) 11 (by decide) (-1)) 14 (by decide) (-1))
      have R1 := Lib.hid (Cells.setB (c := w.heap.size + 1) (j := 14) (Cells.setB (c := w.heap.size + 1) (j := 11) (Cells.setB (c := w.heap.size + 1) (j := 10) hR.out (by omega) (.int .i64 (2))) (by omega) (.int .i64 (-1))) (by omega) (.int .i64 (-1)))
      have e1 : ((((oneI 4 false 2).set 10 2).set 11 (-1)).set 14 (-1)) = oneI 4 false 3 := by decide
      rw [e1] at L1
      clear hL hR e1
      go_wp2
      exact ⟨.inr (.inr (.inr (.inl ⟨by simp, L1, R1⟩))), by simp [intOf]⟩
    · skip
      have lB := hL.out.box.1
      have q1 := hL.out.box.2 1 _ rfl
      have lD := hL.out.lt
      have x15 := hL.out.has.cell 15 (by decide)
      have f15 := hL.out.has.free 15
      have L1 := Lib.hid (Loc.set hL.out 15 (by decide) (2))
      have R1 := Lib.hid (Cells.setB (c := w.heap.size + 1) (j := 15) hR.out (by omega) (.int .i64 (2)))
      have e1 : ((oneI 4 false 3).set 15 2) = oneI 4 false 4 := by decide
      rw [e1] at L1
      clear hL hR e1
      go_wp2
      exact ⟨.inr (.inr (.inr (.inr (⟨by simp, L1, R1⟩)))), by simp [intOf]⟩
    · skip
      have lB := hL.out.box.1
      have q1 := hL.out.box.2 1 _ rfl
      have lD := hL.out.lt
      have x14 := hL.out.has.cell 14 (by decide)
      have f14 := hL.out.has.free 14
      have L1 := Lib.hid (Loc.set hL.out 14 (by decide) (-2))
      have R1 := Lib.hid (Cells.setB (c := w.heap.size + 1) (j := 14) hR.out (by omega) (.int .i64 (-2)))
      have e1 : ((oneI 4 false 4).set 14 (-2)) = oneL 10 := by decide +kernel
      rw [e1] at L1
      have q0 := hL.out.box.2 0 _ rfl
      have r0 := hR.out.2 0 _ rfl
      have r1 := hR.out.2 1 _ rfl
      have tR := hR.out.3
      have lR := hR.out.1
      have B2 := Lib.hid (early2 (lo := 0) (v0 := .int .i64 4) (v1 := .slice (some ⟨w.heap.size + 1, 0, none⟩) 16 16) R1.out)
      have E2 := Lib.hid (L1.out.ext)
      have H2 := Lib.hid (L1.out.has)
      clear hL hR e1
      go_wp2
      have r20 := B2.out.2 0 _ rfl
      have r21 := B2.out.2 1 _ rfl
      refine bodyPost_ret (v := .agg #[.int .i64 4, .slice (some ⟨w.heap.size + 1, 0, none⟩) 16 16]) (by simp [results, Tryz.results143, go_sem, r20, r21]) rfl ⟨w.heap.size + 1, rfl, by omega, ?_, ?_⟩
      · exact (H2.out.setOther (p := ⟨w.heap.size, 0, none⟩) (by simp) _).setOther (p := ⟨w.heap.size, 1, none⟩) (by simp) _
      · exact (E2.out.setCell (p := ⟨w.heap.size, 0, none⟩) (Nat.le_refl _) _).setCell (p := ⟨w.heap.size, 1, none⟩) (Nat.le_refl _) _

set_option maxRecDepth 100000 in
set_option maxHeartbeats 3200000 in
theorem l5One_11 (w : World) : Calls Tryz.prog 143 #[.string ⟨#[67, 52]⟩] w fun e w' => ∃ b, e = .returned (.agg #[.int .i64 4, .slice (some ⟨b, 0, none⟩) 16 16]) ∧ w.heap.size ≤ b ∧ Has w' b (oneL 11) ∧ Ext w w' := by
  have hmk : ∀ w : World, (Instr.makeSlice 22 (.int .i64 16) (.int .i64 16)).run Tryz.prog w = .ok (.slice (some ⟨w.heap.size, 0, none⟩) 16 16) (w.alloc (.cells (ints (List.replicate 16 0)) 3)) := make_ints 16 (by omega)
  have hb1 : ((⟨#[67, 52]⟩ : ByteArray)[1]'(by decide)).toNat = 52 := rfl
  have hb0 : ((⟨#[67, 52]⟩ : ByteArray)[0]'(by decide)).toNat = 67 := rfl
  go_enter Tryz.func143, Tryz.ntmps143
  go_wp2_with fail
  have L0 : Hid (Loc w (((w.alloc (.cells #[.int .i64 0, .slice none 0 0] 27)).alloc (.cells (ints (List.replicate 16 0)) 3)).alloc (.cells #[.int .i64 4, .slice (some ⟨w.heap.size + 1, 0, none⟩) 16 16] 27)) (w.heap.size + 1 + 1) (w.heap.size + 1) [.int .i64 4, .slice (some ⟨w.heap.size + 1, 0, none⟩) 16 16] (oneI 4 false 0)) :=
    ⟨cells_new' _ _ _ _ (by simp), (Has.new' (w.alloc (.cells #[.int .i64 0, .slice none 0 0] 27)) (List.replicate 16 0) _ (by simp)).alloc _, (((Ext.refl w).alloc _).alloc _).alloc _, by omega, by simp, by omega⟩
  have R0 : Hid (Cells (((w.alloc (.cells #[.int .i64 0, .slice none 0 0] 27)).alloc (.cells (ints (List.replicate 16 0)) 3)).alloc (.cells #[.int .i64 4, .slice (some ⟨w.heap.size + 1, 0, none⟩) 16 16] 27)) (w.heap.size) [.int .i64 0, .slice none 0 0]) :=
    (cells_new w #[.int .i64 0, .slice none 0 0] 27).ext (((Ext.refl _).alloc _).alloc _)
  go_loopw [5] (fun z wr => (z = .int .i64 0 ∧ Hid (Loc w wr (w.heap.size + 1 + 1) (w.heap.size + 1) [.int .i64 4, .slice (some ⟨w.heap.size + 1, 0, none⟩) 16 16] (oneI 4 false 0)) ∧ Hid (Cells wr (w.heap.size) [.int .i64 0, .slice none 0 0])) ∨ (z = .int .i64 1 ∧ Hid (Loc w wr (w.heap.size + 1 + 1) (w.heap.size + 1) [.int .i64 4, .slice (some ⟨w.heap.size + 1, 0, none⟩) 16 16] (oneI 4 false 1)) ∧ Hid (Cells wr (w.heap.size) [.int .i64 0, .slice none 0 0])) ∨ (z = .int .i64 2 ∧ Hid (Loc w wr (w.heap.size + 1 + 1) (w.heap.size + 1) [.int .i64 4, .slice (some ⟨w.heap.size + 1, 0, none⟩) 16 16] (oneI 4 false 2)) ∧ Hid (Cells wr (w.heap.size) [.int .i64 0, .slice none 0 0])) ∨ (z = .int .i64 3 ∧ Hid (Loc w wr (w.heap.size + 1 + 1) (w.heap.size + 1) [.int .i64 4, .slice (some ⟨w.heap.size + 1, 0, none⟩) 16 16] (oneI 4 false 3)) ∧ Hid (Cells wr (w.heap.size) [.int .i64 0, .slice none 0 0])) ∨ (z = .int .i64 4 ∧ Hid (Loc w wr (w.heap.size + 1 + 1) (w.heap.size + 1) [.int .i64 4, .slice (some ⟨w.heap.size + 1, 0, none⟩) 16 16] (oneI 4 false 4)) ∧ Hid (Cells wr (w.heap.size) [.int .i64 0, .slice none 0 0]))) (fun z _ => 4 - (intOf z).toNat)
  case atStart => exact .inl ⟨rfl, L0, R0⟩
  case round =>
    clear L0 R0
    rcases hrel with ⟨rfl, hL, hR⟩ | ⟨rfl, hL, hR⟩ | ⟨rfl, hL, hR⟩ | ⟨rfl, hL, hR⟩ | ⟨rfl, hL, hR⟩
    · skip
      have lB := hL.out.box.1
      have q1 := hL.out.box.2 1 _ rfl
      have lD := hL.out.lt
      have x0 := hL.out.has.cell 0 (by decide)
      have f0 := hL.out.has.free 0
      have x1 := hL.out.has.cell 1 (by decide)
      have f1 := hL.out.has.free 1
      have x4 := hL.out.has.cell 4 (by decide)
      have f4 := hL.out.has.free 4
      have L1 := Lib.hid (Loc.set (Loc.set (Loc.set hL.out 0 (by decide) (2)) 1 (by decide) (-1)) 4 (by decide) (-1))
      have R1 := Lib.hid (Cells.setB (c := w.heap.size + 1) (j := 4) (Cells.setB (c := w.heap.size + 1) (j := 1) (Cells.setB (c := w.heap.size + 1) (j := 0) hR.out (by omega) (.int .i64 (2))) (by omega) (.int .i64 (-1))) (by omega) (.int .i64 (-1)))
      have e1 : ((((oneI 4 false 0).set 0 2).set 1 (-1)).set 4 (-1)) = oneI 4 false 1 := by decide
      rw [e1] at L1
      clear hL hR e1
      go_wp2
      exact ⟨.inr (.inl ⟨by simp, L1, R1⟩), by simp [intOf]⟩
    · skip
      have lB := hL.out.box.1
      have q1 := hL.out.box.2 1 _ rfl
      have lD := hL.out.lt
      have x5 := hL.out.has.cell 5 (by decide)
      have f5 := hL.out.has.free 5
      have x6 := hL.out.has.cell 6 (by decide)
      have f6 := hL.out.has.free 6
      have x9 := hL.out.has.cell 9 (by decide)
      have f9 := hL.out.has.free 9
      have L1 := Lib.hid (Loc.set (Loc.set (Loc.set hL.out 5 (by decide) (2)) 6 (by decide) (-1)) 9 (by decide) (-1))
      have R1 := Lib.hid (Cells.setB (c := w.heap.size + 1) (j := 9) (Cells.setB (c := w.heap.size + 1) (j := 6) (Cells.setB (c := w.heap.size + 1) (j := 5) hR.out (by omega) (.int .i64 (2))) (by omega) (.int .i64 (-1))) (by omega) (.int .i64 (-1)))
      have e1 : ((((oneI 4 false 1).set 5 2).set 6 (-1)).set 9 (-1)) = oneI 4 false 2 := by decide
      rw [e1] at L1
      clear hL hR e1
      go_wp2
      exact ⟨.inr (.inr (.inl ⟨by simp, L1, R1⟩)), by simp [intOf]⟩
    · skip
      have lB := hL.out.box.1
      have q1 := hL.out.box.2 1 _ rfl
      have lD := hL.out.lt
      have x10 := hL.out.has.cell 10 (by decide)
      have f10 := hL.out.has.free 10
      have x11 := hL.out.has.cell 11 (by decide)
      have f11 := hL.out.has.free 11
      have x14 := hL.out.has.cell 14 (by decide)
      have f14 := hL.out.has.free 14
      have L1 := Lib.hid (Loc.set (Loc.set (Loc.set hL.out 10 (by decide) (2)) 11 (by decide) (-1)) 14 (by decide) (-1))
      have R1 := Lib.hid (Cells.setB (c := w.heap.size + 1) (j := 14) (Cells.setB (c := w.heap.size + 1) (j := 11) (Cells.setB (c := w.heap.size + 1) (j := 10) hR.out (by omega) (.int .i64 (2))) (by omega) (.int .i64 (-1))) (by omega) (.int .i64 (-1)))
      have e1 : ((((oneI 4 false 2).set 10 2).set 11 (-1)).set 14 (-1)) = oneI 4 false 3 := by decide
      rw [e1] at L1
      clear hL hR e1
      go_wp2
      exact ⟨.inr (.inr (.inr (.inl ⟨by simp, L1, R1⟩))), by simp [intOf]⟩
    · skip
      have lB := hL.out.box.1
      have q1 := hL.out.box.2 1 _ rfl
      have lD := hL.out.lt
      have x15 := hL.out.has.cell 15 (by decide)
      have f15 := hL.out.has.free 15
      have L1 := Lib.hid (Loc.set hL.out 15 (by decide) (2))
      have R1 := Lib.hid (Cells.setB (c := w.heap.size + 1) (j := 15) hR.out (by omega) (.int .i64 (2)))
      have e1 : ((oneI 4 false 3).set 15 2) = oneI 4 false 4 := by decide
      rw [e1] at L1
      clear hL hR e1
      go_wp2
      exact ⟨.inr (.inr (.inr (.inr (⟨by simp, L1, R1⟩)))), by simp [intOf]⟩
    · skip
      have lB := hL.out.box.1
      have q1 := hL.out.box.2 1 _ rfl
      have lD := hL.out.lt
      have x11 := hL.out.has.cell 11 (by decide)
      have f11 := hL.out.has.free 11
      have L1 := Lib.hid (Loc.set hL.out 11 (by decide) (-2))
      have R1 := Lib.hid (Cells.setB (c := w.heap.size + 1) (j := 11) hR.out (by omega) (.int .i64 (-2)))
      have e1 : ((oneI 4 false 4).set 11 (-2)) = oneL 11 := by decide +kernel
      rw [e1] at L1
      have q0 := hL.out.box.2 0 _ rfl
      have r0 := hR.out.2 0 _ rfl
      have r1 := hR.out.2 1 _ rfl
      have tR := hR.out.3
      have lR := hR.out.1
      have B2 := Lib.hid (early2 (lo := 0) (v0 := .int .i64 4) (v1 := .slice (some ⟨w.heap.size + 1, 0, none⟩) 16 16) R1.out)
      have E2 := Lib.hid (L1.out.ext)
      have H2 := Lib.hid (L1.out.has)
      clear hL hR e1
      go_wp2
      have r20 := B2.out.2 0 _ rfl
      have r21 := B2.out.2 1 _ rfl
      refine bodyPost_ret (v := .agg #[.int .i64 4, .slice (some ⟨w.heap.size + 1, 0, none⟩) 16 16]) (by simp [results, Tryz.results143, go_sem, r20, r21]) rfl ⟨w.heap.size + 1, rfl, by omega, ?_, ?_⟩
      · exact (H2.out.setOther (p := ⟨w.heap.size, 0, none⟩) (by simp) _).setOther (p := ⟨w.heap.size, 1, none⟩) (by simp) _
      · exact (E2.out.setCell (p := ⟨w.heap.size, 0, none⟩) (Nat.le_refl _) _).setCell (p := ⟨w.heap.size, 1, none⟩) (Nat.le_refl _) _
theorem l5One_spec : ∀ k, k < 12 → ∀ w, Calls Tryz.prog 143 #[.string (nmS k)] w fun e w' => ∃ b, e = .returned (.agg #[.int .i64 (frk k : Nat), .slice (some ⟨b, 0, none⟩) (frk k * frk k) (frk k * frk k)]) ∧ w.heap.size ≤ b ∧ Has w' b (oneL k) ∧ Ext w w'
  | 0, _ => l5One_0
  | 1, _ => l5One_1
  | 2, _ => l5One_2
  | 3, _ => l5One_3
  | 4, _ => l5One_4
  | 5, _ => l5One_5
  | 6, _ => l5One_6
  | 7, _ => l5One_7
  | 8, _ => l5One_8
  | 9, _ => l5One_9
  | 10, _ => l5One_10
  | 11, _ => l5One_11
  | n + 12, h => absurd h (by omega)
end Go.Proofs.YtlnpaplbcocmkaaGreat
