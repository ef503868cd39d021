/-
  Lists of matrices: forElements with DualModule 1.
-/
import Derived.Test.YtnikfalpjieibaaApl
namespace Go.Proofs.Ytnikfalpjieibaa
open Go.ChangeShapes Go.WideShapes Go.ChangeAt Go.RowKit
set_option linter.unusedVariables false
set_option linter.unusedSimpArgs false

set_option maxRecDepth 100000 in
set_option maxHeartbeats 3200000 in
theorem forElements_C (P p0 : Int) (S D BL F0 : Nat) (v0 : Value) (F : Nat → List Int) (w : World) (hb : Cells w BL [.int .i64 p0, .int .i64 D, v0]) (hD : D ≤ 28) (hS : S ≤ 40) (hF : ∀ i, (F i).length = S * S)
    (hc : ∀ i w1, i < D → Ext w w1 → Calls Try.prog 72 #[.int .i64 i, .pointer (some ⟨F0, 0, none⟩)] w1 fun e w' => ∃ b, e = .returned (.agg #[.int .i64 P, .int .i64 S, .int .i64 S, .slice (some ⟨b, 0, none⟩) (S * S) (S * S)]) ∧ Own w' w1.heap.size w'.heap.size (some ⟨b, 0, none⟩) (S * S) (F i) ∧ Ext w1 w') :
    Calls Try.prog 62 #[.pointer (some ⟨BL, 0, none⟩), .func (.func 72) #[] #[.pointer (some ⟨F0, 0, none⟩)]] w fun e w' => ∃ v, e = .returned v ∧ Rmats w w' v (sqM P S F D) ∧ Ext w w' := by
  have HB := Lib.hid hb
  have HC := Lib.hid hc
  have HTT := Lib.hid (sqM_tot (P := P) (k := D) hS (by omega) hF)
  have HLN : Hid ((sqM P S F D).length = D) := sqM_length D
  have HFL := Lib.hid hF
  have HMT : Hid (∀ i, i < D → mt (sqM P S F D) i = ⟨P, S, S, F i⟩) := fun i hi => mt_sqM hi
  obtain ⟨ms, hms⟩ : ∃ ms, sqM P S F D = ms := ⟨_, rfl⟩
  rw [hms] at HTT HLN HMT ⊢
  have hmk := make_mats D (by omega)
  have H0 : Hid (TblM (w.alloc (.cells (madeCells #[.int .i64 0, .int .i64 0, .int .i64 0, .slice none 0 0] (D * 4)) 37)) w.heap.size D 0 ms) := tblM_start w D ms
  have X0 := Lib.hid ((Ext.refl w).alloc (.cells (madeCells #[.int .i64 0, .int .i64 0, .int .i64 0, .slice none 0 0] (D * 4)) 37))
  have lB := HB.out.1
  have q1 := HB.out.2 1 _ rfl
  clear hb hc hF hms
  go_enter Try.func62, Try.ntmps62
  go_wp2_with fail
  clear hmk lB q1
  go_loopw [15, 6] (fun z _ wr => ∃ i : Nat, i ≤ D ∧ z = .int .i64 i ∧ Hid (TblM wr w.heap.size D i ms) ∧ Hid (Ext w wr)) (fun z _ _ => D - (intOf z).toNat)
  case atStart => exact ⟨0, by omega, rfl, H0, X0⟩
  case round =>
    clear H0 X0
    obtain ⟨i, hi, rfl, hK, hE⟩ := hrel
    by_cases hin : i < D
    · have hinI : (i : Int) < (D : Int) := by omega
      go_wp2_with fail
      refine (HC.out i _ hin hE.out).mono ?_
      rintro e w2 ⟨b2, rfl, hO2, hE2⟩
      have HE2 := Lib.hid (hE.out.trans hE2)
      have hK2 := hK.out.ext hE2
      obtain ⟨cur, B, k1, k2, _⟩ := hK2
      have hgl := (Array.getElem?_eq_some_iff.1 k1).1
      have hfz : ∀ z, w2.frozen? ⟨w.heap.size, z, none⟩ = false := fun z => frozen_of_row w2 w.heap.size z _ _ k1
      have hce : ∀ z, z < D * 4 → ∃ v, w2.cell? ⟨w.heap.size, z, none⟩ = some v := fun z hz => ⟨_, by rw [cell_of_row w2 w.heap.size z _ _ _ k1]; exact Array.getElem?_eq_getElem (by omega)⟩
      have y0 := hfz (i * 4)
      have y1 := hfz (i * 4 + 1)
      have y2 := hfz (i * 4 + 2)
      have y3 := hfz (i * 4 + 3)
      obtain ⟨z0, u0⟩ := hce (i * 4) (by omega)
      obtain ⟨z1, u1⟩ := hce (i * 4 + 1) (by omega)
      obtain ⟨z2, u2⟩ := hce (i * 4 + 2) (by omega)
      obtain ⟨z3, u3⟩ := hce (i * 4 + 3) (by omega)
      have hgr : w.heap.size < wr.heap.size := by
        obtain ⟨cur', B', k1', _⟩ := hK.out
        exact (Array.getElem?_eq_some_iff.1 k1').1
      have hb2 := (hO2.blk b2 rfl).1
      have HK3 : Hid (TblM ((((w2.setCell ⟨w.heap.size, i * 4, none⟩ (.int .i64 P)).setCell ⟨w.heap.size, i * 4 + 1, none⟩ (.int .i64 S)).setCell ⟨w.heap.size, i * 4 + 2, none⟩ (.int .i64 S)).setCell ⟨w.heap.size, i * 4 + 3, none⟩ (.slice (some ⟨b2, 0, none⟩) (S * S) (S * S))) w.heap.size D (i + 1) ms) := by
        have h9 := TblM.put (b2 := b2) (hK.out.ext hE2) hin (by omega) (fun _ _ => trivial) hK.out hE2 (by rw [HMT.out i hin]; show Own _ _ _ _ (F i).length (F i); rw [HFL.out i]; exact hO2)
        rw [HMT.out i hin] at h9
        dsimp only at h9
        rw [HFL.out i] at h9
        exact h9
      have HE3 : Hid (Ext w ((((w2.setCell ⟨w.heap.size, i * 4, none⟩ (.int .i64 P)).setCell ⟨w.heap.size, i * 4 + 1, none⟩ (.int .i64 S)).setCell ⟨w.heap.size, i * 4 + 2, none⟩ (.int .i64 S)).setCell ⟨w.heap.size, i * 4 + 3, none⟩ (.slice (some ⟨b2, 0, none⟩) (S * S) (S * S)))) := (((HE2.out.setCell (p := ⟨w.heap.size, i * 4, none⟩) (Nat.le_refl _) _).setCell (p := ⟨w.heap.size, i * 4 + 1, none⟩) (Nat.le_refl _) _).setCell (p := ⟨w.heap.size, i * 4 + 2, none⟩) (Nat.le_refl _) _).setCell (p := ⟨w.heap.size, i * 4 + 3, none⟩) (Nat.le_refl _) _
      clear hK hE k1 k2 hfz hce hO2 hE2 hgr hb2
      go_wp2
      exact ⟨⟨i + 1, by omega, by first | rfl | simp, HK3, HE3⟩, by (simp [intOf]) <;> omega⟩
    · obtain rfl : i = D := by omega
      go_wp2
      go_ret
      exact ⟨_, rfl, ⟨_, i, i, rfl, (hK.out.done HLN.out HTT.out (Nat.le_refl _)).1, by omega⟩, hE.out⟩
end Go.Proofs.Ytnikfalpjieibaa
