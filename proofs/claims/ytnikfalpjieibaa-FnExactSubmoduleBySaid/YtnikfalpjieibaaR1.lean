/-
  The span, the rank, the determinant and the reduction, of the program.
-/
import Derived.Test.YtnikfalpjieibaaRi
import Derived.Test.YtnikfalpjieibaaAd
import Derived.Test.YtnikfalpjieibaaRedS
namespace Go.Proofs.Ytnikfalpjieibaa
open Go.RowKit
set_option linter.unusedVariables false

noncomputable def spanM (P R C : Int) (xs : List Int) : Mat := if mok P R C xs then ⟨P, ((redM P R.toNat C.toNat xs).pv.length : Nat), C, spanL P R.toNat C.toNat xs⟩ else noMat
noncomputable def rankM (P R C : Int) (xs : List Int) : Int := if mok P R C xs then ((redM P R.toNat C.toNat xs).pv.length : Nat) else -1
noncomputable def detM (P R C : Int) (xs : List Int) : Int × Bool := if mok P R C xs && (R == C) then (if (redM P R.toNat C.toNat xs).pv.length < R.toNat then (0, true) else ((redM P R.toNat C.toNat xs).d, true)) else (0, false)
noncomputable def reduceM (P R C : Int) (xs : List Int) : Mat × List Int := if mok P R C xs then (⟨P, R, C, (redM P R.toNat C.toNat xs).m⟩, pvI (redM P R.toNat C.toNat xs).pv) else (noMat, [])
theorem field_mat1 (x0 x1 x2 x3 : Value) (w : World) : (Instr.field 37 (.agg #[x0, x1, x2, x3]) 1).run Try.prog w = .ok x1 w := by kernel_rfl
theorem spanK_le {P : Int} {R C n : Nat} {xs : List Int} (hn : n = R * C) : (redM P R C xs).pv.length * C ≤ n := by rw [hn]; exact Nat.mul_le_mul_right C redM_k.1

end Go.Proofs.Ytnikfalpjieibaa

/-
  The span, the rank, the determinant and the reduction, of the specification.
-/
namespace Go.Proofs.Ytnikfalpjieibaa
open Go.RowKit
set_option linter.unusedVariables false

theorem slice_mat (b n c2 k : Nat) (h : k ≤ c2) (w : World) : True := trivial
set_option maxRecDepth 100000 in
set_option maxHeartbeats 6400000 in
theorem l1Span_spec (P : Int) (R C n c : Nat) (a : Option Addr) (xs : List Int) (w : World) (hr : Reads w a n xs) (hn : n = R * C) (hb : n ≤ 1048576) (hR : R ≤ 1048576) (hC : C ≤ 1048576) (hpr : isP P = true) (hx : Res xs P) (ha : a = none → n = 0 ∧ c = 0) :
    Calls Try.prog 84 #[.agg #[.int .i64 P, .int .i64 R, .int .i64 C, .slice a n c]] w fun e w' => ∃ b c', e = .returned (.agg #[.int .i64 P, .int .i64 ((redM P R C xs).pv.length : Nat), .int .i64 C, .slice (some ⟨b, 0, none⟩) ((redM P R C xs).pv.length * C) c']) ∧ w.heap.size ≤ b ∧ b < w'.heap.size ∧ Has w' b (spanL P R C xs) ∧ Ext w w' ∧ (redM P R C xs).pv.length * C ≤ c' := by
  have HR := Lib.hid hr
  have HN := Lib.hid hn
  have HX := Lib.hid hx
  have HPR := Lib.hid hpr
  have HA := Lib.hid ha
  have hk : (redM P R C xs).pv.length * C ≤ n := spanK_le hn
  obtain ⟨g0, g1, g2⟩ := prodN (redM P R C xs).pv.length C _ rfl (Nat.le_trans hk hb)
  have G2 := Lib.hid g2
  have HK : Hid (spanL P R C xs = (redM P R C xs).m.take ((redM P R C xs).pv.length * C)) := rfl
  clear hr hn hx hpr ha g2
  go_enter Try.func84, Try.ntmps84
  have A0_1 := Lib.hid ((cells_new' w #[.int .i64 P, .int .i64 R, .int .i64 C, .slice a n c] 37 (w.heap.size) (by simp)).ext ((Ext.refl _).alloc (.cells #[.int .i64 0, .int .i64 0, .int .i64 0, .slice none 0 0] 37)))
  have R_2 := Lib.hid (cells_new' (w.alloc (.cells #[.int .i64 P, .int .i64 R, .int .i64 C, .slice a n c] 37)) #[.int .i64 0, .int .i64 0, .int .i64 0, .slice none 0 0] 37 (w.heap.size + 1) (by simp))
  have E_3 := Lib.hid (((Ext.refl w).alloc (.cells #[.int .i64 P, .int .i64 R, .int .i64 C, .slice a n c] 37)).alloc (.cells #[.int .i64 0, .int .i64 0, .int .i64 0, .slice none 0 0] 37))
  have lA0 := A0_1.out.1
  have qA00 := A0_1.out.2 0 _ rfl
  have qA01 := A0_1.out.2 1 _ rfl
  have qA02 := A0_1.out.2 2 _ rfl
  have qA03 := A0_1.out.2 3 _ rfl
  try simp only [World.size_alloc] at lA0
  go_wp2_with fail
  have l_R := Lib.hid R_2.out.1
  refine (l1Reduce_spec P R C n c a xs _ (HR.out.ext E_3.out) HN.out hb hR hC HPR.out HX.out HA.out).mono ?_
  rintro e w_4 ⟨b, c2, a2, cap, mid, rfl, hb1, hb2, hb3, hh, hpo, h_4, hcc⟩
  clear lA0 qA00 qA01 qA02 qA03
  have A0_5 := Lib.hid (A0_1.out.ext h_4)
  clear A0_1
  have R_6 := Lib.hid (R_2.out.ext h_4)
  clear R_2
  have E_7 := Lib.hid (E_3.out.trans h_4)
  clear E_3
  have hbR : Hid (w.heap.size + 1 < b) := Nat.lt_of_lt_of_le l_R.out hb1
  have hbM : Hid (b < w_4.heap.size) := Nat.lt_of_lt_of_le hb2 hb3
  clear hb1 hb2 hb3 hpo l_R
  have HH := Lib.hid (hh.alloc (.cells #[.int .i64 P, .int .i64 R, .int .i64 C, .slice (some ⟨b, 0, none⟩) n c2] 37))
  clear hh h_4
  have P_8 := (Ext.refl w_4).alloc (.cells #[.int .i64 P, .int .i64 R, .int .i64 C, .slice (some ⟨b, 0, none⟩) n c2] 37)
  have A0_9 := Lib.hid (A0_5.out.ext P_8)
  clear A0_5
  have R_10 := Lib.hid (R_6.out.ext P_8)
  clear R_6
  have E_11 := Lib.hid (E_7.out.trans P_8)
  clear E_7
  clear P_8
  have M_12 := Lib.hid (cells_new w_4 #[.int .i64 P, .int .i64 R, .int .i64 C, .slice (some ⟨b, 0, none⟩) n c2] 37)
  go_upto_region 2 with fail
  generalize hW1 : (w_4.alloc (.cells #[.int .i64 P, .int .i64 R, .int .i64 C, .slice (some ⟨b, 0, none⟩) n c2] 37)) = W1 at *
  clear hW1
  generalize w_4.heap.size = B1 at *
  have HHk : Hid (Has W1 b (spanL P R C xs)) := by rw [HK.out]; exact HH.out.take _
  have hkc : (redM P R C xs).pv.length * C ≤ c2 := Nat.le_trans hk hcc
  generalize hkk : (redM P R C xs).pv.length = k at *
  have HKK := Lib.hid hkk
  clear hkk HH HK
  have nRB : w.heap.size + 1 ≠ B1 := by have := hbR.out; have := hbM.out; omega
  have lM := M_12.out.1
  have qM0 := M_12.out.2 0 _ rfl
  have qM1 := M_12.out.2 1 _ rfl
  have qM2 := M_12.out.2 2 _ rfl
  have qM3 := M_12.out.2 3 _ rfl
  have lR := R_10.out.1
  have qR0 := R_10.out.2 0 _ rfl
  have qR1 := R_10.out.2 1 _ rfl
  have qR2 := R_10.out.2 2 _ rfl
  have qR3 := R_10.out.2 3 _ rfl
  have tR := R_10.out.3
  try simp only [World.size_alloc] at lM lR
  have tM := M_12.out.3
  have lR := R_10.out.1
  have e1 : (k : Int) * (C : Int) = ((k * C : Nat) : Int) := by simp
  have g3 : (k : Int) * (C : Int) ≤ (c2 : Int) := by rw [e1]; omega
  clear e1
  go_wp2
  refine bodyPost_ret (v := .agg #[.int .i64 P, .int .i64 k, .int .i64 C, .slice (some ⟨b, 0, none⟩) (k * C) c2]) (by simp [results, Try.results84, go_sem, qR0, qR1, qR2, qR3]) rfl ⟨b, c2, by rw [HKK.out], by have := hbR.out; omega, ?_, ?_, ?_, by rw [HKK.out]; exact hkc⟩
  · have := hbM.out; have := lM; simp; omega
  · have := hbM.out; have := hbR.out
    repeat with_reducible (first | exact HHk.out | refine Has.setOther ?_ (by simp <;> omega) _)
  · have := hbM.out; have := hbR.out
    exact ext4 ((E_11.out.setCell (p := ⟨B1, 1, none⟩) (by simp; omega) _).setCell (p := ⟨B1, 3, none⟩) (by simp; omega) _) (by omega) _ _ _ _

/-- Results in blocks between two heap sizes. -/
def Rmat2 (w' : World) (lo hi : Nat) (v : Value) (P R C : Int) (xs : List Int) : Prop := ∃ a n c, v = .agg #[.int .i64 P, .int .i64 R, .int .i64 C, .slice a n c] ∧ Own w' lo hi a n xs ∧ n ≤ 1048576
def Rints2 (w' : World) (lo hi : Nat) (v : Value) (xs : List Int) : Prop := ∃ a n c, v = .slice a n c ∧ Own w' lo hi a n xs ∧ n ≤ 1048576

end Go.Proofs.Ytnikfalpjieibaa
