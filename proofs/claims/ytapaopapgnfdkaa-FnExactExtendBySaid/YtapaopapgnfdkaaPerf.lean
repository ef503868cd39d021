/-
  Whether an algebra is perfect: both texts.
-/
import Derived.Test.YtapaopapgnfdkaaPrS
import Derived.Test.YtapaopapgnfdkaaBr
namespace Go.Proofs.Ytapaopapgnfdkaa
open Go.ChangeShapes Go.WideShapes Go.ChangeAt Go.RowKit
set_option linter.unusedVariables false
set_option linter.unusedSimpArgs false

noncomputable def perfB (P D : Int) (l : List Int) : Bool := algB P D l && (((redM P (D.toNat * D.toNat) D.toNat l).pv.length : Int) == D)
set_option maxRecDepth 100000 in
theorem run_field1 (v0 v1 v2 v3 : Value) (w : World) : (Instr.field 40 (.agg #[v0, v1, v2, v3]) 1).run Try.prog w = .ok v1 w := by rfl

set_option maxRecDepth 100000 in
set_option maxHeartbeats 1600000 in
theorem bracketRows_impl (P : Int) (D B a0 oa n d : Nat) (w : World) (hc : Cells w B [.int .i64 P, .int .i64 D, .slice (some ⟨a0, oa, none⟩) n d]) (hD : D ≤ 28) :
    Calls Try.prog 172 #[.pointer (some ⟨B, 0, none⟩)] w fun e w' => e = .returned (.agg #[.int .i64 P, .int .i64 ((D * D : Nat) : Int), .int .i64 D, .slice (some ⟨a0, oa, none⟩) n d]) ∧ Ext w w' := by
  have h27 : D * D ≤ 784 := Nat.mul_le_mul hD hD
  have e1 : (D : Int) * (D : Int) = ((D * D : Nat) : Int) := by simp
  have E1 := Lib.hid e1
  have g1 : 0 ≤ (D : Int) * (D : Int) := by rw [e1]; omega
  have g2 : (D : Int) * (D : Int) ≤ 784 := by rw [e1]; omega
  have v1 : IntKind.i64.wrap ((D : Int) * (D : Int)) = (D : Int) * (D : Int) := IntWalk.i64_in _ ⟨by omega, by omega⟩
  have lB := hc.1
  have q0 := hc.2 0 _ rfl
  have q1 := hc.2 1 _ rfl
  have q2 := hc.2 2 _ rfl
  have HE0 := Lib.hid (Ext.refl w)
  clear e1 hc
  rw [← E1.out]
  go_enter Try.func172, Try.ntmps172
  go_wp2_with fail
  go_region_held3 (fun w' => Ext w w' ∧ (∀ b o, b < w.heap.size → w'.cell? ⟨b, o, none⟩ = w.cell? ⟨b, o, none⟩)) ((refine ext2 ?_; with_reducible repeat (first | exact Ext.refl _ | exact And.left ‹Ext w _ ∧ _› | refine Ext.drew ?_ | refine Ext.drewN ?_ _ | refine Ext.alloc ?_ _ | refine Ext.setCell ?_ (by simp <;> omega) _))) (fail)
  go_wp2_with fail
  refine bodyPost_ret (v := .agg #[.int .i64 P, .int .i64 ((D : Int) * (D : Int)), .int .i64 D, .slice (some ⟨a0, oa, none⟩) n d]) (by simp [results, Try.results172, go_sem]) rfl ⟨rfl, ?_⟩
  with_reducible repeat (first | exact Ext.refl _ | refine Ext.drew ?_ | refine Ext.drewN ?_ _ | refine Ext.alloc ?_ _ | refine Ext.setCell ?_ (by simp <;> omega) _)


end Go.Proofs.Ytapaopapgnfdkaa
