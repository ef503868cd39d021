/-
  The matrix of the brackets with one element, in the program.
-/
import Derived.Test.YtnikfalpjieibaaLi
import Derived.Test.YtnikfalpjieibaaTm
import Derived.Test.YtnikfalpjieibaaRs
import Derived.Test.YtnikfalpjieibaaMz
namespace Go.Proofs.Ytnikfalpjieibaa
open Go.ChangeShapes Go.WideShapes Go.ChangeAt Go.RowKit
set_option linter.unusedVariables false

/-- The first k terms of the brackets of x with each basis element, row by row. -/
def adTo (P : Int) (D : Nat) (l xs : List Int) (k : Nat) : List Int := (List.range (D * D)).map fun q => (sumN k fun c => gi xs c * gi l (c * (D * D) + q)) % P
section
variable {P : Int} {D : Nat} {l xs : List Int}
theorem adTo_length (k : Nat) : (adTo P D l xs k).length = D * D := by simp [adTo]
theorem gi_adTo (k : Nat) {q : Nat} (hq : q < D * D) : gi (adTo P D l xs k) q = (sumN k fun c => gi xs c * gi l (c * (D * D) + q)) % P := gi_map (D * D) _ hq
theorem adTo_zero : adTo P D l xs 0 = List.replicate (D * D) 0 := by
  refine ext_gi (by rw [adTo_length, List.length_replicate]) (fun q hq => ?_)
  rw [adTo_length] at hq
  rw [gi_adTo 0 hq, gi_repl]; simp [sumN]
theorem adTo_res (hp : 0 < P) (k : Nat) : Res (adTo P D l xs k) P := fun q hq => by
  rw [adTo_length] at hq
  rw [gi_adTo k hq]
  exact ⟨Int.emod_nonneg _ (by omega), Int.emod_lt_of_pos _ hp⟩
theorem adTo_succ (k : Nat) : axL P (gi xs k) l 0 (k * (D * D)) (D * D) (adTo P D l xs k) = adTo P D l xs (k + 1) := by
  refine ext_gi (by rw [axL_length, adTo_length, adTo_length]) (fun q hq => ?_)
  rw [axL_length, adTo_length] at hq
  by_cases h : gi xs k = 0
  · rw [axL, if_pos h, gi_adTo k hq, gi_adTo (k + 1) hq, sumN, h]; simp
  · rw [axL, if_neg h]
    have h1 := gi_axTo_in P (gi xs k) 0 (k * (D * D)) (D * D) (adTo P D l xs k) l (by rw [adTo_length]; omega) q (D * D) hq (Nat.le_refl _)
    simp only [Nat.zero_add] at h1
    rw [h1, gi_adTo k hq, gi_adTo (k + 1) hq, sumN]
    exact Int.emod_add_emod _ _ _
theorem ad_place {j m : Nat} (hj : j < D) (hm : m < D) : j * D + m < D * D := by
  have := Nat.mul_le_mul_right D (show j + 1 ≤ D by omega)
  rw [Nat.add_mul] at this; omega
theorem adTo_row {j m : Nat} (hj : j < D) (hm : m < D) : gi (adTo P D l xs D) (j * D + m) = adN D l (gi xs) j m % P := by
  rw [gi_adTo D (ad_place hj hm), adN]
  congr 1
  refine sumN_congr (fun c _ => ?_)
  rw [tb, Nat.add_mul, Nat.mul_assoc, Nat.add_assoc]
theorem ad_lt {k : Nat} (hk : k < D) : k * (D * D) + D * D ≤ D * D * D := by
  have := Nat.mul_le_mul_right (D * D) (show k + 1 ≤ D by omega)
  rw [Nat.add_mul, Nat.one_mul] at this
  rw [Nat.mul_assoc]; exact this
end

set_option maxRecDepth 100000 in
set_option maxHeartbeats 400000 in
theorem hasElement_impl (P : Int) (D : Nat) (B n c : Nat) (v : Value) (a : Option Addr) (xs : List Int) (w : World) (hc : Cells w B [.int .i64 P, .int .i64 D, v]) (hr : Reads w a n xs) (hm : n ≤ 1048576) :
    Calls Try.prog 56 #[.pointer (some ⟨B, 0, none⟩), .slice a n c] w fun e w' => e = .returned (.bool (((n : Int) == (D : Int)) && resB xs P)) ∧ Ext w w' := by
  have lB := hc.1
  have q0 := hc.2 0 _ rfl
  have q1 := hc.2 1 _ rfl
  have HR := Lib.hid hr
  have hm2 : n ≤ maxLen := by unfold maxLen; omega
  clear hc hr
  go_enter Try.func56, Try.ntmps56
  go_wp2_with fail
  go_quiet ((go_at_call 100; exact Calls.quiet_of_same ((isVector_impl _ _ _ xs _ _ _ (HR.out.ext ((Ext.refl _).drewN _)) hm2).mono fun _ _ ⟨he, hw⟩ => ⟨he, hw.symm⟩)))
  go_wp2
  go_ret
  exact ⟨rfl, by with_reducible repeat (first | exact Ext.refl _ | refine Ext.drewN ?_ _)⟩

set_option maxRecDepth 100000 in
set_option maxHeartbeats 1600000 in
theorem adjointTo_impl (P : Int) (D B a0 oa n d i : Nat) (w : World) (hc : Cells w B [.int .i64 P, .int .i64 D, .slice (some ⟨a0, oa, none⟩) n d]) (hD : D ≤ 28) (hn : n = D * D * D) (hd : n ≤ d) (hd2 : d ≤ maxLen) (hi : i < D) :
    Calls Try.prog 65 #[.pointer (some ⟨B, 0, none⟩), .int .i64 i] w fun e w' => e = .returned (.agg #[.int .i64 P, .int .i64 D, .int .i64 D, .slice (some ⟨a0, oa + i * (D * D), none⟩) (D * D) (d - i * (D * D))]) ∧ Ext w w' := by
  have h3 := ad_lt hi
  have h28 := cube28 hD
  have h27 : D * D ≤ 784 := Nat.mul_le_mul hD hD
  rw [← hn] at h3 h28
  unfold maxLen at hd2
  have e1 : (D : Int) * (D : Int) = ((D * D : Nat) : Int) := by simp
  have e2 : (i : Int) * ((D : Int) * (D : Int)) = ((i * (D * D) : Nat) : Int) := by simp
  have e3 : ((i : Int) + 1) * ((D : Int) * (D : Int)) = ((i * (D * D) + D * D : Nat) : Int) := by rw [Int.add_mul, e2]; simp
  have hD0 : 0 < D * D := Nat.mul_pos (by omega) (by omega)
  have g1 : 0 ≤ (D : Int) * (D : Int) := by rw [e1]; omega
  have g2 : (D : Int) * (D : Int) ≤ 784 := by rw [e1]; omega
  have g3 : 0 ≤ (i : Int) * ((D : Int) * (D : Int)) := by rw [e2]; omega
  have g4 : (i : Int) * ((D : Int) * (D : Int)) ≤ 21952 := by rw [e2]; omega
  have g5 : 0 ≤ ((i : Int) + 1) * ((D : Int) * (D : Int)) := by rw [e3]; omega
  have g6 : ((i : Int) + 1) * ((D : Int) * (D : Int)) ≤ 21952 := by rw [e3]; omega
  have g7 : ((i : Int) + 1) * ((D : Int) * (D : Int)) ≤ (d : Int) := by rw [e3]; omega
  have g8 : (i : Int) * ((D : Int) * (D : Int)) ≤ ((i : Int) + 1) * ((D : Int) * (D : Int)) := by rw [e2, e3]; omega
  have g9 : (i : Int) * ((D : Int) * (D : Int)) < (d : Int) := by rw [e2]; omega
  have HF : Hid ((((i : Int) + 1) * ((D : Int) * (D : Int))).toNat - ((i : Int) * ((D : Int) * (D : Int))).toNat = D * D ∧ ((i : Int) * ((D : Int) * (D : Int))).toNat = i * (D * D)) := by
    refine ⟨?_, ?_⟩
    · rw [e3, e2]; omega
    · rw [e2]; omega
  have HF3 : Hid ((((i : Int) + 1) * ((D : Int) * (D : Int))).toNat - i * (D * D) = D * D) := by rw [Hid, e3]; omega
  have gne : ¬ d = ((i : Int) * ((D : Int) * (D : Int))).toNat := by omega
  have v1 : IntKind.i64.wrap ((D : Int) * (D : Int)) = (D : Int) * (D : Int) := IntWalk.i64_in _ ⟨by omega, by omega⟩
  have v0 : IntKind.i64.wrap ((i : Int) + 1) = (i : Int) + 1 := IntWalk.i64_in _ ⟨by omega, by omega⟩
  have v2 : IntKind.i64.wrap ((i : Int) * ((D : Int) * (D : Int))) = (i : Int) * ((D : Int) * (D : Int)) := IntWalk.i64_in _ ⟨by omega, by omega⟩
  have v3 : IntKind.i64.wrap (((i : Int) + 1) * ((D : Int) * (D : Int))) = ((i : Int) + 1) * ((D : Int) * (D : Int)) := IntWalk.i64_in _ ⟨by omega, by omega⟩
  have HC := Lib.hid hc
  have lB := hc.1
  have q0 := hc.2 0 _ rfl
  have q1 := hc.2 1 _ rfl
  have q2 := hc.2 2 _ rfl
  have HE0 := Lib.hid (Ext.refl w)
  clear e1 e2 e3 hn h3 h28 hc
  go_enter Try.func65, Try.ntmps65
  go_wp2_with fail
  go_quiet (fail)
  go_wp2_with fail
  go_region_held3 (fun w' => Ext w w' ∧ (∀ b o, b < w.heap.size → w'.cell? ⟨b, o, none⟩ = w.cell? ⟨b, o, none⟩)) ((refine ext2 ?_; with_reducible repeat (first | exact Ext.refl _ | exact And.left ‹Ext w _ ∧ _› | refine Ext.drew ?_ | refine Ext.drewN ?_ _ | refine Ext.alloc ?_ _ | refine Ext.setCell ?_ (by simp <;> omega) _))) (fail)
  go_wp2_with fail
  simp only [HF.out.2, HF3.out]
  refine bodyPost_ret (v := .agg #[.int .i64 P, .int .i64 D, .int .i64 D, .slice (some ⟨a0, oa + i * (D * D), none⟩) (D * D) (d - i * (D * D))]) (by simp [results, Try.results65, go_sem]) rfl ⟨rfl, ?_⟩
  with_reducible repeat (first | exact Ext.refl _ | refine Ext.drew ?_ | refine Ext.drewN ?_ _ | refine Ext.alloc ?_ _ | refine Ext.setCell ?_ (by simp <;> omega) _)

set_option maxRecDepth 100000 in
theorem run_fieldM (v0 v1 v2 v3 : Value) (w : World) : (Instr.field 37 (.agg #[v0, v1, v2, v3]) 3).run Try.prog w = .ok v3 w := by rfl
end Go.Proofs.Ytnikfalpjieibaa
