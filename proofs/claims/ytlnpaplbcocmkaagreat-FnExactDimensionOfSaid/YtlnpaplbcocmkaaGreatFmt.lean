/-
  The list of all families, what stands in a family's matrix, and its lengths.
-/
import Derived.Test.YtlnpaplbcocmkaaGreatFam
namespace Go.Proofs.YtlnpaplbcocmkaaGreat
open Go.ChangeShapes Go.WideShapes Go.ChangeAt Go.RowKit
set_option linter.unusedVariables false
set_option linter.unusedSimpArgs false

/-- What the three methods of an interface value of family k do. -/
structure FamOk (k : Nat) (u : TypeId) (v : Value) (gr gb gn : FuncId) (vr vb vn : Value) : Prop where
  mr : ∀ w, (method 340 u v "loop.example/g03109/impl.rank").run Tryz.prog w = .ok (gr, vr) w
  mb : ∀ w, (method 340 u v "loop.example/g03109/impl.beside").run Tryz.prog w = .ok (gb, vb) w
  mn : ∀ w, (method 340 u v "loop.example/g03109/impl.name").run Tryz.prog w = .ok (gn, vn) w
  er : ∀ args w, (callFunc gr args).run Tryz.prog w = .ok (.enter gr args) w
  eb : ∀ args w, (callFunc gb args).run Tryz.prog w = .ok (.enter gb args) w
  en : ∀ args w, (callFunc gn args).run Tryz.prog w = .ok (.enter gn args) w
  cr : ∀ w, Calls Tryz.prog gr #[vr] w fun e w' => e = .returned (.int .i64 (frk k : Nat)) ∧ Ext w w'
  cb : ∀ (i j : Nat), i ≤ 8 → j ≤ 8 → ∀ w, Calls Tryz.prog gb #[vb, .int .i64 i, .int .i64 j] w fun e w' => e = .returned (.int .i64 (besM (fkd k) (frk k) i j)) ∧ Ext w w'
  cn : ∀ w, Calls Tryz.prog gn #[vn] w fun e w' => e = .returned (.string (nmS k)) ∧ Ext w w'
set_option maxRecDepth 100000 in
theorem famOk_0 : FamOk 0 178 (.agg #[]) 232 230 231 (.agg #[]) (.agg #[]) (.agg #[]) where
  mr := fun _ => by kernel_rfl
  mb := fun _ => by kernel_rfl
  mn := fun _ => by kernel_rfl
  er := fun _ _ => by kernel_rfl
  eb := fun _ _ => by kernel_rfl
  en := fun _ _ => by kernel_rfl
  cr := fun w => rank_star w
  cb := fun i j hi hj w => beside_star i j hi hj w
  cn := fun w => name_0 w
set_option maxRecDepth 100000 in
theorem famOk_1 : FamOk 1 182 (.agg #[.int .i64 4]) 235 249 250 (.agg #[.int .i64 4]) (.agg #[.int .i64 4]) (.agg #[.int .i64 4]) where
  mr := fun _ => by kernel_rfl
  mb := fun _ => by kernel_rfl
  mn := fun _ => by kernel_rfl
  er := fun _ _ => by kernel_rfl
  eb := fun _ _ => by kernel_rfl
  en := fun _ _ => by kernel_rfl
  cr := fun w => rank_chain _ w
  cb := fun i j hi hj w => beside_shortHalf 4 (by decide) i j hi hj w
  cn := fun w => name_1 w
set_option maxRecDepth 100000 in
theorem famOk_2 : FamOk 2 183 (.agg #[]) 253 251 252 (.agg #[]) (.agg #[]) (.agg #[]) where
  mr := fun _ => by kernel_rfl
  mb := fun _ => by kernel_rfl
  mn := fun _ => by kernel_rfl
  er := fun _ _ => by kernel_rfl
  eb := fun _ _ => by kernel_rfl
  en := fun _ _ => by kernel_rfl
  cr := fun w => rank_triple w
  cb := fun i j hi hj w => beside_triple i j hi hj w
  cn := fun w => name_2 w
set_option maxRecDepth 100000 in
theorem famOk_3 : FamOk 3 180 (.agg #[.int .i64 1]) 235 233 234 (.agg #[.int .i64 1]) (.agg #[.int .i64 1]) (.agg #[.int .i64 1]) where
  mr := fun _ => by kernel_rfl
  mb := fun _ => by kernel_rfl
  mn := fun _ => by kernel_rfl
  er := fun _ _ => by kernel_rfl
  eb := fun _ _ => by kernel_rfl
  en := fun _ _ => by kernel_rfl
  cr := fun w => rank_chain _ w
  cb := fun i j hi hj w => beside_chain _ i j hi hj w
  cn := fun w => name_3 w
set_option maxRecDepth 100000 in
theorem famOk_4 : FamOk 4 180 (.agg #[.int .i64 2]) 235 233 234 (.agg #[.int .i64 2]) (.agg #[.int .i64 2]) (.agg #[.int .i64 2]) where
  mr := fun _ => by kernel_rfl
  mb := fun _ => by kernel_rfl
  mn := fun _ => by kernel_rfl
  er := fun _ _ => by kernel_rfl
  eb := fun _ _ => by kernel_rfl
  en := fun _ _ => by kernel_rfl
  cr := fun w => rank_chain _ w
  cb := fun i j hi hj w => beside_chain _ i j hi hj w
  cn := fun w => name_4 w
set_option maxRecDepth 100000 in
theorem famOk_5 : FamOk 5 184 (.agg #[.int .i64 2]) 235 254 255 (.agg #[.int .i64 2]) (.agg #[.int .i64 2]) (.agg #[.int .i64 2]) where
  mr := fun _ => by kernel_rfl
  mb := fun _ => by kernel_rfl
  mn := fun _ => by kernel_rfl
  er := fun _ _ => by kernel_rfl
  eb := fun _ _ => by kernel_rfl
  en := fun _ _ => by kernel_rfl
  cr := fun w => rank_chain _ w
  cb := fun i j hi hj w => beside_shortEnd 2 (by decide) i j hi hj w
  cn := fun w => name_5 w
set_option maxRecDepth 100000 in
theorem famOk_6 : FamOk 6 180 (.agg #[.int .i64 3]) 235 233 234 (.agg #[.int .i64 3]) (.agg #[.int .i64 3]) (.agg #[.int .i64 3]) where
  mr := fun _ => by kernel_rfl
  mb := fun _ => by kernel_rfl
  mn := fun _ => by kernel_rfl
  er := fun _ _ => by kernel_rfl
  eb := fun _ _ => by kernel_rfl
  en := fun _ _ => by kernel_rfl
  cr := fun w => rank_chain _ w
  cb := fun i j hi hj w => beside_chain _ i j hi hj w
  cn := fun w => name_6 w
set_option maxRecDepth 100000 in
theorem famOk_7 : FamOk 7 184 (.agg #[.int .i64 3]) 235 254 255 (.agg #[.int .i64 3]) (.agg #[.int .i64 3]) (.agg #[.int .i64 3]) where
  mr := fun _ => by kernel_rfl
  mb := fun _ => by kernel_rfl
  mn := fun _ => by kernel_rfl
  er := fun _ _ => by kernel_rfl
  eb := fun _ _ => by kernel_rfl
  en := fun _ _ => by kernel_rfl
  cr := fun w => rank_chain _ w
  cb := fun i j hi hj w => beside_shortEnd 3 (by decide) i j hi hj w
  cn := fun w => name_7 w
set_option maxRecDepth 100000 in
theorem famOk_8 : FamOk 8 185 (.agg #[.int .i64 3]) 235 256 257 (.agg #[.int .i64 3]) (.agg #[.int .i64 3]) (.agg #[.int .i64 3]) where
  mr := fun _ => by kernel_rfl
  mb := fun _ => by kernel_rfl
  mn := fun _ => by kernel_rfl
  er := fun _ _ => by kernel_rfl
  eb := fun _ _ => by kernel_rfl
  en := fun _ _ => by kernel_rfl
  cr := fun w => rank_chain _ w
  cb := fun i j hi hj w => beside_longEnd 3 (by decide) i j hi hj w
  cn := fun w => name_8 w
set_option maxRecDepth 100000 in
theorem famOk_9 : FamOk 9 180 (.agg #[.int .i64 4]) 235 233 234 (.agg #[.int .i64 4]) (.agg #[.int .i64 4]) (.agg #[.int .i64 4]) where
  mr := fun _ => by kernel_rfl
  mb := fun _ => by kernel_rfl
  mn := fun _ => by kernel_rfl
  er := fun _ _ => by kernel_rfl
  eb := fun _ _ => by kernel_rfl
  en := fun _ _ => by kernel_rfl
  cr := fun w => rank_chain _ w
  cb := fun i j hi hj w => beside_chain _ i j hi hj w
  cn := fun w => name_9 w
set_option maxRecDepth 100000 in
theorem famOk_10 : FamOk 10 184 (.agg #[.int .i64 4]) 235 254 255 (.agg #[.int .i64 4]) (.agg #[.int .i64 4]) (.agg #[.int .i64 4]) where
  mr := fun _ => by kernel_rfl
  mb := fun _ => by kernel_rfl
  mn := fun _ => by kernel_rfl
  er := fun _ _ => by kernel_rfl
  eb := fun _ _ => by kernel_rfl
  en := fun _ _ => by kernel_rfl
  cr := fun w => rank_chain _ w
  cb := fun i j hi hj w => beside_shortEnd 4 (by decide) i j hi hj w
  cn := fun w => name_10 w
set_option maxRecDepth 100000 in
theorem famOk_11 : FamOk 11 185 (.agg #[.int .i64 4]) 235 256 257 (.agg #[.int .i64 4]) (.agg #[.int .i64 4]) (.agg #[.int .i64 4]) where
  mr := fun _ => by kernel_rfl
  mb := fun _ => by kernel_rfl
  mn := fun _ => by kernel_rfl
  er := fun _ _ => by kernel_rfl
  eb := fun _ _ => by kernel_rfl
  en := fun _ _ => by kernel_rfl
  cr := fun w => rank_chain _ w
  cb := fun i j hi hj w => beside_longEnd 4 (by decide) i j hi hj w
  cn := fun w => name_11 w
theorem famOk : ∀ k, k < 12 → ∃ gr gb gn vr vb vn, FamOk k (famU k) (famW k) gr gb gn vr vb vn
  | 0, _ => ⟨_, _, _, _, _, _, famOk_0⟩
  | 1, _ => ⟨_, _, _, _, _, _, famOk_1⟩
  | 2, _ => ⟨_, _, _, _, _, _, famOk_2⟩
  | 3, _ => ⟨_, _, _, _, _, _, famOk_3⟩
  | 4, _ => ⟨_, _, _, _, _, _, famOk_4⟩
  | 5, _ => ⟨_, _, _, _, _, _, famOk_5⟩
  | 6, _ => ⟨_, _, _, _, _, _, famOk_6⟩
  | 7, _ => ⟨_, _, _, _, _, _, famOk_7⟩
  | 8, _ => ⟨_, _, _, _, _, _, famOk_8⟩
  | 9, _ => ⟨_, _, _, _, _, _, famOk_9⟩
  | 10, _ => ⟨_, _, _, _, _, _, famOk_10⟩
  | 11, _ => ⟨_, _, _, _, _, _, famOk_11⟩
  | n + 12, h => absurd h (by omega)

set_option maxRecDepth 100000 in
set_option maxHeartbeats 1600000 in
theorem elementIn_impl {k : Nat} {u : TypeId} {v : Value} {gr gb gn : FuncId} {vr vb vn : Value} (hF : FamOk k u v gr gb gn vr vb vn) (i j : Nat) (hi : i ≤ 8) (hj : j ≤ 8) (w : World) :
    Calls Tryz.prog 205 #[.iface u v, .int .i64 i, .int .i64 j] w fun e w' => e = .returned (.int .i64 (elM k i j)) ∧ Ext w w' := by
  have mb := hF.mb
  have eb := hF.eb
  have HC := Lib.hid (hF.cb i j hi hj)
  clear hF
  go_enter Tryz.func205, Tryz.ntmps205
  by_cases h : i = j
  · have h3 : ((i : Int) == (j : Int)) = true := by simp; omega
    have HE : Hid (elM k i j = 2) := by rw [Hid, elM, if_pos h]
    clear h
    go_wp2
    go_ret
    exact ⟨ret_int HE.out.symm, Ext.refl w⟩
  · have h3 : ((i : Int) == (j : Int)) = false := by simp; omega
    have HE : Hid (elM k i j = besM (fkd k) (frk k) i j) := by rw [Hid, elM, if_neg h]
    clear h
    go_wp2_with ((refine (HC.out _).mono ?_); rintro e w2 ⟨rfl, h2⟩)
    go_ret
    exact ⟨ret_int HE.out.symm, h2⟩
set_option maxRecDepth 100000 in
set_option maxHeartbeats 1600000 in
theorem lengthIn_0 (i : Nat) (hi : i ≤ 8) (w : World) :
    Calls Tryz.prog 146 #[.iface 178 (.agg #[]), .int .i64 i] w fun e w' => e = .returned (.int .i64 (lenM 0 i)) ∧ Ext w w' := by
  have ta0 : ∀ w : World, (Instr.typeAssert (.iface 178 (.agg #[])) 147 184 true).run Tryz.prog w = .ok (.tuple #[.agg #[.int .i64 0], .bool false]) w := fun _ => by kernel_rfl
  have ta1 : ∀ w : World, (Instr.typeAssert (.iface 178 (.agg #[])) 147 185 true).run Tryz.prog w = .ok (.tuple #[.agg #[.int .i64 0], .bool false]) w := fun _ => by kernel_rfl
  have ta2 : ∀ w : World, (Instr.typeAssert (.iface 178 (.agg #[])) 147 182 true).run Tryz.prog w = .ok (.tuple #[.agg #[.int .i64 0], .bool false]) w := fun _ => by kernel_rfl
  have ta3 : ∀ w : World, (Instr.typeAssert (.iface 178 (.agg #[])) 147 183 true).run Tryz.prog w = .ok (.tuple #[.agg #[], .bool false]) w := fun _ => by kernel_rfl
  go_enter Tryz.func146, Tryz.ntmps146
  have HE : Hid (lenM 0 i = 1) := rfl
  go_wp2
  go_ret
  exact ⟨ret_int HE.out.symm, by with_reducible repeat (first | exact Ext.refl _ | refine Ext.setCell ?_ (by simp) _ | refine Ext.alloc ?_ _ | refine Ext.drewN ?_ _ | refine Ext.drew ?_)⟩
set_option maxRecDepth 100000 in
set_option maxHeartbeats 1600000 in
theorem lengthIn_1 (i : Nat) (hi : i ≤ 8) (w : World) :
    Calls Tryz.prog 146 #[.iface 182 (.agg #[.int .i64 4]), .int .i64 i] w fun e w' => e = .returned (.int .i64 (lenM 1 i)) ∧ Ext w w' := by
  have ta0 : ∀ w : World, (Instr.typeAssert (.iface 182 (.agg #[.int .i64 4])) 147 184 true).run Tryz.prog w = .ok (.tuple #[.agg #[.int .i64 0], .bool false]) w := fun _ => by kernel_rfl
  have ta1 : ∀ w : World, (Instr.typeAssert (.iface 182 (.agg #[.int .i64 4])) 147 185 true).run Tryz.prog w = .ok (.tuple #[.agg #[.int .i64 0], .bool false]) w := fun _ => by kernel_rfl
  have ta2 : ∀ w : World, (Instr.typeAssert (.iface 182 (.agg #[.int .i64 4])) 147 182 true).run Tryz.prog w = .ok (.tuple #[.agg #[.int .i64 4], .bool true]) w := fun _ => by kernel_rfl
  go_enter Tryz.func146, Tryz.ntmps146
  by_cases h : i ≤ 2
  · have h3 : 0 = 0 := rfl
    have HE : Hid (lenM 1 i = 2) := by simp [Hid, lenM, fkd, frk, h]
    try clear h3
    skip
    go_wp2
    go_ret
    exact ⟨ret_int HE.out.symm, by with_reducible repeat (first | exact Ext.refl _ | refine Ext.setCell ?_ (by simp) _ | refine Ext.alloc ?_ _ | refine Ext.drewN ?_ _ | refine Ext.drew ?_)⟩
  · have h3 : 0 = 0 := rfl
    have HE : Hid (lenM 1 i = 1) := by simp [Hid, lenM, fkd, frk, h]
    skip
    go_wp2
    go_ret
    exact ⟨ret_int HE.out.symm, by with_reducible repeat (first | exact Ext.refl _ | refine Ext.setCell ?_ (by simp) _ | refine Ext.alloc ?_ _ | refine Ext.drewN ?_ _ | refine Ext.drew ?_)⟩
set_option maxRecDepth 100000 in
set_option maxHeartbeats 1600000 in
theorem lengthIn_2 (i : Nat) (hi : i ≤ 8) (w : World) :
    Calls Tryz.prog 146 #[.iface 183 (.agg #[]), .int .i64 i] w fun e w' => e = .returned (.int .i64 (lenM 2 i)) ∧ Ext w w' := by
  have ta0 : ∀ w : World, (Instr.typeAssert (.iface 183 (.agg #[])) 147 184 true).run Tryz.prog w = .ok (.tuple #[.agg #[.int .i64 0], .bool false]) w := fun _ => by kernel_rfl
  have ta1 : ∀ w : World, (Instr.typeAssert (.iface 183 (.agg #[])) 147 185 true).run Tryz.prog w = .ok (.tuple #[.agg #[.int .i64 0], .bool false]) w := fun _ => by kernel_rfl
  have ta2 : ∀ w : World, (Instr.typeAssert (.iface 183 (.agg #[])) 147 182 true).run Tryz.prog w = .ok (.tuple #[.agg #[.int .i64 0], .bool false]) w := fun _ => by kernel_rfl
  have ta3 : ∀ w : World, (Instr.typeAssert (.iface 183 (.agg #[])) 147 183 true).run Tryz.prog w = .ok (.tuple #[.agg #[], .bool true]) w := fun _ => by kernel_rfl
  go_enter Tryz.func146, Tryz.ntmps146
  by_cases h : i = 2
  · have h3 : ((i : Int) == 2) = true := by simp; omega
    have HE : Hid (lenM 2 i = 3) := by simp [Hid, lenM, fkd, frk, h]
    try clear h3
    have h3 : ((i : Int) == 2) = true := by simp; omega
    go_wp2
    go_ret
    exact ⟨ret_int HE.out.symm, by with_reducible repeat (first | exact Ext.refl _ | refine Ext.setCell ?_ (by simp) _ | refine Ext.alloc ?_ _ | refine Ext.drewN ?_ _ | refine Ext.drew ?_)⟩
  · have h3 : ((i : Int) == 2) = false := by simp; omega
    have HE : Hid (lenM 2 i = 1) := by simp [Hid, lenM, fkd, frk, h]
    skip
    go_wp2
    go_ret
    exact ⟨ret_int HE.out.symm, by with_reducible repeat (first | exact Ext.refl _ | refine Ext.setCell ?_ (by simp) _ | refine Ext.alloc ?_ _ | refine Ext.drewN ?_ _ | refine Ext.drew ?_)⟩
set_option maxRecDepth 100000 in
set_option maxHeartbeats 1600000 in
theorem lengthIn_3 (i : Nat) (hi : i ≤ 8) (w : World) :
    Calls Tryz.prog 146 #[.iface 180 (.agg #[.int .i64 1]), .int .i64 i] w fun e w' => e = .returned (.int .i64 (lenM 3 i)) ∧ Ext w w' := by
  have ta0 : ∀ w : World, (Instr.typeAssert (.iface 180 (.agg #[.int .i64 1])) 147 184 true).run Tryz.prog w = .ok (.tuple #[.agg #[.int .i64 0], .bool false]) w := fun _ => by kernel_rfl
  have ta1 : ∀ w : World, (Instr.typeAssert (.iface 180 (.agg #[.int .i64 1])) 147 185 true).run Tryz.prog w = .ok (.tuple #[.agg #[.int .i64 0], .bool false]) w := fun _ => by kernel_rfl
  have ta2 : ∀ w : World, (Instr.typeAssert (.iface 180 (.agg #[.int .i64 1])) 147 182 true).run Tryz.prog w = .ok (.tuple #[.agg #[.int .i64 0], .bool false]) w := fun _ => by kernel_rfl
  have ta3 : ∀ w : World, (Instr.typeAssert (.iface 180 (.agg #[.int .i64 1])) 147 183 true).run Tryz.prog w = .ok (.tuple #[.agg #[], .bool false]) w := fun _ => by kernel_rfl
  go_enter Tryz.func146, Tryz.ntmps146
  have HE : Hid (lenM 3 i = 1) := rfl
  go_wp2
  go_ret
  exact ⟨ret_int HE.out.symm, by with_reducible repeat (first | exact Ext.refl _ | refine Ext.setCell ?_ (by simp) _ | refine Ext.alloc ?_ _ | refine Ext.drewN ?_ _ | refine Ext.drew ?_)⟩
set_option maxRecDepth 100000 in
set_option maxHeartbeats 1600000 in
theorem lengthIn_4 (i : Nat) (hi : i ≤ 8) (w : World) :
    Calls Tryz.prog 146 #[.iface 180 (.agg #[.int .i64 2]), .int .i64 i] w fun e w' => e = .returned (.int .i64 (lenM 4 i)) ∧ Ext w w' := by
  have ta0 : ∀ w : World, (Instr.typeAssert (.iface 180 (.agg #[.int .i64 2])) 147 184 true).run Tryz.prog w = .ok (.tuple #[.agg #[.int .i64 0], .bool false]) w := fun _ => by kernel_rfl
  have ta1 : ∀ w : World, (Instr.typeAssert (.iface 180 (.agg #[.int .i64 2])) 147 185 true).run Tryz.prog w = .ok (.tuple #[.agg #[.int .i64 0], .bool false]) w := fun _ => by kernel_rfl
  have ta2 : ∀ w : World, (Instr.typeAssert (.iface 180 (.agg #[.int .i64 2])) 147 182 true).run Tryz.prog w = .ok (.tuple #[.agg #[.int .i64 0], .bool false]) w := fun _ => by kernel_rfl
  have ta3 : ∀ w : World, (Instr.typeAssert (.iface 180 (.agg #[.int .i64 2])) 147 183 true).run Tryz.prog w = .ok (.tuple #[.agg #[], .bool false]) w := fun _ => by kernel_rfl
  go_enter Tryz.func146, Tryz.ntmps146
  have HE : Hid (lenM 4 i = 1) := rfl
  go_wp2
  go_ret
  exact ⟨ret_int HE.out.symm, by with_reducible repeat (first | exact Ext.refl _ | refine Ext.setCell ?_ (by simp) _ | refine Ext.alloc ?_ _ | refine Ext.drewN ?_ _ | refine Ext.drew ?_)⟩
set_option maxRecDepth 100000 in
set_option maxHeartbeats 1600000 in
theorem lengthIn_5 (i : Nat) (hi : i ≤ 8) (w : World) :
    Calls Tryz.prog 146 #[.iface 184 (.agg #[.int .i64 2]), .int .i64 i] w fun e w' => e = .returned (.int .i64 (lenM 5 i)) ∧ Ext w w' := by
  have ta0 : ∀ w : World, (Instr.typeAssert (.iface 184 (.agg #[.int .i64 2])) 147 184 true).run Tryz.prog w = .ok (.tuple #[.agg #[.int .i64 2], .bool true]) w := fun _ => by kernel_rfl
  go_enter Tryz.func146, Tryz.ntmps146
  by_cases h : i < 2
  · have h3 : 0 = 0 := rfl
    have HE : Hid (lenM 5 i = 2) := by simp [Hid, lenM, fkd, frk, h]
    try clear h3
    skip
    go_wp2
    go_ret
    exact ⟨ret_int HE.out.symm, by with_reducible repeat (first | exact Ext.refl _ | refine Ext.setCell ?_ (by simp) _ | refine Ext.alloc ?_ _ | refine Ext.drewN ?_ _ | refine Ext.drew ?_)⟩
  · have h3 : 0 = 0 := rfl
    have HE : Hid (lenM 5 i = 1) := by simp [Hid, lenM, fkd, frk, h]
    skip
    go_wp2
    go_ret
    exact ⟨ret_int HE.out.symm, by with_reducible repeat (first | exact Ext.refl _ | refine Ext.setCell ?_ (by simp) _ | refine Ext.alloc ?_ _ | refine Ext.drewN ?_ _ | refine Ext.drew ?_)⟩
set_option maxRecDepth 100000 in
set_option maxHeartbeats 1600000 in
theorem lengthIn_6 (i : Nat) (hi : i ≤ 8) (w : World) :
    Calls Tryz.prog 146 #[.iface 180 (.agg #[.int .i64 3]), .int .i64 i] w fun e w' => e = .returned (.int .i64 (lenM 6 i)) ∧ Ext w w' := by
  have ta0 : ∀ w : World, (Instr.typeAssert (.iface 180 (.agg #[.int .i64 3])) 147 184 true).run Tryz.prog w = .ok (.tuple #[.agg #[.int .i64 0], .bool false]) w := fun _ => by kernel_rfl
  have ta1 : ∀ w : World, (Instr.typeAssert (.iface 180 (.agg #[.int .i64 3])) 147 185 true).run Tryz.prog w = .ok (.tuple #[.agg #[.int .i64 0], .bool false]) w := fun _ => by kernel_rfl
  have ta2 : ∀ w : World, (Instr.typeAssert (.iface 180 (.agg #[.int .i64 3])) 147 182 true).run Tryz.prog w = .ok (.tuple #[.agg #[.int .i64 0], .bool false]) w := fun _ => by kernel_rfl
  have ta3 : ∀ w : World, (Instr.typeAssert (.iface 180 (.agg #[.int .i64 3])) 147 183 true).run Tryz.prog w = .ok (.tuple #[.agg #[], .bool false]) w := fun _ => by kernel_rfl
  go_enter Tryz.func146, Tryz.ntmps146
  have HE : Hid (lenM 6 i = 1) := rfl
  go_wp2
  go_ret
  exact ⟨ret_int HE.out.symm, by with_reducible repeat (first | exact Ext.refl _ | refine Ext.setCell ?_ (by simp) _ | refine Ext.alloc ?_ _ | refine Ext.drewN ?_ _ | refine Ext.drew ?_)⟩
set_option maxRecDepth 100000 in
set_option maxHeartbeats 1600000 in
theorem lengthIn_7 (i : Nat) (hi : i ≤ 8) (w : World) :
    Calls Tryz.prog 146 #[.iface 184 (.agg #[.int .i64 3]), .int .i64 i] w fun e w' => e = .returned (.int .i64 (lenM 7 i)) ∧ Ext w w' := by
  have ta0 : ∀ w : World, (Instr.typeAssert (.iface 184 (.agg #[.int .i64 3])) 147 184 true).run Tryz.prog w = .ok (.tuple #[.agg #[.int .i64 3], .bool true]) w := fun _ => by kernel_rfl
  go_enter Tryz.func146, Tryz.ntmps146
  by_cases h : i < 3
  · have h3 : 0 = 0 := rfl
    have HE : Hid (lenM 7 i = 2) := by simp [Hid, lenM, fkd, frk, h]
    try clear h3
    skip
    go_wp2
    go_ret
    exact ⟨ret_int HE.out.symm, by with_reducible repeat (first | exact Ext.refl _ | refine Ext.setCell ?_ (by simp) _ | refine Ext.alloc ?_ _ | refine Ext.drewN ?_ _ | refine Ext.drew ?_)⟩
  · have h3 : 0 = 0 := rfl
    have HE : Hid (lenM 7 i = 1) := by simp [Hid, lenM, fkd, frk, h]
    skip
    go_wp2
    go_ret
    exact ⟨ret_int HE.out.symm, by with_reducible repeat (first | exact Ext.refl _ | refine Ext.setCell ?_ (by simp) _ | refine Ext.alloc ?_ _ | refine Ext.drewN ?_ _ | refine Ext.drew ?_)⟩
set_option maxRecDepth 100000 in
set_option maxHeartbeats 1600000 in
theorem lengthIn_8 (i : Nat) (hi : i ≤ 8) (w : World) :
    Calls Tryz.prog 146 #[.iface 185 (.agg #[.int .i64 3]), .int .i64 i] w fun e w' => e = .returned (.int .i64 (lenM 8 i)) ∧ Ext w w' := by
  have ta0 : ∀ w : World, (Instr.typeAssert (.iface 185 (.agg #[.int .i64 3])) 147 184 true).run Tryz.prog w = .ok (.tuple #[.agg #[.int .i64 0], .bool false]) w := fun _ => by kernel_rfl
  have ta1 : ∀ w : World, (Instr.typeAssert (.iface 185 (.agg #[.int .i64 3])) 147 185 true).run Tryz.prog w = .ok (.tuple #[.agg #[.int .i64 3], .bool true]) w := fun _ => by kernel_rfl
  go_enter Tryz.func146, Tryz.ntmps146
  by_cases h : i = 3
  · have h3 : ((i : Int) == 3) = true := by simp; omega
    have HE : Hid (lenM 8 i = 2) := by simp [Hid, lenM, fkd, frk, h]
    try clear h3
    have h3 : ((i : Int) == 3) = true := by simp; omega
    go_wp2
    go_ret
    exact ⟨ret_int HE.out.symm, by with_reducible repeat (first | exact Ext.refl _ | refine Ext.setCell ?_ (by simp) _ | refine Ext.alloc ?_ _ | refine Ext.drewN ?_ _ | refine Ext.drew ?_)⟩
  · have h3 : ((i : Int) == 3) = false := by simp; omega
    have HE : Hid (lenM 8 i = 1) := by simp [Hid, lenM, fkd, frk, h]
    skip
    go_wp2
    go_ret
    exact ⟨ret_int HE.out.symm, by with_reducible repeat (first | exact Ext.refl _ | refine Ext.setCell ?_ (by simp) _ | refine Ext.alloc ?_ _ | refine Ext.drewN ?_ _ | refine Ext.drew ?_)⟩
set_option maxRecDepth 100000 in
set_option maxHeartbeats 1600000 in
theorem lengthIn_9 (i : Nat) (hi : i ≤ 8) (w : World) :
    Calls Tryz.prog 146 #[.iface 180 (.agg #[.int .i64 4]), .int .i64 i] w fun e w' => e = .returned (.int .i64 (lenM 9 i)) ∧ Ext w w' := by
  have ta0 : ∀ w : World, (Instr.typeAssert (.iface 180 (.agg #[.int .i64 4])) 147 184 true).run Tryz.prog w = .ok (.tuple #[.agg #[.int .i64 0], .bool false]) w := fun _ => by kernel_rfl
  have ta1 : ∀ w : World, (Instr.typeAssert (.iface 180 (.agg #[.int .i64 4])) 147 185 true).run Tryz.prog w = .ok (.tuple #[.agg #[.int .i64 0], .bool false]) w := fun _ => by kernel_rfl
  have ta2 : ∀ w : World, (Instr.typeAssert (.iface 180 (.agg #[.int .i64 4])) 147 182 true).run Tryz.prog w = .ok (.tuple #[.agg #[.int .i64 0], .bool false]) w := fun _ => by kernel_rfl
  have ta3 : ∀ w : World, (Instr.typeAssert (.iface 180 (.agg #[.int .i64 4])) 147 183 true).run Tryz.prog w = .ok (.tuple #[.agg #[], .bool false]) w := fun _ => by kernel_rfl
  go_enter Tryz.func146, Tryz.ntmps146
  have HE : Hid (lenM 9 i = 1) := rfl
  go_wp2
  go_ret
  exact ⟨ret_int HE.out.symm, by with_reducible repeat (first | exact Ext.refl _ | refine Ext.setCell ?_ (by simp) _ | refine Ext.alloc ?_ _ | refine Ext.drewN ?_ _ | refine Ext.drew ?_)⟩
set_option maxRecDepth 100000 in
set_option maxHeartbeats 1600000 in
theorem lengthIn_10 (i : Nat) (hi : i ≤ 8) (w : World) :
    Calls Tryz.prog 146 #[.iface 184 (.agg #[.int .i64 4]), .int .i64 i] w fun e w' => e = .returned (.int .i64 (lenM 10 i)) ∧ Ext w w' := by
  have ta0 : ∀ w : World, (Instr.typeAssert (.iface 184 (.agg #[.int .i64 4])) 147 184 true).run Tryz.prog w = .ok (.tuple #[.agg #[.int .i64 4], .bool true]) w := fun _ => by kernel_rfl
  go_enter Tryz.func146, Tryz.ntmps146
  by_cases h : i < 4
  · have h3 : 0 = 0 := rfl
    have HE : Hid (lenM 10 i = 2) := by simp [Hid, lenM, fkd, frk, h]
    try clear h3
    skip
    go_wp2
    go_ret
    exact ⟨ret_int HE.out.symm, by with_reducible repeat (first | exact Ext.refl _ | refine Ext.setCell ?_ (by simp) _ | refine Ext.alloc ?_ _ | refine Ext.drewN ?_ _ | refine Ext.drew ?_)⟩
  · have h3 : 0 = 0 := rfl
    have HE : Hid (lenM 10 i = 1) := by simp [Hid, lenM, fkd, frk, h]
    skip
    go_wp2
    go_ret
    exact ⟨ret_int HE.out.symm, by with_reducible repeat (first | exact Ext.refl _ | refine Ext.setCell ?_ (by simp) _ | refine Ext.alloc ?_ _ | refine Ext.drewN ?_ _ | refine Ext.drew ?_)⟩
set_option maxRecDepth 100000 in
set_option maxHeartbeats 1600000 in
theorem lengthIn_11 (i : Nat) (hi : i ≤ 8) (w : World) :
    Calls Tryz.prog 146 #[.iface 185 (.agg #[.int .i64 4]), .int .i64 i] w fun e w' => e = .returned (.int .i64 (lenM 11 i)) ∧ Ext w w' := by
  have ta0 : ∀ w : World, (Instr.typeAssert (.iface 185 (.agg #[.int .i64 4])) 147 184 true).run Tryz.prog w = .ok (.tuple #[.agg #[.int .i64 0], .bool false]) w := fun _ => by kernel_rfl
  have ta1 : ∀ w : World, (Instr.typeAssert (.iface 185 (.agg #[.int .i64 4])) 147 185 true).run Tryz.prog w = .ok (.tuple #[.agg #[.int .i64 4], .bool true]) w := fun _ => by kernel_rfl
  go_enter Tryz.func146, Tryz.ntmps146
  by_cases h : i = 4
  · have h3 : ((i : Int) == 4) = true := by simp; omega
    have HE : Hid (lenM 11 i = 2) := by simp [Hid, lenM, fkd, frk, h]
    try clear h3
    have h3 : ((i : Int) == 4) = true := by simp; omega
    go_wp2
    go_ret
    exact ⟨ret_int HE.out.symm, by with_reducible repeat (first | exact Ext.refl _ | refine Ext.setCell ?_ (by simp) _ | refine Ext.alloc ?_ _ | refine Ext.drewN ?_ _ | refine Ext.drew ?_)⟩
  · have h3 : ((i : Int) == 4) = false := by simp; omega
    have HE : Hid (lenM 11 i = 1) := by simp [Hid, lenM, fkd, frk, h]
    skip
    go_wp2
    go_ret
    exact ⟨ret_int HE.out.symm, by with_reducible repeat (first | exact Ext.refl _ | refine Ext.setCell ?_ (by simp) _ | refine Ext.alloc ?_ _ | refine Ext.drewN ?_ _ | refine Ext.drew ?_)⟩
theorem lengthIn_impl : ∀ k, k < 12 → ∀ (i : Nat), i ≤ 8 → ∀ w, Calls Tryz.prog 146 #[.iface (famU k) (famW k), .int .i64 i] w fun e w' => e = .returned (.int .i64 (lenM k i)) ∧ Ext w w'
  | 0, _ => lengthIn_0
  | 1, _ => lengthIn_1
  | 2, _ => lengthIn_2
  | 3, _ => lengthIn_3
  | 4, _ => lengthIn_4
  | 5, _ => lengthIn_5
  | 6, _ => lengthIn_6
  | 7, _ => lengthIn_7
  | 8, _ => lengthIn_8
  | 9, _ => lengthIn_9
  | 10, _ => lengthIn_10
  | 11, _ => lengthIn_11
  | n + 12, h => absurd h (by omega)

/-- The families, in their order. -/
def famL : List Value := (List.range 12).map fun k => .iface (famU k) (famW k)
theorem ownsRow_ext {w w' : World} {base n : Nat} {t : TypeId} {v : Value} {vs : List Value} (h : w.ownsRow base t 1 v n vs) (hE : Ext w w') : w'.ownsRow base t 1 v n vs := by
  by_cases e : v.ownBlock = none
  · exact World.ownsRow.kept h (ext_grownBy hE none) (.inl e)
  · exact World.ownsRow.kept h (ext_grownBy hE none) (.inr e)
theorem ownsRow_shape {w : World} {base n : Nat} {v : Value} {ys : List Value} {t : TypeId} (h : w.ownsRow base t 1 v n ys) : ∃ a c, v = .slice a n c := by
  rcases h.2 with ⟨e1, e2⟩ | ⟨g, cap, cur, e1, _⟩
  · exact ⟨none, 0, by rw [e1, e2]⟩
  · exact ⟨_, cap, e1⟩
/-- What a slice of the call's own shows, cell by cell. -/
theorem ownsRow_get {w : World} {base n cap : Nat} {a : Option Addr} {ys : List Value} {t : TypeId} (h : w.ownsRow base t 1 (.slice a n cap) n ys) (h0 : 0 < n) : ∃ g, a = some ⟨g, 0, none⟩ ∧ base ≤ g ∧ g < w.heap.size ∧ ∀ i, i < n → w.cell? ⟨g, i, none⟩ = ys[i]? := by
  rcases h.2 with ⟨e1, e2⟩ | ⟨g, cap2, cur, e1, hb, hg, hn, hc, hs, ht⟩
  · omega
  · injection e1 with e2 e3 e4
    refine ⟨g, e2, hb, (Array.getElem?_eq_some_iff.1 hg).1, fun i hi => ?_⟩
    rw [cell_of_row w g i _ _ _ hg, ← Array.getElem?_toList]
    have : (cur.toList.take (n * 1))[i]? = ys[i]? := by rw [ht]
    rw [List.getElem?_take, if_pos (by omega)] at this
    exact this
theorem Tryz.infoFam : (Tryz.prog.info? 147).map (fun i => (i.zero, i.size, i.bytes)) = some (some .nilIface, 1, 16) := by kernel_rfl
/-- append of one family. -/
theorem wpList_appendF {w : World} {ops : Array Oper} {rest : List Oper} {o : Oper} {a : Act} {Q : Exit → Act → World → Prop} (hgd : o.guard = none) (s x : Operand)
    (ho : o.op = .call { callee := .builtin .append, args := #[s, x], argTypes := #[144, 144] })
    (base : Nat) (v : Value) (n : Nat) (xs : List Value) (u : TypeId) (y : Value) (c : Nat) (hs : a.eval s = v) (hx : a.eval x = .slice (some ⟨w.heap.size, 0, none⟩) 1 c) (hown : w.ownsRow base 147 1 v n xs) (hb : n + 1 ≤ 1048577) (hbase : base ≤ w.heap.size)
    (h : ∀ v' w', w'.ownsRow base 147 1 v' (n + 1) (xs ++ [.iface u y]) → w.grownBy w' v.ownBlock → wpList Tryz.prog ops Q rest (a.put o.dst v') w') : wpList Tryz.prog ops Q (o :: rest) a (w.alloc (.cells #[.iface u y] 147)) := by
  obtain ⟨i0, hi, hz0, hz1, hz2⟩ := info_parts Tryz.infoFam
  refine wpList_append_own _ hgd s x 144 ho base 147 i0 .nilIface 1 16 Tryz.underlying144 hi hz0 hz1 hz2 rfl (by decide) v n xs hs (ownsRow_ext hown ((Ext.refl w).alloc _)) ⟨w.heap.size, 0, none⟩ 1 c [.iface u y] hx rfl (fun j u hu => ?_) (fun u hu => by simp at hu; subst hu; rfl) (by unfold maxLen; omega) (by omega) (by simp; omega) (fun v' w' h1 h2 _ => h v' w' (by simpa using h1) (grownBy_alloc h2))
  obtain rfl : j = 0 := by have := (List.getElem?_eq_some_iff.1 hu).1; simp at this; omega
  simp at hu
  subst hu
  rw [show (⟨w.heap.size, 0, none⟩ : Addr).add 0 = ⟨w.heap.size, 0, none⟩ from rfl, World.cell?_alloc_at _ _ _ _ rfl]
  rfl

set_option maxRecDepth 100000 in
set_option maxHeartbeats 3200000 in
theorem families_impl (w : World) : Calls Tryz.prog 144 #[] w fun e w' => ∃ g c, e = .returned (.slice (some ⟨g, 0, none⟩) 12 c) ∧ g < w'.heap.size ∧ (∀ k, k < 12 → w'.cell? ⟨g, k, none⟩ = some (.iface (famU k) (famW k))) ∧ Ext w w' := by
  go_enter Tryz.func144, Tryz.ntmps144
  go_wp2_with fail
  have V0 : Hid ((w.alloc (.cells #[.iface (famU 0) (famW 0), .iface (famU 1) (famW 1), .iface (famU 2) (famW 2)] 147)).ownsRow w.heap.size 147 1 (.slice (some ⟨w.heap.size, 0, none⟩) 3 3) 3 (famL.take 3)) := World.ownsRow_lit w #[.iface (famU 0) (famW 0), .iface (famU 1) (famW 1), .iface (famU 2) (famW 2)] 3 (Nat.le_refl _) (by unfold maxLen; omega) (by simp)
  go_loopw [2, 1] (fun z v wr => Hid (Ext w wr) ∧ ((z = .int .i64 1 ∧ Hid (wr.ownsRow w.heap.size 147 1 v 3 (famL.take 3))) ∨ (z = .int .i64 2 ∧ Hid (wr.ownsRow w.heap.size 147 1 v 4 (famL.take 4))) ∨ (z = .int .i64 3 ∧ Hid (wr.ownsRow w.heap.size 147 1 v 6 (famL.take 6))) ∨ (z = .int .i64 4 ∧ Hid (wr.ownsRow w.heap.size 147 1 v 9 (famL.take 9))) ∨ (z = .int .i64 5 ∧ Hid (wr.ownsRow w.heap.size 147 1 v 12 (famL.take 12))))) (fun z _ _ => 5 - (intOf z).toNat)
  case atStart => exact ⟨(Ext.refl w).alloc _, .inl ⟨rfl, V0⟩⟩
  case round =>
    clear V0
    obtain ⟨hE, hrel⟩ := hrel
    rcases hrel with ⟨rfl, hV⟩ | ⟨rfl, hV⟩ | ⟨rfl, hV⟩ | ⟨rfl, hV⟩ | ⟨rfl, hV⟩
    · obtain ⟨va0, cv0, hv0⟩ := ownsRow_shape hV.out
      subst hv0
      have hsz0 := hE.out.le
      have hlt0 := World.ownsRow.lt hV.out
      go_wp2_with (at_builtin; refine wpList_appendF rfl _ _ rfl w.heap.size (.slice va0 3 cv0) 3 (famL.take 3) 180 (.agg #[.int .i64 1]) 1 rfl rfl hV.out (by omega) hsz0 ?_)
      intro v0' w0' ho0 hg0
      have V0 : Hid (w0'.ownsRow w.heap.size 147 1 v0' 4 (famL.take 4)) := ho0
      have E0 : Hid (Ext w w0') := hE.out.grown hg0 (fun z hz => (hlt0 z hz).1)
      clear ho0 hg0 hsz0 hlt0 hV hE
      go_wp2
      exact ⟨⟨E0, .inr (.inl ⟨by simp, V0⟩)⟩, by simp [intOf]⟩
    · obtain ⟨va0, cv0, hv0⟩ := ownsRow_shape hV.out
      subst hv0
      have hsz0 := hE.out.le
      have hlt0 := World.ownsRow.lt hV.out
      go_wp2_with (at_builtin; refine wpList_appendF rfl _ _ rfl w.heap.size (.slice va0 4 cv0) 4 (famL.take 4) 180 (.agg #[.int .i64 2]) 1 rfl rfl hV.out (by omega) hsz0 ?_)
      intro v0' w0' ho0 hg0
      have V0 : Hid (w0'.ownsRow w.heap.size 147 1 v0' 5 (famL.take 5)) := ho0
      have E0 : Hid (Ext w w0') := hE.out.grown hg0 (fun z hz => (hlt0 z hz).1)
      clear ho0 hg0 hsz0 hlt0 hV hE
      obtain ⟨va1, cv1, hv1⟩ := ownsRow_shape V0.out
      subst hv1
      have hsz1 := E0.out.le
      have hlt1 := World.ownsRow.lt V0.out
      go_wp2_with (at_builtin; refine wpList_appendF rfl _ _ rfl w.heap.size (.slice va1 5 cv1) 5 (famL.take 5) 184 (.agg #[.int .i64 2]) 1 rfl rfl V0.out (by omega) hsz1 ?_)
      intro v1' w1' ho1 hg1
      have V1 : Hid (w1'.ownsRow w.heap.size 147 1 v1' 6 (famL.take 6)) := ho1
      have E1 : Hid (Ext w w1') := E0.out.grown hg1 (fun z hz => (hlt1 z hz).1)
      clear ho1 hg1 hsz1 hlt1 V0 E0
      go_wp2
      exact ⟨⟨E1, .inr (.inr (.inl ⟨by simp, V1⟩))⟩, by simp [intOf]⟩
    · obtain ⟨va0, cv0, hv0⟩ := ownsRow_shape hV.out
      subst hv0
      have hsz0 := hE.out.le
      have hlt0 := World.ownsRow.lt hV.out
      go_wp2_with (at_builtin; refine wpList_appendF rfl _ _ rfl w.heap.size (.slice va0 6 cv0) 6 (famL.take 6) 180 (.agg #[.int .i64 3]) 1 rfl rfl hV.out (by omega) hsz0 ?_)
      intro v0' w0' ho0 hg0
      have V0 : Hid (w0'.ownsRow w.heap.size 147 1 v0' 7 (famL.take 7)) := ho0
      have E0 : Hid (Ext w w0') := hE.out.grown hg0 (fun z hz => (hlt0 z hz).1)
      clear ho0 hg0 hsz0 hlt0 hV hE
      obtain ⟨va1, cv1, hv1⟩ := ownsRow_shape V0.out
      subst hv1
      have hsz1 := E0.out.le
      have hlt1 := World.ownsRow.lt V0.out
      go_wp2_with (at_builtin; refine wpList_appendF rfl _ _ rfl w.heap.size (.slice va1 7 cv1) 7 (famL.take 7) 184 (.agg #[.int .i64 3]) 1 rfl rfl V0.out (by omega) hsz1 ?_)
      intro v1' w1' ho1 hg1
      have V1 : Hid (w1'.ownsRow w.heap.size 147 1 v1' 8 (famL.take 8)) := ho1
      have E1 : Hid (Ext w w1') := E0.out.grown hg1 (fun z hz => (hlt1 z hz).1)
      clear ho1 hg1 hsz1 hlt1 V0 E0
      obtain ⟨va2, cv2, hv2⟩ := ownsRow_shape V1.out
      subst hv2
      have hsz2 := E1.out.le
      have hlt2 := World.ownsRow.lt V1.out
      go_wp2_with (at_builtin; refine wpList_appendF rfl _ _ rfl w.heap.size (.slice va2 8 cv2) 8 (famL.take 8) 185 (.agg #[.int .i64 3]) 1 rfl rfl V1.out (by omega) hsz2 ?_)
      intro v2' w2' ho2 hg2
      have V2 : Hid (w2'.ownsRow w.heap.size 147 1 v2' 9 (famL.take 9)) := ho2
      have E2 : Hid (Ext w w2') := E1.out.grown hg2 (fun z hz => (hlt2 z hz).1)
      clear ho2 hg2 hsz2 hlt2 V1 E1
      go_wp2
      exact ⟨⟨E2, .inr (.inr (.inr (.inl ⟨by simp, V2⟩)))⟩, by simp [intOf]⟩
    · obtain ⟨va0, cv0, hv0⟩ := ownsRow_shape hV.out
      subst hv0
      have hsz0 := hE.out.le
      have hlt0 := World.ownsRow.lt hV.out
      go_wp2_with (at_builtin; refine wpList_appendF rfl _ _ rfl w.heap.size (.slice va0 9 cv0) 9 (famL.take 9) 180 (.agg #[.int .i64 4]) 1 rfl rfl hV.out (by omega) hsz0 ?_)
      intro v0' w0' ho0 hg0
      have V0 : Hid (w0'.ownsRow w.heap.size 147 1 v0' 10 (famL.take 10)) := ho0
      have E0 : Hid (Ext w w0') := hE.out.grown hg0 (fun z hz => (hlt0 z hz).1)
      clear ho0 hg0 hsz0 hlt0 hV hE
      obtain ⟨va1, cv1, hv1⟩ := ownsRow_shape V0.out
      subst hv1
      have hsz1 := E0.out.le
      have hlt1 := World.ownsRow.lt V0.out
      go_wp2_with (at_builtin; refine wpList_appendF rfl _ _ rfl w.heap.size (.slice va1 10 cv1) 10 (famL.take 10) 184 (.agg #[.int .i64 4]) 1 rfl rfl V0.out (by omega) hsz1 ?_)
      intro v1' w1' ho1 hg1
      have V1 : Hid (w1'.ownsRow w.heap.size 147 1 v1' 11 (famL.take 11)) := ho1
      have E1 : Hid (Ext w w1') := E0.out.grown hg1 (fun z hz => (hlt1 z hz).1)
      clear ho1 hg1 hsz1 hlt1 V0 E0
      obtain ⟨va2, cv2, hv2⟩ := ownsRow_shape V1.out
      subst hv2
      have hsz2 := E1.out.le
      have hlt2 := World.ownsRow.lt V1.out
      go_wp2_with (at_builtin; refine wpList_appendF rfl _ _ rfl w.heap.size (.slice va2 11 cv2) 11 (famL.take 11) 185 (.agg #[.int .i64 4]) 1 rfl rfl V1.out (by omega) hsz2 ?_)
      intro v2' w2' ho2 hg2
      have V2 : Hid (w2'.ownsRow w.heap.size 147 1 v2' 12 (famL.take 12)) := ho2
      have E2 : Hid (Ext w w2') := E1.out.grown hg2 (fun z hz => (hlt2 z hz).1)
      clear ho2 hg2 hsz2 hlt2 V1 E1
      go_wp2
      exact ⟨⟨E2, .inr (.inr (.inr (.inr ⟨by simp, V2⟩)))⟩, by simp [intOf]⟩
    · obtain ⟨va, cv, hv⟩ := ownsRow_shape hV.out
      subst hv
      obtain ⟨g, rfl, _, hg, hc⟩ := ownsRow_get hV.out (by decide)
      have HG := Lib.hid hc
      have hgl := hg
      clear hc hV
      go_wp2
      go_ret
      refine ⟨g, cv, rfl, hgl, fun k hk => ?_, hE.out⟩
      rw [HG.out k hk]
      have : ∀ k, k < 12 → (famL.take 12)[k]? = some (.iface (famU k) (famW k)) := by
        intro k hk
        have e : famL.take 12 = famL := rfl
        rw [e, famL, List.getElem?_map, List.getElem?_range hk]; rfl
      exact this k hk
end Go.Proofs.YtlnpaplbcocmkaaGreat
