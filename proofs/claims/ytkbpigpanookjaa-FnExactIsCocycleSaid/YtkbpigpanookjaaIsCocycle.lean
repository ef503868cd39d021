/-
  Proved: the statement given for the law FnExactIsCocycle: at every input the Go text returns true, with no panic, and the arguments read as they read before. No condition is added.
-/
import Derived.Test.YtkbpigpanookjaaFr
import Derived.Test.YtkbpigpanookjaaCycI
import Derived.Test.YtkbpigpanookjaaCycS
namespace Go.Proofs.Ytkbpigpanookjaa.fnExactIsCocycle
open Go.ChangeShapes Go.WideShapes Go.ChangeAt Go.RowKit
open Go.ChangeMaps (open_string shut_string)
set_option linter.unusedVariables false

set_option maxRecDepth 100000 in
set_option maxHeartbeats 3200000 in
/-- The walk: the Go text returns true, and nothing that was there has changed. -/
theorem walk (P0 D0 : Int) (a0 : Option Addr) (n0 c0 : Nat) (xs0 : List Int) (P1 R1 C1 : Int) (a1 : Option Addr) (n1 c1 : Nat) (xs1 : List Int) (w : World) (w0 : Reads w a0 n0 xs0 ∧ n0 ≤ maxLen) (w1 : Reads w a1 n1 xs1 ∧ n1 ≤ maxLen) :
    Calls Try.prog 13 #[.agg #[.int .i64 P0, .int .i64 D0, .slice a0 n0 c0], .agg #[.int .i64 P1, .int .i64 R1, .int .i64 C1, .slice a1 n1 c1]] w fun e w' => e = .returned (.bool true) ∧ Ext w w' := by
  obtain ⟨hr0, hm0⟩ := w0
  have HR0 := Lib.hid hr0
  clear hr0
  obtain ⟨hr1, hm1⟩ := w1
  have HR1 := Lib.hid hr1
  clear hr1
  rcases hM0 : cycF P0 D0 xs0 P1 R1 C1 xs1 with i0
  have hM := Lib.hid hM0
  clear hM0
  by_cases hz0 : (n0 : Int) ≤ 1048576
  case neg =>
    go_enter Try.func13, Try.ntmps13
    have T0 := cells_new' w #[.int .i64 P0, .int .i64 D0, .slice a0 n0 c0] 24 (w.heap.size) (by simp)
    have T1 := cells_new' (w.alloc (.cells #[.int .i64 P0, .int .i64 D0, .slice a0 n0 c0] 24)) #[.int .i64 P1, .int .i64 R1, .int .i64 C1, .slice a1 n1 c1] 38 (w.heap.size + 1) (by simp)
    have A0_1 := Lib.hid (T0.ext ((Ext.refl _).alloc (.cells #[.int .i64 P1, .int .i64 R1, .int .i64 C1, .slice a1 n1 c1] 38)))
    clear T0
    have A1_2 := Lib.hid (T1.ext (Ext.refl _))
    clear T1
    have E_3 := Lib.hid (((Ext.refl w).alloc (.cells #[.int .i64 P0, .int .i64 D0, .slice a0 n0 c0] 24)).alloc (.cells #[.int .i64 P1, .int .i64 R1, .int .i64 C1, .slice a1 n1 c1] 38))
    have lA0 := A0_1.out.1
    have qA00 := A0_1.out.2 0 _ rfl
    have qA01 := A0_1.out.2 1 _ rfl
    have qA02 := A0_1.out.2 2 _ rfl
    try simp only [World.size_alloc] at lA0
    go_wp2_with fail
    refine (szAlgebra_no _ _ _ _ _ _ _ (by omega) (by omega) hm0 (by omega)).mono ?_
    rintro e w_4 ⟨rfl, h_4⟩
    clear lA0 qA00 qA01 qA02
    go_wp2
    go_ret
    exact ⟨rfl, E_3.out.trans h_4⟩
  by_cases hz1 : (n0 : Int) + (n1 : Int) ≤ 1048576
  case neg =>
    go_enter Try.func13, Try.ntmps13
    have T0 := cells_new' w #[.int .i64 P0, .int .i64 D0, .slice a0 n0 c0] 24 (w.heap.size) (by simp)
    have T1 := cells_new' (w.alloc (.cells #[.int .i64 P0, .int .i64 D0, .slice a0 n0 c0] 24)) #[.int .i64 P1, .int .i64 R1, .int .i64 C1, .slice a1 n1 c1] 38 (w.heap.size + 1) (by simp)
    have A0_5 := Lib.hid (T0.ext ((Ext.refl _).alloc (.cells #[.int .i64 P1, .int .i64 R1, .int .i64 C1, .slice a1 n1 c1] 38)))
    clear T0
    have A1_6 := Lib.hid (T1.ext (Ext.refl _))
    clear T1
    have E_7 := Lib.hid (((Ext.refl w).alloc (.cells #[.int .i64 P0, .int .i64 D0, .slice a0 n0 c0] 24)).alloc (.cells #[.int .i64 P1, .int .i64 R1, .int .i64 C1, .slice a1 n1 c1] 38))
    have lA0 := A0_5.out.1
    have qA00 := A0_5.out.2 0 _ rfl
    have qA01 := A0_5.out.2 1 _ rfl
    have qA02 := A0_5.out.2 2 _ rfl
    try simp only [World.size_alloc] at lA0
    go_wp2_with fail
    refine (szAlgebra_yes _ _ _ _ _ _ _ (by omega) (by omega)).mono ?_
    rintro e w_8 ⟨rfl, h_8⟩
    clear lA0 qA00 qA01 qA02
    have A0_9 := Lib.hid (A0_5.out.ext h_8)
    clear A0_5
    have A1_10 := Lib.hid (A1_6.out.ext h_8)
    clear A1_6
    have E_11 := Lib.hid (E_7.out.trans h_8)
    clear E_7
    have z_12 := Ext.le h_8
    try simp only [World.size_alloc] at z_12
    have Z_12 := Lib.hid z_12
    clear z_12
    clear h_8
    have hp1 : 0 ≤ 1048576 - (n0 : Int) := by omega
    have lA1 := A1_10.out.1
    have qA10 := A1_10.out.2 0 _ rfl
    have qA11 := A1_10.out.2 1 _ rfl
    have qA12 := A1_10.out.2 2 _ rfl
    have qA13 := A1_10.out.2 3 _ rfl
    try simp only [World.size_alloc] at lA1
    go_wp2_with fail
    refine (szMatrix_no _ _ _ _ _ _ _ _ (by omega) (by omega) hm1 (by omega)).mono ?_
    rintro e w_13 ⟨rfl, h_13⟩
    clear lA1 qA10 qA11 qA12 qA13
    go_wp2
    go_ret
    exact ⟨rfl, E_11.out.trans h_13⟩
  have hn0 : n0 ≤ 1048576 := by omega
  have hn1 : n1 ≤ 1048576 := by omega
  go_enter Try.func13, Try.ntmps13
  have T0 := cells_new' w #[.int .i64 P0, .int .i64 D0, .slice a0 n0 c0] 24 (w.heap.size) (by simp)
  have T1 := cells_new' (w.alloc (.cells #[.int .i64 P0, .int .i64 D0, .slice a0 n0 c0] 24)) #[.int .i64 P1, .int .i64 R1, .int .i64 C1, .slice a1 n1 c1] 38 (w.heap.size + 1) (by simp)
  have A0_14 := Lib.hid (T0.ext ((Ext.refl _).alloc (.cells #[.int .i64 P1, .int .i64 R1, .int .i64 C1, .slice a1 n1 c1] 38)))
  clear T0
  have A1_15 := Lib.hid (T1.ext (Ext.refl _))
  clear T1
  have E_16 := Lib.hid (((Ext.refl w).alloc (.cells #[.int .i64 P0, .int .i64 D0, .slice a0 n0 c0] 24)).alloc (.cells #[.int .i64 P1, .int .i64 R1, .int .i64 C1, .slice a1 n1 c1] 38))
  have lA0 := A0_14.out.1
  have qA00 := A0_14.out.2 0 _ rfl
  have qA01 := A0_14.out.2 1 _ rfl
  have qA02 := A0_14.out.2 2 _ rfl
  try simp only [World.size_alloc] at lA0
  go_wp2_with fail
  refine (szAlgebra_yes _ _ _ _ _ _ _ (by omega) (by omega)).mono ?_
  rintro e w_17 ⟨rfl, h_17⟩
  clear lA0 qA00 qA01 qA02
  have A0_18 := Lib.hid (A0_14.out.ext h_17)
  clear A0_14
  have A1_19 := Lib.hid (A1_15.out.ext h_17)
  clear A1_15
  have E_20 := Lib.hid (E_16.out.trans h_17)
  clear E_16
  have z_21 := Ext.le h_17
  try simp only [World.size_alloc] at z_21
  have Z_21 := Lib.hid z_21
  clear z_21
  clear h_17
  have hp1 : 0 ≤ 1048576 - (n0 : Int) := by omega
  have lA1 := A1_19.out.1
  have qA10 := A1_19.out.2 0 _ rfl
  have qA11 := A1_19.out.2 1 _ rfl
  have qA12 := A1_19.out.2 2 _ rfl
  have qA13 := A1_19.out.2 3 _ rfl
  try simp only [World.size_alloc] at lA1
  go_wp2_with fail
  refine (szMatrix_yes _ _ _ _ _ _ _ _ (by omega) (by omega)).mono ?_
  rintro e w_22 ⟨rfl, h_22⟩
  clear lA1 qA10 qA11 qA12 qA13
  have A0_23 := Lib.hid (A0_18.out.ext h_22)
  clear A0_18
  have A1_24 := Lib.hid (A1_19.out.ext h_22)
  clear A1_19
  have E_25 := Lib.hid (E_20.out.trans h_22)
  clear E_20
  have z_26 := Ext.le h_22
  try simp only [World.size_alloc] at z_26
  have Z_26 := Lib.hid z_26
  clear z_26
  clear h_22
  have hp : 0 ≤ 1048576 - (n0 : Int) - (n1 : Int) := by omega
  have lA0 := A0_23.out.1
  have qA00 := A0_23.out.2 0 _ rfl
  have qA01 := A0_23.out.2 1 _ rfl
  have qA02 := A0_23.out.2 2 _ rfl
  have lA1 := A1_24.out.1
  have qA10 := A1_24.out.2 0 _ rfl
  have qA11 := A1_24.out.2 1 _ rfl
  have qA12 := A1_24.out.2 2 _ rfl
  have qA13 := A1_24.out.2 3 _ rfl
  try simp only [World.size_alloc] at lA0 lA1
  go_upto_region 8 with fail
  go_cut [6] (fun s0 wx => s0 = .bool i0 ∧ Hid (Ext w_22 wx))
  case first =>
    go_region_held3 (fun w' => Ext w_22 w' ∧ (∀ b o, b < w_22.heap.size → w'.cell? ⟨b, o, none⟩ = w_22.cell? ⟨b, o, none⟩)) (first | (with_reducible exact ext2 (Ext.trans (And.left ‹Ext w_22 _ ∧ _›) ‹Ext _ _›)) | (refine ext2 ?_; with_reducible repeat (first | exact Ext.refl _ | exact And.left ‹Ext w_22 _ ∧ _› | exact ((((Ext.refl _).drew).trans h_27).trans h_28).trans h_29 | refine Ext.drew ?_ | refine Ext.alloc ?_ _ | refine Ext.setCell ?_ (by have e0 : w_22.drew.heap.size = w_22.heap.size := rfl; simp <;> omega) _))) (first
      | (go_at_call_of 17 (Value.slice a0 n0 c0); refine (toAlgebra_law _ _ _ _ _ xs0 _ (HR0.out.ext (E_25.out.trans (And.left ‹Ext w_22 _ ∧ _›))) hn0).mono ?_; rintro e w_27 ⟨b_27, rfl, o_27, h_27⟩; have c_27 := h_27.cells; have f_27 := h_27.frees; have y_27 := h_27.le; have x_27 := fun k hk => Nat.lt_of_lt_of_le (n := k) hk h_27.le; (try simp only [World.size_drew] at y_27 x_27); (try simp only [World.size_alloc] at y_27 x_27); (try simp only [Nat.add_one_le_iff] at y_27))
      | (go_at_call_of 36 (Value.slice a1 n1 c1); refine (toMatrix_law _ _ _ _ _ _ xs1 _ (HR1.out.ext (E_25.out.trans (And.left ‹Ext w_22 _ ∧ _›))) hn1).mono ?_; rintro e w_28 ⟨b_28, rfl, o_28, h_28⟩; have c_28 := h_28.cells; have f_28 := h_28.frees; have y_28 := h_28.le; have x_28 := fun k hk => Nat.lt_of_lt_of_le (n := k) hk h_28.le; (try simp only [World.size_drew] at y_28 x_28); (try simp only [World.size_alloc] at y_28 x_28); (try simp only [Nat.add_one_le_iff] at y_28))
      | (go_at_call 48; refine (isCocycle_spec (Own.reads (Own.ext o_27 (by with_reducible first | exact ((Ext.refl _).trans h_28) | exact Ext.alloc ((Ext.refl _).trans h_28) _ | exact ((Ext.alloc (Ext.refl _) _).trans h_28)))) hn0 (Own.reads (Own.ext o_28 (by with_reducible first | exact Ext.refl _ | exact Ext.alloc (Ext.refl _) _))) hn1 hM.out).mono ?_; rintro e w_29 ⟨rfl, h_29⟩; have c_29 := h_29.cells; have f_29 := h_29.frees; have y_29 := h_29.le; have x_29 := fun k hk => Nat.lt_of_lt_of_le (n := k) hk h_29.le; (try simp only [World.size_drew] at y_29 x_29); (try simp only [World.size_alloc] at y_29 x_29); (try simp only [Nat.add_one_le_iff] at y_29)))
    all_goals (go_wp2_with fail; go_meet; with_reducible first
      | exact ⟨rfl, Lib.hid (And.left ‹Ext w_22 _ ∧ _›)⟩)
  case rest =>
    obtain ⟨rfl, h_30⟩ := hcut
    have hx_30 := h_30.out
    clear h_30
    clear lA0 qA00 qA01 qA02 lA1 qA10 qA11 qA12 qA13
    obtain ⟨w_30, rfl⟩ : ∃ wq : World, wq = wc := ⟨_, rfl⟩
    have A0_31 := Lib.hid (A0_23.out.ext hx_30)
    clear A0_23
    have A1_32 := Lib.hid (A1_24.out.ext hx_30)
    clear A1_24
    have E_33 := Lib.hid (E_25.out.trans hx_30)
    clear E_25
    have z_34 := Ext.le hx_30
    try simp only [World.size_alloc] at z_34
    have Z_34 := Lib.hid z_34
    clear z_34
    clear hx_30
    have lA0 := A0_31.out.1
    have qA00 := A0_31.out.2 0 _ rfl
    have qA01 := A0_31.out.2 1 _ rfl
    have qA02 := A0_31.out.2 2 _ rfl
    try simp only [World.size_alloc] at lA0
    go_wp2_with fail
    refine (toAlgebra_law _ _ _ _ _ xs0 _ (HR0.out.ext E_33.out) hn0).mono ?_
    rintro e w_35 ⟨b_35, rfl, o_35, h_35⟩
    clear lA0 qA00 qA01 qA02
    have A0_36 := Lib.hid (A0_31.out.ext h_35)
    clear A0_31
    have A1_37 := Lib.hid (A1_32.out.ext h_35)
    clear A1_32
    have E_38 := Lib.hid (E_33.out.trans h_35)
    clear E_33
    have z_39 := Ext.le h_35
    try simp only [World.size_alloc] at z_39
    have Z_39 := Lib.hid z_39
    clear z_39
    try simp only [World.size_alloc] at o_35
    have X0_40 := Lib.hid (o_35)
    clear o_35 h_35
    have P_41 := (Ext.refl w_35).alloc (.cells #[.int .i64 P0, .int .i64 D0, .slice (some ⟨b_35, 0, none⟩) n0 n0] 27)
    have A0_42 := Lib.hid (A0_36.out.ext P_41)
    clear A0_36
    have A1_43 := Lib.hid (A1_37.out.ext P_41)
    clear A1_37
    have X0_44 := Lib.hid (X0_40.out.ext P_41)
    clear X0_40
    have E_45 := Lib.hid (E_38.out.trans P_41)
    clear E_38
    clear P_41
    have XB0_46 := Lib.hid (cells_new w_35 #[.int .i64 P0, .int .i64 D0, .slice (some ⟨b_35, 0, none⟩) n0 n0] 27)
    have lA1 := A1_43.out.1
    have qA10 := A1_43.out.2 0 _ rfl
    have qA11 := A1_43.out.2 1 _ rfl
    have qA12 := A1_43.out.2 2 _ rfl
    have qA13 := A1_43.out.2 3 _ rfl
    try simp only [World.size_alloc] at lA1
    go_wp2_with fail
    refine (toMatrix_law _ _ _ _ _ _ xs1 _ (HR1.out.ext E_45.out) hn1).mono ?_
    rintro e w_47 ⟨b_47, rfl, o_47, h_47⟩
    clear lA1 qA10 qA11 qA12 qA13
    have A0_48 := Lib.hid (A0_42.out.ext h_47)
    clear A0_42
    have A1_49 := Lib.hid (A1_43.out.ext h_47)
    clear A1_43
    have X0_50 := Lib.hid (X0_44.out.ext h_47)
    clear X0_44
    have XB0_51 := Lib.hid (XB0_46.out.ext h_47)
    clear XB0_46
    have E_52 := Lib.hid (E_45.out.trans h_47)
    clear E_45
    have z_53 := Ext.le h_47
    try simp only [World.size_alloc] at z_53
    have Z_53 := Lib.hid z_53
    clear z_53
    try simp only [World.size_alloc] at o_47
    have X1_54 := Lib.hid (o_47)
    clear o_47 h_47
    have P_55 := (Ext.refl w_47).alloc (.cells #[.int .i64 P1, .int .i64 R1, .int .i64 C1, .slice (some ⟨b_47, 0, none⟩) n1 n1] 41)
    have A0_56 := Lib.hid (A0_48.out.ext P_55)
    clear A0_48
    have A1_57 := Lib.hid (A1_49.out.ext P_55)
    clear A1_49
    have X0_58 := Lib.hid (X0_50.out.ext P_55)
    clear X0_50
    have XB0_59 := Lib.hid (XB0_51.out.ext P_55)
    clear XB0_51
    have X1_60 := Lib.hid (X1_54.out.ext P_55)
    clear X1_54
    have E_61 := Lib.hid (E_52.out.trans P_55)
    clear E_52
    clear P_55
    have XB1_62 := Lib.hid (cells_new w_47 #[.int .i64 P1, .int .i64 R1, .int .i64 C1, .slice (some ⟨b_47, 0, none⟩) n1 n1] 41)
    have lXB0 := XB0_59.out.1
    have qXB00 := XB0_59.out.2 0 _ rfl
    have qXB01 := XB0_59.out.2 1 _ rfl
    have qXB02 := XB0_59.out.2 2 _ rfl
    have lXB1 := XB1_62.out.1
    have qXB10 := XB1_62.out.2 0 _ rfl
    have qXB11 := XB1_62.out.2 1 _ rfl
    have qXB12 := XB1_62.out.2 2 _ rfl
    have qXB13 := XB1_62.out.2 3 _ rfl
    try simp only [World.size_alloc] at lXB0 lXB1
    go_wp2_with fail
    refine (isCocycle_impl X0_58.out.reads hn0 X1_60.out.reads hn1 hM.out).mono ?_
    rintro e w_63 ⟨rfl, h_63⟩
    clear lXB0 qXB00 qXB01 qXB02 lXB1 qXB10 qXB11 qXB12 qXB13
    have A0_64 := Lib.hid (A0_56.out.ext h_63)
    clear A0_56
    have A1_65 := Lib.hid (A1_57.out.ext h_63)
    clear A1_57
    have X0_66 := Lib.hid (X0_58.out.ext h_63)
    clear X0_58
    have XB0_67 := Lib.hid (XB0_59.out.ext h_63)
    clear XB0_59
    have X1_68 := Lib.hid (X1_60.out.ext h_63)
    clear X1_60
    have XB1_69 := Lib.hid (XB1_62.out.ext h_63)
    clear XB1_62
    have E_70 := Lib.hid (E_61.out.trans h_63)
    clear E_61
    have z_71 := Ext.le h_63
    try simp only [World.size_alloc] at z_71
    have Z_71 := Lib.hid z_71
    clear z_71
    clear h_63
    have lXB0 := XB0_67.out.1
    have qXB00 := XB0_67.out.2 0 _ rfl
    have qXB01 := XB0_67.out.2 1 _ rfl
    have qXB02 := XB0_67.out.2 2 _ rfl
    have lA0 := A0_64.out.1
    have qA00 := A0_64.out.2 0 _ rfl
    have qA01 := A0_64.out.2 1 _ rfl
    have qA02 := A0_64.out.2 2 _ rfl
    try simp only [World.size_alloc] at lXB0 lA0
    go_wp2_with fail
    go_region_held3 (fun w' => Ext w_63 w' ∧ (∀ b o, b < w_63.heap.size → w'.cell? ⟨b, o, none⟩ = w_63.cell? ⟨b, o, none⟩)) (first | (with_reducible exact ext2 (Ext.trans (And.left ‹Ext w_63 _ ∧ _›) ‹Ext _ _›)) | (refine ext2 ?_; with_reducible repeat (first | exact Ext.refl _ | refine Ext.drew ?_))) (first
      | (go_at_call 17; refine (toAlgebra_law _ _ _ _ _ xs0 _ (HR0.out.ext (E_70.out.trans (And.left ‹Ext w_63 _ ∧ _›))) hn0).mono ?_; rintro e w_72 ⟨b_72, rfl, o_72, h_72⟩)
      | (go_at_call 19; refine (eqAlgebra_law _ _ _ _ _ _ _ xs0 _ (Own.reads (Own.ext X0_66.out (And.left ‹Ext w_63 _ ∧ _›))) (Own.reads o_72) hn0).mono ?_; rintro e w_73 ⟨rfl, h_73⟩))
    clear lXB0 qXB00 qXB01 qXB02 lA0 qA00 qA01 qA02
    have hx_73 := And.left ‹Ext w_63 w_73 ∧ _›
    try clear h_72 h_73 o_72
    have A0_74 := Lib.hid (A0_64.out.ext hx_73)
    clear A0_64
    have A1_75 := Lib.hid (A1_65.out.ext hx_73)
    clear A1_65
    have X0_76 := Lib.hid (X0_66.out.ext hx_73)
    clear X0_66
    have XB0_77 := Lib.hid (XB0_67.out.ext hx_73)
    clear XB0_67
    have X1_78 := Lib.hid (X1_68.out.ext hx_73)
    clear X1_68
    have XB1_79 := Lib.hid (XB1_69.out.ext hx_73)
    clear XB1_69
    have E_80 := Lib.hid (E_70.out.trans hx_73)
    clear E_70
    have z_81 := Ext.le hx_73
    try simp only [World.size_alloc] at z_81
    have Z_81 := Lib.hid z_81
    clear z_81
    clear hx_73
    have lXB1 := XB1_79.out.1
    have qXB10 := XB1_79.out.2 0 _ rfl
    have qXB11 := XB1_79.out.2 1 _ rfl
    have qXB12 := XB1_79.out.2 2 _ rfl
    have qXB13 := XB1_79.out.2 3 _ rfl
    have lA1 := A1_75.out.1
    have qA10 := A1_75.out.2 0 _ rfl
    have qA11 := A1_75.out.2 1 _ rfl
    have qA12 := A1_75.out.2 2 _ rfl
    have qA13 := A1_75.out.2 3 _ rfl
    try simp only [World.size_alloc] at lXB1 lA1
    go_wp2_with fail
    go_region_held3 (fun w' => Ext w_73 w' ∧ (∀ b o, b < w_73.heap.size → w'.cell? ⟨b, o, none⟩ = w_73.cell? ⟨b, o, none⟩)) (first | (with_reducible exact ext2 (Ext.trans (And.left ‹Ext w_73 _ ∧ _›) ‹Ext _ _›)) | (refine ext2 ?_; with_reducible repeat (first | exact Ext.refl _ | refine Ext.drew ?_))) (first
      | (go_at_call 36; refine (toMatrix_law _ _ _ _ _ _ xs1 _ (HR1.out.ext (E_80.out.trans (And.left ‹Ext w_73 _ ∧ _›))) hn1).mono ?_; rintro e w_82 ⟨b_82, rfl, o_82, h_82⟩)
      | (go_at_call 38; refine (eqMatrix_law _ _ _ _ _ _ _ _ xs1 _ (Own.reads (Own.ext X1_78.out (And.left ‹Ext w_73 _ ∧ _›))) (Own.reads o_82) hn1).mono ?_; rintro e w_83 ⟨rfl, h_83⟩))
    clear lXB1 qXB10 qXB11 qXB12 qXB13 lA1 qA10 qA11 qA12 qA13
    have hx_83 := And.left ‹Ext w_73 w_83 ∧ _›
    try clear h_82 h_83 o_82
    have A0_84 := Lib.hid (A0_74.out.ext hx_83)
    clear A0_74
    have A1_85 := Lib.hid (A1_75.out.ext hx_83)
    clear A1_75
    have X0_86 := Lib.hid (X0_76.out.ext hx_83)
    clear X0_76
    have XB0_87 := Lib.hid (XB0_77.out.ext hx_83)
    clear XB0_77
    have X1_88 := Lib.hid (X1_78.out.ext hx_83)
    clear X1_78
    have XB1_89 := Lib.hid (XB1_79.out.ext hx_83)
    clear XB1_79
    have E_90 := Lib.hid (E_80.out.trans hx_83)
    clear E_80
    have z_91 := Ext.le hx_83
    try simp only [World.size_alloc] at z_91
    have Z_91 := Lib.hid z_91
    clear z_91
    clear hx_83
    go_wp2
    go_ret
    exact ⟨rfl, E_90.out⟩

set_option maxRecDepth 100000 in
theorem lifted (os : Os) (started : os.Started) (H : Type) (enc : TypeId × Value → H) :
    ReturnsInHanded {} Try.checked os 13 .any (Rows.fnExactIsCocycleSpec.pre6 enc Try.prog Try.f13 Rows.fnExactIsCocycleRow.domain false) (Rows.fnExactIsCocycleSpec.post enc Try.prog Try.f13 false true false false) := by
  refine returnsInHanded_of_change (C := Try.checked) own started (by kernel_rfl) Try.func13
    (ChangeSpec.witness6 (enc := enc) (C := Try.checked) false ⟨#[], #[.agg #[.int .i64 0, .int .i64 0, .slice none 0 0], .agg #[.int .i64 0, .int .i64 0, .int .i64 0, .slice none 0 0]], []⟩ 8 (by kernel_rfl) (by kernel_rfl) (by kernel_rfl) (by kernel_rfl)) ?_
  intro W base args ds gs before hval0 hW hcnd _
  have hval : ∀ (j : Nat) t v, Try.f13.params[j]? = some t → args[j]? = some v → Value.okWide Try.prog W .any base t v := hval0
  have hW' := hW
  obtain ⟨p, q, hA0, hV, rfl, hfz, hnd⟩ := hW
  have hA : DataW.TrodAll enc Try.prog W 0 (fun _ => true) true Try.f13.params.toList args.toList ds p := hA0
  rw [Try.params13] at hA hval
  obtain ⟨v0, vs0, d0, ds0, p0, q0, hargs, rfl, rfl, h0, r0⟩ := trodAll_cons hA
  obtain ⟨v1, vs1, d1, ds1, p1, q1, rfl, rfl, rfl, h1, r1⟩ := trodAll_cons r0
  obtain ⟨rfl, rfl, rfl⟩ := trodAll_nil r1
  obtain rfl : args = #[v0, v1] := by cases args; simp_all
  obtain ⟨rfl, rfl⟩ := trodVars_none hV
  have k0 := h0
  have lt0 : ∀ x ∈ p0, x.block < W.heap.size := by obtain ⟨m, hm⟩ := k0; exact DataW.trod_lt m _ _ _ hm
  obtain ⟨P0, D0, a0, n0, c0, xs0, rfl, w0⟩ := open_alg (hval 0 _ v0 rfl rfl) h0
  have k1 := h1
  have lt1 : ∀ x ∈ p1, x.block < W.heap.size := by obtain ⟨m, hm⟩ := k1; exact DataW.trod_lt m _ _ _ hm
  obtain ⟨P1, R1, C1, a1, n1, c1, xs1, rfl, w1⟩ := open_mat (hval 1 _ v1 rfl rfl) h1
  clear hA0 hval0
  refine (walk P0 D0 a0 n0 c0 xs0 P1 R1 C1 a1 n1 c1 xs1 W w0 w1).mono fun e W' ⟨he, bel⟩ => ?_
  subst he
  exact ⟨_, rfl, _, _, _, [], _, [], hW', trodAll_mk1 (shut_bool Try.underlying4 _), (trodAll_cons_mk (Below.trod laidOut (by kernel_rfl) (of_decide_eq_true (by kernel_rfl)) k0 bel lt0) (trodAll_cons_mk (Below.trod laidOut (by kernel_rfl) (of_decide_eq_true (by kernel_rfl)) k1 bel lt1) trodAll_mk0)), rfl, Below.frame bel _, fun h => by cases h⟩

theorem over : Rows.fnExactIsCocycleRow.holds Try.pinned (OpenSpec.ofChange Rows.fnExactIsCocycleSpec) :=
  OpenClaim.holds_of_wide 13 Try.f13 rfl rfl rfl rfl rfl rfl rfl ⟨rfl, rfl, rfl, rfl, rfl⟩ rfl rfl rfl rfl rfl (by kernel_rfl) Try.func13 (by kernel_rfl)
    (of_decide_eq_true (by kernel_rfl)) (by unfold Func.isWrapper; first | (rw [if_pos (by decide +kernel)]; kernel_rfl) | (rw [if_neg (by decide +kernel)]; exact ⟨rfl, rfl⟩))
    (fun os started H enc _ => lifted os started H enc)

/-- The statement. -/
theorem proved : Rows.FnExactIsCocycleSaid := over
#print axioms proved
end Go.Proofs.Ytkbpigpanookjaa.fnExactIsCocycle
