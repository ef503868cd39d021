/-
  Proved: the statement given for the law FnExactDualModule: at every input the Go text returns true, with no panic, and the arguments read as they read before. No condition is added.
-/
import Derived.Test.YtnikfalpjieibaaFr
import Derived.Test.YtnikfalpjieibaaDus
import Derived.Test.YtnikfalpjieibaaMtA
import Derived.Test.YtnikfalpjieibaaMtR
import Derived.Test.YtnikfalpjieibaaSeatF
namespace Go.Proofs.Ytnikfalpjieibaa.fnExactDualModule
open Go.ChangeShapes Go.WideShapes Go.ChangeAt Go.RowKit
open Go.ChangeMaps (open_string shut_string)
set_option linter.unusedVariables false
set_option linter.unusedSimpArgs false

set_option maxRecDepth 100000 in
set_option maxHeartbeats 3200000 in
/-- The walk: the Go text returns true, and nothing that was there has changed. -/
theorem walk (P0 D0 : Int) (a0 : Option Addr) (n0 c0 : Nat) (xs0 : List Int) (a1 : Option Addr) (n1 c1 : Nat) (ms1 : List Mat) (w : World) (w0 : Reads w a0 n0 xs0 ∧ n0 ≤ maxLen) (w1 : MatsA w a1 n1 ms1 ∧ MatsW ms1 ∧ n1 ≤ maxLen) :
    Calls Try.prog 7 #[.agg #[.int .i64 P0, .int .i64 D0, .slice a0 n0 c0], .slice a1 n1 c1] w fun e w' => e = .returned (.bool true) ∧ Ext w w' := by
  obtain ⟨hr0, hm0⟩ := w0
  have HR0 := Lib.hid hr0
  clear hr0
  obtain ⟨hr1, hW1, hm1⟩ := w1
  have HR1 := Lib.hid hr1
  have HW1 := Lib.hid hW1
  obtain ⟨L1, hL1⟩ : ∃ L : Nat, n1 + msL ms1 n1 = L := ⟨_, rfl⟩
  have HL1 := Lib.hid hL1
  clear hr1 hW1 hL1
  rcases hM0 : dumM P0 D0 xs0 ms1 with d0
  have hM := Lib.hid hM0
  clear hM0
  by_cases hz0 : (n0 : Int) ≤ 1048576
  case neg =>
    go_enter Try.func7, Try.ntmps7
    have T0 := cells_new' w #[.int .i64 P0, .int .i64 D0, .slice a0 n0 c0] 24 (w.heap.size) (by simp)
    have A0_1 := Lib.hid (T0.ext (Ext.refl _))
    clear T0
    have E_2 := Lib.hid ((Ext.refl w).alloc (.cells #[.int .i64 P0, .int .i64 D0, .slice a0 n0 c0] 24))
    have lA0 := A0_1.out.1
    have qA00 := A0_1.out.2 0 _ rfl
    have qA01 := A0_1.out.2 1 _ rfl
    have qA02 := A0_1.out.2 2 _ rfl
    try simp only [World.size_alloc] at lA0
    go_wp2_with fail
    refine (szAlgebra_no _ _ _ _ _ _ _ (by omega) (by omega) hm0 (by omega)).mono ?_
    rintro e w_3 ⟨rfl, h_3⟩
    clear lA0 qA00 qA01 qA02
    go_wp2
    go_ret
    exact ⟨rfl, E_2.out.trans h_3⟩
  by_cases hz1 : (n0 : Int) + (L1 : Int) ≤ 1048576
  case neg =>
    go_enter Try.func7, Try.ntmps7
    have T0 := cells_new' w #[.int .i64 P0, .int .i64 D0, .slice a0 n0 c0] 24 (w.heap.size) (by simp)
    have A0_4 := Lib.hid (T0.ext (Ext.refl _))
    clear T0
    have E_5 := Lib.hid ((Ext.refl w).alloc (.cells #[.int .i64 P0, .int .i64 D0, .slice a0 n0 c0] 24))
    have lA0 := A0_4.out.1
    have qA00 := A0_4.out.2 0 _ rfl
    have qA01 := A0_4.out.2 1 _ rfl
    have qA02 := A0_4.out.2 2 _ rfl
    try simp only [World.size_alloc] at lA0
    go_wp2_with fail
    refine (szAlgebra_yes _ _ _ _ _ _ _ (by omega) (by omega)).mono ?_
    rintro e w_6 ⟨rfl, h_6⟩
    clear lA0 qA00 qA01 qA02
    have A0_7 := Lib.hid (A0_4.out.ext h_6)
    clear A0_4
    have E_8 := Lib.hid (E_5.out.trans h_6)
    clear E_5
    have z_9 := Ext.le h_6
    try simp only [World.size_alloc] at z_9
    have Z_9 := Lib.hid z_9
    clear z_9
    clear h_6
    have hp1 : 0 ≤ 1048576 - (n0 : Int) := by omega
    go_wp2_with fail
    refine (szMatrixS_no (HR1.out.ext E_8.out) HW1.out HL1.out (by omega) (by omega) hm1 (by omega)).mono ?_
    rintro e w_10 ⟨rfl, h_10⟩
    go_wp2
    go_ret
    exact ⟨rfl, E_8.out.trans h_10⟩
  have hln1 : n1 ≤ L1 := by rw [← HL1.out]; exact Nat.le_add_right _ _
  have HT1 : Hid ((dats ms1).flatten.length ≤ 1048576) := by
    have h1 := msL_all ms1
    rw [HR1.out.1] at h1
    have h2 := HL1.out
    show _ ≤ _
    omega
  have hn0 : n0 ≤ 1048576 := by omega
  have hn1 : n1 ≤ 1048576 := by omega
  have hto1 := totM_le ms1 n1 HR1.out.1 hn1 HT1.out
  go_enter Try.func7, Try.ntmps7
  have T0 := cells_new' w #[.int .i64 P0, .int .i64 D0, .slice a0 n0 c0] 24 (w.heap.size) (by simp)
  have A0_11 := Lib.hid (T0.ext (Ext.refl _))
  clear T0
  have E_12 := Lib.hid ((Ext.refl w).alloc (.cells #[.int .i64 P0, .int .i64 D0, .slice a0 n0 c0] 24))
  have lA0 := A0_11.out.1
  have qA00 := A0_11.out.2 0 _ rfl
  have qA01 := A0_11.out.2 1 _ rfl
  have qA02 := A0_11.out.2 2 _ rfl
  try simp only [World.size_alloc] at lA0
  go_wp2_with fail
  refine (szAlgebra_yes _ _ _ _ _ _ _ (by omega) (by omega)).mono ?_
  rintro e w_13 ⟨rfl, h_13⟩
  clear lA0 qA00 qA01 qA02
  have A0_14 := Lib.hid (A0_11.out.ext h_13)
  clear A0_11
  have E_15 := Lib.hid (E_12.out.trans h_13)
  clear E_12
  have z_16 := Ext.le h_13
  try simp only [World.size_alloc] at z_16
  have Z_16 := Lib.hid z_16
  clear z_16
  clear h_13
  have hp1 : 0 ≤ 1048576 - (n0 : Int) := by omega
  go_wp2_with fail
  refine (szMatrixS_yes (HR1.out.ext E_15.out) HW1.out HL1.out (by omega) hm1 (by omega)).mono ?_
  rintro e w_17 ⟨rfl, h_17⟩
  have A0_18 := Lib.hid (A0_14.out.ext h_17)
  clear A0_14
  have E_19 := Lib.hid (E_15.out.trans h_17)
  clear E_15
  have z_20 := Ext.le h_17
  try simp only [World.size_alloc] at z_20
  have Z_20 := Lib.hid z_20
  clear z_20
  clear h_17
  have hp : 0 ≤ 1048576 - (n0 : Int) - (L1 : Int) := by omega
  have lA0 := A0_18.out.1
  have qA00 := A0_18.out.2 0 _ rfl
  have qA01 := A0_18.out.2 1 _ rfl
  have qA02 := A0_18.out.2 2 _ rfl
  try simp only [World.size_alloc] at lA0
  go_wp2_with fail
  refine (toAlgebra_law _ _ _ _ _ xs0 _ (HR0.out.ext E_19.out) hn0).mono ?_
  rintro e w_21 ⟨b_21, rfl, o_21, h_21⟩
  clear lA0 qA00 qA01 qA02
  have A0_22 := Lib.hid (A0_18.out.ext h_21)
  clear A0_18
  have E_23 := Lib.hid (E_19.out.trans h_21)
  clear E_19
  have z_24 := Ext.le h_21
  try simp only [World.size_alloc] at z_24
  have Z_24 := Lib.hid z_24
  clear z_24
  have T0_25 := Lib.hid (o_21)
  clear o_21 h_21
  go_wp2_with fail
  refine (toMatrixS_law _ _ _ ms1 _ (HR1.out.ext E_23.out) hn1 HT1.out).mono ?_
  rintro e w_26 ⟨b_26, rfl, o_26, h_26⟩
  have A0_27 := Lib.hid (A0_22.out.ext h_26)
  clear A0_22
  have T0_28 := Lib.hid (T0_25.out.ext h_26)
  clear T0_25
  have E_29 := Lib.hid (E_23.out.trans h_26)
  clear E_23
  have z_30 := Ext.le h_26
  try simp only [World.size_alloc] at z_30
  have Z_30 := Lib.hid z_30
  clear z_30
  have T1_31 := Lib.hid (o_26)
  clear o_26 h_26
  go_wp2_with fail
  refine (dualModule_spec T0_28.out.reads hn0 T1_31.out.reads hn1 hM.out).mono ?_
  rintro e w_32 ⟨v0, rfl, ⟨sa0, sn0, sc0, rfl, sO0, sm0⟩, h_32⟩
  clear T0_28
  clear T1_31
  have A0_33 := Lib.hid (A0_27.out.ext h_32)
  clear A0_27
  have E_34 := Lib.hid (E_29.out.trans h_32)
  clear E_29
  have z_35 := Ext.le h_32
  try simp only [World.size_alloc] at z_35
  have Z_35 := Lib.hid z_35
  clear z_35
  clear h_32
  try simp only [World.size_alloc] at sO0
  have S0_36 := Lib.hid (sO0)
  clear sO0
  have lA0 := A0_33.out.1
  have qA00 := A0_33.out.2 0 _ rfl
  have qA01 := A0_33.out.2 1 _ rfl
  have qA02 := A0_33.out.2 2 _ rfl
  try simp only [World.size_alloc] at lA0
  go_wp2_with fail
  refine (toAlgebra_law _ _ _ _ _ xs0 _ (HR0.out.ext E_34.out) hn0).mono ?_
  rintro e w_37 ⟨b_37, rfl, o_37, h_37⟩
  clear lA0 qA00 qA01 qA02
  have A0_38 := Lib.hid (A0_33.out.ext h_37)
  clear A0_33
  have S0_39 := Lib.hid (S0_36.out.ext h_37)
  clear S0_36
  have E_40 := Lib.hid (E_34.out.trans h_37)
  clear E_34
  have z_41 := Ext.le h_37
  try simp only [World.size_alloc] at z_41
  have Z_41 := Lib.hid z_41
  clear z_41
  try simp only [World.size_alloc] at o_37
  have X0_42 := Lib.hid (o_37)
  clear o_37 h_37
  have P_43 := (Ext.refl w_37).alloc (.cells #[.int .i64 P0, .int .i64 D0, .slice (some ⟨b_37, 0, none⟩) n0 n0] 29)
  have A0_44 := Lib.hid (A0_38.out.ext P_43)
  clear A0_38
  have S0_45 := Lib.hid (S0_39.out.ext P_43)
  clear S0_39
  have X0_46 := Lib.hid (X0_42.out.ext P_43)
  clear X0_42
  have E_47 := Lib.hid (E_40.out.trans P_43)
  clear E_40
  clear P_43
  have XB0_48 := Lib.hid (cells_new w_37 #[.int .i64 P0, .int .i64 D0, .slice (some ⟨b_37, 0, none⟩) n0 n0] 29)
  go_wp2_with fail
  refine (toMatrixS_law _ _ _ ms1 _ (HR1.out.ext E_47.out) hn1 HT1.out).mono ?_
  rintro e w_49 ⟨b_49, rfl, o_49, h_49⟩
  have A0_50 := Lib.hid (A0_44.out.ext h_49)
  clear A0_44
  have S0_51 := Lib.hid (S0_45.out.ext h_49)
  clear S0_45
  have X0_52 := Lib.hid (X0_46.out.ext h_49)
  clear X0_46
  have XB0_53 := Lib.hid (XB0_48.out.ext h_49)
  clear XB0_48
  have E_54 := Lib.hid (E_47.out.trans h_49)
  clear E_47
  have z_55 := Ext.le h_49
  try simp only [World.size_alloc] at z_55
  have Z_55 := Lib.hid z_55
  clear z_55
  try simp only [World.size_alloc] at o_49
  have X1_56 := Lib.hid (o_49)
  clear o_49 h_49
  have lXB0 := XB0_53.out.1
  have qXB00 := XB0_53.out.2 0 _ rfl
  have qXB01 := XB0_53.out.2 1 _ rfl
  have qXB02 := XB0_53.out.2 2 _ rfl
  try simp only [World.size_alloc] at lXB0
  go_wp2_with fail
  refine (dualModule_impl X0_52.out.reads hn0 X1_56.out.reads hn1 hM.out).mono ?_
  rintro e w_57 ⟨v0, rfl, ⟨ga0, gn0, gc0, rfl, gO0, gm0⟩, h_57⟩
  clear lXB0 qXB00 qXB01 qXB02
  have A0_58 := Lib.hid (A0_50.out.ext h_57)
  clear A0_50
  have S0_59 := Lib.hid (S0_51.out.ext h_57)
  clear S0_51
  have X0_60 := Lib.hid (X0_52.out.ext h_57)
  clear X0_52
  have XB0_61 := Lib.hid (XB0_53.out.ext h_57)
  clear XB0_53
  have X1_62 := Lib.hid (X1_56.out.ext h_57)
  clear X1_56
  have E_63 := Lib.hid (E_54.out.trans h_57)
  clear E_54
  have z_64 := Ext.le h_57
  try simp only [World.size_alloc] at z_64
  have Z_64 := Lib.hid z_64
  clear z_64
  clear h_57
  try simp only [World.size_alloc] at gO0
  have G0_65 := Lib.hid (gO0)
  clear gO0
  have X1_66 := Lib.hid X1_62.out.1
  clear X1_62
  obtain rfl : sn0 = gn0 := S0_59.out.len.symm.trans G0_65.out.len
  go_wp2_with fail
  refine (eqMatrixS_x _ _ _ _ _ _ _ _ _ d0 _ G0_65.out S0_59.out gm0).mono ?_
  rintro e w_67 ⟨rfl, h_67⟩
  have A0_68 := Lib.hid (A0_58.out.ext h_67)
  clear A0_58
  have S0_69 := Lib.hid (S0_59.out.ext h_67)
  clear S0_59
  have X0_70 := Lib.hid (X0_60.out.ext h_67)
  clear X0_60
  have XB0_71 := Lib.hid (XB0_61.out.ext h_67)
  clear XB0_61
  have X1_72 := Lib.hid (X1_66.out.ext h_67)
  clear X1_66
  have G0_73 := Lib.hid (G0_65.out.ext h_67)
  clear G0_65
  have E_74 := Lib.hid (E_63.out.trans h_67)
  clear E_63
  have z_75 := Ext.le h_67
  try simp only [World.size_alloc] at z_75
  have Z_75 := Lib.hid z_75
  clear z_75
  clear h_67
  have lXB0 := XB0_71.out.1
  have qXB00 := XB0_71.out.2 0 _ rfl
  have qXB01 := XB0_71.out.2 1 _ rfl
  have qXB02 := XB0_71.out.2 2 _ rfl
  have lA0 := A0_68.out.1
  have qA00 := A0_68.out.2 0 _ rfl
  have qA01 := A0_68.out.2 1 _ rfl
  have qA02 := A0_68.out.2 2 _ rfl
  try simp only [World.size_alloc] at lXB0 lA0
  go_wp2_with fail
  go_region_held3 (fun w' => Ext w_67 w' ∧ (∀ b o, b < w_67.heap.size → w'.cell? ⟨b, o, none⟩ = w_67.cell? ⟨b, o, none⟩)) (first | (with_reducible exact ext2 (Ext.trans (And.left ‹Ext w_67 _ ∧ _›) ‹Ext _ _›)) | (refine ext2 ?_; with_reducible repeat (first | exact Ext.refl _ | refine Ext.drew ?_))) (first
    | (go_at_call 15; refine (toAlgebra_law _ _ _ _ _ xs0 _ (HR0.out.ext (E_74.out.trans (And.left ‹Ext w_67 _ ∧ _›))) hn0).mono ?_; rintro e w_76 ⟨b_76, rfl, o_76, h_76⟩)
    | (go_at_call 18; refine (eqAlgebra_law _ _ _ _ _ _ _ xs0 _ (Own.reads (Own.ext X0_70.out (And.left ‹Ext w_67 _ ∧ _›))) (Own.reads o_76) hn0).mono ?_; rintro e w_77 ⟨rfl, h_77⟩))
  clear lXB0 qXB00 qXB01 qXB02 lA0 qA00 qA01 qA02
  have hx_77 := And.left ‹Ext w_67 w_77 ∧ _›
  try clear h_76 h_77 o_76
  have A0_78 := Lib.hid (A0_68.out.ext hx_77)
  clear A0_68
  have S0_79 := Lib.hid (S0_69.out.ext hx_77)
  clear S0_69
  have X0_80 := Lib.hid (X0_70.out.ext hx_77)
  clear X0_70
  have XB0_81 := Lib.hid (XB0_71.out.ext hx_77)
  clear XB0_71
  have X1_82 := Lib.hid (X1_72.out.ext hx_77)
  clear X1_72
  have G0_83 := Lib.hid (G0_73.out.ext hx_77)
  clear G0_73
  have E_84 := Lib.hid (E_74.out.trans hx_77)
  clear E_74
  have z_85 := Ext.le hx_77
  try simp only [World.size_alloc] at z_85
  have Z_85 := Lib.hid z_85
  clear z_85
  clear hx_77
  go_wp2_with fail
  refine (toMatrixS_law _ _ _ ms1 _ (HR1.out.ext E_84.out) hn1 HT1.out).mono ?_
  rintro e w_86 ⟨b_86, rfl, o_86, h_86⟩
  have A0_87 := Lib.hid (A0_78.out.ext h_86)
  clear A0_78
  have S0_88 := Lib.hid (S0_79.out.ext h_86)
  clear S0_79
  have X0_89 := Lib.hid (X0_80.out.ext h_86)
  clear X0_80
  have XB0_90 := Lib.hid (XB0_81.out.ext h_86)
  clear XB0_81
  have X1_91 := Lib.hid (X1_82.out.ext h_86)
  clear X1_82
  have G0_92 := Lib.hid (G0_83.out.ext h_86)
  clear G0_83
  have E_93 := Lib.hid (E_84.out.trans h_86)
  clear E_84
  have z_94 := Ext.le h_86
  try simp only [World.size_alloc] at z_94
  have Z_94 := Lib.hid z_94
  clear z_94
  have T_95 := Lib.hid (o_86)
  clear o_86 h_86
  go_wp2_with fail
  refine (eqMatrixS_x _ _ _ _ _ _ _ _ _ ms1 _ X1_91.out T_95.out.1 hn1).mono ?_
  rintro e w_96 ⟨rfl, h_96⟩
  clear T_95
  have A0_97 := Lib.hid (A0_87.out.ext h_96)
  clear A0_87
  have S0_98 := Lib.hid (S0_88.out.ext h_96)
  clear S0_88
  have X0_99 := Lib.hid (X0_89.out.ext h_96)
  clear X0_89
  have XB0_100 := Lib.hid (XB0_90.out.ext h_96)
  clear XB0_90
  have X1_101 := Lib.hid (X1_91.out.ext h_96)
  clear X1_91
  have G0_102 := Lib.hid (G0_92.out.ext h_96)
  clear G0_92
  have E_103 := Lib.hid (E_93.out.trans h_96)
  clear E_93
  have z_104 := Ext.le h_96
  try simp only [World.size_alloc] at z_104
  have Z_104 := Lib.hid z_104
  clear z_104
  clear h_96
  have X0_b105 := Lib.hid X0_99.out.blk
  have lXB0 := XB0_100.out.1
  have qXB00 := XB0_100.out.2 0 _ rfl
  have qXB01 := XB0_100.out.2 1 _ rfl
  have qXB02 := XB0_100.out.2 2 _ rfl
  try simp only [World.size_alloc] at lXB0
  go_wp2_with fail
  refine (markAlgebra_law _ _ _ _ _ _ _ _ _ _ X0_99.out hn0 (by omega) (by omega)).mono ?_
  rintro e w_106 ⟨rfl, o_106, g_106⟩
  clear lXB0 qXB00 qXB01 qXB02
  clear X0_99
  have A0_107 := Lib.hid (A0_97.out.grown g_106 (fun k hk => by have := X0_b105.out k hk; have := Z_16.out; have := Z_20.out; have := Z_24.out; have := Z_30.out; have := Z_35.out; have := Z_41.out; have := Z_55.out; have := Z_64.out; have := Z_75.out; have := Z_85.out; have := Z_94.out; have := Z_104.out; omega))
  clear A0_97
  have S0_108 := Lib.hid (S0_98.out.grown g_106 (fun k hk => by have := X0_b105.out k hk; have := Z_16.out; have := Z_20.out; have := Z_24.out; have := Z_30.out; have := Z_35.out; have := Z_41.out; have := Z_55.out; have := Z_64.out; have := Z_75.out; have := Z_85.out; have := Z_94.out; have := Z_104.out; omega))
  clear S0_98
  have XB0_109 := Lib.hid (XB0_100.out.grown g_106 (fun k hk => by have := X0_b105.out k hk; have := Z_16.out; have := Z_20.out; have := Z_24.out; have := Z_30.out; have := Z_35.out; have := Z_41.out; have := Z_55.out; have := Z_64.out; have := Z_75.out; have := Z_85.out; have := Z_94.out; have := Z_104.out; omega))
  clear XB0_100
  have X1_110 := Lib.hid (X1_101.out.grown g_106 (fun k hk => by have := X0_b105.out k hk; have := Z_16.out; have := Z_20.out; have := Z_24.out; have := Z_30.out; have := Z_35.out; have := Z_41.out; have := Z_55.out; have := Z_64.out; have := Z_75.out; have := Z_85.out; have := Z_94.out; have := Z_104.out; omega))
  clear X1_101
  have G0_111 := Lib.hid (G0_102.out.grown g_106 (fun k hk => by have := X0_b105.out k hk; have := Z_16.out; have := Z_20.out; have := Z_24.out; have := Z_30.out; have := Z_35.out; have := Z_41.out; have := Z_55.out; have := Z_64.out; have := Z_75.out; have := Z_85.out; have := Z_94.out; have := Z_104.out; omega))
  clear G0_102
  have E_112 := Lib.hid (E_103.out.grown g_106 (fun k hk => by have := X0_b105.out k hk; have := Z_16.out; have := Z_20.out; have := Z_24.out; have := Z_30.out; have := Z_35.out; have := Z_41.out; have := Z_55.out; have := Z_64.out; have := Z_75.out; have := Z_85.out; have := Z_94.out; have := Z_104.out; omega))
  clear E_103
  have Z_113 := Lib.hid g_106.size
  clear g_106 X0_b105
  have X0_114 := Lib.hid (o_106)
  clear o_106
  clear X0_114
  clear XB0_109
  go_wp2_with fail
  refine (markMatrixS_law _ _ _ _ _ _ _ _ X1_110.out hn1 (by omega) (by omega)).mono ?_
  rintro e w_115 ⟨rfl, o_115, g_115⟩
  clear X1_110
  have A0_116 := Lib.hid (A0_107.out.touch g_115 (by have := Z_16.out; have := Z_20.out; have := Z_24.out; have := Z_30.out; have := Z_35.out; have := Z_41.out; have := Z_55.out; have := Z_64.out; have := Z_75.out; have := Z_85.out; have := Z_94.out; have := Z_104.out; have := Z_113.out; omega))
  clear A0_107
  have S0_117 := Lib.hid (S0_108.out.touch g_115 (by have := Z_16.out; have := Z_20.out; have := Z_24.out; have := Z_30.out; have := Z_35.out; have := Z_41.out; have := Z_55.out; have := Z_64.out; have := Z_75.out; have := Z_85.out; have := Z_94.out; have := Z_104.out; have := Z_113.out; omega))
  clear S0_108
  have G0_118 := Lib.hid (G0_111.out.touch g_115 (by have := Z_16.out; have := Z_20.out; have := Z_24.out; have := Z_30.out; have := Z_35.out; have := Z_41.out; have := Z_55.out; have := Z_64.out; have := Z_75.out; have := Z_85.out; have := Z_94.out; have := Z_104.out; have := Z_113.out; omega))
  clear G0_111
  have E_119 := Lib.hid (E_112.out.touch g_115 (by have := Z_16.out; have := Z_20.out; have := Z_24.out; have := Z_30.out; have := Z_35.out; have := Z_41.out; have := Z_55.out; have := Z_64.out; have := Z_75.out; have := Z_85.out; have := Z_94.out; have := Z_104.out; have := Z_113.out; omega))
  clear E_112
  have Z_120 := Lib.hid g_115.size
  clear g_115
  have X1_121 := Lib.hid (o_115)
  clear o_115
  clear X1_121
  have hk : 0 ≤ 1 + (n0 : Int) + (totM ms1 : Int) := by omega
  go_wp2_with fail
  refine (eqMatrixS_x _ _ _ _ _ _ _ _ _ d0 _ G0_118.out S0_117.out gm0).mono ?_
  rintro e w_122 ⟨rfl, h_122⟩
  have A0_123 := Lib.hid (A0_116.out.ext h_122)
  clear A0_116
  have S0_124 := Lib.hid (S0_117.out.ext h_122)
  clear S0_117
  have G0_125 := Lib.hid (G0_118.out.ext h_122)
  clear G0_118
  have E_126 := Lib.hid (E_119.out.trans h_122)
  clear E_119
  have z_127 := Ext.le h_122
  try simp only [World.size_alloc] at z_127
  have Z_127 := Lib.hid z_127
  clear z_127
  clear h_122
  clear hk
  go_wp2_with fail
  refine (markMatrixS_law _ _ _ _ _ _ _ _ G0_125.out gm0 (by omega) (by omega)).mono ?_
  rintro e w_128 ⟨rfl, o_128, g_128⟩
  clear G0_125
  have A0_129 := Lib.hid (A0_123.out.touch g_128 (by have := Z_16.out; have := Z_20.out; have := Z_24.out; have := Z_30.out; have := Z_35.out; have := Z_41.out; have := Z_55.out; have := Z_64.out; have := Z_75.out; have := Z_85.out; have := Z_94.out; have := Z_104.out; have := Z_113.out; have := Z_120.out; have := Z_127.out; omega))
  clear A0_123
  have S0_130 := Lib.hid (S0_124.out.touch g_128 (by have := Z_16.out; have := Z_20.out; have := Z_24.out; have := Z_30.out; have := Z_35.out; have := Z_41.out; have := Z_55.out; have := Z_64.out; have := Z_75.out; have := Z_85.out; have := Z_94.out; have := Z_104.out; have := Z_113.out; have := Z_120.out; have := Z_127.out; omega))
  clear S0_124
  have E_131 := Lib.hid (E_126.out.touch g_128 (by have := Z_16.out; have := Z_20.out; have := Z_24.out; have := Z_30.out; have := Z_35.out; have := Z_41.out; have := Z_55.out; have := Z_64.out; have := Z_75.out; have := Z_85.out; have := Z_94.out; have := Z_104.out; have := Z_113.out; have := Z_120.out; have := Z_127.out; omega))
  clear E_126
  have Z_132 := Lib.hid g_128.size
  clear g_128
  have G0_133 := Lib.hid (o_128)
  clear o_128
  go_wp2_with fail
  refine (heldMatrixS_x _ _ _ _ _ d0 _ _ G0_133.out gm0 (by omega) (by omega)).mono ?_
  rintro e w_134 ⟨rfl, h_134⟩
  have hq134 : 0 ≤ 1 + (totM d0 : Int) := by omega
  have A0_135 := Lib.hid (A0_129.out.ext h_134)
  clear A0_129
  have S0_136 := Lib.hid (S0_130.out.ext h_134)
  clear S0_130
  have G0_137 := Lib.hid (G0_133.out.ext h_134)
  clear G0_133
  have E_138 := Lib.hid (E_131.out.trans h_134)
  clear E_131
  have z_139 := Ext.le h_134
  try simp only [World.size_alloc] at z_139
  have Z_139 := Lib.hid z_139
  clear z_139
  clear h_134
  have lA0 := A0_135.out.1
  have qA00 := A0_135.out.2 0 _ rfl
  have qA01 := A0_135.out.2 1 _ rfl
  have qA02 := A0_135.out.2 2 _ rfl
  try simp only [World.size_alloc] at lA0
  go_wp2_with fail
  refine (toAlgebra_law _ _ _ _ _ xs0 _ (HR0.out.ext E_138.out) hn0).mono ?_
  rintro e w_140 ⟨b_140, rfl, o_140, h_140⟩
  clear lA0 qA00 qA01 qA02
  have A0_141 := Lib.hid (A0_135.out.ext h_140)
  clear A0_135
  have S0_142 := Lib.hid (S0_136.out.ext h_140)
  clear S0_136
  have G0_143 := Lib.hid (G0_137.out.ext h_140)
  clear G0_137
  have E_144 := Lib.hid (E_138.out.trans h_140)
  clear E_138
  have z_145 := Ext.le h_140
  try simp only [World.size_alloc] at z_145
  have Z_145 := Lib.hid z_145
  clear z_145
  have T0_146 := Lib.hid (o_140)
  clear o_140 h_140
  go_wp2_with fail
  refine (toMatrixS_law _ _ _ ms1 _ (HR1.out.ext E_144.out) hn1 HT1.out).mono ?_
  rintro e w_147 ⟨b_147, rfl, o_147, h_147⟩
  have A0_148 := Lib.hid (A0_141.out.ext h_147)
  clear A0_141
  have S0_149 := Lib.hid (S0_142.out.ext h_147)
  clear S0_142
  have G0_150 := Lib.hid (G0_143.out.ext h_147)
  clear G0_143
  have T0_151 := Lib.hid (T0_146.out.ext h_147)
  clear T0_146
  have E_152 := Lib.hid (E_144.out.trans h_147)
  clear E_144
  have z_153 := Ext.le h_147
  try simp only [World.size_alloc] at z_153
  have Z_153 := Lib.hid z_153
  clear z_153
  have T1_154 := Lib.hid (o_147)
  clear o_147 h_147
  go_wp2_with fail
  refine (dualModule_impl T0_151.out.reads hn0 T1_154.out.reads hn1 hM.out).mono ?_
  rintro e w_155 ⟨v0, rfl, ⟨ta0, tn0, tc0, rfl, tO0, tm0⟩, h_155⟩
  clear T0_151
  clear T1_154
  have A0_156 := Lib.hid (A0_148.out.ext h_155)
  clear A0_148
  have S0_157 := Lib.hid (S0_149.out.ext h_155)
  clear S0_149
  have G0_158 := Lib.hid (G0_150.out.ext h_155)
  clear G0_150
  have E_159 := Lib.hid (E_152.out.trans h_155)
  clear E_152
  have z_160 := Ext.le h_155
  try simp only [World.size_alloc] at z_160
  have Z_160 := Lib.hid z_160
  clear z_160
  clear h_155
  try simp only [World.size_alloc] at tO0
  have H0_161 := Lib.hid (tO0)
  clear tO0
  obtain rfl : sn0 = tn0 := S0_157.out.len.symm.trans H0_161.out.len
  go_wp2_with fail
  refine (eqMatrixS_x _ _ _ _ _ _ _ _ _ d0 _ H0_161.out S0_157.out gm0).mono ?_
  rintro e w_162 ⟨rfl, h_162⟩
  have A0_163 := Lib.hid (A0_156.out.ext h_162)
  clear A0_156
  have S0_164 := Lib.hid (S0_157.out.ext h_162)
  clear S0_157
  have G0_165 := Lib.hid (G0_158.out.ext h_162)
  clear G0_158
  have H0_166 := Lib.hid (H0_161.out.ext h_162)
  clear H0_161
  have E_167 := Lib.hid (E_159.out.trans h_162)
  clear E_159
  have z_168 := Ext.le h_162
  try simp only [World.size_alloc] at z_168
  have Z_168 := Lib.hid z_168
  clear z_168
  clear h_162
  go_wp2_with fail
  refine (heldMatrixS_x _ _ _ _ _ d0 _ _ G0_165.out gm0 (by omega) (by omega)).mono ?_
  rintro e w_169 ⟨rfl, h_169⟩
  have hq169 : 0 ≤ 1 + (totM d0 : Int) := by omega
  have A0_170 := Lib.hid (A0_163.out.ext h_169)
  clear A0_163
  have S0_171 := Lib.hid (S0_164.out.ext h_169)
  clear S0_164
  have G0_172 := Lib.hid (G0_165.out.ext h_169)
  clear G0_165
  have H0_173 := Lib.hid (H0_166.out.ext h_169)
  clear H0_166
  have E_174 := Lib.hid (E_167.out.trans h_169)
  clear E_167
  have z_175 := Ext.le h_169
  try simp only [World.size_alloc] at z_175
  have Z_175 := Lib.hid z_175
  clear z_175
  clear h_169
  go_wp2
  go_ret
  exact ⟨rfl, E_174.out⟩

set_option maxRecDepth 100000 in
theorem lifted (os : Os) (started : os.Started) (H : Type) (enc : TypeId × Value → H) :
    ReturnsInHanded {} Try.checked os 7 .any (Rows.fnExactDualModuleSpec.pre6 enc Try.prog Try.f7 Rows.fnExactDualModuleRow.domain false) (Rows.fnExactDualModuleSpec.post enc Try.prog Try.f7 false true false false) := by
  refine returnsInHanded_of_change (C := Try.checked) own started (by kernel_rfl) Try.func7
    (ChangeSpec.witness6 (enc := enc) (C := Try.checked) false ⟨#[], #[.agg #[.int .i64 0, .int .i64 0, .slice none 0 0], .slice none 0 0], []⟩ 8 (by kernel_rfl) (by kernel_rfl) (by kernel_rfl) (by kernel_rfl)) ?_
  intro W base args ds gs before hval0 hW hcnd _
  have hval : ∀ (j : Nat) t v, Try.f7.params[j]? = some t → args[j]? = some v → Value.okWide Try.prog W .any base t v := hval0
  have hW' := hW
  obtain ⟨p, q, hA0, hV, rfl, hfz, hnd⟩ := hW
  have hA : DataW.TrodAll enc Try.prog W 0 (fun _ => true) true Try.f7.params.toList args.toList ds p := hA0
  rw [Try.params7] at hA hval
  obtain ⟨v0, vs0, d0, ds0, p0, q0, hargs, rfl, rfl, h0, r0⟩ := trodAll_cons hA
  obtain ⟨v1, vs1, d1, ds1, p1, q1, rfl, rfl, rfl, h1, r1⟩ := trodAll_cons r0
  obtain ⟨rfl, rfl, rfl⟩ := trodAll_nil r1
  obtain rfl : args = #[v0, v1] := by cases args; simp_all
  obtain ⟨rfl, rfl⟩ := trodVars_none hV
  have k0 := h0
  have lt0 : ∀ x ∈ p0, x.block < W.heap.size := by obtain ⟨m, hm⟩ := k0; exact DataW.trod_lt m _ _ _ hm
  obtain ⟨P0, D0, a0, n0, c0, xs0, rfl, w0⟩ := open_alg (hval 0 _ v0 rfl rfl) h0
  have k1 := h1
  have lt1 : ∀ x ∈ p1, x.block < W.heap.size := by obtain ⟨m, hm⟩ := k1; exact DataW.trod_lt m _ _ _ hm
  obtain ⟨a1, n1, c1, ms1, rfl, w1⟩ := open_mats (hval 1 _ v1 rfl rfl) h1
  clear hA0 hval0
  refine (walk P0 D0 a0 n0 c0 xs0 a1 n1 c1 ms1 W w0 w1).mono fun e W' ⟨he, bel⟩ => ?_
  subst he
  exact ⟨_, rfl, _, _, _, [], _, [], hW', trodAll_mk1 (shut_bool Try.underlying4 _), (trodAll_cons_mk (Below.trod laidOut (by kernel_rfl) (of_decide_eq_true (by kernel_rfl)) k0 bel lt0) (trodAll_cons_mk (Below.trod laidOut (by kernel_rfl) (of_decide_eq_true (by kernel_rfl)) k1 bel lt1) trodAll_mk0)), rfl, Below.frame bel _, fun h => by cases h⟩

set_option maxRecDepth 1000000 in
set_option maxHeartbeats 40000000 in
theorem closed : joinedFacts Try.pinned.checked.prog 7 Try.f7 Rows.fnExactDualModuleSpec Rows.fnExactDualModuleRow = true := by
  unfold joinedFacts
  repeat' (with_reducible refine and2 ?_ ?_)
  all_goals (first | (with_reducible exact seat_laid) | (with_reducible exact seat_maps) | (with_reducible exact seat_heard) | (with_reducible exact seat_enter) | (with_reducible refine seat_lifts ?_; kernel_rfl) | (with_reducible refine seat_make ?_; kernel_rfl) | (with_reducible refine seat_plain ?_; kernel_rfl) | (as_aux_lemma => kernel_rfl))

theorem over : Rows.fnExactDualModuleRow.holds Try.pinned (OpenSpec.ofChange Rows.fnExactDualModuleSpec) :=
  OpenClaim.holds_of_wide 7 Try.f7 rfl rfl rfl rfl rfl rfl rfl ⟨rfl, rfl, rfl, rfl, rfl⟩ rfl rfl rfl rfl rfl (by kernel_rfl) Try.func7 closed
    (of_decide_eq_true (by kernel_rfl)) (by unfold Func.isWrapper; first | (rw [if_pos (by decide +kernel)]; kernel_rfl) | (rw [if_neg (by decide +kernel)]; exact ⟨rfl, rfl⟩))
    (fun os started H enc _ => lifted os started H enc)

/-- The statement. -/
theorem proved : Rows.FnExactDualModuleSaid := over
#print axioms proved
end Go.Proofs.Ytnikfalpjieibaa.fnExactDualModule
