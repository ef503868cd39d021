/-
  Proved: the statement given for the law FnExactOrbitOf: at every input the Go text returns true, with no panic, and the arguments read as they read before. No condition is added.
-/
import Derived.Test.YtlnpaplbcocmkaaGreatFr
import Derived.Test.YtlnpaplbcocmkaaGreatRowC
import Derived.Test.YtlnpaplbcocmkaaGreatRwR5
import Derived.Test.YtlnpaplbcocmkaaGreatOb
import Derived.Test.YtlnpaplbcocmkaaGreatSCartan
import Derived.Test.YtlnpaplbcocmkaaGreatSeatF
namespace Go.Proofs.YtlnpaplbcocmkaaGreat.fnExactOrbitOf
open Go.ChangeShapes Go.WideShapes Go.ChangeAt Go.RowKit
open Go.ChangeMaps (open_string shut_string)
set_option linter.unusedVariables false

set_option maxRecDepth 100000 in
set_option maxHeartbeats 3200000 in
/-- The walk: the Go text returns true, and nothing that was there has changed. -/
theorem walk (R0 : Int) (a0 : Option Addr) (n0 c0 : Nat) (xs0 : List Int) (a1 : Option Addr) (n1 c1 : Nat) (xs1 : List Int) (w : World) (w0 : Reads w a0 n0 xs0 ∧ n0 ≤ maxLen) (w1 : Reads w a1 n1 xs1 ∧ n1 ≤ maxLen) :
    Calls Tryz.prog 10 #[.agg #[.int .i64 R0, .slice a0 n0 c0], .slice a1 n1 c1] w fun e w' => e = .returned (.bool true) ∧ Ext w w' := by
  obtain ⟨hr0, hm0⟩ := w0
  have HR0 := Lib.hid hr0
  clear hr0
  obtain ⟨hr1, hm1⟩ := w1
  have HR1 := Lib.hid hr1
  clear hr1
  rcases hM0 : obO R0 xs0 xs1 with d0
  have hM := Lib.hid hM0
  clear hM0
  by_cases hz0 : (n1 : Int) ≤ 1048576
  case neg =>
    go_enter Tryz.func10, Tryz.ntmps10
    have T0 := cells_new' w #[.int .i64 R0, .slice a0 n0 c0] 24 (w.heap.size) (by simp)
    have A0_1 := Lib.hid (T0.ext (Ext.refl _))
    clear T0
    have E_2 := Lib.hid ((Ext.refl w).alloc (.cells #[.int .i64 R0, .slice a0 n0 c0] 24))
    have hlt : (1048576 : Int) < (n1 : Int) := by omega
    go_wp2
    go_ret
    exact ⟨rfl, E_2.out⟩
  by_cases hz1 : (n0 : Int) ≤ 1048576
  case neg =>
    go_enter Tryz.func10, Tryz.ntmps10
    have T0 := cells_new' w #[.int .i64 R0, .slice a0 n0 c0] 24 (w.heap.size) (by simp)
    have A0_3 := Lib.hid (T0.ext (Ext.refl _))
    clear T0
    have E_4 := Lib.hid ((Ext.refl w).alloc (.cells #[.int .i64 R0, .slice a0 n0 c0] 24))
    have lA0 := A0_3.out.1
    have qA00 := A0_3.out.2 0 _ rfl
    have qA01 := A0_3.out.2 1 _ rfl
    try simp only [World.size_alloc] at lA0
    go_wp2_with fail
    refine (szCartan_no _ _ _ _ _ _ (by omega) (by omega) hm0 (by omega)).mono ?_
    rintro e w_5 ⟨rfl, h_5⟩
    clear lA0 qA00 qA01
    go_wp2
    go_ret
    exact ⟨rfl, E_4.out.trans h_5⟩
  have hn0 : n0 ≤ 1048576 := by omega
  have hn1 : n1 ≤ 1048576 := by omega
  go_enter Tryz.func10, Tryz.ntmps10
  have T0 := cells_new' w #[.int .i64 R0, .slice a0 n0 c0] 24 (w.heap.size) (by simp)
  have A0_6 := Lib.hid (T0.ext (Ext.refl _))
  clear T0
  have E_7 := Lib.hid ((Ext.refl w).alloc (.cells #[.int .i64 R0, .slice a0 n0 c0] 24))
  have lA0 := A0_6.out.1
  have qA00 := A0_6.out.2 0 _ rfl
  have qA01 := A0_6.out.2 1 _ rfl
  try simp only [World.size_alloc] at lA0
  go_wp2_with fail
  refine (szCartan_yes _ _ _ _ _ _ (by omega) (by omega)).mono ?_
  rintro e w_8 ⟨rfl, h_8⟩
  clear lA0 qA00 qA01
  have A0_9 := Lib.hid (A0_6.out.ext h_8)
  clear A0_6
  have E_10 := Lib.hid (E_7.out.trans h_8)
  clear E_7
  have z_11 := Ext.le h_8
  try simp only [World.size_alloc] at z_11
  have Z_11 := Lib.hid z_11
  clear z_11
  clear h_8
  have hp : 0 ≤ 1048576 - (n0 : Int) := by omega
  have lA0 := A0_9.out.1
  have qA00 := A0_9.out.2 0 _ rfl
  have qA01 := A0_9.out.2 1 _ rfl
  try simp only [World.size_alloc] at lA0
  go_wp2_with fail
  refine (toCartan_law _ _ _ _ xs0 _ (HR0.out.ext E_10.out) hn0).mono ?_
  rintro e w_12 ⟨b_12, rfl, o_12, h_12⟩
  clear lA0 qA00 qA01
  have A0_13 := Lib.hid (A0_9.out.ext h_12)
  clear A0_9
  have E_14 := Lib.hid (E_10.out.trans h_12)
  clear E_10
  have z_15 := Ext.le h_12
  try simp only [World.size_alloc] at z_15
  have Z_15 := Lib.hid z_15
  clear z_15
  have T0_16 := Lib.hid (o_12)
  clear o_12 h_12
  go_wp2_with fail
  refine (toIntS_law _ _ _ xs1 _ (HR1.out.ext E_14.out) hn1).mono ?_
  rintro e w_17 ⟨b_17, rfl, o_17, h_17⟩
  have A0_18 := Lib.hid (A0_13.out.ext h_17)
  clear A0_13
  have T0_19 := Lib.hid (T0_16.out.ext h_17)
  clear T0_16
  have E_20 := Lib.hid (E_14.out.trans h_17)
  clear E_14
  have z_21 := Ext.le h_17
  try simp only [World.size_alloc] at z_21
  have Z_21 := Lib.hid z_21
  clear z_21
  have T1_22 := Lib.hid (o_17)
  clear o_17 h_17
  go_wp2_with fail
  refine (orbitOf_spec T0_19.out.reads hn0 T1_22.out.reads hn1 hM.out).mono ?_
  rintro e w_23 ⟨v0, rfl, ⟨sa0, sn0, sc0, rfl, sO0, sm0⟩, h_23⟩
  clear T0_19
  clear T1_22
  have A0_24 := Lib.hid (A0_18.out.ext h_23)
  clear A0_18
  have E_25 := Lib.hid (E_20.out.trans h_23)
  clear E_20
  have z_26 := Ext.le h_23
  try simp only [World.size_alloc] at z_26
  have Z_26 := Lib.hid z_26
  clear z_26
  clear h_23
  try simp only [World.size_alloc] at sO0
  have S0_27 := Lib.hid (sO0)
  clear sO0
  have lA0 := A0_24.out.1
  have qA00 := A0_24.out.2 0 _ rfl
  have qA01 := A0_24.out.2 1 _ rfl
  try simp only [World.size_alloc] at lA0
  go_wp2_with fail
  refine (toCartan_law _ _ _ _ xs0 _ (HR0.out.ext E_25.out) hn0).mono ?_
  rintro e w_28 ⟨b_28, rfl, o_28, h_28⟩
  clear lA0 qA00 qA01
  have A0_29 := Lib.hid (A0_24.out.ext h_28)
  clear A0_24
  have S0_30 := Lib.hid (S0_27.out.ext h_28)
  clear S0_27
  have E_31 := Lib.hid (E_25.out.trans h_28)
  clear E_25
  have z_32 := Ext.le h_28
  try simp only [World.size_alloc] at z_32
  have Z_32 := Lib.hid z_32
  clear z_32
  try simp only [World.size_alloc] at o_28
  have X0_33 := Lib.hid (o_28)
  clear o_28 h_28
  have P_34 := (Ext.refl w_28).alloc (.cells #[.int .i64 R0, .slice (some ⟨b_28, 0, none⟩) n0 n0] 27)
  have A0_35 := Lib.hid (A0_29.out.ext P_34)
  clear A0_29
  have S0_36 := Lib.hid (S0_30.out.ext P_34)
  clear S0_30
  have X0_37 := Lib.hid (X0_33.out.ext P_34)
  clear X0_33
  have E_38 := Lib.hid (E_31.out.trans P_34)
  clear E_31
  clear P_34
  have XB0_39 := Lib.hid (cells_new w_28 #[.int .i64 R0, .slice (some ⟨b_28, 0, none⟩) n0 n0] 27)
  go_wp2_with fail
  refine (toIntS_law _ _ _ xs1 _ (HR1.out.ext E_38.out) hn1).mono ?_
  rintro e w_40 ⟨b_40, rfl, o_40, h_40⟩
  have A0_41 := Lib.hid (A0_35.out.ext h_40)
  clear A0_35
  have S0_42 := Lib.hid (S0_36.out.ext h_40)
  clear S0_36
  have X0_43 := Lib.hid (X0_37.out.ext h_40)
  clear X0_37
  have XB0_44 := Lib.hid (XB0_39.out.ext h_40)
  clear XB0_39
  have E_45 := Lib.hid (E_38.out.trans h_40)
  clear E_38
  have z_46 := Ext.le h_40
  try simp only [World.size_alloc] at z_46
  have Z_46 := Lib.hid z_46
  clear z_46
  try simp only [World.size_alloc] at o_40
  have X1_47 := Lib.hid (o_40)
  clear o_40 h_40
  have lXB0 := XB0_44.out.1
  have qXB00 := XB0_44.out.2 0 _ rfl
  have qXB01 := XB0_44.out.2 1 _ rfl
  try simp only [World.size_alloc] at lXB0
  go_wp2_with fail
  refine (orbitOf_impl X0_43.out.reads hn0 X1_47.out.reads hn1 hM.out).mono ?_
  rintro e w_48 ⟨v0, rfl, ⟨ga0, gn0, gc0, rfl, gO0, gm0⟩, h_48⟩
  clear lXB0 qXB00 qXB01
  have A0_49 := Lib.hid (A0_41.out.ext h_48)
  clear A0_41
  have S0_50 := Lib.hid (S0_42.out.ext h_48)
  clear S0_42
  have X0_51 := Lib.hid (X0_43.out.ext h_48)
  clear X0_43
  have XB0_52 := Lib.hid (XB0_44.out.ext h_48)
  clear XB0_44
  have X1_53 := Lib.hid (X1_47.out.ext h_48)
  clear X1_47
  have E_54 := Lib.hid (E_45.out.trans h_48)
  clear E_45
  have z_55 := Ext.le h_48
  try simp only [World.size_alloc] at z_55
  have Z_55 := Lib.hid z_55
  clear z_55
  clear h_48
  try simp only [World.size_alloc] at gO0
  have G0_56 := Lib.hid (gO0)
  clear gO0
  obtain rfl : sn0 = gn0 := S0_50.out.len.symm.trans G0_56.out.len
  go_wp2_with fail
  refine (eqIntSS_x _ _ _ _ _ _ _ _ _ d0 _ G0_56.out S0_50.out gm0).mono ?_
  rintro e w_57 ⟨rfl, h_57⟩
  have A0_58 := Lib.hid (A0_49.out.ext h_57)
  clear A0_49
  have S0_59 := Lib.hid (S0_50.out.ext h_57)
  clear S0_50
  have X0_60 := Lib.hid (X0_51.out.ext h_57)
  clear X0_51
  have XB0_61 := Lib.hid (XB0_52.out.ext h_57)
  clear XB0_52
  have X1_62 := Lib.hid (X1_53.out.ext h_57)
  clear X1_53
  have G0_63 := Lib.hid (G0_56.out.ext h_57)
  clear G0_56
  have E_64 := Lib.hid (E_54.out.trans h_57)
  clear E_54
  have z_65 := Ext.le h_57
  try simp only [World.size_alloc] at z_65
  have Z_65 := Lib.hid z_65
  clear z_65
  clear h_57
  have lXB0 := XB0_61.out.1
  have qXB00 := XB0_61.out.2 0 _ rfl
  have qXB01 := XB0_61.out.2 1 _ rfl
  have lA0 := A0_58.out.1
  have qA00 := A0_58.out.2 0 _ rfl
  have qA01 := A0_58.out.2 1 _ rfl
  try simp only [World.size_alloc] at lXB0 lA0
  go_wp2_with fail
  go_region_held3 (fun w' => Ext w_57 w' ∧ (∀ b o, b < w_57.heap.size → w'.cell? ⟨b, o, none⟩ = w_57.cell? ⟨b, o, none⟩)) (first | (with_reducible exact ext2 (Ext.trans (And.left ‹Ext w_57 _ ∧ _›) ‹Ext _ _›)) | (refine ext2 ?_; with_reducible repeat (first | exact Ext.refl _ | refine Ext.drew ?_))) (first
    | (go_at_call 17; refine (toCartan_law _ _ _ _ xs0 _ (HR0.out.ext (E_64.out.trans (And.left ‹Ext w_57 _ ∧ _›))) hn0).mono ?_; rintro e w_66 ⟨b_66, rfl, o_66, h_66⟩)
    | (go_at_call 19; refine (eqCartan_law _ _ _ _ _ _ xs0 _ (Own.reads (Own.ext X0_60.out (And.left ‹Ext w_57 _ ∧ _›))) (Own.reads o_66) hn0).mono ?_; rintro e w_67 ⟨rfl, h_67⟩))
  clear lXB0 qXB00 qXB01 lA0 qA00 qA01
  have hx_67 := And.left ‹Ext w_57 w_67 ∧ _›
  try clear h_66 h_67 o_66
  have A0_68 := Lib.hid (A0_58.out.ext hx_67)
  clear A0_58
  have S0_69 := Lib.hid (S0_59.out.ext hx_67)
  clear S0_59
  have X0_70 := Lib.hid (X0_60.out.ext hx_67)
  clear X0_60
  have XB0_71 := Lib.hid (XB0_61.out.ext hx_67)
  clear XB0_61
  have X1_72 := Lib.hid (X1_62.out.ext hx_67)
  clear X1_62
  have G0_73 := Lib.hid (G0_63.out.ext hx_67)
  clear G0_63
  have E_74 := Lib.hid (E_64.out.trans hx_67)
  clear E_64
  have z_75 := Ext.le hx_67
  try simp only [World.size_alloc] at z_75
  have Z_75 := Lib.hid z_75
  clear z_75
  clear hx_67
  go_wp2_with fail
  refine (toIntS_law _ _ _ xs1 _ (HR1.out.ext E_74.out) hn1).mono ?_
  rintro e w_76 ⟨b_76, rfl, o_76, h_76⟩
  have A0_77 := Lib.hid (A0_68.out.ext h_76)
  clear A0_68
  have S0_78 := Lib.hid (S0_69.out.ext h_76)
  clear S0_69
  have X0_79 := Lib.hid (X0_70.out.ext h_76)
  clear X0_70
  have XB0_80 := Lib.hid (XB0_71.out.ext h_76)
  clear XB0_71
  have X1_81 := Lib.hid (X1_72.out.ext h_76)
  clear X1_72
  have G0_82 := Lib.hid (G0_73.out.ext h_76)
  clear G0_73
  have E_83 := Lib.hid (E_74.out.trans h_76)
  clear E_74
  have z_84 := Ext.le h_76
  try simp only [World.size_alloc] at z_84
  have Z_84 := Lib.hid z_84
  clear z_84
  have T_85 := Lib.hid (o_76)
  clear o_76 h_76
  go_wp2_with fail
  refine (eqIntS_x _ _ _ _ _ xs1 _ X1_81.out.reads T_85.out.reads hn1).mono ?_
  rintro e w_86 ⟨rfl, h_86⟩
  clear T_85
  have A0_87 := Lib.hid (A0_77.out.ext h_86)
  clear A0_77
  have S0_88 := Lib.hid (S0_78.out.ext h_86)
  clear S0_78
  have X0_89 := Lib.hid (X0_79.out.ext h_86)
  clear X0_79
  have XB0_90 := Lib.hid (XB0_80.out.ext h_86)
  clear XB0_80
  have X1_91 := Lib.hid (X1_81.out.ext h_86)
  clear X1_81
  have G0_92 := Lib.hid (G0_82.out.ext h_86)
  clear G0_82
  have E_93 := Lib.hid (E_83.out.trans h_86)
  clear E_83
  have z_94 := Ext.le h_86
  try simp only [World.size_alloc] at z_94
  have Z_94 := Lib.hid z_94
  clear z_94
  clear h_86
  have X0_b95 := Lib.hid X0_89.out.blk
  have lXB0 := XB0_90.out.1
  have qXB00 := XB0_90.out.2 0 _ rfl
  have qXB01 := XB0_90.out.2 1 _ rfl
  try simp only [World.size_alloc] at lXB0
  go_wp2_with fail
  refine (markCartan_law _ _ _ _ _ _ _ _ _ X0_89.out hn0 (by omega) (by omega)).mono ?_
  rintro e w_96 ⟨rfl, o_96, g_96⟩
  clear lXB0 qXB00 qXB01
  clear X0_89
  have A0_97 := Lib.hid (A0_87.out.grown g_96 (fun k hk => by have := X0_b95.out k hk; have := Z_11.out; have := Z_15.out; have := Z_21.out; have := Z_26.out; have := Z_32.out; have := Z_46.out; have := Z_55.out; have := Z_65.out; have := Z_75.out; have := Z_84.out; have := Z_94.out; omega))
  clear A0_87
  have S0_98 := Lib.hid (S0_88.out.grown g_96 (fun k hk => by have := X0_b95.out k hk; have := Z_11.out; have := Z_15.out; have := Z_21.out; have := Z_26.out; have := Z_32.out; have := Z_46.out; have := Z_55.out; have := Z_65.out; have := Z_75.out; have := Z_84.out; have := Z_94.out; omega))
  clear S0_88
  have XB0_99 := Lib.hid (XB0_90.out.grown g_96 (fun k hk => by have := X0_b95.out k hk; have := Z_11.out; have := Z_15.out; have := Z_21.out; have := Z_26.out; have := Z_32.out; have := Z_46.out; have := Z_55.out; have := Z_65.out; have := Z_75.out; have := Z_84.out; have := Z_94.out; omega))
  clear XB0_90
  have X1_100 := Lib.hid (X1_91.out.grown g_96 (fun k hk => by have := X0_b95.out k hk; have := Z_11.out; have := Z_15.out; have := Z_21.out; have := Z_26.out; have := Z_32.out; have := Z_46.out; have := Z_55.out; have := Z_65.out; have := Z_75.out; have := Z_84.out; have := Z_94.out; omega))
  clear X1_91
  have G0_101 := Lib.hid (G0_92.out.grown g_96 (fun k hk => by have := X0_b95.out k hk; have := Z_11.out; have := Z_15.out; have := Z_21.out; have := Z_26.out; have := Z_32.out; have := Z_46.out; have := Z_55.out; have := Z_65.out; have := Z_75.out; have := Z_84.out; have := Z_94.out; omega))
  clear G0_92
  have E_102 := Lib.hid (E_93.out.grown g_96 (fun k hk => by have := X0_b95.out k hk; have := Z_11.out; have := Z_15.out; have := Z_21.out; have := Z_26.out; have := Z_32.out; have := Z_46.out; have := Z_55.out; have := Z_65.out; have := Z_75.out; have := Z_84.out; have := Z_94.out; omega))
  clear E_93
  have Z_103 := Lib.hid g_96.size
  clear g_96 X0_b95
  have X0_104 := Lib.hid (o_96)
  clear o_96
  clear X0_104
  clear XB0_99
  have X1_b105 := Lib.hid X1_100.out.blk
  go_wp2_with fail
  refine (markIntS_law _ _ _ _ _ _ _ _ X1_100.out hn1 (by omega) (by omega)).mono ?_
  rintro e w_106 ⟨rfl, o_106, g_106⟩
  clear X1_100
  have A0_107 := Lib.hid (A0_97.out.grown g_106 (fun k hk => by have := X1_b105.out k hk; have := Z_11.out; have := Z_15.out; have := Z_21.out; have := Z_26.out; have := Z_32.out; have := Z_46.out; have := Z_55.out; have := Z_65.out; have := Z_75.out; have := Z_84.out; have := Z_94.out; have := Z_103.out; omega))
  clear A0_97
  have S0_108 := Lib.hid (S0_98.out.grown g_106 (fun k hk => by have := X1_b105.out k hk; have := Z_11.out; have := Z_15.out; have := Z_21.out; have := Z_26.out; have := Z_32.out; have := Z_46.out; have := Z_55.out; have := Z_65.out; have := Z_75.out; have := Z_84.out; have := Z_94.out; have := Z_103.out; omega))
  clear S0_98
  have G0_109 := Lib.hid (G0_101.out.grown g_106 (fun k hk => by have := X1_b105.out k hk; have := Z_11.out; have := Z_15.out; have := Z_21.out; have := Z_26.out; have := Z_32.out; have := Z_46.out; have := Z_55.out; have := Z_65.out; have := Z_75.out; have := Z_84.out; have := Z_94.out; have := Z_103.out; omega))
  clear G0_101
  have E_110 := Lib.hid (E_102.out.grown g_106 (fun k hk => by have := X1_b105.out k hk; have := Z_11.out; have := Z_15.out; have := Z_21.out; have := Z_26.out; have := Z_32.out; have := Z_46.out; have := Z_55.out; have := Z_65.out; have := Z_75.out; have := Z_84.out; have := Z_94.out; have := Z_103.out; omega))
  clear E_102
  have Z_111 := Lib.hid g_106.size
  clear g_106 X1_b105
  have X1_112 := Lib.hid (o_106)
  clear o_106
  clear X1_112
  have hk : 0 ≤ 1 + (n0 : Int) + (n1 : Int) := by omega
  go_wp2_with fail
  refine (eqIntSS_x _ _ _ _ _ _ _ _ _ d0 _ G0_109.out S0_108.out gm0).mono ?_
  rintro e w_113 ⟨rfl, h_113⟩
  have A0_114 := Lib.hid (A0_107.out.ext h_113)
  clear A0_107
  have S0_115 := Lib.hid (S0_108.out.ext h_113)
  clear S0_108
  have G0_116 := Lib.hid (G0_109.out.ext h_113)
  clear G0_109
  have E_117 := Lib.hid (E_110.out.trans h_113)
  clear E_110
  have z_118 := Ext.le h_113
  try simp only [World.size_alloc] at z_118
  have Z_118 := Lib.hid z_118
  clear z_118
  clear h_113
  clear hk
  go_wp2_with fail
  refine (markIntSS_law _ _ _ _ _ _ _ _ G0_116.out gm0 (by omega) (by omega)).mono ?_
  rintro e w_119 ⟨rfl, o_119, g_119⟩
  clear G0_116
  have A0_120 := Lib.hid (A0_114.out.touch g_119 (by have := Z_11.out; have := Z_15.out; have := Z_21.out; have := Z_26.out; have := Z_32.out; have := Z_46.out; have := Z_55.out; have := Z_65.out; have := Z_75.out; have := Z_84.out; have := Z_94.out; have := Z_103.out; have := Z_111.out; have := Z_118.out; omega))
  clear A0_114
  have S0_121 := Lib.hid (S0_115.out.touch g_119 (by have := Z_11.out; have := Z_15.out; have := Z_21.out; have := Z_26.out; have := Z_32.out; have := Z_46.out; have := Z_55.out; have := Z_65.out; have := Z_75.out; have := Z_84.out; have := Z_94.out; have := Z_103.out; have := Z_111.out; have := Z_118.out; omega))
  clear S0_115
  have E_122 := Lib.hid (E_117.out.touch g_119 (by have := Z_11.out; have := Z_15.out; have := Z_21.out; have := Z_26.out; have := Z_32.out; have := Z_46.out; have := Z_55.out; have := Z_65.out; have := Z_75.out; have := Z_84.out; have := Z_94.out; have := Z_103.out; have := Z_111.out; have := Z_118.out; omega))
  clear E_117
  have Z_123 := Lib.hid g_119.size
  clear g_119
  have G0_124 := Lib.hid (o_119)
  clear o_119
  go_wp2_with fail
  refine (heldIntSS_x _ _ _ _ _ d0 _ _ G0_124.out gm0 (by omega) (by omega)).mono ?_
  rintro e w_125 ⟨rfl, h_125⟩
  have hq125 : 0 ≤ 1 + (totR d0 : Int) := by omega
  have A0_126 := Lib.hid (A0_120.out.ext h_125)
  clear A0_120
  have S0_127 := Lib.hid (S0_121.out.ext h_125)
  clear S0_121
  have G0_128 := Lib.hid (G0_124.out.ext h_125)
  clear G0_124
  have E_129 := Lib.hid (E_122.out.trans h_125)
  clear E_122
  have z_130 := Ext.le h_125
  try simp only [World.size_alloc] at z_130
  have Z_130 := Lib.hid z_130
  clear z_130
  clear h_125
  have lA0 := A0_126.out.1
  have qA00 := A0_126.out.2 0 _ rfl
  have qA01 := A0_126.out.2 1 _ rfl
  try simp only [World.size_alloc] at lA0
  go_wp2_with fail
  refine (toCartan_law _ _ _ _ xs0 _ (HR0.out.ext E_129.out) hn0).mono ?_
  rintro e w_131 ⟨b_131, rfl, o_131, h_131⟩
  clear lA0 qA00 qA01
  have A0_132 := Lib.hid (A0_126.out.ext h_131)
  clear A0_126
  have S0_133 := Lib.hid (S0_127.out.ext h_131)
  clear S0_127
  have G0_134 := Lib.hid (G0_128.out.ext h_131)
  clear G0_128
  have E_135 := Lib.hid (E_129.out.trans h_131)
  clear E_129
  have z_136 := Ext.le h_131
  try simp only [World.size_alloc] at z_136
  have Z_136 := Lib.hid z_136
  clear z_136
  have T0_137 := Lib.hid (o_131)
  clear o_131 h_131
  go_wp2_with fail
  refine (toIntS_law _ _ _ xs1 _ (HR1.out.ext E_135.out) hn1).mono ?_
  rintro e w_138 ⟨b_138, rfl, o_138, h_138⟩
  have A0_139 := Lib.hid (A0_132.out.ext h_138)
  clear A0_132
  have S0_140 := Lib.hid (S0_133.out.ext h_138)
  clear S0_133
  have G0_141 := Lib.hid (G0_134.out.ext h_138)
  clear G0_134
  have T0_142 := Lib.hid (T0_137.out.ext h_138)
  clear T0_137
  have E_143 := Lib.hid (E_135.out.trans h_138)
  clear E_135
  have z_144 := Ext.le h_138
  try simp only [World.size_alloc] at z_144
  have Z_144 := Lib.hid z_144
  clear z_144
  have T1_145 := Lib.hid (o_138)
  clear o_138 h_138
  go_wp2_with fail
  refine (orbitOf_impl T0_142.out.reads hn0 T1_145.out.reads hn1 hM.out).mono ?_
  rintro e w_146 ⟨v0, rfl, ⟨ta0, tn0, tc0, rfl, tO0, tm0⟩, h_146⟩
  clear T0_142
  clear T1_145
  have A0_147 := Lib.hid (A0_139.out.ext h_146)
  clear A0_139
  have S0_148 := Lib.hid (S0_140.out.ext h_146)
  clear S0_140
  have G0_149 := Lib.hid (G0_141.out.ext h_146)
  clear G0_141
  have E_150 := Lib.hid (E_143.out.trans h_146)
  clear E_143
  have z_151 := Ext.le h_146
  try simp only [World.size_alloc] at z_151
  have Z_151 := Lib.hid z_151
  clear z_151
  clear h_146
  try simp only [World.size_alloc] at tO0
  have H0_152 := Lib.hid (tO0)
  clear tO0
  obtain rfl : sn0 = tn0 := S0_148.out.len.symm.trans H0_152.out.len
  go_wp2_with fail
  refine (eqIntSS_x _ _ _ _ _ _ _ _ _ d0 _ H0_152.out S0_148.out gm0).mono ?_
  rintro e w_153 ⟨rfl, h_153⟩
  have A0_154 := Lib.hid (A0_147.out.ext h_153)
  clear A0_147
  have S0_155 := Lib.hid (S0_148.out.ext h_153)
  clear S0_148
  have G0_156 := Lib.hid (G0_149.out.ext h_153)
  clear G0_149
  have H0_157 := Lib.hid (H0_152.out.ext h_153)
  clear H0_152
  have E_158 := Lib.hid (E_150.out.trans h_153)
  clear E_150
  have z_159 := Ext.le h_153
  try simp only [World.size_alloc] at z_159
  have Z_159 := Lib.hid z_159
  clear z_159
  clear h_153
  go_wp2_with fail
  refine (heldIntSS_x _ _ _ _ _ d0 _ _ G0_156.out gm0 (by omega) (by omega)).mono ?_
  rintro e w_160 ⟨rfl, h_160⟩
  have hq160 : 0 ≤ 1 + (totR d0 : Int) := by omega
  have A0_161 := Lib.hid (A0_154.out.ext h_160)
  clear A0_154
  have S0_162 := Lib.hid (S0_155.out.ext h_160)
  clear S0_155
  have G0_163 := Lib.hid (G0_156.out.ext h_160)
  clear G0_156
  have H0_164 := Lib.hid (H0_157.out.ext h_160)
  clear H0_157
  have E_165 := Lib.hid (E_158.out.trans h_160)
  clear E_158
  have z_166 := Ext.le h_160
  try simp only [World.size_alloc] at z_166
  have Z_166 := Lib.hid z_166
  clear z_166
  clear h_160
  go_wp2
  go_ret
  exact ⟨rfl, E_165.out⟩

set_option maxRecDepth 100000 in
theorem lifted (os : Os) (started : os.Started) (H : Type) (enc : TypeId × Value → H) :
    ReturnsInHanded {} Tryz.checked os 10 .any (Rows.fnExactOrbitOfSpec.pre6 enc Tryz.prog Tryz.f10 Rows.fnExactOrbitOfRow.domain false) (Rows.fnExactOrbitOfSpec.post enc Tryz.prog Tryz.f10 false true false false) := by
  refine returnsInHanded_of_change (C := Tryz.checked) own started (by kernel_rfl) Tryz.func10
    (ChangeSpec.witness6 (enc := enc) (C := Tryz.checked) false ⟨#[], #[.agg #[.int .i64 0, .slice none 0 0], .slice none 0 0], []⟩ 8 (by kernel_rfl) (by kernel_rfl) (by kernel_rfl) (by kernel_rfl)) ?_
  intro W base args ds gs before hval0 hW hcnd _
  have hval : ∀ (j : Nat) t v, Tryz.f10.params[j]? = some t → args[j]? = some v → Value.okWide Tryz.prog W .any base t v := hval0
  have hW' := hW
  obtain ⟨p, q, hA0, hV, rfl, hfz, hnd⟩ := hW
  have hA : DataW.TrodAll enc Tryz.prog W 0 (fun _ => true) true Tryz.f10.params.toList args.toList ds p := hA0
  rw [Tryz.params10] at hA hval
  obtain ⟨v0, vs0, d0, ds0, p0, q0, hargs, rfl, rfl, h0, r0⟩ := trodAll_cons hA
  obtain ⟨v1, vs1, d1, ds1, p1, q1, rfl, rfl, rfl, h1, r1⟩ := trodAll_cons r0
  obtain ⟨rfl, rfl, rfl⟩ := trodAll_nil r1
  obtain rfl : args = #[v0, v1] := by cases args; simp_all
  obtain ⟨rfl, rfl⟩ := trodVars_none hV
  have k0 := h0
  have lt0 : ∀ x ∈ p0, x.block < W.heap.size := by obtain ⟨m, hm⟩ := k0; exact DataW.trod_lt m _ _ _ hm
  obtain ⟨R0, a0, n0, c0, xs0, rfl, w0⟩ := open_car (hval 0 _ v0 rfl rfl) h0
  have k1 := h1
  have lt1 : ∀ x ∈ p1, x.block < W.heap.size := by obtain ⟨m, hm⟩ := k1; exact DataW.trod_lt m _ _ _ hm
  obtain ⟨a1, n1, c1, xs1, rfl, w1⟩ := open_intsl (hval 1 _ v1 rfl rfl) h1
  clear hA0 hval0
  refine (walk R0 a0 n0 c0 xs0 a1 n1 c1 xs1 W w0 w1).mono fun e W' ⟨he, bel⟩ => ?_
  subst he
  exact ⟨_, rfl, _, _, _, [], _, [], hW', trodAll_mk1 (shut_bool Tryz.underlying4 _), (trodAll_cons_mk (Below.trod laidOut (by kernel_rfl) (of_decide_eq_true (by kernel_rfl)) k0 bel lt0) (trodAll_cons_mk (Below.trod laidOut (by kernel_rfl) (of_decide_eq_true (by kernel_rfl)) k1 bel lt1) trodAll_mk0)), rfl, Below.frame bel _, fun h => by cases h⟩

set_option maxRecDepth 1000000 in
set_option maxHeartbeats 40000000 in
theorem closed : joinedFacts Tryz.pinned.checked.prog 10 Tryz.f10 Rows.fnExactOrbitOfSpec Rows.fnExactOrbitOfRow = true := by
  unfold joinedFacts
  repeat' (with_reducible refine and2 ?_ ?_)
  all_goals (first | (with_reducible exact seat_laid) | (with_reducible exact seat_maps) | (with_reducible exact seat_heard) | (with_reducible exact seat_enter) | (with_reducible refine seat_lifts ?_; kernel_rfl) | (with_reducible refine seat_make ?_; kernel_rfl) | (with_reducible refine seat_plain ?_; kernel_rfl) | (as_aux_lemma => kernel_rfl))

theorem over : Rows.fnExactOrbitOfRow.holds Tryz.pinned (OpenSpec.ofChange Rows.fnExactOrbitOfSpec) :=
  OpenClaim.holds_of_wide 10 Tryz.f10 rfl rfl rfl rfl rfl rfl rfl ⟨rfl, rfl, rfl, rfl, rfl⟩ rfl rfl rfl rfl rfl (by kernel_rfl) Tryz.func10 closed
    (of_decide_eq_true (by kernel_rfl)) (by unfold Func.isWrapper; first | (rw [if_pos (by decide +kernel)]; kernel_rfl) | (rw [if_neg (by decide +kernel)]; exact ⟨rfl, rfl⟩))
    (fun os started H enc _ => lifted os started H enc)

/-- The statement. -/
theorem proved : Rows.FnExactOrbitOfSaid := over
#print axioms proved
end Go.Proofs.YtlnpaplbcocmkaaGreat.fnExactOrbitOf
