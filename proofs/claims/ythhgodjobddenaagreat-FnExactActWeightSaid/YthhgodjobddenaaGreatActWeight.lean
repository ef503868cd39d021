/-
  Proved: the statement given for the law FnExactActWeight: at every input the Go text returns true, with no panic, and the arguments read as they read before. No condition is added.
-/
import Derived.Test.YthhgodjobddenaaGreatFr
import Derived.Test.YthhgodjobddenaaGreatRowC
import Derived.Test.YthhgodjobddenaaGreatTw6
import Derived.Test.YthhgodjobddenaaGreatSCartan
import Derived.Test.YthhgodjobddenaaGreatSeatF
namespace Go.Proofs.YthhgodjobddenaaGreat.fnExactActWeight
open Go.ChangeShapes Go.WideShapes Go.ChangeAt Go.RowKit
open Go.ChangeMaps (open_string shut_string)
set_option linter.unusedVariables false

set_option maxRecDepth 100000 in
set_option maxHeartbeats 3200000 in
/-- The walk: the Go text returns true, and nothing that was there has changed. -/
theorem walk (R0 : Int) (a0 : Option Addr) (n0 c0 : Nat) (xs0 : List Int) (a1 : Option Addr) (n1 c1 : Nat) (xs1 : List Int) (a2 : Option Addr) (n2 c2 : Nat) (xs2 : List Int) (w : World) (w0 : Reads w a0 n0 xs0 ∧ n0 ≤ maxLen) (w1 : Reads w a1 n1 xs1 ∧ n1 ≤ maxLen) (w2 : Reads w a2 n2 xs2 ∧ n2 ≤ maxLen) :
    Calls Tryz.prog 4 #[.agg #[.int .i64 R0, .slice a0 n0 c0], .slice a1 n1 c1, .slice a2 n2 c2] w fun e w' => e = .returned (.bool true) ∧ Ext w w' := by
  obtain ⟨hr0, hm0⟩ := w0
  have HR0 := Lib.hid hr0
  clear hr0
  obtain ⟨hr1, hm1⟩ := w1
  have HR1 := Lib.hid hr1
  clear hr1
  obtain ⟨hr2, hm2⟩ := w2
  have HR2 := Lib.hid hr2
  clear hr2
  rcases hM0 : awO R0 xs0 xs1 xs2 with d0
  have hM := Lib.hid hM0
  clear hM0
  by_cases hz0 : (n1 : Int) ≤ 1048576
  case neg =>
    go_enter Tryz.func4, Tryz.ntmps4
    have T0 := cells_new' w #[.int .i64 R0, .slice a0 n0 c0] 24 (w.heap.size) (by simp)
    have A0_1 := Lib.hid (T0.ext (Ext.refl _))
    clear T0
    have E_2 := Lib.hid ((Ext.refl w).alloc (.cells #[.int .i64 R0, .slice a0 n0 c0] 24))
    have hlt : (1048576 : Int) < (n1 : Int) := by omega
    go_wp2
    go_ret
    exact ⟨rfl, E_2.out⟩
  by_cases hz1 : (n2 : Int) ≤ 1048576
  case neg =>
    go_enter Tryz.func4, Tryz.ntmps4
    have T0 := cells_new' w #[.int .i64 R0, .slice a0 n0 c0] 24 (w.heap.size) (by simp)
    have A0_3 := Lib.hid (T0.ext (Ext.refl _))
    clear T0
    have E_4 := Lib.hid ((Ext.refl w).alloc (.cells #[.int .i64 R0, .slice a0 n0 c0] 24))
    have hlt : (1048576 : Int) < (n2 : Int) := by omega
    go_wp2
    go_ret
    exact ⟨rfl, E_4.out⟩
  by_cases hz2 : (n0 : Int) ≤ 1048576
  case neg =>
    go_enter Tryz.func4, Tryz.ntmps4
    have T0 := cells_new' w #[.int .i64 R0, .slice a0 n0 c0] 24 (w.heap.size) (by simp)
    have A0_5 := Lib.hid (T0.ext (Ext.refl _))
    clear T0
    have E_6 := Lib.hid ((Ext.refl w).alloc (.cells #[.int .i64 R0, .slice a0 n0 c0] 24))
    have lA0 := A0_5.out.1
    have qA00 := A0_5.out.2 0 _ rfl
    have qA01 := A0_5.out.2 1 _ rfl
    try simp only [World.size_alloc] at lA0
    go_wp2_with fail
    refine (szCartan_no _ _ _ _ _ _ (by omega) (by omega) hm0 (by omega)).mono ?_
    rintro e w_7 ⟨rfl, h_7⟩
    clear lA0 qA00 qA01
    go_wp2
    go_ret
    exact ⟨rfl, E_6.out.trans h_7⟩
  have hn0 : n0 ≤ 1048576 := by omega
  have hn1 : n1 ≤ 1048576 := by omega
  have hn2 : n2 ≤ 1048576 := by omega
  go_enter Tryz.func4, Tryz.ntmps4
  have T0 := cells_new' w #[.int .i64 R0, .slice a0 n0 c0] 24 (w.heap.size) (by simp)
  have A0_8 := Lib.hid (T0.ext (Ext.refl _))
  clear T0
  have E_9 := Lib.hid ((Ext.refl w).alloc (.cells #[.int .i64 R0, .slice a0 n0 c0] 24))
  have lA0 := A0_8.out.1
  have qA00 := A0_8.out.2 0 _ rfl
  have qA01 := A0_8.out.2 1 _ rfl
  try simp only [World.size_alloc] at lA0
  go_wp2_with fail
  refine (szCartan_yes _ _ _ _ _ _ (by omega) (by omega)).mono ?_
  rintro e w_10 ⟨rfl, h_10⟩
  clear lA0 qA00 qA01
  have A0_11 := Lib.hid (A0_8.out.ext h_10)
  clear A0_8
  have E_12 := Lib.hid (E_9.out.trans h_10)
  clear E_9
  have z_13 := Ext.le h_10
  try simp only [World.size_alloc] at z_13
  have Z_13 := Lib.hid z_13
  clear z_13
  clear h_10
  have hp : 0 ≤ 1048576 - (n0 : Int) := by omega
  have lA0 := A0_11.out.1
  have qA00 := A0_11.out.2 0 _ rfl
  have qA01 := A0_11.out.2 1 _ rfl
  try simp only [World.size_alloc] at lA0
  go_wp2_with fail
  refine (toCartan_law _ _ _ _ xs0 _ (HR0.out.ext E_12.out) hn0).mono ?_
  rintro e w_14 ⟨b_14, rfl, o_14, h_14⟩
  clear lA0 qA00 qA01
  have A0_15 := Lib.hid (A0_11.out.ext h_14)
  clear A0_11
  have E_16 := Lib.hid (E_12.out.trans h_14)
  clear E_12
  have z_17 := Ext.le h_14
  try simp only [World.size_alloc] at z_17
  have Z_17 := Lib.hid z_17
  clear z_17
  have T0_18 := Lib.hid (o_14)
  clear o_14 h_14
  go_wp2_with fail
  refine (toIntS_law _ _ _ xs1 _ (HR1.out.ext E_16.out) hn1).mono ?_
  rintro e w_19 ⟨b_19, rfl, o_19, h_19⟩
  have A0_20 := Lib.hid (A0_15.out.ext h_19)
  clear A0_15
  have T0_21 := Lib.hid (T0_18.out.ext h_19)
  clear T0_18
  have E_22 := Lib.hid (E_16.out.trans h_19)
  clear E_16
  have z_23 := Ext.le h_19
  try simp only [World.size_alloc] at z_23
  have Z_23 := Lib.hid z_23
  clear z_23
  have T1_24 := Lib.hid (o_19)
  clear o_19 h_19
  go_wp2_with fail
  refine (toIntS_law _ _ _ xs2 _ (HR2.out.ext E_22.out) hn2).mono ?_
  rintro e w_25 ⟨b_25, rfl, o_25, h_25⟩
  have A0_26 := Lib.hid (A0_20.out.ext h_25)
  clear A0_20
  have T0_27 := Lib.hid (T0_21.out.ext h_25)
  clear T0_21
  have T1_28 := Lib.hid (T1_24.out.ext h_25)
  clear T1_24
  have E_29 := Lib.hid (E_22.out.trans h_25)
  clear E_22
  have z_30 := Ext.le h_25
  try simp only [World.size_alloc] at z_30
  have Z_30 := Lib.hid z_30
  clear z_30
  have T2_31 := Lib.hid (o_25)
  clear o_25 h_25
  go_wp2_with fail
  refine (actWeight_spec T0_27.out.reads hn0 T1_28.out.reads hn1 T2_31.out.reads hn2 hM.out).mono ?_
  rintro e w_32 ⟨v0, rfl, ⟨sa0, sn0, sc0, rfl, sO0, sm0⟩, h_32⟩
  clear T0_27
  clear T1_28
  clear T2_31
  have A0_33 := Lib.hid (A0_26.out.ext h_32)
  clear A0_26
  have E_34 := Lib.hid (E_29.out.trans h_32)
  clear E_29
  have z_35 := Ext.le h_32
  try simp only [World.size_alloc] at z_35
  have Z_35 := Lib.hid z_35
  clear z_35
  clear h_32
  try simp only [World.size_alloc] at sO0
  have S0_36 := Lib.hid (sO0)
  clear sO0
  have lA0 := A0_33.out.1
  have qA00 := A0_33.out.2 0 _ rfl
  have qA01 := A0_33.out.2 1 _ rfl
  try simp only [World.size_alloc] at lA0
  go_wp2_with fail
  refine (toCartan_law _ _ _ _ xs0 _ (HR0.out.ext E_34.out) hn0).mono ?_
  rintro e w_37 ⟨b_37, rfl, o_37, h_37⟩
  clear lA0 qA00 qA01
  have A0_38 := Lib.hid (A0_33.out.ext h_37)
  clear A0_33
  have S0_39 := Lib.hid (S0_36.out.ext h_37)
  clear S0_36
  have E_40 := Lib.hid (E_34.out.trans h_37)
  clear E_34
  have z_41 := Ext.le h_37
  try simp only [World.size_alloc] at z_41
  have Z_41 := Lib.hid z_41
  clear z_41
  try simp only [World.size_alloc] at o_37
  have X0_42 := Lib.hid (o_37)
  clear o_37 h_37
  have P_43 := (Ext.refl w_37).alloc (.cells #[.int .i64 R0, .slice (some ⟨b_37, 0, none⟩) n0 n0] 27)
  have A0_44 := Lib.hid (A0_38.out.ext P_43)
  clear A0_38
  have S0_45 := Lib.hid (S0_39.out.ext P_43)
  clear S0_39
  have X0_46 := Lib.hid (X0_42.out.ext P_43)
  clear X0_42
  have E_47 := Lib.hid (E_40.out.trans P_43)
  clear E_40
  clear P_43
  have XB0_48 := Lib.hid (cells_new w_37 #[.int .i64 R0, .slice (some ⟨b_37, 0, none⟩) n0 n0] 27)
  go_wp2_with fail
  refine (toIntS_law _ _ _ xs1 _ (HR1.out.ext E_47.out) hn1).mono ?_
  rintro e w_49 ⟨b_49, rfl, o_49, h_49⟩
  have A0_50 := Lib.hid (A0_44.out.ext h_49)
  clear A0_44
  have S0_51 := Lib.hid (S0_45.out.ext h_49)
  clear S0_45
  have X0_52 := Lib.hid (X0_46.out.ext h_49)
  clear X0_46
  have XB0_53 := Lib.hid (XB0_48.out.ext h_49)
  clear XB0_48
  have E_54 := Lib.hid (E_47.out.trans h_49)
  clear E_47
  have z_55 := Ext.le h_49
  try simp only [World.size_alloc] at z_55
  have Z_55 := Lib.hid z_55
  clear z_55
  try simp only [World.size_alloc] at o_49
  have X1_56 := Lib.hid (o_49)
  clear o_49 h_49
  go_wp2_with fail
  refine (toIntS_law _ _ _ xs2 _ (HR2.out.ext E_54.out) hn2).mono ?_
  rintro e w_57 ⟨b_57, rfl, o_57, h_57⟩
  have A0_58 := Lib.hid (A0_50.out.ext h_57)
  clear A0_50
  have S0_59 := Lib.hid (S0_51.out.ext h_57)
  clear S0_51
  have X0_60 := Lib.hid (X0_52.out.ext h_57)
  clear X0_52
  have XB0_61 := Lib.hid (XB0_53.out.ext h_57)
  clear XB0_53
  have X1_62 := Lib.hid (X1_56.out.ext h_57)
  clear X1_56
  have E_63 := Lib.hid (E_54.out.trans h_57)
  clear E_54
  have z_64 := Ext.le h_57
  try simp only [World.size_alloc] at z_64
  have Z_64 := Lib.hid z_64
  clear z_64
  try simp only [World.size_alloc] at o_57
  have X2_65 := Lib.hid (o_57)
  clear o_57 h_57
  have lXB0 := XB0_61.out.1
  have qXB00 := XB0_61.out.2 0 _ rfl
  have qXB01 := XB0_61.out.2 1 _ rfl
  try simp only [World.size_alloc] at lXB0
  go_wp2_with fail
  refine (actWeight_impl X0_60.out.reads hn0 X1_62.out.reads hn1 X2_65.out.reads hn2 hM.out).mono ?_
  rintro e w_66 ⟨v0, rfl, ⟨ga0, gn0, gc0, rfl, gO0, gm0⟩, h_66⟩
  clear lXB0 qXB00 qXB01
  have A0_67 := Lib.hid (A0_58.out.ext h_66)
  clear A0_58
  have S0_68 := Lib.hid (S0_59.out.ext h_66)
  clear S0_59
  have X0_69 := Lib.hid (X0_60.out.ext h_66)
  clear X0_60
  have XB0_70 := Lib.hid (XB0_61.out.ext h_66)
  clear XB0_61
  have X1_71 := Lib.hid (X1_62.out.ext h_66)
  clear X1_62
  have X2_72 := Lib.hid (X2_65.out.ext h_66)
  clear X2_65
  have E_73 := Lib.hid (E_63.out.trans h_66)
  clear E_63
  have z_74 := Ext.le h_66
  try simp only [World.size_alloc] at z_74
  have Z_74 := Lib.hid z_74
  clear z_74
  clear h_66
  try simp only [World.size_alloc] at gO0
  have G0_75 := Lib.hid (gO0)
  clear gO0
  obtain rfl : sn0 = gn0 := S0_68.out.len.symm.trans G0_75.out.len
  go_wp2_with fail
  refine (eqIntS_x _ _ _ _ _ d0 _ G0_75.out.reads S0_68.out.reads gm0).mono ?_
  rintro e w_76 ⟨rfl, h_76⟩
  have A0_77 := Lib.hid (A0_67.out.ext h_76)
  clear A0_67
  have S0_78 := Lib.hid (S0_68.out.ext h_76)
  clear S0_68
  have X0_79 := Lib.hid (X0_69.out.ext h_76)
  clear X0_69
  have XB0_80 := Lib.hid (XB0_70.out.ext h_76)
  clear XB0_70
  have X1_81 := Lib.hid (X1_71.out.ext h_76)
  clear X1_71
  have X2_82 := Lib.hid (X2_72.out.ext h_76)
  clear X2_72
  have G0_83 := Lib.hid (G0_75.out.ext h_76)
  clear G0_75
  have E_84 := Lib.hid (E_73.out.trans h_76)
  clear E_73
  have z_85 := Ext.le h_76
  try simp only [World.size_alloc] at z_85
  have Z_85 := Lib.hid z_85
  clear z_85
  clear h_76
  have lXB0 := XB0_80.out.1
  have qXB00 := XB0_80.out.2 0 _ rfl
  have qXB01 := XB0_80.out.2 1 _ rfl
  have lA0 := A0_77.out.1
  have qA00 := A0_77.out.2 0 _ rfl
  have qA01 := A0_77.out.2 1 _ rfl
  try simp only [World.size_alloc] at lXB0 lA0
  go_wp2_with fail
  go_region_held3 (fun w' => Ext w_76 w' ∧ (∀ b o, b < w_76.heap.size → w'.cell? ⟨b, o, none⟩ = w_76.cell? ⟨b, o, none⟩)) (first | (with_reducible exact ext2 (Ext.trans (And.left ‹Ext w_76 _ ∧ _›) ‹Ext _ _›)) | (refine ext2 ?_; with_reducible repeat (first | exact Ext.refl _ | refine Ext.drew ?_))) (first
    | (go_at_call 16; refine (toCartan_law _ _ _ _ xs0 _ (HR0.out.ext (E_84.out.trans (And.left ‹Ext w_76 _ ∧ _›))) hn0).mono ?_; rintro e w_86 ⟨b_86, rfl, o_86, h_86⟩)
    | (go_at_call 19; refine (eqCartan_law _ _ _ _ _ _ xs0 _ (Own.reads (Own.ext X0_79.out (And.left ‹Ext w_76 _ ∧ _›))) (Own.reads o_86) hn0).mono ?_; rintro e w_87 ⟨rfl, h_87⟩))
  clear lXB0 qXB00 qXB01 lA0 qA00 qA01
  have hx_87 := And.left ‹Ext w_76 w_87 ∧ _›
  try clear h_86 h_87 o_86
  have A0_88 := Lib.hid (A0_77.out.ext hx_87)
  clear A0_77
  have S0_89 := Lib.hid (S0_78.out.ext hx_87)
  clear S0_78
  have X0_90 := Lib.hid (X0_79.out.ext hx_87)
  clear X0_79
  have XB0_91 := Lib.hid (XB0_80.out.ext hx_87)
  clear XB0_80
  have X1_92 := Lib.hid (X1_81.out.ext hx_87)
  clear X1_81
  have X2_93 := Lib.hid (X2_82.out.ext hx_87)
  clear X2_82
  have G0_94 := Lib.hid (G0_83.out.ext hx_87)
  clear G0_83
  have E_95 := Lib.hid (E_84.out.trans hx_87)
  clear E_84
  have z_96 := Ext.le hx_87
  try simp only [World.size_alloc] at z_96
  have Z_96 := Lib.hid z_96
  clear z_96
  clear hx_87
  go_wp2_with fail
  refine (toIntS_law _ _ _ xs1 _ (HR1.out.ext E_95.out) hn1).mono ?_
  rintro e w_97 ⟨b_97, rfl, o_97, h_97⟩
  have A0_98 := Lib.hid (A0_88.out.ext h_97)
  clear A0_88
  have S0_99 := Lib.hid (S0_89.out.ext h_97)
  clear S0_89
  have X0_100 := Lib.hid (X0_90.out.ext h_97)
  clear X0_90
  have XB0_101 := Lib.hid (XB0_91.out.ext h_97)
  clear XB0_91
  have X1_102 := Lib.hid (X1_92.out.ext h_97)
  clear X1_92
  have X2_103 := Lib.hid (X2_93.out.ext h_97)
  clear X2_93
  have G0_104 := Lib.hid (G0_94.out.ext h_97)
  clear G0_94
  have E_105 := Lib.hid (E_95.out.trans h_97)
  clear E_95
  have z_106 := Ext.le h_97
  try simp only [World.size_alloc] at z_106
  have Z_106 := Lib.hid z_106
  clear z_106
  have T_107 := Lib.hid (o_97)
  clear o_97 h_97
  go_wp2_with fail
  refine (eqIntS_x _ _ _ _ _ xs1 _ X1_102.out.reads T_107.out.reads hn1).mono ?_
  rintro e w_108 ⟨rfl, h_108⟩
  clear T_107
  have A0_109 := Lib.hid (A0_98.out.ext h_108)
  clear A0_98
  have S0_110 := Lib.hid (S0_99.out.ext h_108)
  clear S0_99
  have X0_111 := Lib.hid (X0_100.out.ext h_108)
  clear X0_100
  have XB0_112 := Lib.hid (XB0_101.out.ext h_108)
  clear XB0_101
  have X1_113 := Lib.hid (X1_102.out.ext h_108)
  clear X1_102
  have X2_114 := Lib.hid (X2_103.out.ext h_108)
  clear X2_103
  have G0_115 := Lib.hid (G0_104.out.ext h_108)
  clear G0_104
  have E_116 := Lib.hid (E_105.out.trans h_108)
  clear E_105
  have z_117 := Ext.le h_108
  try simp only [World.size_alloc] at z_117
  have Z_117 := Lib.hid z_117
  clear z_117
  clear h_108
  go_wp2_with fail
  refine (toIntS_law _ _ _ xs2 _ (HR2.out.ext E_116.out) hn2).mono ?_
  rintro e w_118 ⟨b_118, rfl, o_118, h_118⟩
  have A0_119 := Lib.hid (A0_109.out.ext h_118)
  clear A0_109
  have S0_120 := Lib.hid (S0_110.out.ext h_118)
  clear S0_110
  have X0_121 := Lib.hid (X0_111.out.ext h_118)
  clear X0_111
  have XB0_122 := Lib.hid (XB0_112.out.ext h_118)
  clear XB0_112
  have X1_123 := Lib.hid (X1_113.out.ext h_118)
  clear X1_113
  have X2_124 := Lib.hid (X2_114.out.ext h_118)
  clear X2_114
  have G0_125 := Lib.hid (G0_115.out.ext h_118)
  clear G0_115
  have E_126 := Lib.hid (E_116.out.trans h_118)
  clear E_116
  have z_127 := Ext.le h_118
  try simp only [World.size_alloc] at z_127
  have Z_127 := Lib.hid z_127
  clear z_127
  have T_128 := Lib.hid (o_118)
  clear o_118 h_118
  go_wp2_with fail
  refine (eqIntS_x _ _ _ _ _ xs2 _ X2_124.out.reads T_128.out.reads hn2).mono ?_
  rintro e w_129 ⟨rfl, h_129⟩
  clear T_128
  have A0_130 := Lib.hid (A0_119.out.ext h_129)
  clear A0_119
  have S0_131 := Lib.hid (S0_120.out.ext h_129)
  clear S0_120
  have X0_132 := Lib.hid (X0_121.out.ext h_129)
  clear X0_121
  have XB0_133 := Lib.hid (XB0_122.out.ext h_129)
  clear XB0_122
  have X1_134 := Lib.hid (X1_123.out.ext h_129)
  clear X1_123
  have X2_135 := Lib.hid (X2_124.out.ext h_129)
  clear X2_124
  have G0_136 := Lib.hid (G0_125.out.ext h_129)
  clear G0_125
  have E_137 := Lib.hid (E_126.out.trans h_129)
  clear E_126
  have z_138 := Ext.le h_129
  try simp only [World.size_alloc] at z_138
  have Z_138 := Lib.hid z_138
  clear z_138
  clear h_129
  have X0_b139 := Lib.hid X0_132.out.blk
  have lXB0 := XB0_133.out.1
  have qXB00 := XB0_133.out.2 0 _ rfl
  have qXB01 := XB0_133.out.2 1 _ rfl
  try simp only [World.size_alloc] at lXB0
  go_wp2_with fail
  refine (markCartan_law _ _ _ _ _ _ _ _ _ X0_132.out hn0 (by omega) (by omega)).mono ?_
  rintro e w_140 ⟨rfl, o_140, g_140⟩
  clear lXB0 qXB00 qXB01
  clear X0_132
  have A0_141 := Lib.hid (A0_130.out.grown g_140 (fun k hk => by have := X0_b139.out k hk; have := Z_13.out; have := Z_17.out; have := Z_23.out; have := Z_30.out; have := Z_35.out; have := Z_41.out; have := Z_55.out; have := Z_64.out; have := Z_74.out; have := Z_85.out; have := Z_96.out; have := Z_106.out; have := Z_117.out; have := Z_127.out; have := Z_138.out; omega))
  clear A0_130
  have S0_142 := Lib.hid (S0_131.out.grown g_140 (fun k hk => by have := X0_b139.out k hk; have := Z_13.out; have := Z_17.out; have := Z_23.out; have := Z_30.out; have := Z_35.out; have := Z_41.out; have := Z_55.out; have := Z_64.out; have := Z_74.out; have := Z_85.out; have := Z_96.out; have := Z_106.out; have := Z_117.out; have := Z_127.out; have := Z_138.out; omega))
  clear S0_131
  have XB0_143 := Lib.hid (XB0_133.out.grown g_140 (fun k hk => by have := X0_b139.out k hk; have := Z_13.out; have := Z_17.out; have := Z_23.out; have := Z_30.out; have := Z_35.out; have := Z_41.out; have := Z_55.out; have := Z_64.out; have := Z_74.out; have := Z_85.out; have := Z_96.out; have := Z_106.out; have := Z_117.out; have := Z_127.out; have := Z_138.out; omega))
  clear XB0_133
  have X1_144 := Lib.hid (X1_134.out.grown g_140 (fun k hk => by have := X0_b139.out k hk; have := Z_13.out; have := Z_17.out; have := Z_23.out; have := Z_30.out; have := Z_35.out; have := Z_41.out; have := Z_55.out; have := Z_64.out; have := Z_74.out; have := Z_85.out; have := Z_96.out; have := Z_106.out; have := Z_117.out; have := Z_127.out; have := Z_138.out; omega))
  clear X1_134
  have X2_145 := Lib.hid (X2_135.out.grown g_140 (fun k hk => by have := X0_b139.out k hk; have := Z_13.out; have := Z_17.out; have := Z_23.out; have := Z_30.out; have := Z_35.out; have := Z_41.out; have := Z_55.out; have := Z_64.out; have := Z_74.out; have := Z_85.out; have := Z_96.out; have := Z_106.out; have := Z_117.out; have := Z_127.out; have := Z_138.out; omega))
  clear X2_135
  have G0_146 := Lib.hid (G0_136.out.grown g_140 (fun k hk => by have := X0_b139.out k hk; have := Z_13.out; have := Z_17.out; have := Z_23.out; have := Z_30.out; have := Z_35.out; have := Z_41.out; have := Z_55.out; have := Z_64.out; have := Z_74.out; have := Z_85.out; have := Z_96.out; have := Z_106.out; have := Z_117.out; have := Z_127.out; have := Z_138.out; omega))
  clear G0_136
  have E_147 := Lib.hid (E_137.out.grown g_140 (fun k hk => by have := X0_b139.out k hk; have := Z_13.out; have := Z_17.out; have := Z_23.out; have := Z_30.out; have := Z_35.out; have := Z_41.out; have := Z_55.out; have := Z_64.out; have := Z_74.out; have := Z_85.out; have := Z_96.out; have := Z_106.out; have := Z_117.out; have := Z_127.out; have := Z_138.out; omega))
  clear E_137
  have Z_148 := Lib.hid g_140.size
  clear g_140 X0_b139
  have X0_149 := Lib.hid (o_140)
  clear o_140
  clear X0_149
  clear XB0_143
  have X1_b150 := Lib.hid X1_144.out.blk
  go_wp2_with fail
  refine (markIntS_law _ _ _ _ _ _ _ _ X1_144.out hn1 (by omega) (by omega)).mono ?_
  rintro e w_151 ⟨rfl, o_151, g_151⟩
  clear X1_144
  have A0_152 := Lib.hid (A0_141.out.grown g_151 (fun k hk => by have := X1_b150.out k hk; have := Z_13.out; have := Z_17.out; have := Z_23.out; have := Z_30.out; have := Z_35.out; have := Z_41.out; have := Z_55.out; have := Z_64.out; have := Z_74.out; have := Z_85.out; have := Z_96.out; have := Z_106.out; have := Z_117.out; have := Z_127.out; have := Z_138.out; have := Z_148.out; omega))
  clear A0_141
  have S0_153 := Lib.hid (S0_142.out.grown g_151 (fun k hk => by have := X1_b150.out k hk; have := Z_13.out; have := Z_17.out; have := Z_23.out; have := Z_30.out; have := Z_35.out; have := Z_41.out; have := Z_55.out; have := Z_64.out; have := Z_74.out; have := Z_85.out; have := Z_96.out; have := Z_106.out; have := Z_117.out; have := Z_127.out; have := Z_138.out; have := Z_148.out; omega))
  clear S0_142
  have X2_154 := Lib.hid (X2_145.out.grown g_151 (fun k hk => by have := X1_b150.out k hk; have := Z_13.out; have := Z_17.out; have := Z_23.out; have := Z_30.out; have := Z_35.out; have := Z_41.out; have := Z_55.out; have := Z_64.out; have := Z_74.out; have := Z_85.out; have := Z_96.out; have := Z_106.out; have := Z_117.out; have := Z_127.out; have := Z_138.out; have := Z_148.out; omega))
  clear X2_145
  have G0_155 := Lib.hid (G0_146.out.grown g_151 (fun k hk => by have := X1_b150.out k hk; have := Z_13.out; have := Z_17.out; have := Z_23.out; have := Z_30.out; have := Z_35.out; have := Z_41.out; have := Z_55.out; have := Z_64.out; have := Z_74.out; have := Z_85.out; have := Z_96.out; have := Z_106.out; have := Z_117.out; have := Z_127.out; have := Z_138.out; have := Z_148.out; omega))
  clear G0_146
  have E_156 := Lib.hid (E_147.out.grown g_151 (fun k hk => by have := X1_b150.out k hk; have := Z_13.out; have := Z_17.out; have := Z_23.out; have := Z_30.out; have := Z_35.out; have := Z_41.out; have := Z_55.out; have := Z_64.out; have := Z_74.out; have := Z_85.out; have := Z_96.out; have := Z_106.out; have := Z_117.out; have := Z_127.out; have := Z_138.out; have := Z_148.out; omega))
  clear E_147
  have Z_157 := Lib.hid g_151.size
  clear g_151 X1_b150
  have X1_158 := Lib.hid (o_151)
  clear o_151
  clear X1_158
  have X2_b159 := Lib.hid X2_154.out.blk
  go_wp2_with fail
  refine (markIntS_law _ _ _ _ _ _ _ _ X2_154.out hn2 (by omega) (by omega)).mono ?_
  rintro e w_160 ⟨rfl, o_160, g_160⟩
  clear X2_154
  have A0_161 := Lib.hid (A0_152.out.grown g_160 (fun k hk => by have := X2_b159.out k hk; have := Z_13.out; have := Z_17.out; have := Z_23.out; have := Z_30.out; have := Z_35.out; have := Z_41.out; have := Z_55.out; have := Z_64.out; have := Z_74.out; have := Z_85.out; have := Z_96.out; have := Z_106.out; have := Z_117.out; have := Z_127.out; have := Z_138.out; have := Z_148.out; have := Z_157.out; omega))
  clear A0_152
  have S0_162 := Lib.hid (S0_153.out.grown g_160 (fun k hk => by have := X2_b159.out k hk; have := Z_13.out; have := Z_17.out; have := Z_23.out; have := Z_30.out; have := Z_35.out; have := Z_41.out; have := Z_55.out; have := Z_64.out; have := Z_74.out; have := Z_85.out; have := Z_96.out; have := Z_106.out; have := Z_117.out; have := Z_127.out; have := Z_138.out; have := Z_148.out; have := Z_157.out; omega))
  clear S0_153
  have G0_163 := Lib.hid (G0_155.out.grown g_160 (fun k hk => by have := X2_b159.out k hk; have := Z_13.out; have := Z_17.out; have := Z_23.out; have := Z_30.out; have := Z_35.out; have := Z_41.out; have := Z_55.out; have := Z_64.out; have := Z_74.out; have := Z_85.out; have := Z_96.out; have := Z_106.out; have := Z_117.out; have := Z_127.out; have := Z_138.out; have := Z_148.out; have := Z_157.out; omega))
  clear G0_155
  have E_164 := Lib.hid (E_156.out.grown g_160 (fun k hk => by have := X2_b159.out k hk; have := Z_13.out; have := Z_17.out; have := Z_23.out; have := Z_30.out; have := Z_35.out; have := Z_41.out; have := Z_55.out; have := Z_64.out; have := Z_74.out; have := Z_85.out; have := Z_96.out; have := Z_106.out; have := Z_117.out; have := Z_127.out; have := Z_138.out; have := Z_148.out; have := Z_157.out; omega))
  clear E_156
  have Z_165 := Lib.hid g_160.size
  clear g_160 X2_b159
  have X2_166 := Lib.hid (o_160)
  clear o_160
  clear X2_166
  have hk : 0 ≤ 1 + (n0 : Int) + (n1 : Int) + (n2 : Int) := by omega
  go_wp2_with fail
  refine (eqIntS_x _ _ _ _ _ d0 _ G0_163.out.reads S0_162.out.reads gm0).mono ?_
  rintro e w_167 ⟨rfl, h_167⟩
  have A0_168 := Lib.hid (A0_161.out.ext h_167)
  clear A0_161
  have S0_169 := Lib.hid (S0_162.out.ext h_167)
  clear S0_162
  have G0_170 := Lib.hid (G0_163.out.ext h_167)
  clear G0_163
  have E_171 := Lib.hid (E_164.out.trans h_167)
  clear E_164
  have z_172 := Ext.le h_167
  try simp only [World.size_alloc] at z_172
  have Z_172 := Lib.hid z_172
  clear z_172
  clear h_167
  clear hk
  have G0_b173 := Lib.hid G0_170.out.blk
  go_wp2_with fail
  refine (markIntS_law _ _ _ _ _ _ _ _ G0_170.out gm0 (by omega) (by omega)).mono ?_
  rintro e w_174 ⟨rfl, o_174, g_174⟩
  clear G0_170
  have A0_175 := Lib.hid (A0_168.out.grown g_174 (fun k hk => by have := G0_b173.out k hk; have := Z_13.out; have := Z_17.out; have := Z_23.out; have := Z_30.out; have := Z_35.out; have := Z_41.out; have := Z_55.out; have := Z_64.out; have := Z_74.out; have := Z_85.out; have := Z_96.out; have := Z_106.out; have := Z_117.out; have := Z_127.out; have := Z_138.out; have := Z_148.out; have := Z_157.out; have := Z_165.out; have := Z_172.out; omega))
  clear A0_168
  have S0_176 := Lib.hid (S0_169.out.grown g_174 (fun k hk => by have := G0_b173.out k hk; have := Z_13.out; have := Z_17.out; have := Z_23.out; have := Z_30.out; have := Z_35.out; have := Z_41.out; have := Z_55.out; have := Z_64.out; have := Z_74.out; have := Z_85.out; have := Z_96.out; have := Z_106.out; have := Z_117.out; have := Z_127.out; have := Z_138.out; have := Z_148.out; have := Z_157.out; have := Z_165.out; have := Z_172.out; omega))
  clear S0_169
  have E_177 := Lib.hid (E_171.out.grown g_174 (fun k hk => by have := G0_b173.out k hk; have := Z_13.out; have := Z_17.out; have := Z_23.out; have := Z_30.out; have := Z_35.out; have := Z_41.out; have := Z_55.out; have := Z_64.out; have := Z_74.out; have := Z_85.out; have := Z_96.out; have := Z_106.out; have := Z_117.out; have := Z_127.out; have := Z_138.out; have := Z_148.out; have := Z_157.out; have := Z_165.out; have := Z_172.out; omega))
  clear E_171
  have Z_178 := Lib.hid g_174.size
  clear g_174 G0_b173
  have G0_179 := Lib.hid (o_174)
  clear o_174
  go_wp2_with fail
  refine (heldIntS_x _ _ _ _ _ G0_179.out.reads gm0 (by omega) (by omega)).mono ?_
  rintro e w_180 ⟨rfl, h_180⟩
  have hq180 : 0 ≤ 1 + (sn0 : Int) := by omega
  have A0_181 := Lib.hid (A0_175.out.ext h_180)
  clear A0_175
  have S0_182 := Lib.hid (S0_176.out.ext h_180)
  clear S0_176
  have G0_183 := Lib.hid (G0_179.out.ext h_180)
  clear G0_179
  have E_184 := Lib.hid (E_177.out.trans h_180)
  clear E_177
  have z_185 := Ext.le h_180
  try simp only [World.size_alloc] at z_185
  have Z_185 := Lib.hid z_185
  clear z_185
  clear h_180
  have lA0 := A0_181.out.1
  have qA00 := A0_181.out.2 0 _ rfl
  have qA01 := A0_181.out.2 1 _ rfl
  try simp only [World.size_alloc] at lA0
  go_wp2_with fail
  refine (toCartan_law _ _ _ _ xs0 _ (HR0.out.ext E_184.out) hn0).mono ?_
  rintro e w_186 ⟨b_186, rfl, o_186, h_186⟩
  clear lA0 qA00 qA01
  have A0_187 := Lib.hid (A0_181.out.ext h_186)
  clear A0_181
  have S0_188 := Lib.hid (S0_182.out.ext h_186)
  clear S0_182
  have G0_189 := Lib.hid (G0_183.out.ext h_186)
  clear G0_183
  have E_190 := Lib.hid (E_184.out.trans h_186)
  clear E_184
  have z_191 := Ext.le h_186
  try simp only [World.size_alloc] at z_191
  have Z_191 := Lib.hid z_191
  clear z_191
  have T0_192 := Lib.hid (o_186)
  clear o_186 h_186
  go_wp2_with fail
  refine (toIntS_law _ _ _ xs1 _ (HR1.out.ext E_190.out) hn1).mono ?_
  rintro e w_193 ⟨b_193, rfl, o_193, h_193⟩
  have A0_194 := Lib.hid (A0_187.out.ext h_193)
  clear A0_187
  have S0_195 := Lib.hid (S0_188.out.ext h_193)
  clear S0_188
  have G0_196 := Lib.hid (G0_189.out.ext h_193)
  clear G0_189
  have T0_197 := Lib.hid (T0_192.out.ext h_193)
  clear T0_192
  have E_198 := Lib.hid (E_190.out.trans h_193)
  clear E_190
  have z_199 := Ext.le h_193
  try simp only [World.size_alloc] at z_199
  have Z_199 := Lib.hid z_199
  clear z_199
  have T1_200 := Lib.hid (o_193)
  clear o_193 h_193
  go_wp2_with fail
  refine (toIntS_law _ _ _ xs2 _ (HR2.out.ext E_198.out) hn2).mono ?_
  rintro e w_201 ⟨b_201, rfl, o_201, h_201⟩
  have A0_202 := Lib.hid (A0_194.out.ext h_201)
  clear A0_194
  have S0_203 := Lib.hid (S0_195.out.ext h_201)
  clear S0_195
  have G0_204 := Lib.hid (G0_196.out.ext h_201)
  clear G0_196
  have T0_205 := Lib.hid (T0_197.out.ext h_201)
  clear T0_197
  have T1_206 := Lib.hid (T1_200.out.ext h_201)
  clear T1_200
  have E_207 := Lib.hid (E_198.out.trans h_201)
  clear E_198
  have z_208 := Ext.le h_201
  try simp only [World.size_alloc] at z_208
  have Z_208 := Lib.hid z_208
  clear z_208
  have T2_209 := Lib.hid (o_201)
  clear o_201 h_201
  go_wp2_with fail
  refine (actWeight_impl T0_205.out.reads hn0 T1_206.out.reads hn1 T2_209.out.reads hn2 hM.out).mono ?_
  rintro e w_210 ⟨v0, rfl, ⟨ta0, tn0, tc0, rfl, tO0, tm0⟩, h_210⟩
  clear T0_205
  clear T1_206
  clear T2_209
  have A0_211 := Lib.hid (A0_202.out.ext h_210)
  clear A0_202
  have S0_212 := Lib.hid (S0_203.out.ext h_210)
  clear S0_203
  have G0_213 := Lib.hid (G0_204.out.ext h_210)
  clear G0_204
  have E_214 := Lib.hid (E_207.out.trans h_210)
  clear E_207
  have z_215 := Ext.le h_210
  try simp only [World.size_alloc] at z_215
  have Z_215 := Lib.hid z_215
  clear z_215
  clear h_210
  try simp only [World.size_alloc] at tO0
  have H0_216 := Lib.hid (tO0)
  clear tO0
  obtain rfl : sn0 = tn0 := S0_212.out.len.symm.trans H0_216.out.len
  go_wp2_with fail
  refine (eqIntS_x _ _ _ _ _ d0 _ H0_216.out.reads S0_212.out.reads gm0).mono ?_
  rintro e w_217 ⟨rfl, h_217⟩
  have A0_218 := Lib.hid (A0_211.out.ext h_217)
  clear A0_211
  have S0_219 := Lib.hid (S0_212.out.ext h_217)
  clear S0_212
  have G0_220 := Lib.hid (G0_213.out.ext h_217)
  clear G0_213
  have H0_221 := Lib.hid (H0_216.out.ext h_217)
  clear H0_216
  have E_222 := Lib.hid (E_214.out.trans h_217)
  clear E_214
  have z_223 := Ext.le h_217
  try simp only [World.size_alloc] at z_223
  have Z_223 := Lib.hid z_223
  clear z_223
  clear h_217
  go_wp2_with fail
  refine (heldIntS_x _ _ _ _ _ G0_220.out.reads gm0 (by omega) (by omega)).mono ?_
  rintro e w_224 ⟨rfl, h_224⟩
  have hq224 : 0 ≤ 1 + (sn0 : Int) := by omega
  have A0_225 := Lib.hid (A0_218.out.ext h_224)
  clear A0_218
  have S0_226 := Lib.hid (S0_219.out.ext h_224)
  clear S0_219
  have G0_227 := Lib.hid (G0_220.out.ext h_224)
  clear G0_220
  have H0_228 := Lib.hid (H0_221.out.ext h_224)
  clear H0_221
  have E_229 := Lib.hid (E_222.out.trans h_224)
  clear E_222
  have z_230 := Ext.le h_224
  try simp only [World.size_alloc] at z_230
  have Z_230 := Lib.hid z_230
  clear z_230
  clear h_224
  go_wp2
  go_ret
  exact ⟨rfl, E_229.out⟩

set_option maxRecDepth 100000 in
theorem lifted (os : Os) (started : os.Started) (H : Type) (enc : TypeId × Value → H) :
    ReturnsInHanded {} Tryz.checked os 4 .any (Rows.fnExactActWeightSpec.pre6 enc Tryz.prog Tryz.f4 Rows.fnExactActWeightRow.domain false) (Rows.fnExactActWeightSpec.post enc Tryz.prog Tryz.f4 false true false false) := by
  refine returnsInHanded_of_change (C := Tryz.checked) own started (by kernel_rfl) Tryz.func4
    (ChangeSpec.witness6 (enc := enc) (C := Tryz.checked) false ⟨#[], #[.agg #[.int .i64 0, .slice none 0 0], .slice none 0 0, .slice none 0 0], []⟩ 8 (by kernel_rfl) (by kernel_rfl) (by kernel_rfl) (by kernel_rfl)) ?_
  intro W base args ds gs before hval0 hW hcnd _
  have hval : ∀ (j : Nat) t v, Tryz.f4.params[j]? = some t → args[j]? = some v → Value.okWide Tryz.prog W .any base t v := hval0
  have hW' := hW
  obtain ⟨p, q, hA0, hV, rfl, hfz, hnd⟩ := hW
  have hA : DataW.TrodAll enc Tryz.prog W 0 (fun _ => true) true Tryz.f4.params.toList args.toList ds p := hA0
  rw [Tryz.params4] at hA hval
  obtain ⟨v0, vs0, d0, ds0, p0, q0, hargs, rfl, rfl, h0, r0⟩ := trodAll_cons hA
  obtain ⟨v1, vs1, d1, ds1, p1, q1, rfl, rfl, rfl, h1, r1⟩ := trodAll_cons r0
  obtain ⟨v2, vs2, d2, ds2, p2, q2, rfl, rfl, rfl, h2, r2⟩ := trodAll_cons r1
  obtain ⟨rfl, rfl, rfl⟩ := trodAll_nil r2
  obtain rfl : args = #[v0, v1, v2] := by cases args; simp_all
  obtain ⟨rfl, rfl⟩ := trodVars_none hV
  have k0 := h0
  have lt0 : ∀ x ∈ p0, x.block < W.heap.size := by obtain ⟨m, hm⟩ := k0; exact DataW.trod_lt m _ _ _ hm
  obtain ⟨R0, a0, n0, c0, xs0, rfl, w0⟩ := open_car (hval 0 _ v0 rfl rfl) h0
  have k1 := h1
  have lt1 : ∀ x ∈ p1, x.block < W.heap.size := by obtain ⟨m, hm⟩ := k1; exact DataW.trod_lt m _ _ _ hm
  obtain ⟨a1, n1, c1, xs1, rfl, w1⟩ := open_intsl (hval 1 _ v1 rfl rfl) h1
  have k2 := h2
  have lt2 : ∀ x ∈ p2, x.block < W.heap.size := by obtain ⟨m, hm⟩ := k2; exact DataW.trod_lt m _ _ _ hm
  obtain ⟨a2, n2, c2, xs2, rfl, w2⟩ := open_intsl (hval 2 _ v2 rfl rfl) h2
  clear hA0 hval0
  refine (walk R0 a0 n0 c0 xs0 a1 n1 c1 xs1 a2 n2 c2 xs2 W w0 w1 w2).mono fun e W' ⟨he, bel⟩ => ?_
  subst he
  exact ⟨_, rfl, _, _, _, [], _, [], hW', trodAll_mk1 (shut_bool Tryz.underlying4 _), (trodAll_cons_mk (Below.trod laidOut (by kernel_rfl) (of_decide_eq_true (by kernel_rfl)) k0 bel lt0) (trodAll_cons_mk (Below.trod laidOut (by kernel_rfl) (of_decide_eq_true (by kernel_rfl)) k1 bel lt1) (trodAll_cons_mk (Below.trod laidOut (by kernel_rfl) (of_decide_eq_true (by kernel_rfl)) k2 bel lt2) trodAll_mk0))), rfl, Below.frame bel _, fun h => by cases h⟩

set_option maxRecDepth 1000000 in
set_option maxHeartbeats 40000000 in
theorem closed : joinedFacts Tryz.pinned.checked.prog 4 Tryz.f4 Rows.fnExactActWeightSpec Rows.fnExactActWeightRow = true := by
  unfold joinedFacts
  repeat' (with_reducible refine and2 ?_ ?_)
  all_goals (first | (with_reducible exact seat_laid) | (with_reducible exact seat_maps) | (with_reducible exact seat_heard) | (with_reducible exact seat_enter) | (with_reducible refine seat_lifts ?_; kernel_rfl) | (with_reducible refine seat_make ?_; kernel_rfl) | (with_reducible refine seat_plain ?_; kernel_rfl) | (as_aux_lemma => kernel_rfl))

theorem over : Rows.fnExactActWeightRow.holds Tryz.pinned (OpenSpec.ofChange Rows.fnExactActWeightSpec) :=
  OpenClaim.holds_of_wide 4 Tryz.f4 rfl rfl rfl rfl rfl rfl rfl ⟨rfl, rfl, rfl, rfl, rfl⟩ rfl rfl rfl rfl rfl (by kernel_rfl) Tryz.func4 closed
    (of_decide_eq_true (by kernel_rfl)) (by unfold Func.isWrapper; first | (rw [if_pos (by decide +kernel)]; kernel_rfl) | (rw [if_neg (by decide +kernel)]; exact ⟨rfl, rfl⟩))
    (fun os started H enc _ => lifted os started H enc)

/-- The statement. -/
theorem proved : Rows.FnExactActWeightSaid := over
#print axioms proved
end Go.Proofs.YthhgodjobddenaaGreat.fnExactActWeight
