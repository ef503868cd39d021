/-
  Proved: the statement given for the law FnExactAdjointOf: at every input the Go text returns true, with no panic, and the arguments read as they read before. No condition is added.
-/
import Derived.Test.YtafeognjplphhaaBox
import Derived.Test.YtafeognjplphhaaRowA
import Derived.Test.YtafeognjplphhaaBrkS
import Derived.Test.YtafeognjplphhaaSAlgebra
import Derived.Test.YtafeognjplphhaaSMatrix
namespace Go.Proofs.Ytafeognjplphhaa.fnExactAdjointOf
open Go.ChangeShapes Go.WideShapes Go.ChangeAt Go.RowKit
open Go.ChangeMaps (open_string shut_string)
set_option linter.unusedVariables false

set_option maxRecDepth 100000 in
set_option maxHeartbeats 3200000 in
/-- The walk: the Go text returns true, and nothing that was there has changed. -/
theorem walk (P0 D0 : Int) (a0 : Option Addr) (n0 c0 : Nat) (xs0 : List Int) (a1 : Option Addr) (n1 c1 : Nat) (xs1 : List Int) (w : World) (w0 : Reads w a0 n0 xs0 ∧ n0 ≤ maxLen) (w1 : Reads w a1 n1 xs1 ∧ n1 ≤ maxLen) :
    Calls Try.prog 14 #[.agg #[.int .i64 P0, .int .i64 D0, .slice a0 n0 c0], .slice a1 n1 c1] w fun e w' => e = .returned (.bool true) ∧ Ext w w' := by
  obtain ⟨hr0, hm0⟩ := w0
  have HR0 := Lib.hid hr0
  clear hr0
  obtain ⟨hr1, hm1⟩ := w1
  have HR1 := Lib.hid hr1
  clear hr1
  rcases hM0 : adjM P0 D0 xs0 xs1 with ⟨pP0, pR0, pC0, d0⟩
  have hM := Lib.hid hM0
  clear hM0
  by_cases hz0 : (n1 : Int) ≤ 1048576
  case neg =>
    go_enter Try.func14, Try.ntmps14
    have T0 := cells_new' w #[.int .i64 P0, .int .i64 D0, .slice a0 n0 c0] 43 (w.heap.size) (by simp)
    have A0_1 := Lib.hid (T0.ext (Ext.refl _))
    clear T0
    have E_2 := Lib.hid ((Ext.refl w).alloc (.cells #[.int .i64 P0, .int .i64 D0, .slice a0 n0 c0] 43))
    have hlt : (1048576 : Int) < (n1 : Int) := by omega
    go_wp2
    go_ret
    exact ⟨rfl, E_2.out⟩
  by_cases hz1 : (n0 : Int) ≤ 1048576
  case neg =>
    go_enter Try.func14, Try.ntmps14
    have T0 := cells_new' w #[.int .i64 P0, .int .i64 D0, .slice a0 n0 c0] 43 (w.heap.size) (by simp)
    have A0_3 := Lib.hid (T0.ext (Ext.refl _))
    clear T0
    have E_4 := Lib.hid ((Ext.refl w).alloc (.cells #[.int .i64 P0, .int .i64 D0, .slice a0 n0 c0] 43))
    have lA0 := A0_3.out.1
    have qA00 := A0_3.out.2 0 _ rfl
    have qA01 := A0_3.out.2 1 _ rfl
    have qA02 := A0_3.out.2 2 _ rfl
    try simp only [World.size_alloc] at lA0
    go_wp2_with fail
    refine (szAlgebra_no _ _ _ _ _ _ _ (by omega) (by omega) hm0 (by omega)).mono ?_
    rintro e w_5 ⟨rfl, h_5⟩
    clear lA0 qA00 qA01 qA02
    go_wp2
    go_ret
    exact ⟨rfl, E_4.out.trans h_5⟩
  have hn0 : n0 ≤ 1048576 := by omega
  have hn1 : n1 ≤ 1048576 := by omega
  go_enter Try.func14, Try.ntmps14
  have T0 := cells_new' w #[.int .i64 P0, .int .i64 D0, .slice a0 n0 c0] 43 (w.heap.size) (by simp)
  have A0_6 := Lib.hid (T0.ext (Ext.refl _))
  clear T0
  have E_7 := Lib.hid ((Ext.refl w).alloc (.cells #[.int .i64 P0, .int .i64 D0, .slice a0 n0 c0] 43))
  have lA0 := A0_6.out.1
  have qA00 := A0_6.out.2 0 _ rfl
  have qA01 := A0_6.out.2 1 _ rfl
  have qA02 := A0_6.out.2 2 _ rfl
  try simp only [World.size_alloc] at lA0
  go_wp2_with fail
  refine (szAlgebra_yes _ _ _ _ _ _ _ (by omega) (by omega)).mono ?_
  rintro e w_8 ⟨rfl, h_8⟩
  clear lA0 qA00 qA01 qA02
  have A0_9 := Lib.hid (A0_6.out.ext h_8)
  clear A0_6
  have E_10 := Lib.hid (E_7.out.trans h_8)
  clear E_7
  have z_11 := Ext.le h_8
  try simp only [World.size_alloc] at z_11
  have Z_11 := Lib.hid z_11
  clear z_11
  clear h_8
  have hp : 0 ≤ 1048576 - (n0 : Int) := by omega
  have lA0 := A0_9.out.1
  have qA00 := A0_9.out.2 0 _ rfl
  have qA01 := A0_9.out.2 1 _ rfl
  have qA02 := A0_9.out.2 2 _ rfl
  try simp only [World.size_alloc] at lA0
  go_wp2_with fail
  refine (toAlgebra_law _ _ _ _ _ xs0 _ (HR0.out.ext E_10.out) hn0).mono ?_
  rintro e w_12 ⟨b_12, rfl, o_12, h_12⟩
  clear lA0 qA00 qA01 qA02
  have A0_13 := Lib.hid (A0_9.out.ext h_12)
  clear A0_9
  have E_14 := Lib.hid (E_10.out.trans h_12)
  clear E_10
  have z_15 := Ext.le h_12
  try simp only [World.size_alloc] at z_15
  have Z_15 := Lib.hid z_15
  clear z_15
  have T0_16 := Lib.hid (o_12)
  clear o_12 h_12
  go_wp2_with fail
  refine (toIntS_law _ _ _ xs1 _ (HR1.out.ext E_14.out) hn1).mono ?_
  rintro e w_17 ⟨b_17, rfl, o_17, h_17⟩
  have A0_18 := Lib.hid (A0_13.out.ext h_17)
  clear A0_13
  have T0_19 := Lib.hid (T0_16.out.ext h_17)
  clear T0_16
  have E_20 := Lib.hid (E_14.out.trans h_17)
  clear E_14
  have z_21 := Ext.le h_17
  try simp only [World.size_alloc] at z_21
  have Z_21 := Lib.hid z_21
  clear z_21
  have T1_22 := Lib.hid (o_17)
  clear o_17 h_17
  go_wp2_with fail
  refine (adjointOf_spec T0_19.out.reads hn0 T1_22.out.reads hn1 hM.out).mono ?_
  rintro e w_23 ⟨v0, rfl, ⟨sa0, sn0, sc0, rfl, sO0, sm0⟩, h_23⟩
  clear T0_19
  clear T1_22
  have A0_24 := Lib.hid (A0_18.out.ext h_23)
  clear A0_18
  have E_25 := Lib.hid (E_20.out.trans h_23)
  clear E_20
  have z_26 := Ext.le h_23
  try simp only [World.size_alloc] at z_26
  have Z_26 := Lib.hid z_26
  clear z_26
  clear h_23
  try simp only [World.size_alloc] at sO0
  have S0_27 := Lib.hid (sO0)
  clear sO0
  have P_28 := (Ext.refl w_23).alloc (.cells #[.int .i64 pP0, .int .i64 pR0, .int .i64 pC0, .slice sa0 sn0 sc0] 26)
  have A0_29 := Lib.hid (A0_24.out.ext P_28)
  clear A0_24
  have S0_30 := Lib.hid (S0_27.out.ext P_28)
  clear S0_27
  have E_31 := Lib.hid (E_25.out.trans P_28)
  clear E_25
  clear P_28
  have SB0_32 := Lib.hid (cells_new w_23 #[.int .i64 pP0, .int .i64 pR0, .int .i64 pC0, .slice sa0 sn0 sc0] 26)
  have lA0 := A0_29.out.1
  have qA00 := A0_29.out.2 0 _ rfl
  have qA01 := A0_29.out.2 1 _ rfl
  have qA02 := A0_29.out.2 2 _ rfl
  try simp only [World.size_alloc] at lA0
  go_wp2_with fail
  refine (toAlgebra_law _ _ _ _ _ xs0 _ (HR0.out.ext E_31.out) hn0).mono ?_
  rintro e w_33 ⟨b_33, rfl, o_33, h_33⟩
  clear lA0 qA00 qA01 qA02
  have A0_34 := Lib.hid (A0_29.out.ext h_33)
  clear A0_29
  have S0_35 := Lib.hid (S0_30.out.ext h_33)
  clear S0_30
  have SB0_36 := Lib.hid (SB0_32.out.ext h_33)
  clear SB0_32
  have E_37 := Lib.hid (E_31.out.trans h_33)
  clear E_31
  have z_38 := Ext.le h_33
  try simp only [World.size_alloc] at z_38
  have Z_38 := Lib.hid z_38
  clear z_38
  try simp only [World.size_alloc] at o_33
  have X0_39 := Lib.hid (o_33)
  clear o_33 h_33
  have P_40 := (Ext.refl w_33).alloc (.cells #[.int .i64 P0, .int .i64 D0, .slice (some ⟨b_33, 0, none⟩) n0 n0] 46)
  have A0_41 := Lib.hid (A0_34.out.ext P_40)
  clear A0_34
  have S0_42 := Lib.hid (S0_35.out.ext P_40)
  clear S0_35
  have SB0_43 := Lib.hid (SB0_36.out.ext P_40)
  clear SB0_36
  have X0_44 := Lib.hid (X0_39.out.ext P_40)
  clear X0_39
  have E_45 := Lib.hid (E_37.out.trans P_40)
  clear E_37
  clear P_40
  have XB0_46 := Lib.hid (cells_new w_33 #[.int .i64 P0, .int .i64 D0, .slice (some ⟨b_33, 0, none⟩) n0 n0] 46)
  go_wp2_with fail
  refine (toIntS_law _ _ _ xs1 _ (HR1.out.ext E_45.out) hn1).mono ?_
  rintro e w_47 ⟨b_47, rfl, o_47, h_47⟩
  have A0_48 := Lib.hid (A0_41.out.ext h_47)
  clear A0_41
  have S0_49 := Lib.hid (S0_42.out.ext h_47)
  clear S0_42
  have SB0_50 := Lib.hid (SB0_43.out.ext h_47)
  clear SB0_43
  have X0_51 := Lib.hid (X0_44.out.ext h_47)
  clear X0_44
  have XB0_52 := Lib.hid (XB0_46.out.ext h_47)
  clear XB0_46
  have E_53 := Lib.hid (E_45.out.trans h_47)
  clear E_45
  have z_54 := Ext.le h_47
  try simp only [World.size_alloc] at z_54
  have Z_54 := Lib.hid z_54
  clear z_54
  try simp only [World.size_alloc] at o_47
  have X1_55 := Lib.hid (o_47)
  clear o_47 h_47
  have lXB0 := XB0_52.out.1
  have qXB00 := XB0_52.out.2 0 _ rfl
  have qXB01 := XB0_52.out.2 1 _ rfl
  have qXB02 := XB0_52.out.2 2 _ rfl
  try simp only [World.size_alloc] at lXB0
  go_wp2_with fail
  refine (adjointOf_impl X0_51.out.reads hn0 X1_55.out.reads hn1 hM.out).mono ?_
  rintro e w_56 ⟨v0, rfl, ⟨ga0, gn0, gc0, rfl, gO0, gm0⟩, h_56⟩
  clear lXB0 qXB00 qXB01 qXB02
  have A0_57 := Lib.hid (A0_48.out.ext h_56)
  clear A0_48
  have S0_58 := Lib.hid (S0_49.out.ext h_56)
  clear S0_49
  have SB0_59 := Lib.hid (SB0_50.out.ext h_56)
  clear SB0_50
  have X0_60 := Lib.hid (X0_51.out.ext h_56)
  clear X0_51
  have XB0_61 := Lib.hid (XB0_52.out.ext h_56)
  clear XB0_52
  have X1_62 := Lib.hid (X1_55.out.ext h_56)
  clear X1_55
  have E_63 := Lib.hid (E_53.out.trans h_56)
  clear E_53
  have z_64 := Ext.le h_56
  try simp only [World.size_alloc] at z_64
  have Z_64 := Lib.hid z_64
  clear z_64
  clear h_56
  try simp only [World.size_alloc] at gO0
  have G0_65 := Lib.hid (gO0)
  clear gO0
  have P_66 := (Ext.refl w_56).alloc (.cells #[.int .i64 pP0, .int .i64 pR0, .int .i64 pC0, .slice ga0 gn0 gc0] 26)
  have A0_67 := Lib.hid (A0_57.out.ext P_66)
  clear A0_57
  have S0_68 := Lib.hid (S0_58.out.ext P_66)
  clear S0_58
  have SB0_69 := Lib.hid (SB0_59.out.ext P_66)
  clear SB0_59
  have X0_70 := Lib.hid (X0_60.out.ext P_66)
  clear X0_60
  have XB0_71 := Lib.hid (XB0_61.out.ext P_66)
  clear XB0_61
  have X1_72 := Lib.hid (X1_62.out.ext P_66)
  clear X1_62
  have G0_73 := Lib.hid (G0_65.out.ext P_66)
  clear G0_65
  have E_74 := Lib.hid (E_63.out.trans P_66)
  clear E_63
  clear P_66
  have GB0_75 := Lib.hid (cells_new w_56 #[.int .i64 pP0, .int .i64 pR0, .int .i64 pC0, .slice ga0 gn0 gc0] 26)
  obtain rfl : sn0 = gn0 := S0_68.out.len.symm.trans G0_73.out.len
  have lGB0 := GB0_75.out.1
  have qGB00 := GB0_75.out.2 0 _ rfl
  have qGB01 := GB0_75.out.2 1 _ rfl
  have qGB02 := GB0_75.out.2 2 _ rfl
  have qGB03 := GB0_75.out.2 3 _ rfl
  have lSB0 := SB0_69.out.1
  have qSB00 := SB0_69.out.2 0 _ rfl
  have qSB01 := SB0_69.out.2 1 _ rfl
  have qSB02 := SB0_69.out.2 2 _ rfl
  have qSB03 := SB0_69.out.2 3 _ rfl
  try simp only [World.size_alloc] at lGB0 lSB0
  go_wp2_with fail
  refine (eqMatrix_law _ _ _ _ _ _ _ _ d0 _ G0_73.out.reads S0_68.out.reads gm0).mono ?_
  rintro e w_76 ⟨rfl, h_76⟩
  clear lGB0 qGB00 qGB01 qGB02 qGB03 lSB0 qSB00 qSB01 qSB02 qSB03
  have A0_77 := Lib.hid (A0_67.out.ext h_76)
  clear A0_67
  have S0_78 := Lib.hid (S0_68.out.ext h_76)
  clear S0_68
  have SB0_79 := Lib.hid (SB0_69.out.ext h_76)
  clear SB0_69
  have X0_80 := Lib.hid (X0_70.out.ext h_76)
  clear X0_70
  have XB0_81 := Lib.hid (XB0_71.out.ext h_76)
  clear XB0_71
  have X1_82 := Lib.hid (X1_72.out.ext h_76)
  clear X1_72
  have G0_83 := Lib.hid (G0_73.out.ext h_76)
  clear G0_73
  have GB0_84 := Lib.hid (GB0_75.out.ext h_76)
  clear GB0_75
  have E_85 := Lib.hid (E_74.out.trans h_76)
  clear E_74
  have z_86 := Ext.le h_76
  try simp only [World.size_alloc] at z_86
  have Z_86 := Lib.hid z_86
  clear z_86
  clear h_76
  have lXB0 := XB0_81.out.1
  have qXB00 := XB0_81.out.2 0 _ rfl
  have qXB01 := XB0_81.out.2 1 _ rfl
  have qXB02 := XB0_81.out.2 2 _ rfl
  have lA0 := A0_77.out.1
  have qA00 := A0_77.out.2 0 _ rfl
  have qA01 := A0_77.out.2 1 _ rfl
  have qA02 := A0_77.out.2 2 _ rfl
  try simp only [World.size_alloc] at lXB0 lA0
  go_wp2_with fail
  go_region_held3 (fun w' => Ext w_76 w' ∧ (∀ b o, b < w_76.heap.size → w'.cell? ⟨b, o, none⟩ = w_76.cell? ⟨b, o, none⟩)) (first | (with_reducible exact ext2 (Ext.trans (And.left ‹Ext w_76 _ ∧ _›) ‹Ext _ _›)) | (refine ext2 ?_; with_reducible repeat (first | exact Ext.refl _ | refine Ext.drew ?_))) (first
    | (go_at_call 40; refine (toAlgebra_law _ _ _ _ _ xs0 _ (HR0.out.ext (E_85.out.trans (And.left ‹Ext w_76 _ ∧ _›))) hn0).mono ?_; rintro e w_87 ⟨b_87, rfl, o_87, h_87⟩)
    | (go_at_call 42; refine (eqAlgebra_law _ _ _ _ _ _ _ xs0 _ (Own.reads (Own.ext X0_80.out (And.left ‹Ext w_76 _ ∧ _›))) (Own.reads o_87) hn0).mono ?_; rintro e w_88 ⟨rfl, h_88⟩))
  clear lXB0 qXB00 qXB01 qXB02 lA0 qA00 qA01 qA02
  have hx_88 := And.left ‹Ext w_76 w_88 ∧ _›
  try clear h_87 h_88 o_87
  have A0_89 := Lib.hid (A0_77.out.ext hx_88)
  clear A0_77
  have S0_90 := Lib.hid (S0_78.out.ext hx_88)
  clear S0_78
  have SB0_91 := Lib.hid (SB0_79.out.ext hx_88)
  clear SB0_79
  have X0_92 := Lib.hid (X0_80.out.ext hx_88)
  clear X0_80
  have XB0_93 := Lib.hid (XB0_81.out.ext hx_88)
  clear XB0_81
  have X1_94 := Lib.hid (X1_82.out.ext hx_88)
  clear X1_82
  have G0_95 := Lib.hid (G0_83.out.ext hx_88)
  clear G0_83
  have GB0_96 := Lib.hid (GB0_84.out.ext hx_88)
  clear GB0_84
  have E_97 := Lib.hid (E_85.out.trans hx_88)
  clear E_85
  have z_98 := Ext.le hx_88
  try simp only [World.size_alloc] at z_98
  have Z_98 := Lib.hid z_98
  clear z_98
  clear hx_88
  go_wp2_with fail
  refine (toIntS_law _ _ _ xs1 _ (HR1.out.ext E_97.out) hn1).mono ?_
  rintro e w_99 ⟨b_99, rfl, o_99, h_99⟩
  have A0_100 := Lib.hid (A0_89.out.ext h_99)
  clear A0_89
  have S0_101 := Lib.hid (S0_90.out.ext h_99)
  clear S0_90
  have SB0_102 := Lib.hid (SB0_91.out.ext h_99)
  clear SB0_91
  have X0_103 := Lib.hid (X0_92.out.ext h_99)
  clear X0_92
  have XB0_104 := Lib.hid (XB0_93.out.ext h_99)
  clear XB0_93
  have X1_105 := Lib.hid (X1_94.out.ext h_99)
  clear X1_94
  have G0_106 := Lib.hid (G0_95.out.ext h_99)
  clear G0_95
  have GB0_107 := Lib.hid (GB0_96.out.ext h_99)
  clear GB0_96
  have E_108 := Lib.hid (E_97.out.trans h_99)
  clear E_97
  have z_109 := Ext.le h_99
  try simp only [World.size_alloc] at z_109
  have Z_109 := Lib.hid z_109
  clear z_109
  have T_110 := Lib.hid (o_99)
  clear o_99 h_99
  go_wp2_with fail
  refine (eqIntS_x _ _ _ _ _ xs1 _ X1_105.out.reads T_110.out.reads hn1).mono ?_
  rintro e w_111 ⟨rfl, h_111⟩
  clear T_110
  have A0_112 := Lib.hid (A0_100.out.ext h_111)
  clear A0_100
  have S0_113 := Lib.hid (S0_101.out.ext h_111)
  clear S0_101
  have SB0_114 := Lib.hid (SB0_102.out.ext h_111)
  clear SB0_102
  have X0_115 := Lib.hid (X0_103.out.ext h_111)
  clear X0_103
  have XB0_116 := Lib.hid (XB0_104.out.ext h_111)
  clear XB0_104
  have X1_117 := Lib.hid (X1_105.out.ext h_111)
  clear X1_105
  have G0_118 := Lib.hid (G0_106.out.ext h_111)
  clear G0_106
  have GB0_119 := Lib.hid (GB0_107.out.ext h_111)
  clear GB0_107
  have E_120 := Lib.hid (E_108.out.trans h_111)
  clear E_108
  have z_121 := Ext.le h_111
  try simp only [World.size_alloc] at z_121
  have Z_121 := Lib.hid z_121
  clear z_121
  clear h_111
  have X0_b122 := Lib.hid X0_115.out.blk
  have lXB0 := XB0_116.out.1
  have qXB00 := XB0_116.out.2 0 _ rfl
  have qXB01 := XB0_116.out.2 1 _ rfl
  have qXB02 := XB0_116.out.2 2 _ rfl
  try simp only [World.size_alloc] at lXB0
  go_wp2_with fail
  refine (markAlgebra_law _ _ _ _ _ _ _ _ _ _ X0_115.out hn0 (by omega) (by omega)).mono ?_
  rintro e w_123 ⟨rfl, o_123, g_123⟩
  clear lXB0 qXB00 qXB01 qXB02
  clear X0_115
  have A0_124 := Lib.hid (A0_112.out.grown g_123 (fun k hk => by have := X0_b122.out k hk; have := Z_11.out; have := Z_15.out; have := Z_21.out; have := Z_26.out; have := Z_38.out; have := Z_54.out; have := Z_64.out; have := Z_86.out; have := Z_98.out; have := Z_109.out; have := Z_121.out; omega))
  clear A0_112
  have S0_125 := Lib.hid (S0_113.out.grown g_123 (fun k hk => by have := X0_b122.out k hk; have := Z_11.out; have := Z_15.out; have := Z_21.out; have := Z_26.out; have := Z_38.out; have := Z_54.out; have := Z_64.out; have := Z_86.out; have := Z_98.out; have := Z_109.out; have := Z_121.out; omega))
  clear S0_113
  have SB0_126 := Lib.hid (SB0_114.out.grown g_123 (fun k hk => by have := X0_b122.out k hk; have := Z_11.out; have := Z_15.out; have := Z_21.out; have := Z_26.out; have := Z_38.out; have := Z_54.out; have := Z_64.out; have := Z_86.out; have := Z_98.out; have := Z_109.out; have := Z_121.out; omega))
  clear SB0_114
  have XB0_127 := Lib.hid (XB0_116.out.grown g_123 (fun k hk => by have := X0_b122.out k hk; have := Z_11.out; have := Z_15.out; have := Z_21.out; have := Z_26.out; have := Z_38.out; have := Z_54.out; have := Z_64.out; have := Z_86.out; have := Z_98.out; have := Z_109.out; have := Z_121.out; omega))
  clear XB0_116
  have X1_128 := Lib.hid (X1_117.out.grown g_123 (fun k hk => by have := X0_b122.out k hk; have := Z_11.out; have := Z_15.out; have := Z_21.out; have := Z_26.out; have := Z_38.out; have := Z_54.out; have := Z_64.out; have := Z_86.out; have := Z_98.out; have := Z_109.out; have := Z_121.out; omega))
  clear X1_117
  have G0_129 := Lib.hid (G0_118.out.grown g_123 (fun k hk => by have := X0_b122.out k hk; have := Z_11.out; have := Z_15.out; have := Z_21.out; have := Z_26.out; have := Z_38.out; have := Z_54.out; have := Z_64.out; have := Z_86.out; have := Z_98.out; have := Z_109.out; have := Z_121.out; omega))
  clear G0_118
  have GB0_130 := Lib.hid (GB0_119.out.grown g_123 (fun k hk => by have := X0_b122.out k hk; have := Z_11.out; have := Z_15.out; have := Z_21.out; have := Z_26.out; have := Z_38.out; have := Z_54.out; have := Z_64.out; have := Z_86.out; have := Z_98.out; have := Z_109.out; have := Z_121.out; omega))
  clear GB0_119
  have E_131 := Lib.hid (E_120.out.grown g_123 (fun k hk => by have := X0_b122.out k hk; have := Z_11.out; have := Z_15.out; have := Z_21.out; have := Z_26.out; have := Z_38.out; have := Z_54.out; have := Z_64.out; have := Z_86.out; have := Z_98.out; have := Z_109.out; have := Z_121.out; omega))
  clear E_120
  have Z_132 := Lib.hid g_123.size
  clear g_123 X0_b122
  have X0_133 := Lib.hid (o_123)
  clear o_123
  clear X0_133
  clear XB0_127
  have X1_b134 := Lib.hid X1_128.out.blk
  go_wp2_with fail
  refine (markIntS_law _ _ _ _ _ _ _ _ X1_128.out hn1 (by omega) (by omega)).mono ?_
  rintro e w_135 ⟨rfl, o_135, g_135⟩
  clear X1_128
  have A0_136 := Lib.hid (A0_124.out.grown g_135 (fun k hk => by have := X1_b134.out k hk; have := Z_11.out; have := Z_15.out; have := Z_21.out; have := Z_26.out; have := Z_38.out; have := Z_54.out; have := Z_64.out; have := Z_86.out; have := Z_98.out; have := Z_109.out; have := Z_121.out; have := Z_132.out; omega))
  clear A0_124
  have S0_137 := Lib.hid (S0_125.out.grown g_135 (fun k hk => by have := X1_b134.out k hk; have := Z_11.out; have := Z_15.out; have := Z_21.out; have := Z_26.out; have := Z_38.out; have := Z_54.out; have := Z_64.out; have := Z_86.out; have := Z_98.out; have := Z_109.out; have := Z_121.out; have := Z_132.out; omega))
  clear S0_125
  have SB0_138 := Lib.hid (SB0_126.out.grown g_135 (fun k hk => by have := X1_b134.out k hk; have := Z_11.out; have := Z_15.out; have := Z_21.out; have := Z_26.out; have := Z_38.out; have := Z_54.out; have := Z_64.out; have := Z_86.out; have := Z_98.out; have := Z_109.out; have := Z_121.out; have := Z_132.out; omega))
  clear SB0_126
  have G0_139 := Lib.hid (G0_129.out.grown g_135 (fun k hk => by have := X1_b134.out k hk; have := Z_11.out; have := Z_15.out; have := Z_21.out; have := Z_26.out; have := Z_38.out; have := Z_54.out; have := Z_64.out; have := Z_86.out; have := Z_98.out; have := Z_109.out; have := Z_121.out; have := Z_132.out; omega))
  clear G0_129
  have GB0_140 := Lib.hid (GB0_130.out.grown g_135 (fun k hk => by have := X1_b134.out k hk; have := Z_11.out; have := Z_15.out; have := Z_21.out; have := Z_26.out; have := Z_38.out; have := Z_54.out; have := Z_64.out; have := Z_86.out; have := Z_98.out; have := Z_109.out; have := Z_121.out; have := Z_132.out; omega))
  clear GB0_130
  have E_141 := Lib.hid (E_131.out.grown g_135 (fun k hk => by have := X1_b134.out k hk; have := Z_11.out; have := Z_15.out; have := Z_21.out; have := Z_26.out; have := Z_38.out; have := Z_54.out; have := Z_64.out; have := Z_86.out; have := Z_98.out; have := Z_109.out; have := Z_121.out; have := Z_132.out; omega))
  clear E_131
  have Z_142 := Lib.hid g_135.size
  clear g_135 X1_b134
  have X1_143 := Lib.hid (o_135)
  clear o_135
  clear X1_143
  have hk : 0 ≤ 1 + (n0 : Int) + (n1 : Int) := by omega
  have lGB0 := GB0_140.out.1
  have qGB00 := GB0_140.out.2 0 _ rfl
  have qGB01 := GB0_140.out.2 1 _ rfl
  have qGB02 := GB0_140.out.2 2 _ rfl
  have qGB03 := GB0_140.out.2 3 _ rfl
  have lSB0 := SB0_138.out.1
  have qSB00 := SB0_138.out.2 0 _ rfl
  have qSB01 := SB0_138.out.2 1 _ rfl
  have qSB02 := SB0_138.out.2 2 _ rfl
  have qSB03 := SB0_138.out.2 3 _ rfl
  try simp only [World.size_alloc] at lGB0 lSB0
  go_wp2_with fail
  refine (eqMatrix_law _ _ _ _ _ _ _ _ d0 _ G0_139.out.reads S0_137.out.reads gm0).mono ?_
  rintro e w_144 ⟨rfl, h_144⟩
  clear lGB0 qGB00 qGB01 qGB02 qGB03 lSB0 qSB00 qSB01 qSB02 qSB03
  have A0_145 := Lib.hid (A0_136.out.ext h_144)
  clear A0_136
  have S0_146 := Lib.hid (S0_137.out.ext h_144)
  clear S0_137
  have SB0_147 := Lib.hid (SB0_138.out.ext h_144)
  clear SB0_138
  have G0_148 := Lib.hid (G0_139.out.ext h_144)
  clear G0_139
  have GB0_149 := Lib.hid (GB0_140.out.ext h_144)
  clear GB0_140
  have E_150 := Lib.hid (E_141.out.trans h_144)
  clear E_141
  have z_151 := Ext.le h_144
  try simp only [World.size_alloc] at z_151
  have Z_151 := Lib.hid z_151
  clear z_151
  clear h_144
  clear hk
  have G0_b152 := Lib.hid G0_148.out.blk
  have lGB0 := GB0_149.out.1
  have qGB00 := GB0_149.out.2 0 _ rfl
  have qGB01 := GB0_149.out.2 1 _ rfl
  have qGB02 := GB0_149.out.2 2 _ rfl
  have qGB03 := GB0_149.out.2 3 _ rfl
  try simp only [World.size_alloc] at lGB0
  go_wp2_with fail
  refine (markMatrix_law _ _ _ _ _ _ _ _ _ _ _ G0_148.out gm0 (by omega) (by omega)).mono ?_
  rintro e w_153 ⟨rfl, o_153, g_153⟩
  clear lGB0 qGB00 qGB01 qGB02 qGB03
  clear G0_148
  have A0_154 := Lib.hid (A0_145.out.grown g_153 (fun k hk => by have := G0_b152.out k hk; have := Z_11.out; have := Z_15.out; have := Z_21.out; have := Z_26.out; have := Z_38.out; have := Z_54.out; have := Z_64.out; have := Z_86.out; have := Z_98.out; have := Z_109.out; have := Z_121.out; have := Z_132.out; have := Z_142.out; have := Z_151.out; omega))
  clear A0_145
  have S0_155 := Lib.hid (S0_146.out.grown g_153 (fun k hk => by have := G0_b152.out k hk; have := Z_11.out; have := Z_15.out; have := Z_21.out; have := Z_26.out; have := Z_38.out; have := Z_54.out; have := Z_64.out; have := Z_86.out; have := Z_98.out; have := Z_109.out; have := Z_121.out; have := Z_132.out; have := Z_142.out; have := Z_151.out; omega))
  clear S0_146
  have SB0_156 := Lib.hid (SB0_147.out.grown g_153 (fun k hk => by have := G0_b152.out k hk; have := Z_11.out; have := Z_15.out; have := Z_21.out; have := Z_26.out; have := Z_38.out; have := Z_54.out; have := Z_64.out; have := Z_86.out; have := Z_98.out; have := Z_109.out; have := Z_121.out; have := Z_132.out; have := Z_142.out; have := Z_151.out; omega))
  clear SB0_147
  have GB0_157 := Lib.hid (GB0_149.out.grown g_153 (fun k hk => by have := G0_b152.out k hk; have := Z_11.out; have := Z_15.out; have := Z_21.out; have := Z_26.out; have := Z_38.out; have := Z_54.out; have := Z_64.out; have := Z_86.out; have := Z_98.out; have := Z_109.out; have := Z_121.out; have := Z_132.out; have := Z_142.out; have := Z_151.out; omega))
  clear GB0_149
  have E_158 := Lib.hid (E_150.out.grown g_153 (fun k hk => by have := G0_b152.out k hk; have := Z_11.out; have := Z_15.out; have := Z_21.out; have := Z_26.out; have := Z_38.out; have := Z_54.out; have := Z_64.out; have := Z_86.out; have := Z_98.out; have := Z_109.out; have := Z_121.out; have := Z_132.out; have := Z_142.out; have := Z_151.out; omega))
  clear E_150
  have Z_159 := Lib.hid g_153.size
  clear g_153 G0_b152
  have G0_160 := Lib.hid (o_153)
  clear o_153
  have lGB0 := GB0_157.out.1
  have qGB00 := GB0_157.out.2 0 _ rfl
  have qGB01 := GB0_157.out.2 1 _ rfl
  have qGB02 := GB0_157.out.2 2 _ rfl
  have qGB03 := GB0_157.out.2 3 _ rfl
  try simp only [World.size_alloc] at lGB0
  go_wp2_with fail
  refine (heldMatrix_law _ _ _ _ _ _ _ _ G0_160.out.reads gm0 (by omega) (by omega)).mono ?_
  rintro e w_161 ⟨rfl, h_161⟩
  clear lGB0 qGB00 qGB01 qGB02 qGB03
  have hq161 : 0 ≤ 1 + (sn0 : Int) := by omega
  have A0_162 := Lib.hid (A0_154.out.ext h_161)
  clear A0_154
  have S0_163 := Lib.hid (S0_155.out.ext h_161)
  clear S0_155
  have SB0_164 := Lib.hid (SB0_156.out.ext h_161)
  clear SB0_156
  have GB0_165 := Lib.hid (GB0_157.out.ext h_161)
  clear GB0_157
  have G0_166 := Lib.hid (G0_160.out.ext h_161)
  clear G0_160
  have E_167 := Lib.hid (E_158.out.trans h_161)
  clear E_158
  have z_168 := Ext.le h_161
  try simp only [World.size_alloc] at z_168
  have Z_168 := Lib.hid z_168
  clear z_168
  clear h_161
  have lA0 := A0_162.out.1
  have qA00 := A0_162.out.2 0 _ rfl
  have qA01 := A0_162.out.2 1 _ rfl
  have qA02 := A0_162.out.2 2 _ rfl
  try simp only [World.size_alloc] at lA0
  go_wp2_with fail
  refine (toAlgebra_law _ _ _ _ _ xs0 _ (HR0.out.ext E_167.out) hn0).mono ?_
  rintro e w_169 ⟨b_169, rfl, o_169, h_169⟩
  clear lA0 qA00 qA01 qA02
  have A0_170 := Lib.hid (A0_162.out.ext h_169)
  clear A0_162
  have S0_171 := Lib.hid (S0_163.out.ext h_169)
  clear S0_163
  have SB0_172 := Lib.hid (SB0_164.out.ext h_169)
  clear SB0_164
  have GB0_173 := Lib.hid (GB0_165.out.ext h_169)
  clear GB0_165
  have G0_174 := Lib.hid (G0_166.out.ext h_169)
  clear G0_166
  have E_175 := Lib.hid (E_167.out.trans h_169)
  clear E_167
  have z_176 := Ext.le h_169
  try simp only [World.size_alloc] at z_176
  have Z_176 := Lib.hid z_176
  clear z_176
  have T0_177 := Lib.hid (o_169)
  clear o_169 h_169
  go_wp2_with fail
  refine (toIntS_law _ _ _ xs1 _ (HR1.out.ext E_175.out) hn1).mono ?_
  rintro e w_178 ⟨b_178, rfl, o_178, h_178⟩
  have A0_179 := Lib.hid (A0_170.out.ext h_178)
  clear A0_170
  have S0_180 := Lib.hid (S0_171.out.ext h_178)
  clear S0_171
  have SB0_181 := Lib.hid (SB0_172.out.ext h_178)
  clear SB0_172
  have GB0_182 := Lib.hid (GB0_173.out.ext h_178)
  clear GB0_173
  have G0_183 := Lib.hid (G0_174.out.ext h_178)
  clear G0_174
  have T0_184 := Lib.hid (T0_177.out.ext h_178)
  clear T0_177
  have E_185 := Lib.hid (E_175.out.trans h_178)
  clear E_175
  have z_186 := Ext.le h_178
  try simp only [World.size_alloc] at z_186
  have Z_186 := Lib.hid z_186
  clear z_186
  have T1_187 := Lib.hid (o_178)
  clear o_178 h_178
  go_wp2_with fail
  refine (adjointOf_impl T0_184.out.reads hn0 T1_187.out.reads hn1 hM.out).mono ?_
  rintro e w_188 ⟨v0, rfl, ⟨ta0, tn0, tc0, rfl, tO0, tm0⟩, h_188⟩
  clear T0_184
  clear T1_187
  have A0_189 := Lib.hid (A0_179.out.ext h_188)
  clear A0_179
  have S0_190 := Lib.hid (S0_180.out.ext h_188)
  clear S0_180
  have SB0_191 := Lib.hid (SB0_181.out.ext h_188)
  clear SB0_181
  have GB0_192 := Lib.hid (GB0_182.out.ext h_188)
  clear GB0_182
  have G0_193 := Lib.hid (G0_183.out.ext h_188)
  clear G0_183
  have E_194 := Lib.hid (E_185.out.trans h_188)
  clear E_185
  have z_195 := Ext.le h_188
  try simp only [World.size_alloc] at z_195
  have Z_195 := Lib.hid z_195
  clear z_195
  clear h_188
  try simp only [World.size_alloc] at tO0
  have H0_196 := Lib.hid (tO0)
  clear tO0
  have P_197 := (Ext.refl w_188).alloc (.cells #[.int .i64 pP0, .int .i64 pR0, .int .i64 pC0, .slice ta0 tn0 tc0] 26)
  have A0_198 := Lib.hid (A0_189.out.ext P_197)
  clear A0_189
  have S0_199 := Lib.hid (S0_190.out.ext P_197)
  clear S0_190
  have SB0_200 := Lib.hid (SB0_191.out.ext P_197)
  clear SB0_191
  have GB0_201 := Lib.hid (GB0_192.out.ext P_197)
  clear GB0_192
  have G0_202 := Lib.hid (G0_193.out.ext P_197)
  clear G0_193
  have H0_203 := Lib.hid (H0_196.out.ext P_197)
  clear H0_196
  have E_204 := Lib.hid (E_194.out.trans P_197)
  clear E_194
  clear P_197
  have HB0_205 := Lib.hid (cells_new w_188 #[.int .i64 pP0, .int .i64 pR0, .int .i64 pC0, .slice ta0 tn0 tc0] 26)
  obtain rfl : sn0 = tn0 := S0_199.out.len.symm.trans H0_203.out.len
  have lHB0 := HB0_205.out.1
  have qHB00 := HB0_205.out.2 0 _ rfl
  have qHB01 := HB0_205.out.2 1 _ rfl
  have qHB02 := HB0_205.out.2 2 _ rfl
  have qHB03 := HB0_205.out.2 3 _ rfl
  have lSB0 := SB0_200.out.1
  have qSB00 := SB0_200.out.2 0 _ rfl
  have qSB01 := SB0_200.out.2 1 _ rfl
  have qSB02 := SB0_200.out.2 2 _ rfl
  have qSB03 := SB0_200.out.2 3 _ rfl
  try simp only [World.size_alloc] at lHB0 lSB0
  go_wp2_with fail
  refine (eqMatrix_law _ _ _ _ _ _ _ _ d0 _ H0_203.out.reads S0_199.out.reads gm0).mono ?_
  rintro e w_206 ⟨rfl, h_206⟩
  clear lHB0 qHB00 qHB01 qHB02 qHB03 lSB0 qSB00 qSB01 qSB02 qSB03
  have A0_207 := Lib.hid (A0_198.out.ext h_206)
  clear A0_198
  have S0_208 := Lib.hid (S0_199.out.ext h_206)
  clear S0_199
  have SB0_209 := Lib.hid (SB0_200.out.ext h_206)
  clear SB0_200
  have GB0_210 := Lib.hid (GB0_201.out.ext h_206)
  clear GB0_201
  have G0_211 := Lib.hid (G0_202.out.ext h_206)
  clear G0_202
  have H0_212 := Lib.hid (H0_203.out.ext h_206)
  clear H0_203
  have HB0_213 := Lib.hid (HB0_205.out.ext h_206)
  clear HB0_205
  have E_214 := Lib.hid (E_204.out.trans h_206)
  clear E_204
  have z_215 := Ext.le h_206
  try simp only [World.size_alloc] at z_215
  have Z_215 := Lib.hid z_215
  clear z_215
  clear h_206
  have lGB0 := GB0_210.out.1
  have qGB00 := GB0_210.out.2 0 _ rfl
  have qGB01 := GB0_210.out.2 1 _ rfl
  have qGB02 := GB0_210.out.2 2 _ rfl
  have qGB03 := GB0_210.out.2 3 _ rfl
  try simp only [World.size_alloc] at lGB0
  go_wp2_with fail
  refine (heldMatrix_law _ _ _ _ _ _ _ _ G0_211.out.reads gm0 (by omega) (by omega)).mono ?_
  rintro e w_216 ⟨rfl, h_216⟩
  clear lGB0 qGB00 qGB01 qGB02 qGB03
  have hq216 : 0 ≤ 1 + (sn0 : Int) := by omega
  have A0_217 := Lib.hid (A0_207.out.ext h_216)
  clear A0_207
  have S0_218 := Lib.hid (S0_208.out.ext h_216)
  clear S0_208
  have SB0_219 := Lib.hid (SB0_209.out.ext h_216)
  clear SB0_209
  have GB0_220 := Lib.hid (GB0_210.out.ext h_216)
  clear GB0_210
  have G0_221 := Lib.hid (G0_211.out.ext h_216)
  clear G0_211
  have H0_222 := Lib.hid (H0_212.out.ext h_216)
  clear H0_212
  have HB0_223 := Lib.hid (HB0_213.out.ext h_216)
  clear HB0_213
  have E_224 := Lib.hid (E_214.out.trans h_216)
  clear E_214
  have z_225 := Ext.le h_216
  try simp only [World.size_alloc] at z_225
  have Z_225 := Lib.hid z_225
  clear z_225
  clear h_216
  go_wp2
  go_ret
  exact ⟨rfl, E_224.out⟩

set_option maxRecDepth 100000 in
theorem lifted (os : Os) (started : os.Started) (H : Type) (enc : TypeId × Value → H) :
    ReturnsInHanded {} Try.checked os 14 .any (Rows.fnExactAdjointOfSpec.pre6 enc Try.prog Try.f14 Rows.fnExactAdjointOfRow.domain false) (Rows.fnExactAdjointOfSpec.post enc Try.prog Try.f14 false true false false) := by
  refine returnsInHanded_of_change (C := Try.checked) own started (by kernel_rfl) Try.func14
    (ChangeSpec.witness6 (enc := enc) (C := Try.checked) false ⟨#[], #[.agg #[.int .i64 0, .int .i64 0, .slice none 0 0], .slice none 0 0], []⟩ 8 (by kernel_rfl) (by kernel_rfl) (by kernel_rfl) (by kernel_rfl)) ?_
  intro W base args ds gs before hval0 hW hcnd _
  have hval : ∀ (j : Nat) t v, Try.f14.params[j]? = some t → args[j]? = some v → Value.okWide Try.prog W .any base t v := hval0
  have hW' := hW
  obtain ⟨p, q, hA0, hV, rfl, hfz, hnd⟩ := hW
  have hA : DataW.TrodAll enc Try.prog W 0 (fun _ => true) true Try.f14.params.toList args.toList ds p := hA0
  rw [Try.params14] at hA hval
  obtain ⟨v0, vs0, d0, ds0, p0, q0, hargs, rfl, rfl, h0, r0⟩ := trodAll_cons hA
  obtain ⟨v1, vs1, d1, ds1, p1, q1, rfl, rfl, rfl, h1, r1⟩ := trodAll_cons r0
  obtain ⟨rfl, rfl, rfl⟩ := trodAll_nil r1
  obtain rfl : args = #[v0, v1] := by cases args; simp_all
  obtain ⟨rfl, rfl⟩ := trodVars_none hV
  have k0 := h0
  have lt0 : ∀ x ∈ p0, x.block < W.heap.size := by obtain ⟨m, hm⟩ := k0; exact DataW.trod_lt m _ _ _ hm
  obtain ⟨P0, D0, a0, n0, c0, xs0, rfl, w0⟩ := open_alg (hval 0 _ v0 rfl rfl) h0
  have k1 := h1
  have lt1 : ∀ x ∈ p1, x.block < W.heap.size := by obtain ⟨m, hm⟩ := k1; exact DataW.trod_lt m _ _ _ hm
  obtain ⟨a1, n1, c1, xs1, rfl, w1⟩ := open_intsl (hval 1 _ v1 rfl rfl) h1
  clear hA0 hval0
  refine (walk P0 D0 a0 n0 c0 xs0 a1 n1 c1 xs1 W w0 w1).mono fun e W' ⟨he, bel⟩ => ?_
  subst he
  exact ⟨_, rfl, _, _, _, [], _, [], hW', trodAll_mk1 (shut_bool Try.underlying4 _), (trodAll_cons_mk (Below.trod laidOut (by kernel_rfl) (of_decide_eq_true (by kernel_rfl)) k0 bel lt0) (trodAll_cons_mk (Below.trod laidOut (by kernel_rfl) (of_decide_eq_true (by kernel_rfl)) k1 bel lt1) trodAll_mk0)), rfl, Below.frame bel _, fun h => by cases h⟩

theorem over : Rows.fnExactAdjointOfRow.holds Try.pinned (OpenSpec.ofChange Rows.fnExactAdjointOfSpec) :=
  OpenClaim.holds_of_wide 14 Try.f14 rfl rfl rfl rfl rfl rfl rfl ⟨rfl, rfl, rfl, rfl, rfl⟩ rfl rfl rfl rfl rfl (by kernel_rfl) Try.func14 (by kernel_rfl)
    (of_decide_eq_true (by kernel_rfl)) (by unfold Func.isWrapper; first | (rw [if_pos (by decide +kernel)]; kernel_rfl) | (rw [if_neg (by decide +kernel)]; exact ⟨rfl, rfl⟩))
    (fun os started H enc _ => lifted os started H enc)

/-- The statement. -/
theorem proved : Rows.FnExactAdjointOfSaid := over
#print axioms proved
end Go.Proofs.Ytafeognjplphhaa.fnExactAdjointOf
