/-
  Proved: the statement given for the law FnExactMatrixOf: at every input the Go text returns true, with no panic, and the arguments read as they read before. No condition is added.
-/
import Derived.Test.YtnikfalpjieibaaFr
import Derived.Test.YtnikfalpjieibaaMto
import Derived.Test.YtnikfalpjieibaaMtA
import Derived.Test.YtnikfalpjieibaaSeatF
namespace Go.Proofs.Ytnikfalpjieibaa.fnExactMatrixOf
open Go.ChangeShapes Go.WideShapes Go.ChangeAt Go.RowKit
open Go.ChangeMaps (open_string shut_string)
set_option linter.unusedVariables false
set_option linter.unusedSimpArgs false

set_option maxRecDepth 100000 in
set_option maxHeartbeats 3200000 in
/-- The walk: the Go text returns true, and nothing that was there has changed. -/
theorem walk (P0 D0 : Int) (a0 : Option Addr) (n0 c0 : Nat) (xs0 : List Int) (a1 : Option Addr) (n1 c1 : Nat) (ms1 : List Mat) (a2 : Option Addr) (n2 c2 : Nat) (xs2 : List Int) (w : World) (w0 : Reads w a0 n0 xs0 ∧ n0 ≤ maxLen) (w1 : MatsA w a1 n1 ms1 ∧ MatsW ms1 ∧ n1 ≤ maxLen) (w2 : Reads w a2 n2 xs2 ∧ n2 ≤ maxLen) :
    Calls Try.prog 4 #[.agg #[.int .i64 P0, .int .i64 D0, .slice a0 n0 c0], .slice a1 n1 c1, .slice a2 n2 c2] w fun e w' => e = .returned (.bool true) ∧ Ext w w' := by
  obtain ⟨hr0, hm0⟩ := w0
  have HR0 := Lib.hid hr0
  clear hr0
  obtain ⟨hr1, hW1, hm1⟩ := w1
  have HR1 := Lib.hid hr1
  have HW1 := Lib.hid hW1
  obtain ⟨L1, hL1⟩ : ∃ L : Nat, n1 + msL ms1 n1 = L := ⟨_, rfl⟩
  have HL1 := Lib.hid hL1
  clear hr1 hW1 hL1
  obtain ⟨hr2, hm2⟩ := w2
  have HR2 := Lib.hid hr2
  clear hr2
  rcases hM0 : matO P0 D0 xs0 ms1 xs2 with ⟨⟨pP0, pR0, pC0, d0⟩, i1⟩
  have hM := Lib.hid hM0
  clear hM0
  by_cases hz0 : (n2 : Int) ≤ 1048576
  case neg =>
    go_enter Try.func4, Try.ntmps4
    have T0 := cells_new' w #[.int .i64 P0, .int .i64 D0, .slice a0 n0 c0] 24 (w.heap.size) (by simp)
    have A0_1 := Lib.hid (T0.ext (Ext.refl _))
    clear T0
    have E_2 := Lib.hid ((Ext.refl w).alloc (.cells #[.int .i64 P0, .int .i64 D0, .slice a0 n0 c0] 24))
    have hlt : (1048576 : Int) < (n2 : Int) := by omega
    go_wp2
    go_ret
    exact ⟨rfl, E_2.out⟩
  by_cases hz1 : (n0 : Int) ≤ 1048576
  case neg =>
    go_enter Try.func4, Try.ntmps4
    have T0 := cells_new' w #[.int .i64 P0, .int .i64 D0, .slice a0 n0 c0] 24 (w.heap.size) (by simp)
    have A0_3 := Lib.hid (T0.ext (Ext.refl _))
    clear T0
    have E_4 := Lib.hid ((Ext.refl w).alloc (.cells #[.int .i64 P0, .int .i64 D0, .slice a0 n0 c0] 24))
    have lA0 := A0_3.out.1
    have qA00 := A0_3.out.2 0 _ rfl
    have qA01 := A0_3.out.2 1 _ rfl
    have qA02 := A0_3.out.2 2 _ rfl
    try simp only [World.size_alloc] at lA0
    go_wp2_with fail
    refine (szAlgebra_no _ _ _ _ _ _ _ (by omega) (by omega) hm0 (by omega)).mono ?_
    rintro e w_5 ⟨rfl, h_5⟩
    clear lA0 qA00 qA01 qA02
    go_wp2
    go_ret
    exact ⟨rfl, E_4.out.trans h_5⟩
  by_cases hz2 : (n0 : Int) + (L1 : Int) ≤ 1048576
  case neg =>
    go_enter Try.func4, Try.ntmps4
    have T0 := cells_new' w #[.int .i64 P0, .int .i64 D0, .slice a0 n0 c0] 24 (w.heap.size) (by simp)
    have A0_6 := Lib.hid (T0.ext (Ext.refl _))
    clear T0
    have E_7 := Lib.hid ((Ext.refl w).alloc (.cells #[.int .i64 P0, .int .i64 D0, .slice a0 n0 c0] 24))
    have lA0 := A0_6.out.1
    have qA00 := A0_6.out.2 0 _ rfl
    have qA01 := A0_6.out.2 1 _ rfl
    have qA02 := A0_6.out.2 2 _ rfl
    try simp only [World.size_alloc] at lA0
    go_wp2_with fail
    refine (szAlgebra_yes _ _ _ _ _ _ _ (by omega) (by omega)).mono ?_
    rintro e w_8 ⟨rfl, h_8⟩
    clear lA0 qA00 qA01 qA02
    have A0_9 := Lib.hid (A0_6.out.ext h_8)
    clear A0_6
    have E_10 := Lib.hid (E_7.out.trans h_8)
    clear E_7
    have z_11 := Ext.le h_8
    try simp only [World.size_alloc] at z_11
    have Z_11 := Lib.hid z_11
    clear z_11
    clear h_8
    have hp1 : 0 ≤ 1048576 - (n0 : Int) := by omega
    go_wp2_with fail
    refine (szMatrixS_no (HR1.out.ext E_10.out) HW1.out HL1.out (by omega) (by omega) hm1 (by omega)).mono ?_
    rintro e w_12 ⟨rfl, h_12⟩
    go_wp2
    go_ret
    exact ⟨rfl, E_10.out.trans h_12⟩
  have hln1 : n1 ≤ L1 := by rw [← HL1.out]; exact Nat.le_add_right _ _
  have HT1 : Hid ((dats ms1).flatten.length ≤ 1048576) := by
    have h1 := msL_all ms1
    rw [HR1.out.1] at h1
    have h2 := HL1.out
    show _ ≤ _
    omega
  have hn0 : n0 ≤ 1048576 := by omega
  have hn1 : n1 ≤ 1048576 := by omega
  have hn2 : n2 ≤ 1048576 := by omega
  have hto1 := totM_le ms1 n1 HR1.out.1 hn1 HT1.out
  go_enter Try.func4, Try.ntmps4
  have T0 := cells_new' w #[.int .i64 P0, .int .i64 D0, .slice a0 n0 c0] 24 (w.heap.size) (by simp)
  have A0_13 := Lib.hid (T0.ext (Ext.refl _))
  clear T0
  have E_14 := Lib.hid ((Ext.refl w).alloc (.cells #[.int .i64 P0, .int .i64 D0, .slice a0 n0 c0] 24))
  have lA0 := A0_13.out.1
  have qA00 := A0_13.out.2 0 _ rfl
  have qA01 := A0_13.out.2 1 _ rfl
  have qA02 := A0_13.out.2 2 _ rfl
  try simp only [World.size_alloc] at lA0
  go_wp2_with fail
  refine (szAlgebra_yes _ _ _ _ _ _ _ (by omega) (by omega)).mono ?_
  rintro e w_15 ⟨rfl, h_15⟩
  clear lA0 qA00 qA01 qA02
  have A0_16 := Lib.hid (A0_13.out.ext h_15)
  clear A0_13
  have E_17 := Lib.hid (E_14.out.trans h_15)
  clear E_14
  have z_18 := Ext.le h_15
  try simp only [World.size_alloc] at z_18
  have Z_18 := Lib.hid z_18
  clear z_18
  clear h_15
  have hp1 : 0 ≤ 1048576 - (n0 : Int) := by omega
  go_wp2_with fail
  refine (szMatrixS_yes (HR1.out.ext E_17.out) HW1.out HL1.out (by omega) hm1 (by omega)).mono ?_
  rintro e w_19 ⟨rfl, h_19⟩
  have A0_20 := Lib.hid (A0_16.out.ext h_19)
  clear A0_16
  have E_21 := Lib.hid (E_17.out.trans h_19)
  clear E_17
  have z_22 := Ext.le h_19
  try simp only [World.size_alloc] at z_22
  have Z_22 := Lib.hid z_22
  clear z_22
  clear h_19
  have hp : 0 ≤ 1048576 - (n0 : Int) - (L1 : Int) := by omega
  have lA0 := A0_20.out.1
  have qA00 := A0_20.out.2 0 _ rfl
  have qA01 := A0_20.out.2 1 _ rfl
  have qA02 := A0_20.out.2 2 _ rfl
  try simp only [World.size_alloc] at lA0
  go_wp2_with fail
  refine (toAlgebra_law _ _ _ _ _ xs0 _ (HR0.out.ext E_21.out) hn0).mono ?_
  rintro e w_23 ⟨b_23, rfl, o_23, h_23⟩
  clear lA0 qA00 qA01 qA02
  have A0_24 := Lib.hid (A0_20.out.ext h_23)
  clear A0_20
  have E_25 := Lib.hid (E_21.out.trans h_23)
  clear E_21
  have z_26 := Ext.le h_23
  try simp only [World.size_alloc] at z_26
  have Z_26 := Lib.hid z_26
  clear z_26
  have T0_27 := Lib.hid (o_23)
  clear o_23 h_23
  go_wp2_with fail
  refine (toMatrixS_law _ _ _ ms1 _ (HR1.out.ext E_25.out) hn1 HT1.out).mono ?_
  rintro e w_28 ⟨b_28, rfl, o_28, h_28⟩
  have A0_29 := Lib.hid (A0_24.out.ext h_28)
  clear A0_24
  have T0_30 := Lib.hid (T0_27.out.ext h_28)
  clear T0_27
  have E_31 := Lib.hid (E_25.out.trans h_28)
  clear E_25
  have z_32 := Ext.le h_28
  try simp only [World.size_alloc] at z_32
  have Z_32 := Lib.hid z_32
  clear z_32
  have T1_33 := Lib.hid (o_28)
  clear o_28 h_28
  go_wp2_with fail
  refine (toIntS_law _ _ _ xs2 _ (HR2.out.ext E_31.out) hn2).mono ?_
  rintro e w_34 ⟨b_34, rfl, o_34, h_34⟩
  have A0_35 := Lib.hid (A0_29.out.ext h_34)
  clear A0_29
  have T0_36 := Lib.hid (T0_30.out.ext h_34)
  clear T0_30
  have T1_37 := Lib.hid (T1_33.out.ext h_34)
  clear T1_33
  have E_38 := Lib.hid (E_31.out.trans h_34)
  clear E_31
  have z_39 := Ext.le h_34
  try simp only [World.size_alloc] at z_39
  have Z_39 := Lib.hid z_39
  clear z_39
  have T2_40 := Lib.hid (o_34)
  clear o_34 h_34
  go_wp2_with fail
  refine (matrixOfT_spec T0_36.out.reads hn0 T1_37.out.reads hn1 T2_40.out.reads hn2 hM.out).mono ?_
  rintro e w_41 ⟨v0, rfl, ⟨sa0, sn0, sc0, rfl, sO0, sm0⟩, h_41⟩
  clear T0_36
  clear T1_37
  clear T2_40
  have A0_42 := Lib.hid (A0_35.out.ext h_41)
  clear A0_35
  have E_43 := Lib.hid (E_38.out.trans h_41)
  clear E_38
  have z_44 := Ext.le h_41
  try simp only [World.size_alloc] at z_44
  have Z_44 := Lib.hid z_44
  clear z_44
  clear h_41
  try simp only [World.size_alloc] at sO0
  have S0_45 := Lib.hid (sO0)
  clear sO0
  have P_46 := (Ext.refl w_41).alloc (.cells #[.int .i64 pP0, .int .i64 pR0, .int .i64 pC0, .slice sa0 sn0 sc0] 37)
  have A0_47 := Lib.hid (A0_42.out.ext P_46)
  clear A0_42
  have S0_48 := Lib.hid (S0_45.out.ext P_46)
  clear S0_45
  have E_49 := Lib.hid (E_43.out.trans P_46)
  clear E_43
  clear P_46
  have SB0_50 := Lib.hid (cells_new w_41 #[.int .i64 pP0, .int .i64 pR0, .int .i64 pC0, .slice sa0 sn0 sc0] 37)
  have lA0 := A0_47.out.1
  have qA00 := A0_47.out.2 0 _ rfl
  have qA01 := A0_47.out.2 1 _ rfl
  have qA02 := A0_47.out.2 2 _ rfl
  try simp only [World.size_alloc] at lA0
  go_wp2_with fail
  refine (toAlgebra_law _ _ _ _ _ xs0 _ (HR0.out.ext E_49.out) hn0).mono ?_
  rintro e w_51 ⟨b_51, rfl, o_51, h_51⟩
  clear lA0 qA00 qA01 qA02
  have A0_52 := Lib.hid (A0_47.out.ext h_51)
  clear A0_47
  have S0_53 := Lib.hid (S0_48.out.ext h_51)
  clear S0_48
  have SB0_54 := Lib.hid (SB0_50.out.ext h_51)
  clear SB0_50
  have E_55 := Lib.hid (E_49.out.trans h_51)
  clear E_49
  have z_56 := Ext.le h_51
  try simp only [World.size_alloc] at z_56
  have Z_56 := Lib.hid z_56
  clear z_56
  try simp only [World.size_alloc] at o_51
  have X0_57 := Lib.hid (o_51)
  clear o_51 h_51
  have P_58 := (Ext.refl w_51).alloc (.cells #[.int .i64 P0, .int .i64 D0, .slice (some ⟨b_51, 0, none⟩) n0 n0] 29)
  have A0_59 := Lib.hid (A0_52.out.ext P_58)
  clear A0_52
  have S0_60 := Lib.hid (S0_53.out.ext P_58)
  clear S0_53
  have SB0_61 := Lib.hid (SB0_54.out.ext P_58)
  clear SB0_54
  have X0_62 := Lib.hid (X0_57.out.ext P_58)
  clear X0_57
  have E_63 := Lib.hid (E_55.out.trans P_58)
  clear E_55
  clear P_58
  have XB0_64 := Lib.hid (cells_new w_51 #[.int .i64 P0, .int .i64 D0, .slice (some ⟨b_51, 0, none⟩) n0 n0] 29)
  go_wp2_with fail
  refine (toMatrixS_law _ _ _ ms1 _ (HR1.out.ext E_63.out) hn1 HT1.out).mono ?_
  rintro e w_65 ⟨b_65, rfl, o_65, h_65⟩
  have A0_66 := Lib.hid (A0_59.out.ext h_65)
  clear A0_59
  have S0_67 := Lib.hid (S0_60.out.ext h_65)
  clear S0_60
  have SB0_68 := Lib.hid (SB0_61.out.ext h_65)
  clear SB0_61
  have X0_69 := Lib.hid (X0_62.out.ext h_65)
  clear X0_62
  have XB0_70 := Lib.hid (XB0_64.out.ext h_65)
  clear XB0_64
  have E_71 := Lib.hid (E_63.out.trans h_65)
  clear E_63
  have z_72 := Ext.le h_65
  try simp only [World.size_alloc] at z_72
  have Z_72 := Lib.hid z_72
  clear z_72
  try simp only [World.size_alloc] at o_65
  have X1_73 := Lib.hid (o_65)
  clear o_65 h_65
  go_wp2_with fail
  refine (toIntS_law _ _ _ xs2 _ (HR2.out.ext E_71.out) hn2).mono ?_
  rintro e w_74 ⟨b_74, rfl, o_74, h_74⟩
  have A0_75 := Lib.hid (A0_66.out.ext h_74)
  clear A0_66
  have S0_76 := Lib.hid (S0_67.out.ext h_74)
  clear S0_67
  have SB0_77 := Lib.hid (SB0_68.out.ext h_74)
  clear SB0_68
  have X0_78 := Lib.hid (X0_69.out.ext h_74)
  clear X0_69
  have XB0_79 := Lib.hid (XB0_70.out.ext h_74)
  clear XB0_70
  have X1_80 := Lib.hid (X1_73.out.ext h_74)
  clear X1_73
  have E_81 := Lib.hid (E_71.out.trans h_74)
  clear E_71
  have z_82 := Ext.le h_74
  try simp only [World.size_alloc] at z_82
  have Z_82 := Lib.hid z_82
  clear z_82
  try simp only [World.size_alloc] at o_74
  have X2_83 := Lib.hid (o_74)
  clear o_74 h_74
  have lXB0 := XB0_79.out.1
  have qXB00 := XB0_79.out.2 0 _ rfl
  have qXB01 := XB0_79.out.2 1 _ rfl
  have qXB02 := XB0_79.out.2 2 _ rfl
  try simp only [World.size_alloc] at lXB0
  go_wp2_with fail
  refine (matrixOfT_impl X0_78.out.reads hn0 X1_80.out.reads hn1 X2_83.out.reads hn2 hM.out).mono ?_
  rintro e w_84 ⟨v0, rfl, ⟨ga0, gn0, gc0, rfl, gO0, gm0⟩, h_84⟩
  clear lXB0 qXB00 qXB01 qXB02
  have A0_85 := Lib.hid (A0_75.out.ext h_84)
  clear A0_75
  have S0_86 := Lib.hid (S0_76.out.ext h_84)
  clear S0_76
  have SB0_87 := Lib.hid (SB0_77.out.ext h_84)
  clear SB0_77
  have X0_88 := Lib.hid (X0_78.out.ext h_84)
  clear X0_78
  have XB0_89 := Lib.hid (XB0_79.out.ext h_84)
  clear XB0_79
  have X1_90 := Lib.hid (X1_80.out.ext h_84)
  clear X1_80
  have X2_91 := Lib.hid (X2_83.out.ext h_84)
  clear X2_83
  have E_92 := Lib.hid (E_81.out.trans h_84)
  clear E_81
  have z_93 := Ext.le h_84
  try simp only [World.size_alloc] at z_93
  have Z_93 := Lib.hid z_93
  clear z_93
  clear h_84
  try simp only [World.size_alloc] at gO0
  have G0_94 := Lib.hid (gO0)
  clear gO0
  have P_95 := (Ext.refl w_84).alloc (.cells #[.int .i64 pP0, .int .i64 pR0, .int .i64 pC0, .slice ga0 gn0 gc0] 37)
  have A0_96 := Lib.hid (A0_85.out.ext P_95)
  clear A0_85
  have S0_97 := Lib.hid (S0_86.out.ext P_95)
  clear S0_86
  have SB0_98 := Lib.hid (SB0_87.out.ext P_95)
  clear SB0_87
  have X0_99 := Lib.hid (X0_88.out.ext P_95)
  clear X0_88
  have XB0_100 := Lib.hid (XB0_89.out.ext P_95)
  clear XB0_89
  have X1_101 := Lib.hid (X1_90.out.ext P_95)
  clear X1_90
  have X2_102 := Lib.hid (X2_91.out.ext P_95)
  clear X2_91
  have G0_103 := Lib.hid (G0_94.out.ext P_95)
  clear G0_94
  have E_104 := Lib.hid (E_92.out.trans P_95)
  clear E_92
  clear P_95
  have GB0_105 := Lib.hid (cells_new w_84 #[.int .i64 pP0, .int .i64 pR0, .int .i64 pC0, .slice ga0 gn0 gc0] 37)
  have X1_106 := Lib.hid X1_101.out.1
  clear X1_101
  obtain rfl : sn0 = gn0 := S0_97.out.len.symm.trans G0_103.out.len
  have lGB0 := GB0_105.out.1
  have qGB00 := GB0_105.out.2 0 _ rfl
  have qGB01 := GB0_105.out.2 1 _ rfl
  have qGB02 := GB0_105.out.2 2 _ rfl
  have qGB03 := GB0_105.out.2 3 _ rfl
  have lSB0 := SB0_98.out.1
  have qSB00 := SB0_98.out.2 0 _ rfl
  have qSB01 := SB0_98.out.2 1 _ rfl
  have qSB02 := SB0_98.out.2 2 _ rfl
  have qSB03 := SB0_98.out.2 3 _ rfl
  try simp only [World.size_alloc] at lGB0 lSB0
  go_wp2_with fail
  refine (eqMatrix_law _ _ _ _ _ _ _ _ d0 _ G0_103.out.reads S0_97.out.reads gm0).mono ?_
  rintro e w_107 ⟨rfl, h_107⟩
  clear lGB0 qGB00 qGB01 qGB02 qGB03 lSB0 qSB00 qSB01 qSB02 qSB03
  have A0_108 := Lib.hid (A0_96.out.ext h_107)
  clear A0_96
  have S0_109 := Lib.hid (S0_97.out.ext h_107)
  clear S0_97
  have SB0_110 := Lib.hid (SB0_98.out.ext h_107)
  clear SB0_98
  have X0_111 := Lib.hid (X0_99.out.ext h_107)
  clear X0_99
  have XB0_112 := Lib.hid (XB0_100.out.ext h_107)
  clear XB0_100
  have X1_113 := Lib.hid (X1_106.out.ext h_107)
  clear X1_106
  have X2_114 := Lib.hid (X2_102.out.ext h_107)
  clear X2_102
  have G0_115 := Lib.hid (G0_103.out.ext h_107)
  clear G0_103
  have GB0_116 := Lib.hid (GB0_105.out.ext h_107)
  clear GB0_105
  have E_117 := Lib.hid (E_104.out.trans h_107)
  clear E_104
  have z_118 := Ext.le h_107
  try simp only [World.size_alloc] at z_118
  have Z_118 := Lib.hid z_118
  clear z_118
  clear h_107
  have lXB0 := XB0_112.out.1
  have qXB00 := XB0_112.out.2 0 _ rfl
  have qXB01 := XB0_112.out.2 1 _ rfl
  have qXB02 := XB0_112.out.2 2 _ rfl
  have lA0 := A0_108.out.1
  have qA00 := A0_108.out.2 0 _ rfl
  have qA01 := A0_108.out.2 1 _ rfl
  have qA02 := A0_108.out.2 2 _ rfl
  try simp only [World.size_alloc] at lXB0 lA0
  go_wp2_with fail
  go_region_held3 (fun w' => Ext w_107 w' ∧ (∀ b o, b < w_107.heap.size → w'.cell? ⟨b, o, none⟩ = w_107.cell? ⟨b, o, none⟩)) (first | (with_reducible exact ext2 (Ext.trans (And.left ‹Ext w_107 _ ∧ _›) ‹Ext _ _›)) | (refine ext2 ?_; with_reducible repeat (first | exact Ext.refl _ | refine Ext.drew ?_))) (first
    | (go_at_call 15; refine (toAlgebra_law _ _ _ _ _ xs0 _ (HR0.out.ext (E_117.out.trans (And.left ‹Ext w_107 _ ∧ _›))) hn0).mono ?_; rintro e w_119 ⟨b_119, rfl, o_119, h_119⟩)
    | (go_at_call 18; refine (eqAlgebra_law _ _ _ _ _ _ _ xs0 _ (Own.reads (Own.ext X0_111.out (And.left ‹Ext w_107 _ ∧ _›))) (Own.reads o_119) hn0).mono ?_; rintro e w_120 ⟨rfl, h_120⟩))
  clear lXB0 qXB00 qXB01 qXB02 lA0 qA00 qA01 qA02
  have hx_120 := And.left ‹Ext w_107 w_120 ∧ _›
  try clear h_119 h_120 o_119
  have A0_121 := Lib.hid (A0_108.out.ext hx_120)
  clear A0_108
  have S0_122 := Lib.hid (S0_109.out.ext hx_120)
  clear S0_109
  have SB0_123 := Lib.hid (SB0_110.out.ext hx_120)
  clear SB0_110
  have X0_124 := Lib.hid (X0_111.out.ext hx_120)
  clear X0_111
  have XB0_125 := Lib.hid (XB0_112.out.ext hx_120)
  clear XB0_112
  have X1_126 := Lib.hid (X1_113.out.ext hx_120)
  clear X1_113
  have X2_127 := Lib.hid (X2_114.out.ext hx_120)
  clear X2_114
  have G0_128 := Lib.hid (G0_115.out.ext hx_120)
  clear G0_115
  have GB0_129 := Lib.hid (GB0_116.out.ext hx_120)
  clear GB0_116
  have E_130 := Lib.hid (E_117.out.trans hx_120)
  clear E_117
  have z_131 := Ext.le hx_120
  try simp only [World.size_alloc] at z_131
  have Z_131 := Lib.hid z_131
  clear z_131
  clear hx_120
  go_wp2_with fail
  refine (toMatrixS_law _ _ _ ms1 _ (HR1.out.ext E_130.out) hn1 HT1.out).mono ?_
  rintro e w_132 ⟨b_132, rfl, o_132, h_132⟩
  have A0_133 := Lib.hid (A0_121.out.ext h_132)
  clear A0_121
  have S0_134 := Lib.hid (S0_122.out.ext h_132)
  clear S0_122
  have SB0_135 := Lib.hid (SB0_123.out.ext h_132)
  clear SB0_123
  have X0_136 := Lib.hid (X0_124.out.ext h_132)
  clear X0_124
  have XB0_137 := Lib.hid (XB0_125.out.ext h_132)
  clear XB0_125
  have X1_138 := Lib.hid (X1_126.out.ext h_132)
  clear X1_126
  have X2_139 := Lib.hid (X2_127.out.ext h_132)
  clear X2_127
  have G0_140 := Lib.hid (G0_128.out.ext h_132)
  clear G0_128
  have GB0_141 := Lib.hid (GB0_129.out.ext h_132)
  clear GB0_129
  have E_142 := Lib.hid (E_130.out.trans h_132)
  clear E_130
  have z_143 := Ext.le h_132
  try simp only [World.size_alloc] at z_143
  have Z_143 := Lib.hid z_143
  clear z_143
  have T_144 := Lib.hid (o_132)
  clear o_132 h_132
  go_wp2_with fail
  refine (eqMatrixS_x _ _ _ _ _ _ _ _ _ ms1 _ X1_138.out T_144.out.1 hn1).mono ?_
  rintro e w_145 ⟨rfl, h_145⟩
  clear T_144
  have A0_146 := Lib.hid (A0_133.out.ext h_145)
  clear A0_133
  have S0_147 := Lib.hid (S0_134.out.ext h_145)
  clear S0_134
  have SB0_148 := Lib.hid (SB0_135.out.ext h_145)
  clear SB0_135
  have X0_149 := Lib.hid (X0_136.out.ext h_145)
  clear X0_136
  have XB0_150 := Lib.hid (XB0_137.out.ext h_145)
  clear XB0_137
  have X1_151 := Lib.hid (X1_138.out.ext h_145)
  clear X1_138
  have X2_152 := Lib.hid (X2_139.out.ext h_145)
  clear X2_139
  have G0_153 := Lib.hid (G0_140.out.ext h_145)
  clear G0_140
  have GB0_154 := Lib.hid (GB0_141.out.ext h_145)
  clear GB0_141
  have E_155 := Lib.hid (E_142.out.trans h_145)
  clear E_142
  have z_156 := Ext.le h_145
  try simp only [World.size_alloc] at z_156
  have Z_156 := Lib.hid z_156
  clear z_156
  clear h_145
  go_wp2_with fail
  refine (toIntS_law _ _ _ xs2 _ (HR2.out.ext E_155.out) hn2).mono ?_
  rintro e w_157 ⟨b_157, rfl, o_157, h_157⟩
  have A0_158 := Lib.hid (A0_146.out.ext h_157)
  clear A0_146
  have S0_159 := Lib.hid (S0_147.out.ext h_157)
  clear S0_147
  have SB0_160 := Lib.hid (SB0_148.out.ext h_157)
  clear SB0_148
  have X0_161 := Lib.hid (X0_149.out.ext h_157)
  clear X0_149
  have XB0_162 := Lib.hid (XB0_150.out.ext h_157)
  clear XB0_150
  have X1_163 := Lib.hid (X1_151.out.ext h_157)
  clear X1_151
  have X2_164 := Lib.hid (X2_152.out.ext h_157)
  clear X2_152
  have G0_165 := Lib.hid (G0_153.out.ext h_157)
  clear G0_153
  have GB0_166 := Lib.hid (GB0_154.out.ext h_157)
  clear GB0_154
  have E_167 := Lib.hid (E_155.out.trans h_157)
  clear E_155
  have z_168 := Ext.le h_157
  try simp only [World.size_alloc] at z_168
  have Z_168 := Lib.hid z_168
  clear z_168
  have T_169 := Lib.hid (o_157)
  clear o_157 h_157
  go_wp2_with fail
  refine (eqIntS_x _ _ _ _ _ xs2 _ X2_164.out.reads T_169.out.reads hn2).mono ?_
  rintro e w_170 ⟨rfl, h_170⟩
  clear T_169
  have A0_171 := Lib.hid (A0_158.out.ext h_170)
  clear A0_158
  have S0_172 := Lib.hid (S0_159.out.ext h_170)
  clear S0_159
  have SB0_173 := Lib.hid (SB0_160.out.ext h_170)
  clear SB0_160
  have X0_174 := Lib.hid (X0_161.out.ext h_170)
  clear X0_161
  have XB0_175 := Lib.hid (XB0_162.out.ext h_170)
  clear XB0_162
  have X1_176 := Lib.hid (X1_163.out.ext h_170)
  clear X1_163
  have X2_177 := Lib.hid (X2_164.out.ext h_170)
  clear X2_164
  have G0_178 := Lib.hid (G0_165.out.ext h_170)
  clear G0_165
  have GB0_179 := Lib.hid (GB0_166.out.ext h_170)
  clear GB0_166
  have E_180 := Lib.hid (E_167.out.trans h_170)
  clear E_167
  have z_181 := Ext.le h_170
  try simp only [World.size_alloc] at z_181
  have Z_181 := Lib.hid z_181
  clear z_181
  clear h_170
  have X0_b182 := Lib.hid X0_174.out.blk
  have lXB0 := XB0_175.out.1
  have qXB00 := XB0_175.out.2 0 _ rfl
  have qXB01 := XB0_175.out.2 1 _ rfl
  have qXB02 := XB0_175.out.2 2 _ rfl
  try simp only [World.size_alloc] at lXB0
  go_wp2_with fail
  refine (markAlgebra_law _ _ _ _ _ _ _ _ _ _ X0_174.out hn0 (by omega) (by omega)).mono ?_
  rintro e w_183 ⟨rfl, o_183, g_183⟩
  clear lXB0 qXB00 qXB01 qXB02
  clear X0_174
  have A0_184 := Lib.hid (A0_171.out.grown g_183 (fun k hk => by have := X0_b182.out k hk; have := Z_18.out; have := Z_22.out; have := Z_26.out; have := Z_32.out; have := Z_39.out; have := Z_44.out; have := Z_56.out; have := Z_72.out; have := Z_82.out; have := Z_93.out; have := Z_118.out; have := Z_131.out; have := Z_143.out; have := Z_156.out; have := Z_168.out; have := Z_181.out; omega))
  clear A0_171
  have S0_185 := Lib.hid (S0_172.out.grown g_183 (fun k hk => by have := X0_b182.out k hk; have := Z_18.out; have := Z_22.out; have := Z_26.out; have := Z_32.out; have := Z_39.out; have := Z_44.out; have := Z_56.out; have := Z_72.out; have := Z_82.out; have := Z_93.out; have := Z_118.out; have := Z_131.out; have := Z_143.out; have := Z_156.out; have := Z_168.out; have := Z_181.out; omega))
  clear S0_172
  have SB0_186 := Lib.hid (SB0_173.out.grown g_183 (fun k hk => by have := X0_b182.out k hk; have := Z_18.out; have := Z_22.out; have := Z_26.out; have := Z_32.out; have := Z_39.out; have := Z_44.out; have := Z_56.out; have := Z_72.out; have := Z_82.out; have := Z_93.out; have := Z_118.out; have := Z_131.out; have := Z_143.out; have := Z_156.out; have := Z_168.out; have := Z_181.out; omega))
  clear SB0_173
  have XB0_187 := Lib.hid (XB0_175.out.grown g_183 (fun k hk => by have := X0_b182.out k hk; have := Z_18.out; have := Z_22.out; have := Z_26.out; have := Z_32.out; have := Z_39.out; have := Z_44.out; have := Z_56.out; have := Z_72.out; have := Z_82.out; have := Z_93.out; have := Z_118.out; have := Z_131.out; have := Z_143.out; have := Z_156.out; have := Z_168.out; have := Z_181.out; omega))
  clear XB0_175
  have X1_188 := Lib.hid (X1_176.out.grown g_183 (fun k hk => by have := X0_b182.out k hk; have := Z_18.out; have := Z_22.out; have := Z_26.out; have := Z_32.out; have := Z_39.out; have := Z_44.out; have := Z_56.out; have := Z_72.out; have := Z_82.out; have := Z_93.out; have := Z_118.out; have := Z_131.out; have := Z_143.out; have := Z_156.out; have := Z_168.out; have := Z_181.out; omega))
  clear X1_176
  have X2_189 := Lib.hid (X2_177.out.grown g_183 (fun k hk => by have := X0_b182.out k hk; have := Z_18.out; have := Z_22.out; have := Z_26.out; have := Z_32.out; have := Z_39.out; have := Z_44.out; have := Z_56.out; have := Z_72.out; have := Z_82.out; have := Z_93.out; have := Z_118.out; have := Z_131.out; have := Z_143.out; have := Z_156.out; have := Z_168.out; have := Z_181.out; omega))
  clear X2_177
  have G0_190 := Lib.hid (G0_178.out.grown g_183 (fun k hk => by have := X0_b182.out k hk; have := Z_18.out; have := Z_22.out; have := Z_26.out; have := Z_32.out; have := Z_39.out; have := Z_44.out; have := Z_56.out; have := Z_72.out; have := Z_82.out; have := Z_93.out; have := Z_118.out; have := Z_131.out; have := Z_143.out; have := Z_156.out; have := Z_168.out; have := Z_181.out; omega))
  clear G0_178
  have GB0_191 := Lib.hid (GB0_179.out.grown g_183 (fun k hk => by have := X0_b182.out k hk; have := Z_18.out; have := Z_22.out; have := Z_26.out; have := Z_32.out; have := Z_39.out; have := Z_44.out; have := Z_56.out; have := Z_72.out; have := Z_82.out; have := Z_93.out; have := Z_118.out; have := Z_131.out; have := Z_143.out; have := Z_156.out; have := Z_168.out; have := Z_181.out; omega))
  clear GB0_179
  have E_192 := Lib.hid (E_180.out.grown g_183 (fun k hk => by have := X0_b182.out k hk; have := Z_18.out; have := Z_22.out; have := Z_26.out; have := Z_32.out; have := Z_39.out; have := Z_44.out; have := Z_56.out; have := Z_72.out; have := Z_82.out; have := Z_93.out; have := Z_118.out; have := Z_131.out; have := Z_143.out; have := Z_156.out; have := Z_168.out; have := Z_181.out; omega))
  clear E_180
  have Z_193 := Lib.hid g_183.size
  clear g_183 X0_b182
  have X0_194 := Lib.hid (o_183)
  clear o_183
  clear X0_194
  clear XB0_187
  go_wp2_with fail
  refine (markMatrixS_law _ _ _ _ _ _ _ _ X1_188.out hn1 (by omega) (by omega)).mono ?_
  rintro e w_195 ⟨rfl, o_195, g_195⟩
  clear X1_188
  have A0_196 := Lib.hid (A0_184.out.touch g_195 (by have := Z_18.out; have := Z_22.out; have := Z_26.out; have := Z_32.out; have := Z_39.out; have := Z_44.out; have := Z_56.out; have := Z_72.out; have := Z_82.out; have := Z_93.out; have := Z_118.out; have := Z_131.out; have := Z_143.out; have := Z_156.out; have := Z_168.out; have := Z_181.out; have := Z_193.out; omega))
  clear A0_184
  have S0_197 := Lib.hid (S0_185.out.touch g_195 (by have := Z_18.out; have := Z_22.out; have := Z_26.out; have := Z_32.out; have := Z_39.out; have := Z_44.out; have := Z_56.out; have := Z_72.out; have := Z_82.out; have := Z_93.out; have := Z_118.out; have := Z_131.out; have := Z_143.out; have := Z_156.out; have := Z_168.out; have := Z_181.out; have := Z_193.out; omega))
  clear S0_185
  have SB0_198 := Lib.hid (SB0_186.out.touch g_195 (by have := Z_18.out; have := Z_22.out; have := Z_26.out; have := Z_32.out; have := Z_39.out; have := Z_44.out; have := Z_56.out; have := Z_72.out; have := Z_82.out; have := Z_93.out; have := Z_118.out; have := Z_131.out; have := Z_143.out; have := Z_156.out; have := Z_168.out; have := Z_181.out; have := Z_193.out; omega))
  clear SB0_186
  have X2_199 := Lib.hid (X2_189.out.touch g_195 (by have := Z_18.out; have := Z_22.out; have := Z_26.out; have := Z_32.out; have := Z_39.out; have := Z_44.out; have := Z_56.out; have := Z_72.out; have := Z_82.out; have := Z_93.out; have := Z_118.out; have := Z_131.out; have := Z_143.out; have := Z_156.out; have := Z_168.out; have := Z_181.out; have := Z_193.out; omega))
  clear X2_189
  have G0_200 := Lib.hid (G0_190.out.touch g_195 (by have := Z_18.out; have := Z_22.out; have := Z_26.out; have := Z_32.out; have := Z_39.out; have := Z_44.out; have := Z_56.out; have := Z_72.out; have := Z_82.out; have := Z_93.out; have := Z_118.out; have := Z_131.out; have := Z_143.out; have := Z_156.out; have := Z_168.out; have := Z_181.out; have := Z_193.out; omega))
  clear G0_190
  have GB0_201 := Lib.hid (GB0_191.out.touch g_195 (by have := Z_18.out; have := Z_22.out; have := Z_26.out; have := Z_32.out; have := Z_39.out; have := Z_44.out; have := Z_56.out; have := Z_72.out; have := Z_82.out; have := Z_93.out; have := Z_118.out; have := Z_131.out; have := Z_143.out; have := Z_156.out; have := Z_168.out; have := Z_181.out; have := Z_193.out; omega))
  clear GB0_191
  have E_202 := Lib.hid (E_192.out.touch g_195 (by have := Z_18.out; have := Z_22.out; have := Z_26.out; have := Z_32.out; have := Z_39.out; have := Z_44.out; have := Z_56.out; have := Z_72.out; have := Z_82.out; have := Z_93.out; have := Z_118.out; have := Z_131.out; have := Z_143.out; have := Z_156.out; have := Z_168.out; have := Z_181.out; have := Z_193.out; omega))
  clear E_192
  have Z_203 := Lib.hid g_195.size
  clear g_195
  have X1_204 := Lib.hid (o_195)
  clear o_195
  clear X1_204
  have X2_b205 := Lib.hid X2_199.out.blk
  go_wp2_with fail
  refine (markIntS_law _ _ _ _ _ _ _ _ X2_199.out hn2 (by omega) (by omega)).mono ?_
  rintro e w_206 ⟨rfl, o_206, g_206⟩
  clear X2_199
  have A0_207 := Lib.hid (A0_196.out.grown g_206 (fun k hk => by have := X2_b205.out k hk; have := Z_18.out; have := Z_22.out; have := Z_26.out; have := Z_32.out; have := Z_39.out; have := Z_44.out; have := Z_56.out; have := Z_72.out; have := Z_82.out; have := Z_93.out; have := Z_118.out; have := Z_131.out; have := Z_143.out; have := Z_156.out; have := Z_168.out; have := Z_181.out; have := Z_193.out; have := Z_203.out; omega))
  clear A0_196
  have S0_208 := Lib.hid (S0_197.out.grown g_206 (fun k hk => by have := X2_b205.out k hk; have := Z_18.out; have := Z_22.out; have := Z_26.out; have := Z_32.out; have := Z_39.out; have := Z_44.out; have := Z_56.out; have := Z_72.out; have := Z_82.out; have := Z_93.out; have := Z_118.out; have := Z_131.out; have := Z_143.out; have := Z_156.out; have := Z_168.out; have := Z_181.out; have := Z_193.out; have := Z_203.out; omega))
  clear S0_197
  have SB0_209 := Lib.hid (SB0_198.out.grown g_206 (fun k hk => by have := X2_b205.out k hk; have := Z_18.out; have := Z_22.out; have := Z_26.out; have := Z_32.out; have := Z_39.out; have := Z_44.out; have := Z_56.out; have := Z_72.out; have := Z_82.out; have := Z_93.out; have := Z_118.out; have := Z_131.out; have := Z_143.out; have := Z_156.out; have := Z_168.out; have := Z_181.out; have := Z_193.out; have := Z_203.out; omega))
  clear SB0_198
  have G0_210 := Lib.hid (G0_200.out.grown g_206 (fun k hk => by have := X2_b205.out k hk; have := Z_18.out; have := Z_22.out; have := Z_26.out; have := Z_32.out; have := Z_39.out; have := Z_44.out; have := Z_56.out; have := Z_72.out; have := Z_82.out; have := Z_93.out; have := Z_118.out; have := Z_131.out; have := Z_143.out; have := Z_156.out; have := Z_168.out; have := Z_181.out; have := Z_193.out; have := Z_203.out; omega))
  clear G0_200
  have GB0_211 := Lib.hid (GB0_201.out.grown g_206 (fun k hk => by have := X2_b205.out k hk; have := Z_18.out; have := Z_22.out; have := Z_26.out; have := Z_32.out; have := Z_39.out; have := Z_44.out; have := Z_56.out; have := Z_72.out; have := Z_82.out; have := Z_93.out; have := Z_118.out; have := Z_131.out; have := Z_143.out; have := Z_156.out; have := Z_168.out; have := Z_181.out; have := Z_193.out; have := Z_203.out; omega))
  clear GB0_201
  have E_212 := Lib.hid (E_202.out.grown g_206 (fun k hk => by have := X2_b205.out k hk; have := Z_18.out; have := Z_22.out; have := Z_26.out; have := Z_32.out; have := Z_39.out; have := Z_44.out; have := Z_56.out; have := Z_72.out; have := Z_82.out; have := Z_93.out; have := Z_118.out; have := Z_131.out; have := Z_143.out; have := Z_156.out; have := Z_168.out; have := Z_181.out; have := Z_193.out; have := Z_203.out; omega))
  clear E_202
  have Z_213 := Lib.hid g_206.size
  clear g_206 X2_b205
  have X2_214 := Lib.hid (o_206)
  clear o_206
  clear X2_214
  have hk : 0 ≤ 1 + (n0 : Int) + (totM ms1 : Int) + (n2 : Int) := by omega
  have lGB0 := GB0_211.out.1
  have qGB00 := GB0_211.out.2 0 _ rfl
  have qGB01 := GB0_211.out.2 1 _ rfl
  have qGB02 := GB0_211.out.2 2 _ rfl
  have qGB03 := GB0_211.out.2 3 _ rfl
  have lSB0 := SB0_209.out.1
  have qSB00 := SB0_209.out.2 0 _ rfl
  have qSB01 := SB0_209.out.2 1 _ rfl
  have qSB02 := SB0_209.out.2 2 _ rfl
  have qSB03 := SB0_209.out.2 3 _ rfl
  try simp only [World.size_alloc] at lGB0 lSB0
  go_wp2_with fail
  refine (eqMatrix_law _ _ _ _ _ _ _ _ d0 _ G0_210.out.reads S0_208.out.reads gm0).mono ?_
  rintro e w_215 ⟨rfl, h_215⟩
  clear lGB0 qGB00 qGB01 qGB02 qGB03 lSB0 qSB00 qSB01 qSB02 qSB03
  have A0_216 := Lib.hid (A0_207.out.ext h_215)
  clear A0_207
  have S0_217 := Lib.hid (S0_208.out.ext h_215)
  clear S0_208
  have SB0_218 := Lib.hid (SB0_209.out.ext h_215)
  clear SB0_209
  have G0_219 := Lib.hid (G0_210.out.ext h_215)
  clear G0_210
  have GB0_220 := Lib.hid (GB0_211.out.ext h_215)
  clear GB0_211
  have E_221 := Lib.hid (E_212.out.trans h_215)
  clear E_212
  have z_222 := Ext.le h_215
  try simp only [World.size_alloc] at z_222
  have Z_222 := Lib.hid z_222
  clear z_222
  clear h_215
  clear hk
  have G0_b223 := Lib.hid G0_219.out.blk
  have lGB0 := GB0_220.out.1
  have qGB00 := GB0_220.out.2 0 _ rfl
  have qGB01 := GB0_220.out.2 1 _ rfl
  have qGB02 := GB0_220.out.2 2 _ rfl
  have qGB03 := GB0_220.out.2 3 _ rfl
  try simp only [World.size_alloc] at lGB0
  go_wp2_with fail
  refine (markMatrix_law _ _ _ _ _ _ _ _ _ _ _ G0_219.out gm0 (by omega) (by omega)).mono ?_
  rintro e w_224 ⟨rfl, o_224, g_224⟩
  clear lGB0 qGB00 qGB01 qGB02 qGB03
  clear G0_219
  have A0_225 := Lib.hid (A0_216.out.grown g_224 (fun k hk => by have := G0_b223.out k hk; have := Z_18.out; have := Z_22.out; have := Z_26.out; have := Z_32.out; have := Z_39.out; have := Z_44.out; have := Z_56.out; have := Z_72.out; have := Z_82.out; have := Z_93.out; have := Z_118.out; have := Z_131.out; have := Z_143.out; have := Z_156.out; have := Z_168.out; have := Z_181.out; have := Z_193.out; have := Z_203.out; have := Z_213.out; have := Z_222.out; omega))
  clear A0_216
  have S0_226 := Lib.hid (S0_217.out.grown g_224 (fun k hk => by have := G0_b223.out k hk; have := Z_18.out; have := Z_22.out; have := Z_26.out; have := Z_32.out; have := Z_39.out; have := Z_44.out; have := Z_56.out; have := Z_72.out; have := Z_82.out; have := Z_93.out; have := Z_118.out; have := Z_131.out; have := Z_143.out; have := Z_156.out; have := Z_168.out; have := Z_181.out; have := Z_193.out; have := Z_203.out; have := Z_213.out; have := Z_222.out; omega))
  clear S0_217
  have SB0_227 := Lib.hid (SB0_218.out.grown g_224 (fun k hk => by have := G0_b223.out k hk; have := Z_18.out; have := Z_22.out; have := Z_26.out; have := Z_32.out; have := Z_39.out; have := Z_44.out; have := Z_56.out; have := Z_72.out; have := Z_82.out; have := Z_93.out; have := Z_118.out; have := Z_131.out; have := Z_143.out; have := Z_156.out; have := Z_168.out; have := Z_181.out; have := Z_193.out; have := Z_203.out; have := Z_213.out; have := Z_222.out; omega))
  clear SB0_218
  have GB0_228 := Lib.hid (GB0_220.out.grown g_224 (fun k hk => by have := G0_b223.out k hk; have := Z_18.out; have := Z_22.out; have := Z_26.out; have := Z_32.out; have := Z_39.out; have := Z_44.out; have := Z_56.out; have := Z_72.out; have := Z_82.out; have := Z_93.out; have := Z_118.out; have := Z_131.out; have := Z_143.out; have := Z_156.out; have := Z_168.out; have := Z_181.out; have := Z_193.out; have := Z_203.out; have := Z_213.out; have := Z_222.out; omega))
  clear GB0_220
  have E_229 := Lib.hid (E_221.out.grown g_224 (fun k hk => by have := G0_b223.out k hk; have := Z_18.out; have := Z_22.out; have := Z_26.out; have := Z_32.out; have := Z_39.out; have := Z_44.out; have := Z_56.out; have := Z_72.out; have := Z_82.out; have := Z_93.out; have := Z_118.out; have := Z_131.out; have := Z_143.out; have := Z_156.out; have := Z_168.out; have := Z_181.out; have := Z_193.out; have := Z_203.out; have := Z_213.out; have := Z_222.out; omega))
  clear E_221
  have Z_230 := Lib.hid g_224.size
  clear g_224 G0_b223
  have G0_231 := Lib.hid (o_224)
  clear o_224
  have lGB0 := GB0_228.out.1
  have qGB00 := GB0_228.out.2 0 _ rfl
  have qGB01 := GB0_228.out.2 1 _ rfl
  have qGB02 := GB0_228.out.2 2 _ rfl
  have qGB03 := GB0_228.out.2 3 _ rfl
  try simp only [World.size_alloc] at lGB0
  go_wp2_with fail
  refine (heldMatrix_law _ _ _ _ _ _ _ _ G0_231.out.reads gm0 (by omega) (by omega)).mono ?_
  rintro e w_232 ⟨rfl, h_232⟩
  clear lGB0 qGB00 qGB01 qGB02 qGB03
  have hq232 : 0 ≤ 1 + (sn0 : Int) := by omega
  have A0_233 := Lib.hid (A0_225.out.ext h_232)
  clear A0_225
  have S0_234 := Lib.hid (S0_226.out.ext h_232)
  clear S0_226
  have SB0_235 := Lib.hid (SB0_227.out.ext h_232)
  clear SB0_227
  have GB0_236 := Lib.hid (GB0_228.out.ext h_232)
  clear GB0_228
  have G0_237 := Lib.hid (G0_231.out.ext h_232)
  clear G0_231
  have E_238 := Lib.hid (E_229.out.trans h_232)
  clear E_229
  have z_239 := Ext.le h_232
  try simp only [World.size_alloc] at z_239
  have Z_239 := Lib.hid z_239
  clear z_239
  clear h_232
  have lA0 := A0_233.out.1
  have qA00 := A0_233.out.2 0 _ rfl
  have qA01 := A0_233.out.2 1 _ rfl
  have qA02 := A0_233.out.2 2 _ rfl
  try simp only [World.size_alloc] at lA0
  go_wp2_with fail
  refine (toAlgebra_law _ _ _ _ _ xs0 _ (HR0.out.ext E_238.out) hn0).mono ?_
  rintro e w_240 ⟨b_240, rfl, o_240, h_240⟩
  clear lA0 qA00 qA01 qA02
  have A0_241 := Lib.hid (A0_233.out.ext h_240)
  clear A0_233
  have S0_242 := Lib.hid (S0_234.out.ext h_240)
  clear S0_234
  have SB0_243 := Lib.hid (SB0_235.out.ext h_240)
  clear SB0_235
  have GB0_244 := Lib.hid (GB0_236.out.ext h_240)
  clear GB0_236
  have G0_245 := Lib.hid (G0_237.out.ext h_240)
  clear G0_237
  have E_246 := Lib.hid (E_238.out.trans h_240)
  clear E_238
  have z_247 := Ext.le h_240
  try simp only [World.size_alloc] at z_247
  have Z_247 := Lib.hid z_247
  clear z_247
  have T0_248 := Lib.hid (o_240)
  clear o_240 h_240
  go_wp2_with fail
  refine (toMatrixS_law _ _ _ ms1 _ (HR1.out.ext E_246.out) hn1 HT1.out).mono ?_
  rintro e w_249 ⟨b_249, rfl, o_249, h_249⟩
  have A0_250 := Lib.hid (A0_241.out.ext h_249)
  clear A0_241
  have S0_251 := Lib.hid (S0_242.out.ext h_249)
  clear S0_242
  have SB0_252 := Lib.hid (SB0_243.out.ext h_249)
  clear SB0_243
  have GB0_253 := Lib.hid (GB0_244.out.ext h_249)
  clear GB0_244
  have G0_254 := Lib.hid (G0_245.out.ext h_249)
  clear G0_245
  have T0_255 := Lib.hid (T0_248.out.ext h_249)
  clear T0_248
  have E_256 := Lib.hid (E_246.out.trans h_249)
  clear E_246
  have z_257 := Ext.le h_249
  try simp only [World.size_alloc] at z_257
  have Z_257 := Lib.hid z_257
  clear z_257
  have T1_258 := Lib.hid (o_249)
  clear o_249 h_249
  go_wp2_with fail
  refine (toIntS_law _ _ _ xs2 _ (HR2.out.ext E_256.out) hn2).mono ?_
  rintro e w_259 ⟨b_259, rfl, o_259, h_259⟩
  have A0_260 := Lib.hid (A0_250.out.ext h_259)
  clear A0_250
  have S0_261 := Lib.hid (S0_251.out.ext h_259)
  clear S0_251
  have SB0_262 := Lib.hid (SB0_252.out.ext h_259)
  clear SB0_252
  have GB0_263 := Lib.hid (GB0_253.out.ext h_259)
  clear GB0_253
  have G0_264 := Lib.hid (G0_254.out.ext h_259)
  clear G0_254
  have T0_265 := Lib.hid (T0_255.out.ext h_259)
  clear T0_255
  have T1_266 := Lib.hid (T1_258.out.ext h_259)
  clear T1_258
  have E_267 := Lib.hid (E_256.out.trans h_259)
  clear E_256
  have z_268 := Ext.le h_259
  try simp only [World.size_alloc] at z_268
  have Z_268 := Lib.hid z_268
  clear z_268
  have T2_269 := Lib.hid (o_259)
  clear o_259 h_259
  go_wp2_with fail
  refine (matrixOfT_impl T0_265.out.reads hn0 T1_266.out.reads hn1 T2_269.out.reads hn2 hM.out).mono ?_
  rintro e w_270 ⟨v0, rfl, ⟨ta0, tn0, tc0, rfl, tO0, tm0⟩, h_270⟩
  clear T0_265
  clear T1_266
  clear T2_269
  have A0_271 := Lib.hid (A0_260.out.ext h_270)
  clear A0_260
  have S0_272 := Lib.hid (S0_261.out.ext h_270)
  clear S0_261
  have SB0_273 := Lib.hid (SB0_262.out.ext h_270)
  clear SB0_262
  have GB0_274 := Lib.hid (GB0_263.out.ext h_270)
  clear GB0_263
  have G0_275 := Lib.hid (G0_264.out.ext h_270)
  clear G0_264
  have E_276 := Lib.hid (E_267.out.trans h_270)
  clear E_267
  have z_277 := Ext.le h_270
  try simp only [World.size_alloc] at z_277
  have Z_277 := Lib.hid z_277
  clear z_277
  clear h_270
  try simp only [World.size_alloc] at tO0
  have H0_278 := Lib.hid (tO0)
  clear tO0
  have P_279 := (Ext.refl w_270).alloc (.cells #[.int .i64 pP0, .int .i64 pR0, .int .i64 pC0, .slice ta0 tn0 tc0] 37)
  have A0_280 := Lib.hid (A0_271.out.ext P_279)
  clear A0_271
  have S0_281 := Lib.hid (S0_272.out.ext P_279)
  clear S0_272
  have SB0_282 := Lib.hid (SB0_273.out.ext P_279)
  clear SB0_273
  have GB0_283 := Lib.hid (GB0_274.out.ext P_279)
  clear GB0_274
  have G0_284 := Lib.hid (G0_275.out.ext P_279)
  clear G0_275
  have H0_285 := Lib.hid (H0_278.out.ext P_279)
  clear H0_278
  have E_286 := Lib.hid (E_276.out.trans P_279)
  clear E_276
  clear P_279
  have HB0_287 := Lib.hid (cells_new w_270 #[.int .i64 pP0, .int .i64 pR0, .int .i64 pC0, .slice ta0 tn0 tc0] 37)
  obtain rfl : sn0 = tn0 := S0_281.out.len.symm.trans H0_285.out.len
  have lHB0 := HB0_287.out.1
  have qHB00 := HB0_287.out.2 0 _ rfl
  have qHB01 := HB0_287.out.2 1 _ rfl
  have qHB02 := HB0_287.out.2 2 _ rfl
  have qHB03 := HB0_287.out.2 3 _ rfl
  have lSB0 := SB0_282.out.1
  have qSB00 := SB0_282.out.2 0 _ rfl
  have qSB01 := SB0_282.out.2 1 _ rfl
  have qSB02 := SB0_282.out.2 2 _ rfl
  have qSB03 := SB0_282.out.2 3 _ rfl
  try simp only [World.size_alloc] at lHB0 lSB0
  go_wp2_with fail
  refine (eqMatrix_law _ _ _ _ _ _ _ _ d0 _ H0_285.out.reads S0_281.out.reads gm0).mono ?_
  rintro e w_288 ⟨rfl, h_288⟩
  clear lHB0 qHB00 qHB01 qHB02 qHB03 lSB0 qSB00 qSB01 qSB02 qSB03
  have A0_289 := Lib.hid (A0_280.out.ext h_288)
  clear A0_280
  have S0_290 := Lib.hid (S0_281.out.ext h_288)
  clear S0_281
  have SB0_291 := Lib.hid (SB0_282.out.ext h_288)
  clear SB0_282
  have GB0_292 := Lib.hid (GB0_283.out.ext h_288)
  clear GB0_283
  have G0_293 := Lib.hid (G0_284.out.ext h_288)
  clear G0_284
  have H0_294 := Lib.hid (H0_285.out.ext h_288)
  clear H0_285
  have HB0_295 := Lib.hid (HB0_287.out.ext h_288)
  clear HB0_287
  have E_296 := Lib.hid (E_286.out.trans h_288)
  clear E_286
  have z_297 := Ext.le h_288
  try simp only [World.size_alloc] at z_297
  have Z_297 := Lib.hid z_297
  clear z_297
  clear h_288
  have lGB0 := GB0_292.out.1
  have qGB00 := GB0_292.out.2 0 _ rfl
  have qGB01 := GB0_292.out.2 1 _ rfl
  have qGB02 := GB0_292.out.2 2 _ rfl
  have qGB03 := GB0_292.out.2 3 _ rfl
  try simp only [World.size_alloc] at lGB0
  go_wp2_with fail
  refine (heldMatrix_law _ _ _ _ _ _ _ _ G0_293.out.reads gm0 (by omega) (by omega)).mono ?_
  rintro e w_298 ⟨rfl, h_298⟩
  clear lGB0 qGB00 qGB01 qGB02 qGB03
  have hq298 : 0 ≤ 1 + (sn0 : Int) := by omega
  have A0_299 := Lib.hid (A0_289.out.ext h_298)
  clear A0_289
  have S0_300 := Lib.hid (S0_290.out.ext h_298)
  clear S0_290
  have SB0_301 := Lib.hid (SB0_291.out.ext h_298)
  clear SB0_291
  have GB0_302 := Lib.hid (GB0_292.out.ext h_298)
  clear GB0_292
  have G0_303 := Lib.hid (G0_293.out.ext h_298)
  clear G0_293
  have H0_304 := Lib.hid (H0_294.out.ext h_298)
  clear H0_294
  have HB0_305 := Lib.hid (HB0_295.out.ext h_298)
  clear HB0_295
  have E_306 := Lib.hid (E_296.out.trans h_298)
  clear E_296
  have z_307 := Ext.le h_298
  try simp only [World.size_alloc] at z_307
  have Z_307 := Lib.hid z_307
  clear z_307
  clear h_298
  go_wp2
  go_ret
  exact ⟨rfl, E_306.out⟩

set_option maxRecDepth 100000 in
theorem lifted (os : Os) (started : os.Started) (H : Type) (enc : TypeId × Value → H) :
    ReturnsInHanded {} Try.checked os 4 .any (Rows.fnExactMatrixOfSpec.pre6 enc Try.prog Try.f4 Rows.fnExactMatrixOfRow.domain false) (Rows.fnExactMatrixOfSpec.post enc Try.prog Try.f4 false true false false) := by
  refine returnsInHanded_of_change (C := Try.checked) own started (by kernel_rfl) Try.func4
    (ChangeSpec.witness6 (enc := enc) (C := Try.checked) false ⟨#[], #[.agg #[.int .i64 0, .int .i64 0, .slice none 0 0], .slice none 0 0, .slice none 0 0], []⟩ 8 (by kernel_rfl) (by kernel_rfl) (by kernel_rfl) (by kernel_rfl)) ?_
  intro W base args ds gs before hval0 hW hcnd _
  have hval : ∀ (j : Nat) t v, Try.f4.params[j]? = some t → args[j]? = some v → Value.okWide Try.prog W .any base t v := hval0
  have hW' := hW
  obtain ⟨p, q, hA0, hV, rfl, hfz, hnd⟩ := hW
  have hA : DataW.TrodAll enc Try.prog W 0 (fun _ => true) true Try.f4.params.toList args.toList ds p := hA0
  rw [Try.params4] at hA hval
  obtain ⟨v0, vs0, d0, ds0, p0, q0, hargs, rfl, rfl, h0, r0⟩ := trodAll_cons hA
  obtain ⟨v1, vs1, d1, ds1, p1, q1, rfl, rfl, rfl, h1, r1⟩ := trodAll_cons r0
  obtain ⟨v2, vs2, d2, ds2, p2, q2, rfl, rfl, rfl, h2, r2⟩ := trodAll_cons r1
  obtain ⟨rfl, rfl, rfl⟩ := trodAll_nil r2
  obtain rfl : args = #[v0, v1, v2] := by cases args; simp_all
  obtain ⟨rfl, rfl⟩ := trodVars_none hV
  have k0 := h0
  have lt0 : ∀ x ∈ p0, x.block < W.heap.size := by obtain ⟨m, hm⟩ := k0; exact DataW.trod_lt m _ _ _ hm
  obtain ⟨P0, D0, a0, n0, c0, xs0, rfl, w0⟩ := open_alg (hval 0 _ v0 rfl rfl) h0
  have k1 := h1
  have lt1 : ∀ x ∈ p1, x.block < W.heap.size := by obtain ⟨m, hm⟩ := k1; exact DataW.trod_lt m _ _ _ hm
  obtain ⟨a1, n1, c1, ms1, rfl, w1⟩ := open_mats (hval 1 _ v1 rfl rfl) h1
  have k2 := h2
  have lt2 : ∀ x ∈ p2, x.block < W.heap.size := by obtain ⟨m, hm⟩ := k2; exact DataW.trod_lt m _ _ _ hm
  obtain ⟨a2, n2, c2, xs2, rfl, w2⟩ := open_intsl (hval 2 _ v2 rfl rfl) h2
  clear hA0 hval0
  refine (walk P0 D0 a0 n0 c0 xs0 a1 n1 c1 ms1 a2 n2 c2 xs2 W w0 w1 w2).mono fun e W' ⟨he, bel⟩ => ?_
  subst he
  exact ⟨_, rfl, _, _, _, [], _, [], hW', trodAll_mk1 (shut_bool Try.underlying4 _), (trodAll_cons_mk (Below.trod laidOut (by kernel_rfl) (of_decide_eq_true (by kernel_rfl)) k0 bel lt0) (trodAll_cons_mk (Below.trod laidOut (by kernel_rfl) (of_decide_eq_true (by kernel_rfl)) k1 bel lt1) (trodAll_cons_mk (Below.trod laidOut (by kernel_rfl) (of_decide_eq_true (by kernel_rfl)) k2 bel lt2) trodAll_mk0))), rfl, Below.frame bel _, fun h => by cases h⟩

set_option maxRecDepth 1000000 in
set_option maxHeartbeats 40000000 in
theorem closed : joinedFacts Try.pinned.checked.prog 4 Try.f4 Rows.fnExactMatrixOfSpec Rows.fnExactMatrixOfRow = true := by
  unfold joinedFacts
  repeat' (with_reducible refine and2 ?_ ?_)
  all_goals (first | (with_reducible exact seat_laid) | (with_reducible exact seat_maps) | (with_reducible exact seat_heard) | (with_reducible exact seat_enter) | (with_reducible refine seat_lifts ?_; kernel_rfl) | (with_reducible refine seat_make ?_; kernel_rfl) | (with_reducible refine seat_plain ?_; kernel_rfl) | (as_aux_lemma => kernel_rfl))

theorem over : Rows.fnExactMatrixOfRow.holds Try.pinned (OpenSpec.ofChange Rows.fnExactMatrixOfSpec) :=
  OpenClaim.holds_of_wide 4 Try.f4 rfl rfl rfl rfl rfl rfl rfl ⟨rfl, rfl, rfl, rfl, rfl⟩ rfl rfl rfl rfl rfl (by kernel_rfl) Try.func4 closed
    (of_decide_eq_true (by kernel_rfl)) (by unfold Func.isWrapper; first | (rw [if_pos (by decide +kernel)]; kernel_rfl) | (rw [if_neg (by decide +kernel)]; exact ⟨rfl, rfl⟩))
    (fun os started H enc _ => lifted os started H enc)

/-- The statement. -/
theorem proved : Rows.FnExactMatrixOfSaid := over
#print axioms proved
end Go.Proofs.Ytnikfalpjieibaa.fnExactMatrixOf
