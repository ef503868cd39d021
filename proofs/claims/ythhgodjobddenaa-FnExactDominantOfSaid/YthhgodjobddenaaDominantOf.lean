/-
  Proved: the statement given for the law FnExactDominantOf: at every input the Go text returns true, with no panic, and the arguments read as they read before. No condition is added.
-/
import Derived.Test.YthhgodjobddenaaFr
import Derived.Test.YthhgodjobddenaaRowC
import Derived.Test.YthhgodjobddenaaTwd
import Derived.Test.YthhgodjobddenaaSCartan
import Derived.Test.YthhgodjobddenaaSeatF
namespace Go.Proofs.Ythhgodjobddenaa.fnExactDominantOf
open Go.ChangeShapes Go.WideShapes Go.ChangeAt Go.RowKit
open Go.ChangeMaps (open_string shut_string)
set_option linter.unusedVariables false

set_option maxRecDepth 100000 in
set_option maxHeartbeats 3200000 in
/-- The walk: the Go text returns true, and nothing that was there has changed. -/
theorem walk (R0 : Int) (a0 : Option Addr) (n0 c0 : Nat) (xs0 : List Int) (a1 : Option Addr) (n1 c1 : Nat) (xs1 : List Int) (w : World) (w0 : Reads w a0 n0 xs0 ∧ n0 ≤ maxLen) (w1 : Reads w a1 n1 xs1 ∧ n1 ≤ maxLen) :
    Calls Try.prog 3 #[.agg #[.int .i64 R0, .slice a0 n0 c0], .slice a1 n1 c1] w fun e w' => e = .returned (.bool true) ∧ Ext w w' := by
  obtain ⟨hr0, hm0⟩ := w0
  have HR0 := Lib.hid hr0
  clear hr0
  obtain ⟨hr1, hm1⟩ := w1
  have HR1 := Lib.hid hr1
  clear hr1
  rcases hM0 : domO R0 xs0 xs1 with ⟨d0, d1⟩
  have hM := Lib.hid hM0
  clear hM0
  by_cases hz0 : (n1 : Int) ≤ 1048576
  case neg =>
    go_enter Try.func3, Try.ntmps3
    have T0 := cells_new' w #[.int .i64 R0, .slice a0 n0 c0] 24 (w.heap.size) (by simp)
    have A0_1 := Lib.hid (T0.ext (Ext.refl _))
    clear T0
    have E_2 := Lib.hid ((Ext.refl w).alloc (.cells #[.int .i64 R0, .slice a0 n0 c0] 24))
    have hlt : (1048576 : Int) < (n1 : Int) := by omega
    go_wp2
    go_ret
    exact ⟨rfl, E_2.out⟩
  by_cases hz1 : (n0 : Int) ≤ 1048576
  case neg =>
    go_enter Try.func3, Try.ntmps3
    have T0 := cells_new' w #[.int .i64 R0, .slice a0 n0 c0] 24 (w.heap.size) (by simp)
    have A0_3 := Lib.hid (T0.ext (Ext.refl _))
    clear T0
    have E_4 := Lib.hid ((Ext.refl w).alloc (.cells #[.int .i64 R0, .slice a0 n0 c0] 24))
    have lA0 := A0_3.out.1
    have qA00 := A0_3.out.2 0 _ rfl
    have qA01 := A0_3.out.2 1 _ rfl
    try simp only [World.size_alloc] at lA0
    go_wp2_with fail
    refine (szCartan_no _ _ _ _ _ _ (by omega) (by omega) hm0 (by omega)).mono ?_
    rintro e w_5 ⟨rfl, h_5⟩
    clear lA0 qA00 qA01
    go_wp2
    go_ret
    exact ⟨rfl, E_4.out.trans h_5⟩
  have hn0 : n0 ≤ 1048576 := by omega
  have hn1 : n1 ≤ 1048576 := by omega
  go_enter Try.func3, Try.ntmps3
  have T0 := cells_new' w #[.int .i64 R0, .slice a0 n0 c0] 24 (w.heap.size) (by simp)
  have A0_6 := Lib.hid (T0.ext (Ext.refl _))
  clear T0
  have E_7 := Lib.hid ((Ext.refl w).alloc (.cells #[.int .i64 R0, .slice a0 n0 c0] 24))
  have lA0 := A0_6.out.1
  have qA00 := A0_6.out.2 0 _ rfl
  have qA01 := A0_6.out.2 1 _ rfl
  try simp only [World.size_alloc] at lA0
  go_wp2_with fail
  refine (szCartan_yes _ _ _ _ _ _ (by omega) (by omega)).mono ?_
  rintro e w_8 ⟨rfl, h_8⟩
  clear lA0 qA00 qA01
  have A0_9 := Lib.hid (A0_6.out.ext h_8)
  clear A0_6
  have E_10 := Lib.hid (E_7.out.trans h_8)
  clear E_7
  have z_11 := Ext.le h_8
  try simp only [World.size_alloc] at z_11
  have Z_11 := Lib.hid z_11
  clear z_11
  clear h_8
  have hp : 0 ≤ 1048576 - (n0 : Int) := by omega
  have lA0 := A0_9.out.1
  have qA00 := A0_9.out.2 0 _ rfl
  have qA01 := A0_9.out.2 1 _ rfl
  try simp only [World.size_alloc] at lA0
  go_wp2_with fail
  refine (toCartan_law _ _ _ _ xs0 _ (HR0.out.ext E_10.out) hn0).mono ?_
  rintro e w_12 ⟨b_12, rfl, o_12, h_12⟩
  clear lA0 qA00 qA01
  have A0_13 := Lib.hid (A0_9.out.ext h_12)
  clear A0_9
  have E_14 := Lib.hid (E_10.out.trans h_12)
  clear E_10
  have z_15 := Ext.le h_12
  try simp only [World.size_alloc] at z_15
  have Z_15 := Lib.hid z_15
  clear z_15
  have T0_16 := Lib.hid (o_12)
  clear o_12 h_12
  go_wp2_with fail
  refine (toIntS_law _ _ _ xs1 _ (HR1.out.ext E_14.out) hn1).mono ?_
  rintro e w_17 ⟨b_17, rfl, o_17, h_17⟩
  have A0_18 := Lib.hid (A0_13.out.ext h_17)
  clear A0_13
  have T0_19 := Lib.hid (T0_16.out.ext h_17)
  clear T0_16
  have E_20 := Lib.hid (E_14.out.trans h_17)
  clear E_14
  have z_21 := Ext.le h_17
  try simp only [World.size_alloc] at z_21
  have Z_21 := Lib.hid z_21
  clear z_21
  have T1_22 := Lib.hid (o_17)
  clear o_17 h_17
  go_wp2_with fail
  refine (dominantOf_spec T0_19.out.reads hn0 T1_22.out.reads hn1 hM.out).mono ?_
  rintro e w_23 ⟨v0, v1, smid, rfl, shmid, ⟨sa0, sn0, sc0, rfl, sO0, sm0⟩, ⟨sa1, sn1, sc1, rfl, sO1, sm1⟩, h_23⟩
  clear T0_19
  clear T1_22
  have A0_24 := Lib.hid (A0_18.out.ext h_23)
  clear A0_18
  have E_25 := Lib.hid (E_20.out.trans h_23)
  clear E_20
  have z_26 := Ext.le h_23
  try simp only [World.size_alloc] at z_26
  have Z_26 := Lib.hid z_26
  clear z_26
  clear h_23
  try simp only [World.size_alloc] at shmid
  have Zm_27 := Lib.hid shmid.1
  have Zq_27 := Lib.hid shmid.2
  clear shmid
  try simp only [World.size_alloc] at sO0
  have S0_28 := Lib.hid (sO0)
  clear sO0
  try simp only [World.size_alloc] at sO1
  have S1_29 := Lib.hid (sO1)
  clear sO1
  have lA0 := A0_24.out.1
  have qA00 := A0_24.out.2 0 _ rfl
  have qA01 := A0_24.out.2 1 _ rfl
  try simp only [World.size_alloc] at lA0
  go_wp2_with fail
  refine (toCartan_law _ _ _ _ xs0 _ (HR0.out.ext E_25.out) hn0).mono ?_
  rintro e w_30 ⟨b_30, rfl, o_30, h_30⟩
  clear lA0 qA00 qA01
  have A0_31 := Lib.hid (A0_24.out.ext h_30)
  clear A0_24
  have S0_32 := Lib.hid (S0_28.out.ext h_30)
  clear S0_28
  have S1_33 := Lib.hid (S1_29.out.ext h_30)
  clear S1_29
  have E_34 := Lib.hid (E_25.out.trans h_30)
  clear E_25
  have z_35 := Ext.le h_30
  try simp only [World.size_alloc] at z_35
  have Z_35 := Lib.hid z_35
  clear z_35
  try simp only [World.size_alloc] at o_30
  have X0_36 := Lib.hid (o_30)
  clear o_30 h_30
  have P_37 := (Ext.refl w_30).alloc (.cells #[.int .i64 R0, .slice (some ⟨b_30, 0, none⟩) n0 n0] 28)
  have A0_38 := Lib.hid (A0_31.out.ext P_37)
  clear A0_31
  have S0_39 := Lib.hid (S0_32.out.ext P_37)
  clear S0_32
  have S1_40 := Lib.hid (S1_33.out.ext P_37)
  clear S1_33
  have X0_41 := Lib.hid (X0_36.out.ext P_37)
  clear X0_36
  have E_42 := Lib.hid (E_34.out.trans P_37)
  clear E_34
  clear P_37
  have XB0_43 := Lib.hid (cells_new w_30 #[.int .i64 R0, .slice (some ⟨b_30, 0, none⟩) n0 n0] 28)
  go_wp2_with fail
  refine (toIntS_law _ _ _ xs1 _ (HR1.out.ext E_42.out) hn1).mono ?_
  rintro e w_44 ⟨b_44, rfl, o_44, h_44⟩
  have A0_45 := Lib.hid (A0_38.out.ext h_44)
  clear A0_38
  have S0_46 := Lib.hid (S0_39.out.ext h_44)
  clear S0_39
  have S1_47 := Lib.hid (S1_40.out.ext h_44)
  clear S1_40
  have X0_48 := Lib.hid (X0_41.out.ext h_44)
  clear X0_41
  have XB0_49 := Lib.hid (XB0_43.out.ext h_44)
  clear XB0_43
  have E_50 := Lib.hid (E_42.out.trans h_44)
  clear E_42
  have z_51 := Ext.le h_44
  try simp only [World.size_alloc] at z_51
  have Z_51 := Lib.hid z_51
  clear z_51
  try simp only [World.size_alloc] at o_44
  have X1_52 := Lib.hid (o_44)
  clear o_44 h_44
  have lXB0 := XB0_49.out.1
  have qXB00 := XB0_49.out.2 0 _ rfl
  have qXB01 := XB0_49.out.2 1 _ rfl
  try simp only [World.size_alloc] at lXB0
  go_wp2_with fail
  refine (dominantOf_impl X0_48.out.reads hn0 X1_52.out.reads hn1 hM.out).mono ?_
  rintro e w_53 ⟨v0, v1, gmid, rfl, ghmid, ⟨ga0, gn0, gc0, rfl, gO0, gm0⟩, ⟨ga1, gn1, gc1, rfl, gO1, gm1⟩, h_53⟩
  clear lXB0 qXB00 qXB01
  have A0_54 := Lib.hid (A0_45.out.ext h_53)
  clear A0_45
  have S0_55 := Lib.hid (S0_46.out.ext h_53)
  clear S0_46
  have S1_56 := Lib.hid (S1_47.out.ext h_53)
  clear S1_47
  have X0_57 := Lib.hid (X0_48.out.ext h_53)
  clear X0_48
  have XB0_58 := Lib.hid (XB0_49.out.ext h_53)
  clear XB0_49
  have X1_59 := Lib.hid (X1_52.out.ext h_53)
  clear X1_52
  have E_60 := Lib.hid (E_50.out.trans h_53)
  clear E_50
  have z_61 := Ext.le h_53
  try simp only [World.size_alloc] at z_61
  have Z_61 := Lib.hid z_61
  clear z_61
  clear h_53
  try simp only [World.size_alloc] at ghmid
  have Zm_62 := Lib.hid ghmid.1
  have Zq_62 := Lib.hid ghmid.2
  clear ghmid
  try simp only [World.size_alloc] at gO0
  have G0_63 := Lib.hid (gO0)
  clear gO0
  try simp only [World.size_alloc] at gO1
  have G1_64 := Lib.hid (gO1)
  clear gO1
  obtain rfl : sn0 = gn0 := S0_55.out.len.symm.trans G0_63.out.len
  obtain rfl : sn1 = gn1 := S1_56.out.len.symm.trans G1_64.out.len
  go_wp2_with fail
  refine (eqIntS_x _ _ _ _ _ d0 _ G0_63.out.reads S0_55.out.reads gm0).mono ?_
  rintro e w_65 ⟨rfl, h_65⟩
  have A0_66 := Lib.hid (A0_54.out.ext h_65)
  clear A0_54
  have S0_67 := Lib.hid (S0_55.out.ext h_65)
  clear S0_55
  have S1_68 := Lib.hid (S1_56.out.ext h_65)
  clear S1_56
  have X0_69 := Lib.hid (X0_57.out.ext h_65)
  clear X0_57
  have XB0_70 := Lib.hid (XB0_58.out.ext h_65)
  clear XB0_58
  have X1_71 := Lib.hid (X1_59.out.ext h_65)
  clear X1_59
  have G0_72 := Lib.hid (G0_63.out.ext h_65)
  clear G0_63
  have G1_73 := Lib.hid (G1_64.out.ext h_65)
  clear G1_64
  have E_74 := Lib.hid (E_60.out.trans h_65)
  clear E_60
  have z_75 := Ext.le h_65
  try simp only [World.size_alloc] at z_75
  have Z_75 := Lib.hid z_75
  clear z_75
  clear h_65
  go_wp2_with fail
  refine (eqIntS_x _ _ _ _ _ d1 _ G1_73.out.reads S1_68.out.reads gm1).mono ?_
  rintro e w_76 ⟨rfl, h_76⟩
  have A0_77 := Lib.hid (A0_66.out.ext h_76)
  clear A0_66
  have S0_78 := Lib.hid (S0_67.out.ext h_76)
  clear S0_67
  have S1_79 := Lib.hid (S1_68.out.ext h_76)
  clear S1_68
  have X0_80 := Lib.hid (X0_69.out.ext h_76)
  clear X0_69
  have XB0_81 := Lib.hid (XB0_70.out.ext h_76)
  clear XB0_70
  have X1_82 := Lib.hid (X1_71.out.ext h_76)
  clear X1_71
  have G0_83 := Lib.hid (G0_72.out.ext h_76)
  clear G0_72
  have G1_84 := Lib.hid (G1_73.out.ext h_76)
  clear G1_73
  have E_85 := Lib.hid (E_74.out.trans h_76)
  clear E_74
  have z_86 := Ext.le h_76
  try simp only [World.size_alloc] at z_86
  have Z_86 := Lib.hid z_86
  clear z_86
  clear h_76
  have lXB0 := XB0_81.out.1
  have qXB00 := XB0_81.out.2 0 _ rfl
  have qXB01 := XB0_81.out.2 1 _ rfl
  have lA0 := A0_77.out.1
  have qA00 := A0_77.out.2 0 _ rfl
  have qA01 := A0_77.out.2 1 _ rfl
  try simp only [World.size_alloc] at lXB0 lA0
  go_wp2_with fail
  go_region_held3 (fun w' => Ext w_76 w' ∧ (∀ b o, b < w_76.heap.size → w'.cell? ⟨b, o, none⟩ = w_76.cell? ⟨b, o, none⟩)) (first | (with_reducible exact ext2 (Ext.trans (And.left ‹Ext w_76 _ ∧ _›) ‹Ext _ _›)) | (refine ext2 ?_; with_reducible repeat (first | exact Ext.refl _ | refine Ext.drew ?_))) (first
    | (go_at_call 6; refine (toCartan_law _ _ _ _ xs0 _ (HR0.out.ext (E_85.out.trans (And.left ‹Ext w_76 _ ∧ _›))) hn0).mono ?_; rintro e w_87 ⟨b_87, rfl, o_87, h_87⟩)
    | (go_at_call 10; refine (eqCartan_law _ _ _ _ _ _ xs0 _ (Own.reads (Own.ext X0_80.out (And.left ‹Ext w_76 _ ∧ _›))) (Own.reads o_87) hn0).mono ?_; rintro e w_88 ⟨rfl, h_88⟩))
  clear lXB0 qXB00 qXB01 lA0 qA00 qA01
  have hx_88 := And.left ‹Ext w_76 w_88 ∧ _›
  try clear h_87 h_88 o_87
  have A0_89 := Lib.hid (A0_77.out.ext hx_88)
  clear A0_77
  have S0_90 := Lib.hid (S0_78.out.ext hx_88)
  clear S0_78
  have S1_91 := Lib.hid (S1_79.out.ext hx_88)
  clear S1_79
  have X0_92 := Lib.hid (X0_80.out.ext hx_88)
  clear X0_80
  have XB0_93 := Lib.hid (XB0_81.out.ext hx_88)
  clear XB0_81
  have X1_94 := Lib.hid (X1_82.out.ext hx_88)
  clear X1_82
  have G0_95 := Lib.hid (G0_83.out.ext hx_88)
  clear G0_83
  have G1_96 := Lib.hid (G1_84.out.ext hx_88)
  clear G1_84
  have E_97 := Lib.hid (E_85.out.trans hx_88)
  clear E_85
  have z_98 := Ext.le hx_88
  try simp only [World.size_alloc] at z_98
  have Z_98 := Lib.hid z_98
  clear z_98
  clear hx_88
  go_wp2_with fail
  refine (toIntS_law _ _ _ xs1 _ (HR1.out.ext E_97.out) hn1).mono ?_
  rintro e w_99 ⟨b_99, rfl, o_99, h_99⟩
  have A0_100 := Lib.hid (A0_89.out.ext h_99)
  clear A0_89
  have S0_101 := Lib.hid (S0_90.out.ext h_99)
  clear S0_90
  have S1_102 := Lib.hid (S1_91.out.ext h_99)
  clear S1_91
  have X0_103 := Lib.hid (X0_92.out.ext h_99)
  clear X0_92
  have XB0_104 := Lib.hid (XB0_93.out.ext h_99)
  clear XB0_93
  have X1_105 := Lib.hid (X1_94.out.ext h_99)
  clear X1_94
  have G0_106 := Lib.hid (G0_95.out.ext h_99)
  clear G0_95
  have G1_107 := Lib.hid (G1_96.out.ext h_99)
  clear G1_96
  have E_108 := Lib.hid (E_97.out.trans h_99)
  clear E_97
  have z_109 := Ext.le h_99
  try simp only [World.size_alloc] at z_109
  have Z_109 := Lib.hid z_109
  clear z_109
  have T_110 := Lib.hid (o_99)
  clear o_99 h_99
  go_wp2_with fail
  refine (eqIntS_x _ _ _ _ _ xs1 _ X1_105.out.reads T_110.out.reads hn1).mono ?_
  rintro e w_111 ⟨rfl, h_111⟩
  clear T_110
  have A0_112 := Lib.hid (A0_100.out.ext h_111)
  clear A0_100
  have S0_113 := Lib.hid (S0_101.out.ext h_111)
  clear S0_101
  have S1_114 := Lib.hid (S1_102.out.ext h_111)
  clear S1_102
  have X0_115 := Lib.hid (X0_103.out.ext h_111)
  clear X0_103
  have XB0_116 := Lib.hid (XB0_104.out.ext h_111)
  clear XB0_104
  have X1_117 := Lib.hid (X1_105.out.ext h_111)
  clear X1_105
  have G0_118 := Lib.hid (G0_106.out.ext h_111)
  clear G0_106
  have G1_119 := Lib.hid (G1_107.out.ext h_111)
  clear G1_107
  have E_120 := Lib.hid (E_108.out.trans h_111)
  clear E_108
  have z_121 := Ext.le h_111
  try simp only [World.size_alloc] at z_121
  have Z_121 := Lib.hid z_121
  clear z_121
  clear h_111
  have X0_b122 := Lib.hid X0_115.out.blk
  have lXB0 := XB0_116.out.1
  have qXB00 := XB0_116.out.2 0 _ rfl
  have qXB01 := XB0_116.out.2 1 _ rfl
  try simp only [World.size_alloc] at lXB0
  go_wp2_with fail
  refine (markCartan_law _ _ _ _ _ _ _ _ _ X0_115.out hn0 (by omega) (by omega)).mono ?_
  rintro e w_123 ⟨rfl, o_123, g_123⟩
  clear lXB0 qXB00 qXB01
  clear X0_115
  have A0_124 := Lib.hid (A0_112.out.grown g_123 (fun k hk => by have := X0_b122.out k hk; have := Z_11.out; have := Z_15.out; have := Z_21.out; have := Z_26.out; have := Zm_27.out; have := Zq_27.out; have := Z_35.out; have := Z_51.out; have := Z_61.out; have := Zm_62.out; have := Zq_62.out; have := Z_75.out; have := Z_86.out; have := Z_98.out; have := Z_109.out; have := Z_121.out; omega))
  clear A0_112
  have S0_125 := Lib.hid (S0_113.out.grown g_123 (fun k hk => by have := X0_b122.out k hk; have := Z_11.out; have := Z_15.out; have := Z_21.out; have := Z_26.out; have := Zm_27.out; have := Zq_27.out; have := Z_35.out; have := Z_51.out; have := Z_61.out; have := Zm_62.out; have := Zq_62.out; have := Z_75.out; have := Z_86.out; have := Z_98.out; have := Z_109.out; have := Z_121.out; omega))
  clear S0_113
  have S1_126 := Lib.hid (S1_114.out.grown g_123 (fun k hk => by have := X0_b122.out k hk; have := Z_11.out; have := Z_15.out; have := Z_21.out; have := Z_26.out; have := Zm_27.out; have := Zq_27.out; have := Z_35.out; have := Z_51.out; have := Z_61.out; have := Zm_62.out; have := Zq_62.out; have := Z_75.out; have := Z_86.out; have := Z_98.out; have := Z_109.out; have := Z_121.out; omega))
  clear S1_114
  have XB0_127 := Lib.hid (XB0_116.out.grown g_123 (fun k hk => by have := X0_b122.out k hk; have := Z_11.out; have := Z_15.out; have := Z_21.out; have := Z_26.out; have := Zm_27.out; have := Zq_27.out; have := Z_35.out; have := Z_51.out; have := Z_61.out; have := Zm_62.out; have := Zq_62.out; have := Z_75.out; have := Z_86.out; have := Z_98.out; have := Z_109.out; have := Z_121.out; omega))
  clear XB0_116
  have X1_128 := Lib.hid (X1_117.out.grown g_123 (fun k hk => by have := X0_b122.out k hk; have := Z_11.out; have := Z_15.out; have := Z_21.out; have := Z_26.out; have := Zm_27.out; have := Zq_27.out; have := Z_35.out; have := Z_51.out; have := Z_61.out; have := Zm_62.out; have := Zq_62.out; have := Z_75.out; have := Z_86.out; have := Z_98.out; have := Z_109.out; have := Z_121.out; omega))
  clear X1_117
  have G0_129 := Lib.hid (G0_118.out.grown g_123 (fun k hk => by have := X0_b122.out k hk; have := Z_11.out; have := Z_15.out; have := Z_21.out; have := Z_26.out; have := Zm_27.out; have := Zq_27.out; have := Z_35.out; have := Z_51.out; have := Z_61.out; have := Zm_62.out; have := Zq_62.out; have := Z_75.out; have := Z_86.out; have := Z_98.out; have := Z_109.out; have := Z_121.out; omega))
  clear G0_118
  have G1_130 := Lib.hid (G1_119.out.grown g_123 (fun k hk => by have := X0_b122.out k hk; have := Z_11.out; have := Z_15.out; have := Z_21.out; have := Z_26.out; have := Zm_27.out; have := Zq_27.out; have := Z_35.out; have := Z_51.out; have := Z_61.out; have := Zm_62.out; have := Zq_62.out; have := Z_75.out; have := Z_86.out; have := Z_98.out; have := Z_109.out; have := Z_121.out; omega))
  clear G1_119
  have E_131 := Lib.hid (E_120.out.grown g_123 (fun k hk => by have := X0_b122.out k hk; have := Z_11.out; have := Z_15.out; have := Z_21.out; have := Z_26.out; have := Zm_27.out; have := Zq_27.out; have := Z_35.out; have := Z_51.out; have := Z_61.out; have := Zm_62.out; have := Zq_62.out; have := Z_75.out; have := Z_86.out; have := Z_98.out; have := Z_109.out; have := Z_121.out; omega))
  clear E_120
  have Z_132 := Lib.hid g_123.size
  clear g_123 X0_b122
  have X0_133 := Lib.hid (o_123)
  clear o_123
  clear X0_133
  clear XB0_127
  have X1_b134 := Lib.hid X1_128.out.blk
  go_wp2_with fail
  refine (markIntS_law _ _ _ _ _ _ _ _ X1_128.out hn1 (by omega) (by omega)).mono ?_
  rintro e w_135 ⟨rfl, o_135, g_135⟩
  clear X1_128
  have A0_136 := Lib.hid (A0_124.out.grown g_135 (fun k hk => by have := X1_b134.out k hk; have := Z_11.out; have := Z_15.out; have := Z_21.out; have := Z_26.out; have := Zm_27.out; have := Zq_27.out; have := Z_35.out; have := Z_51.out; have := Z_61.out; have := Zm_62.out; have := Zq_62.out; have := Z_75.out; have := Z_86.out; have := Z_98.out; have := Z_109.out; have := Z_121.out; have := Z_132.out; omega))
  clear A0_124
  have S0_137 := Lib.hid (S0_125.out.grown g_135 (fun k hk => by have := X1_b134.out k hk; have := Z_11.out; have := Z_15.out; have := Z_21.out; have := Z_26.out; have := Zm_27.out; have := Zq_27.out; have := Z_35.out; have := Z_51.out; have := Z_61.out; have := Zm_62.out; have := Zq_62.out; have := Z_75.out; have := Z_86.out; have := Z_98.out; have := Z_109.out; have := Z_121.out; have := Z_132.out; omega))
  clear S0_125
  have S1_138 := Lib.hid (S1_126.out.grown g_135 (fun k hk => by have := X1_b134.out k hk; have := Z_11.out; have := Z_15.out; have := Z_21.out; have := Z_26.out; have := Zm_27.out; have := Zq_27.out; have := Z_35.out; have := Z_51.out; have := Z_61.out; have := Zm_62.out; have := Zq_62.out; have := Z_75.out; have := Z_86.out; have := Z_98.out; have := Z_109.out; have := Z_121.out; have := Z_132.out; omega))
  clear S1_126
  have G0_139 := Lib.hid (G0_129.out.grown g_135 (fun k hk => by have := X1_b134.out k hk; have := Z_11.out; have := Z_15.out; have := Z_21.out; have := Z_26.out; have := Zm_27.out; have := Zq_27.out; have := Z_35.out; have := Z_51.out; have := Z_61.out; have := Zm_62.out; have := Zq_62.out; have := Z_75.out; have := Z_86.out; have := Z_98.out; have := Z_109.out; have := Z_121.out; have := Z_132.out; omega))
  clear G0_129
  have G1_140 := Lib.hid (G1_130.out.grown g_135 (fun k hk => by have := X1_b134.out k hk; have := Z_11.out; have := Z_15.out; have := Z_21.out; have := Z_26.out; have := Zm_27.out; have := Zq_27.out; have := Z_35.out; have := Z_51.out; have := Z_61.out; have := Zm_62.out; have := Zq_62.out; have := Z_75.out; have := Z_86.out; have := Z_98.out; have := Z_109.out; have := Z_121.out; have := Z_132.out; omega))
  clear G1_130
  have E_141 := Lib.hid (E_131.out.grown g_135 (fun k hk => by have := X1_b134.out k hk; have := Z_11.out; have := Z_15.out; have := Z_21.out; have := Z_26.out; have := Zm_27.out; have := Zq_27.out; have := Z_35.out; have := Z_51.out; have := Z_61.out; have := Zm_62.out; have := Zq_62.out; have := Z_75.out; have := Z_86.out; have := Z_98.out; have := Z_109.out; have := Z_121.out; have := Z_132.out; omega))
  clear E_131
  have Z_142 := Lib.hid g_135.size
  clear g_135 X1_b134
  have X1_143 := Lib.hid (o_135)
  clear o_135
  clear X1_143
  have hk : 0 ≤ 1 + (n0 : Int) + (n1 : Int) := by omega
  go_wp2_with fail
  refine (eqIntS_x _ _ _ _ _ d0 _ G0_139.out.reads S0_137.out.reads gm0).mono ?_
  rintro e w_144 ⟨rfl, h_144⟩
  have A0_145 := Lib.hid (A0_136.out.ext h_144)
  clear A0_136
  have S0_146 := Lib.hid (S0_137.out.ext h_144)
  clear S0_137
  have S1_147 := Lib.hid (S1_138.out.ext h_144)
  clear S1_138
  have G0_148 := Lib.hid (G0_139.out.ext h_144)
  clear G0_139
  have G1_149 := Lib.hid (G1_140.out.ext h_144)
  clear G1_140
  have E_150 := Lib.hid (E_141.out.trans h_144)
  clear E_141
  have z_151 := Ext.le h_144
  try simp only [World.size_alloc] at z_151
  have Z_151 := Lib.hid z_151
  clear z_151
  clear h_144
  go_wp2_with fail
  refine (eqIntS_x _ _ _ _ _ d1 _ G1_149.out.reads S1_147.out.reads gm1).mono ?_
  rintro e w_152 ⟨rfl, h_152⟩
  have A0_153 := Lib.hid (A0_145.out.ext h_152)
  clear A0_145
  have S0_154 := Lib.hid (S0_146.out.ext h_152)
  clear S0_146
  have S1_155 := Lib.hid (S1_147.out.ext h_152)
  clear S1_147
  have G0_156 := Lib.hid (G0_148.out.ext h_152)
  clear G0_148
  have G1_157 := Lib.hid (G1_149.out.ext h_152)
  clear G1_149
  have E_158 := Lib.hid (E_150.out.trans h_152)
  clear E_150
  have z_159 := Ext.le h_152
  try simp only [World.size_alloc] at z_159
  have Z_159 := Lib.hid z_159
  clear z_159
  clear h_152
  clear hk
  have G0_b160 := Lib.hid G0_156.out.blk
  go_wp2_with fail
  refine (markIntS_law _ _ _ _ _ _ _ _ G0_156.out gm0 (by omega) (by omega)).mono ?_
  rintro e w_161 ⟨rfl, o_161, g_161⟩
  clear G0_156
  have A0_162 := Lib.hid (A0_153.out.grown g_161 (fun k hk => by have := G0_b160.out k hk; have := Z_11.out; have := Z_15.out; have := Z_21.out; have := Z_26.out; have := Zm_27.out; have := Zq_27.out; have := Z_35.out; have := Z_51.out; have := Z_61.out; have := Zm_62.out; have := Zq_62.out; have := Z_75.out; have := Z_86.out; have := Z_98.out; have := Z_109.out; have := Z_121.out; have := Z_132.out; have := Z_142.out; have := Z_151.out; have := Z_159.out; omega))
  clear A0_153
  have S0_163 := Lib.hid (S0_154.out.grown g_161 (fun k hk => by have := G0_b160.out k hk; have := Z_11.out; have := Z_15.out; have := Z_21.out; have := Z_26.out; have := Zm_27.out; have := Zq_27.out; have := Z_35.out; have := Z_51.out; have := Z_61.out; have := Zm_62.out; have := Zq_62.out; have := Z_75.out; have := Z_86.out; have := Z_98.out; have := Z_109.out; have := Z_121.out; have := Z_132.out; have := Z_142.out; have := Z_151.out; have := Z_159.out; omega))
  clear S0_154
  have S1_164 := Lib.hid (S1_155.out.grown g_161 (fun k hk => by have := G0_b160.out k hk; have := Z_11.out; have := Z_15.out; have := Z_21.out; have := Z_26.out; have := Zm_27.out; have := Zq_27.out; have := Z_35.out; have := Z_51.out; have := Z_61.out; have := Zm_62.out; have := Zq_62.out; have := Z_75.out; have := Z_86.out; have := Z_98.out; have := Z_109.out; have := Z_121.out; have := Z_132.out; have := Z_142.out; have := Z_151.out; have := Z_159.out; omega))
  clear S1_155
  have G1_165 := Lib.hid (G1_157.out.grown g_161 (fun k hk => by have := G0_b160.out k hk; have := Z_11.out; have := Z_15.out; have := Z_21.out; have := Z_26.out; have := Zm_27.out; have := Zq_27.out; have := Z_35.out; have := Z_51.out; have := Z_61.out; have := Zm_62.out; have := Zq_62.out; have := Z_75.out; have := Z_86.out; have := Z_98.out; have := Z_109.out; have := Z_121.out; have := Z_132.out; have := Z_142.out; have := Z_151.out; have := Z_159.out; omega))
  clear G1_157
  have E_166 := Lib.hid (E_158.out.grown g_161 (fun k hk => by have := G0_b160.out k hk; have := Z_11.out; have := Z_15.out; have := Z_21.out; have := Z_26.out; have := Zm_27.out; have := Zq_27.out; have := Z_35.out; have := Z_51.out; have := Z_61.out; have := Zm_62.out; have := Zq_62.out; have := Z_75.out; have := Z_86.out; have := Z_98.out; have := Z_109.out; have := Z_121.out; have := Z_132.out; have := Z_142.out; have := Z_151.out; have := Z_159.out; omega))
  clear E_158
  have Z_167 := Lib.hid g_161.size
  clear g_161 G0_b160
  have G0_168 := Lib.hid (o_161)
  clear o_161
  have G1_b169 := Lib.hid G1_165.out.blk
  go_wp2_with fail
  refine (markIntS_law _ _ _ _ _ _ _ _ G1_165.out gm1 (by omega) (by omega)).mono ?_
  rintro e w_170 ⟨rfl, o_170, g_170⟩
  clear G1_165
  have A0_171 := Lib.hid (A0_162.out.grown g_170 (fun k hk => by have := G1_b169.out k hk; have := Z_11.out; have := Z_15.out; have := Z_21.out; have := Z_26.out; have := Zm_27.out; have := Zq_27.out; have := Z_35.out; have := Z_51.out; have := Z_61.out; have := Zm_62.out; have := Zq_62.out; have := Z_75.out; have := Z_86.out; have := Z_98.out; have := Z_109.out; have := Z_121.out; have := Z_132.out; have := Z_142.out; have := Z_151.out; have := Z_159.out; have := Z_167.out; omega))
  clear A0_162
  have S0_172 := Lib.hid (S0_163.out.grown g_170 (fun k hk => by have := G1_b169.out k hk; have := Z_11.out; have := Z_15.out; have := Z_21.out; have := Z_26.out; have := Zm_27.out; have := Zq_27.out; have := Z_35.out; have := Z_51.out; have := Z_61.out; have := Zm_62.out; have := Zq_62.out; have := Z_75.out; have := Z_86.out; have := Z_98.out; have := Z_109.out; have := Z_121.out; have := Z_132.out; have := Z_142.out; have := Z_151.out; have := Z_159.out; have := Z_167.out; omega))
  clear S0_163
  have S1_173 := Lib.hid (S1_164.out.grown g_170 (fun k hk => by have := G1_b169.out k hk; have := Z_11.out; have := Z_15.out; have := Z_21.out; have := Z_26.out; have := Zm_27.out; have := Zq_27.out; have := Z_35.out; have := Z_51.out; have := Z_61.out; have := Zm_62.out; have := Zq_62.out; have := Z_75.out; have := Z_86.out; have := Z_98.out; have := Z_109.out; have := Z_121.out; have := Z_132.out; have := Z_142.out; have := Z_151.out; have := Z_159.out; have := Z_167.out; omega))
  clear S1_164
  have G0_174 := Lib.hid (G0_168.out.grown g_170 (fun k hk => by have := G1_b169.out k hk; have := Z_11.out; have := Z_15.out; have := Z_21.out; have := Z_26.out; have := Zm_27.out; have := Zq_27.out; have := Z_35.out; have := Z_51.out; have := Z_61.out; have := Zm_62.out; have := Zq_62.out; have := Z_75.out; have := Z_86.out; have := Z_98.out; have := Z_109.out; have := Z_121.out; have := Z_132.out; have := Z_142.out; have := Z_151.out; have := Z_159.out; have := Z_167.out; omega))
  clear G0_168
  have E_175 := Lib.hid (E_166.out.grown g_170 (fun k hk => by have := G1_b169.out k hk; have := Z_11.out; have := Z_15.out; have := Z_21.out; have := Z_26.out; have := Zm_27.out; have := Zq_27.out; have := Z_35.out; have := Z_51.out; have := Z_61.out; have := Zm_62.out; have := Zq_62.out; have := Z_75.out; have := Z_86.out; have := Z_98.out; have := Z_109.out; have := Z_121.out; have := Z_132.out; have := Z_142.out; have := Z_151.out; have := Z_159.out; have := Z_167.out; omega))
  clear E_166
  have Z_176 := Lib.hid g_170.size
  clear g_170 G1_b169
  have G1_177 := Lib.hid (o_170)
  clear o_170
  go_wp2_with fail
  refine (heldIntS_x _ _ _ _ _ G0_174.out.reads gm0 (by omega) (by omega)).mono ?_
  rintro e w_178 ⟨rfl, h_178⟩
  have hq178 : 0 ≤ 1 + (sn0 : Int) := by omega
  have A0_179 := Lib.hid (A0_171.out.ext h_178)
  clear A0_171
  have S0_180 := Lib.hid (S0_172.out.ext h_178)
  clear S0_172
  have S1_181 := Lib.hid (S1_173.out.ext h_178)
  clear S1_173
  have G0_182 := Lib.hid (G0_174.out.ext h_178)
  clear G0_174
  have G1_183 := Lib.hid (G1_177.out.ext h_178)
  clear G1_177
  have E_184 := Lib.hid (E_175.out.trans h_178)
  clear E_175
  have z_185 := Ext.le h_178
  try simp only [World.size_alloc] at z_185
  have Z_185 := Lib.hid z_185
  clear z_185
  clear h_178
  go_wp2_with fail
  refine (heldIntS_x _ _ _ _ _ G1_183.out.reads gm1 (by omega) (by omega)).mono ?_
  rintro e w_186 ⟨rfl, h_186⟩
  have hq186 : 0 ≤ 1 + (sn0 : Int) + (sn1 : Int) := by omega
  have A0_187 := Lib.hid (A0_179.out.ext h_186)
  clear A0_179
  have S0_188 := Lib.hid (S0_180.out.ext h_186)
  clear S0_180
  have S1_189 := Lib.hid (S1_181.out.ext h_186)
  clear S1_181
  have G0_190 := Lib.hid (G0_182.out.ext h_186)
  clear G0_182
  have G1_191 := Lib.hid (G1_183.out.ext h_186)
  clear G1_183
  have E_192 := Lib.hid (E_184.out.trans h_186)
  clear E_184
  have z_193 := Ext.le h_186
  try simp only [World.size_alloc] at z_193
  have Z_193 := Lib.hid z_193
  clear z_193
  clear h_186
  have lA0 := A0_187.out.1
  have qA00 := A0_187.out.2 0 _ rfl
  have qA01 := A0_187.out.2 1 _ rfl
  try simp only [World.size_alloc] at lA0
  go_wp2_with fail
  refine (toCartan_law _ _ _ _ xs0 _ (HR0.out.ext E_192.out) hn0).mono ?_
  rintro e w_194 ⟨b_194, rfl, o_194, h_194⟩
  clear lA0 qA00 qA01
  have A0_195 := Lib.hid (A0_187.out.ext h_194)
  clear A0_187
  have S0_196 := Lib.hid (S0_188.out.ext h_194)
  clear S0_188
  have S1_197 := Lib.hid (S1_189.out.ext h_194)
  clear S1_189
  have G0_198 := Lib.hid (G0_190.out.ext h_194)
  clear G0_190
  have G1_199 := Lib.hid (G1_191.out.ext h_194)
  clear G1_191
  have E_200 := Lib.hid (E_192.out.trans h_194)
  clear E_192
  have z_201 := Ext.le h_194
  try simp only [World.size_alloc] at z_201
  have Z_201 := Lib.hid z_201
  clear z_201
  have T0_202 := Lib.hid (o_194)
  clear o_194 h_194
  go_wp2_with fail
  refine (toIntS_law _ _ _ xs1 _ (HR1.out.ext E_200.out) hn1).mono ?_
  rintro e w_203 ⟨b_203, rfl, o_203, h_203⟩
  have A0_204 := Lib.hid (A0_195.out.ext h_203)
  clear A0_195
  have S0_205 := Lib.hid (S0_196.out.ext h_203)
  clear S0_196
  have S1_206 := Lib.hid (S1_197.out.ext h_203)
  clear S1_197
  have G0_207 := Lib.hid (G0_198.out.ext h_203)
  clear G0_198
  have G1_208 := Lib.hid (G1_199.out.ext h_203)
  clear G1_199
  have T0_209 := Lib.hid (T0_202.out.ext h_203)
  clear T0_202
  have E_210 := Lib.hid (E_200.out.trans h_203)
  clear E_200
  have z_211 := Ext.le h_203
  try simp only [World.size_alloc] at z_211
  have Z_211 := Lib.hid z_211
  clear z_211
  have T1_212 := Lib.hid (o_203)
  clear o_203 h_203
  go_wp2_with fail
  refine (dominantOf_impl T0_209.out.reads hn0 T1_212.out.reads hn1 hM.out).mono ?_
  rintro e w_213 ⟨v0, v1, tmid, rfl, thmid, ⟨ta0, tn0, tc0, rfl, tO0, tm0⟩, ⟨ta1, tn1, tc1, rfl, tO1, tm1⟩, h_213⟩
  clear T0_209
  clear T1_212
  have A0_214 := Lib.hid (A0_204.out.ext h_213)
  clear A0_204
  have S0_215 := Lib.hid (S0_205.out.ext h_213)
  clear S0_205
  have S1_216 := Lib.hid (S1_206.out.ext h_213)
  clear S1_206
  have G0_217 := Lib.hid (G0_207.out.ext h_213)
  clear G0_207
  have G1_218 := Lib.hid (G1_208.out.ext h_213)
  clear G1_208
  have E_219 := Lib.hid (E_210.out.trans h_213)
  clear E_210
  have z_220 := Ext.le h_213
  try simp only [World.size_alloc] at z_220
  have Z_220 := Lib.hid z_220
  clear z_220
  clear h_213
  try simp only [World.size_alloc] at thmid
  have Zm_221 := Lib.hid thmid.1
  have Zq_221 := Lib.hid thmid.2
  clear thmid
  try simp only [World.size_alloc] at tO0
  have H0_222 := Lib.hid (tO0)
  clear tO0
  try simp only [World.size_alloc] at tO1
  have H1_223 := Lib.hid (tO1)
  clear tO1
  obtain rfl : sn0 = tn0 := S0_215.out.len.symm.trans H0_222.out.len
  obtain rfl : sn1 = tn1 := S1_216.out.len.symm.trans H1_223.out.len
  go_wp2_with fail
  refine (eqIntS_x _ _ _ _ _ d0 _ H0_222.out.reads S0_215.out.reads gm0).mono ?_
  rintro e w_224 ⟨rfl, h_224⟩
  have A0_225 := Lib.hid (A0_214.out.ext h_224)
  clear A0_214
  have S0_226 := Lib.hid (S0_215.out.ext h_224)
  clear S0_215
  have S1_227 := Lib.hid (S1_216.out.ext h_224)
  clear S1_216
  have G0_228 := Lib.hid (G0_217.out.ext h_224)
  clear G0_217
  have G1_229 := Lib.hid (G1_218.out.ext h_224)
  clear G1_218
  have H0_230 := Lib.hid (H0_222.out.ext h_224)
  clear H0_222
  have H1_231 := Lib.hid (H1_223.out.ext h_224)
  clear H1_223
  have E_232 := Lib.hid (E_219.out.trans h_224)
  clear E_219
  have z_233 := Ext.le h_224
  try simp only [World.size_alloc] at z_233
  have Z_233 := Lib.hid z_233
  clear z_233
  clear h_224
  go_wp2_with fail
  refine (eqIntS_x _ _ _ _ _ d1 _ H1_231.out.reads S1_227.out.reads gm1).mono ?_
  rintro e w_234 ⟨rfl, h_234⟩
  have A0_235 := Lib.hid (A0_225.out.ext h_234)
  clear A0_225
  have S0_236 := Lib.hid (S0_226.out.ext h_234)
  clear S0_226
  have S1_237 := Lib.hid (S1_227.out.ext h_234)
  clear S1_227
  have G0_238 := Lib.hid (G0_228.out.ext h_234)
  clear G0_228
  have G1_239 := Lib.hid (G1_229.out.ext h_234)
  clear G1_229
  have H0_240 := Lib.hid (H0_230.out.ext h_234)
  clear H0_230
  have H1_241 := Lib.hid (H1_231.out.ext h_234)
  clear H1_231
  have E_242 := Lib.hid (E_232.out.trans h_234)
  clear E_232
  have z_243 := Ext.le h_234
  try simp only [World.size_alloc] at z_243
  have Z_243 := Lib.hid z_243
  clear z_243
  clear h_234
  go_wp2_with fail
  refine (heldIntS_x _ _ _ _ _ G0_238.out.reads gm0 (by omega) (by omega)).mono ?_
  rintro e w_244 ⟨rfl, h_244⟩
  have hq244 : 0 ≤ 1 + (sn0 : Int) := by omega
  have A0_245 := Lib.hid (A0_235.out.ext h_244)
  clear A0_235
  have S0_246 := Lib.hid (S0_236.out.ext h_244)
  clear S0_236
  have S1_247 := Lib.hid (S1_237.out.ext h_244)
  clear S1_237
  have G0_248 := Lib.hid (G0_238.out.ext h_244)
  clear G0_238
  have G1_249 := Lib.hid (G1_239.out.ext h_244)
  clear G1_239
  have H0_250 := Lib.hid (H0_240.out.ext h_244)
  clear H0_240
  have H1_251 := Lib.hid (H1_241.out.ext h_244)
  clear H1_241
  have E_252 := Lib.hid (E_242.out.trans h_244)
  clear E_242
  have z_253 := Ext.le h_244
  try simp only [World.size_alloc] at z_253
  have Z_253 := Lib.hid z_253
  clear z_253
  clear h_244
  go_wp2_with fail
  refine (heldIntS_x _ _ _ _ _ G1_249.out.reads gm1 (by omega) (by omega)).mono ?_
  rintro e w_254 ⟨rfl, h_254⟩
  have hq254 : 0 ≤ 1 + (sn0 : Int) + (sn1 : Int) := by omega
  have A0_255 := Lib.hid (A0_245.out.ext h_254)
  clear A0_245
  have S0_256 := Lib.hid (S0_246.out.ext h_254)
  clear S0_246
  have S1_257 := Lib.hid (S1_247.out.ext h_254)
  clear S1_247
  have G0_258 := Lib.hid (G0_248.out.ext h_254)
  clear G0_248
  have G1_259 := Lib.hid (G1_249.out.ext h_254)
  clear G1_249
  have H0_260 := Lib.hid (H0_250.out.ext h_254)
  clear H0_250
  have H1_261 := Lib.hid (H1_251.out.ext h_254)
  clear H1_251
  have E_262 := Lib.hid (E_252.out.trans h_254)
  clear E_252
  have z_263 := Ext.le h_254
  try simp only [World.size_alloc] at z_263
  have Z_263 := Lib.hid z_263
  clear z_263
  clear h_254
  go_wp2
  go_ret
  exact ⟨rfl, E_262.out⟩

set_option maxRecDepth 100000 in
theorem lifted (os : Os) (started : os.Started) (H : Type) (enc : TypeId × Value → H) :
    ReturnsInHanded {} Try.checked os 3 .any (Rows.fnExactDominantOfSpec.pre6 enc Try.prog Try.f3 Rows.fnExactDominantOfRow.domain false) (Rows.fnExactDominantOfSpec.post enc Try.prog Try.f3 false true false false) := by
  refine returnsInHanded_of_change (C := Try.checked) own started (by kernel_rfl) Try.func3
    (ChangeSpec.witness6 (enc := enc) (C := Try.checked) false ⟨#[], #[.agg #[.int .i64 0, .slice none 0 0], .slice none 0 0], []⟩ 8 (by kernel_rfl) (by kernel_rfl) (by kernel_rfl) (by kernel_rfl)) ?_
  intro W base args ds gs before hval0 hW hcnd _
  have hval : ∀ (j : Nat) t v, Try.f3.params[j]? = some t → args[j]? = some v → Value.okWide Try.prog W .any base t v := hval0
  have hW' := hW
  obtain ⟨p, q, hA0, hV, rfl, hfz, hnd⟩ := hW
  have hA : DataW.TrodAll enc Try.prog W 0 (fun _ => true) true Try.f3.params.toList args.toList ds p := hA0
  rw [Try.params3] at hA hval
  obtain ⟨v0, vs0, d0, ds0, p0, q0, hargs, rfl, rfl, h0, r0⟩ := trodAll_cons hA
  obtain ⟨v1, vs1, d1, ds1, p1, q1, rfl, rfl, rfl, h1, r1⟩ := trodAll_cons r0
  obtain ⟨rfl, rfl, rfl⟩ := trodAll_nil r1
  obtain rfl : args = #[v0, v1] := by cases args; simp_all
  obtain ⟨rfl, rfl⟩ := trodVars_none hV
  have k0 := h0
  have lt0 : ∀ x ∈ p0, x.block < W.heap.size := by obtain ⟨m, hm⟩ := k0; exact DataW.trod_lt m _ _ _ hm
  obtain ⟨R0, a0, n0, c0, xs0, rfl, w0⟩ := open_car (hval 0 _ v0 rfl rfl) h0
  have k1 := h1
  have lt1 : ∀ x ∈ p1, x.block < W.heap.size := by obtain ⟨m, hm⟩ := k1; exact DataW.trod_lt m _ _ _ hm
  obtain ⟨a1, n1, c1, xs1, rfl, w1⟩ := open_intsl (hval 1 _ v1 rfl rfl) h1
  clear hA0 hval0
  refine (walk R0 a0 n0 c0 xs0 a1 n1 c1 xs1 W w0 w1).mono fun e W' ⟨he, bel⟩ => ?_
  subst he
  exact ⟨_, rfl, _, _, _, [], _, [], hW', trodAll_mk1 (shut_bool Try.underlying4 _), (trodAll_cons_mk (Below.trod laidOut (by kernel_rfl) (of_decide_eq_true (by kernel_rfl)) k0 bel lt0) (trodAll_cons_mk (Below.trod laidOut (by kernel_rfl) (of_decide_eq_true (by kernel_rfl)) k1 bel lt1) trodAll_mk0)), rfl, Below.frame bel _, fun h => by cases h⟩

set_option maxRecDepth 1000000 in
set_option maxHeartbeats 40000000 in
theorem closed : joinedFacts Try.pinned.checked.prog 3 Try.f3 Rows.fnExactDominantOfSpec Rows.fnExactDominantOfRow = true := by
  unfold joinedFacts
  repeat' (with_reducible refine and2 ?_ ?_)
  all_goals (first | (with_reducible exact seat_laid) | (with_reducible exact seat_maps) | (with_reducible exact seat_heard) | (with_reducible exact seat_enter) | (with_reducible refine seat_lifts ?_; kernel_rfl) | (with_reducible refine seat_make ?_; kernel_rfl) | (with_reducible refine seat_plain ?_; kernel_rfl) | (as_aux_lemma => kernel_rfl))

theorem over : Rows.fnExactDominantOfRow.holds Try.pinned (OpenSpec.ofChange Rows.fnExactDominantOfSpec) :=
  OpenClaim.holds_of_wide 3 Try.f3 rfl rfl rfl rfl rfl rfl rfl ⟨rfl, rfl, rfl, rfl, rfl⟩ rfl rfl rfl rfl rfl (by kernel_rfl) Try.func3 closed
    (of_decide_eq_true (by kernel_rfl)) (by unfold Func.isWrapper; first | (rw [if_pos (by decide +kernel)]; kernel_rfl) | (rw [if_neg (by decide +kernel)]; exact ⟨rfl, rfl⟩))
    (fun os started H enc _ => lifted os started H enc)

/-- The statement. -/
theorem proved : Rows.FnExactDominantOfSaid := over
#print axioms proved
end Go.Proofs.Ythhgodjobddenaa.fnExactDominantOf
