/-
  Proved: the statement given for the law FnExactReduceMatrix: at every input the Go text returns true, with no panic, and the arguments read as they read before. No condition is added.
-/
import Derived.Test.YtphopkihieofjaaBox
import Derived.Test.YtphopkihieofjaaRed1S
import Derived.Test.YtphopkihieofjaaSMatrix
namespace Go.Proofs.Ytphopkihieofjaa.fnExactReduceMatrix
open Go.ChangeShapes Go.WideShapes Go.ChangeAt Go.RowKit
open Go.ChangeMaps (open_string shut_string)
set_option linter.unusedVariables false

set_option maxRecDepth 100000 in
set_option maxHeartbeats 3200000 in
/-- The walk: the Go text returns true, and nothing that was there has changed. -/
theorem walk (P0 R0 C0 : Int) (a0 : Option Addr) (n0 c0 : Nat) (xs0 : List Int) (w : World) (w0 : Reads w a0 n0 xs0 ∧ n0 ≤ maxLen) :
    Calls Try.prog 4 #[.agg #[.int .i64 P0, .int .i64 R0, .int .i64 C0, .slice a0 n0 c0]] w fun e w' => e = .returned (.bool true) ∧ Ext w w' := by
  obtain ⟨hr0, hm0⟩ := w0
  have HR0 := Lib.hid hr0
  clear hr0
  rcases hM0 : reduceM P0 R0 C0 xs0 with ⟨⟨pP0, pR0, pC0, d0⟩, d1⟩
  have hM := Lib.hid hM0
  clear hM0
  by_cases hz0 : (n0 : Int) ≤ 1048576
  case neg =>
    go_enter Try.func4, Try.ntmps4
    have T0 := cells_new' w #[.int .i64 P0, .int .i64 R0, .int .i64 C0, .slice a0 n0 c0] 24 (w.heap.size) (by simp)
    have A0_1 := Lib.hid (T0.ext (Ext.refl _))
    clear T0
    have E_2 := Lib.hid ((Ext.refl w).alloc (.cells #[.int .i64 P0, .int .i64 R0, .int .i64 C0, .slice a0 n0 c0] 24))
    have lA0 := A0_1.out.1
    have qA00 := A0_1.out.2 0 _ rfl
    have qA01 := A0_1.out.2 1 _ rfl
    have qA02 := A0_1.out.2 2 _ rfl
    have qA03 := A0_1.out.2 3 _ rfl
    try simp only [World.size_alloc] at lA0
    go_wp2_with fail
    refine (szMatrix_no _ _ _ _ _ _ _ _ (by omega) (by omega) hm0 (by omega)).mono ?_
    rintro e w_3 ⟨rfl, h_3⟩
    clear lA0 qA00 qA01 qA02 qA03
    go_wp2
    go_ret
    exact ⟨rfl, E_2.out.trans h_3⟩
  have hn0 : n0 ≤ 1048576 := by omega
  go_enter Try.func4, Try.ntmps4
  have T0 := cells_new' w #[.int .i64 P0, .int .i64 R0, .int .i64 C0, .slice a0 n0 c0] 24 (w.heap.size) (by simp)
  have A0_4 := Lib.hid (T0.ext (Ext.refl _))
  clear T0
  have E_5 := Lib.hid ((Ext.refl w).alloc (.cells #[.int .i64 P0, .int .i64 R0, .int .i64 C0, .slice a0 n0 c0] 24))
  have lA0 := A0_4.out.1
  have qA00 := A0_4.out.2 0 _ rfl
  have qA01 := A0_4.out.2 1 _ rfl
  have qA02 := A0_4.out.2 2 _ rfl
  have qA03 := A0_4.out.2 3 _ rfl
  try simp only [World.size_alloc] at lA0
  go_wp2_with fail
  refine (szMatrix_yes _ _ _ _ _ _ _ _ (by omega) (by omega)).mono ?_
  rintro e w_6 ⟨rfl, h_6⟩
  clear lA0 qA00 qA01 qA02 qA03
  have A0_7 := Lib.hid (A0_4.out.ext h_6)
  clear A0_4
  have E_8 := Lib.hid (E_5.out.trans h_6)
  clear E_5
  have z_9 := Ext.le h_6
  try simp only [World.size_alloc] at z_9
  have Z_9 := Lib.hid z_9
  clear z_9
  clear h_6
  have hp : 0 ≤ 1048576 - (n0 : Int) := by omega
  have lA0 := A0_7.out.1
  have qA00 := A0_7.out.2 0 _ rfl
  have qA01 := A0_7.out.2 1 _ rfl
  have qA02 := A0_7.out.2 2 _ rfl
  have qA03 := A0_7.out.2 3 _ rfl
  try simp only [World.size_alloc] at lA0
  go_wp2_with fail
  refine (toMatrix_law _ _ _ _ _ _ xs0 _ (HR0.out.ext E_8.out) hn0).mono ?_
  rintro e w_10 ⟨b_10, rfl, o_10, h_10⟩
  clear lA0 qA00 qA01 qA02 qA03
  have A0_11 := Lib.hid (A0_7.out.ext h_10)
  clear A0_7
  have E_12 := Lib.hid (E_8.out.trans h_10)
  clear E_8
  have z_13 := Ext.le h_10
  try simp only [World.size_alloc] at z_13
  have Z_13 := Lib.hid z_13
  clear z_13
  have T_14 := Lib.hid (o_10)
  clear o_10 h_10
  go_wp2_with fail
  refine (reduceMatrix_spec2 T_14.out.reads hn0 hM.out).mono ?_
  rintro e w_15 ⟨v0, v1, smid, rfl, shmid, ⟨sa0, sn0, sc0, rfl, sO0, sm0⟩, ⟨sa1, sn1, sc1, rfl, sO1, sm1⟩, h_15⟩
  clear T_14
  have A0_16 := Lib.hid (A0_11.out.ext h_15)
  clear A0_11
  have E_17 := Lib.hid (E_12.out.trans h_15)
  clear E_12
  have z_18 := Ext.le h_15
  try simp only [World.size_alloc] at z_18
  have Z_18 := Lib.hid z_18
  clear z_18
  clear h_15
  try simp only [World.size_alloc] at shmid
  have Zm_19 := Lib.hid shmid.1
  have Zq_19 := Lib.hid shmid.2
  clear shmid
  try simp only [World.size_alloc] at sO0
  have S0_20 := Lib.hid (sO0)
  clear sO0
  try simp only [World.size_alloc] at sO1
  have S1_21 := Lib.hid (sO1)
  clear sO1
  have P_22 := (Ext.refl w_15).alloc (.cells #[.int .i64 pP0, .int .i64 pR0, .int .i64 pC0, .slice sa0 sn0 sc0] 26)
  have A0_23 := Lib.hid (A0_16.out.ext P_22)
  clear A0_16
  have S0_24 := Lib.hid (S0_20.out.ext P_22)
  clear S0_20
  have S1_25 := Lib.hid (S1_21.out.ext P_22)
  clear S1_21
  have E_26 := Lib.hid (E_17.out.trans P_22)
  clear E_17
  clear P_22
  have SB0_27 := Lib.hid (cells_new w_15 #[.int .i64 pP0, .int .i64 pR0, .int .i64 pC0, .slice sa0 sn0 sc0] 26)
  have lA0 := A0_23.out.1
  have qA00 := A0_23.out.2 0 _ rfl
  have qA01 := A0_23.out.2 1 _ rfl
  have qA02 := A0_23.out.2 2 _ rfl
  have qA03 := A0_23.out.2 3 _ rfl
  try simp only [World.size_alloc] at lA0
  go_wp2_with fail
  refine (toMatrix_law _ _ _ _ _ _ xs0 _ (HR0.out.ext E_26.out) hn0).mono ?_
  rintro e w_28 ⟨b_28, rfl, o_28, h_28⟩
  clear lA0 qA00 qA01 qA02 qA03
  have A0_29 := Lib.hid (A0_23.out.ext h_28)
  clear A0_23
  have S0_30 := Lib.hid (S0_24.out.ext h_28)
  clear S0_24
  have S1_31 := Lib.hid (S1_25.out.ext h_28)
  clear S1_25
  have SB0_32 := Lib.hid (SB0_27.out.ext h_28)
  clear SB0_27
  have E_33 := Lib.hid (E_26.out.trans h_28)
  clear E_26
  have z_34 := Ext.le h_28
  try simp only [World.size_alloc] at z_34
  have Z_34 := Lib.hid z_34
  clear z_34
  try simp only [World.size_alloc] at o_28
  have X0_35 := Lib.hid (o_28)
  clear o_28 h_28
  have P_36 := (Ext.refl w_28).alloc (.cells #[.int .i64 P0, .int .i64 R0, .int .i64 C0, .slice (some ⟨b_28, 0, none⟩) n0 n0] 26)
  have A0_37 := Lib.hid (A0_29.out.ext P_36)
  clear A0_29
  have S0_38 := Lib.hid (S0_30.out.ext P_36)
  clear S0_30
  have S1_39 := Lib.hid (S1_31.out.ext P_36)
  clear S1_31
  have SB0_40 := Lib.hid (SB0_32.out.ext P_36)
  clear SB0_32
  have X0_41 := Lib.hid (X0_35.out.ext P_36)
  clear X0_35
  have E_42 := Lib.hid (E_33.out.trans P_36)
  clear E_33
  clear P_36
  have XB0_43 := Lib.hid (cells_new w_28 #[.int .i64 P0, .int .i64 R0, .int .i64 C0, .slice (some ⟨b_28, 0, none⟩) n0 n0] 26)
  have lXB0 := XB0_43.out.1
  have qXB00 := XB0_43.out.2 0 _ rfl
  have qXB01 := XB0_43.out.2 1 _ rfl
  have qXB02 := XB0_43.out.2 2 _ rfl
  have qXB03 := XB0_43.out.2 3 _ rfl
  try simp only [World.size_alloc] at lXB0
  go_wp2_with fail
  refine (reduceMatrix_impl2 X0_41.out.reads hn0 hM.out).mono ?_
  rintro e w_44 ⟨v0, v1, gmid, rfl, ghmid, ⟨ga0, gn0, gc0, rfl, gO0, gm0⟩, ⟨ga1, gn1, gc1, rfl, gO1, gm1⟩, h_44⟩
  clear lXB0 qXB00 qXB01 qXB02 qXB03
  have A0_45 := Lib.hid (A0_37.out.ext h_44)
  clear A0_37
  have S0_46 := Lib.hid (S0_38.out.ext h_44)
  clear S0_38
  have S1_47 := Lib.hid (S1_39.out.ext h_44)
  clear S1_39
  have SB0_48 := Lib.hid (SB0_40.out.ext h_44)
  clear SB0_40
  have X0_49 := Lib.hid (X0_41.out.ext h_44)
  clear X0_41
  have XB0_50 := Lib.hid (XB0_43.out.ext h_44)
  clear XB0_43
  have E_51 := Lib.hid (E_42.out.trans h_44)
  clear E_42
  have z_52 := Ext.le h_44
  try simp only [World.size_alloc] at z_52
  have Z_52 := Lib.hid z_52
  clear z_52
  clear h_44
  try simp only [World.size_alloc] at ghmid
  have Zm_53 := Lib.hid ghmid.1
  have Zq_53 := Lib.hid ghmid.2
  clear ghmid
  try simp only [World.size_alloc] at gO0
  have G0_54 := Lib.hid (gO0)
  clear gO0
  try simp only [World.size_alloc] at gO1
  have G1_55 := Lib.hid (gO1)
  clear gO1
  have P_56 := (Ext.refl w_44).alloc (.cells #[.int .i64 pP0, .int .i64 pR0, .int .i64 pC0, .slice ga0 gn0 gc0] 26)
  have A0_57 := Lib.hid (A0_45.out.ext P_56)
  clear A0_45
  have S0_58 := Lib.hid (S0_46.out.ext P_56)
  clear S0_46
  have S1_59 := Lib.hid (S1_47.out.ext P_56)
  clear S1_47
  have SB0_60 := Lib.hid (SB0_48.out.ext P_56)
  clear SB0_48
  have X0_61 := Lib.hid (X0_49.out.ext P_56)
  clear X0_49
  have XB0_62 := Lib.hid (XB0_50.out.ext P_56)
  clear XB0_50
  have G0_63 := Lib.hid (G0_54.out.ext P_56)
  clear G0_54
  have G1_64 := Lib.hid (G1_55.out.ext P_56)
  clear G1_55
  have E_65 := Lib.hid (E_51.out.trans P_56)
  clear E_51
  clear P_56
  have GB0_66 := Lib.hid (cells_new w_44 #[.int .i64 pP0, .int .i64 pR0, .int .i64 pC0, .slice ga0 gn0 gc0] 26)
  obtain rfl : sn0 = gn0 := S0_58.out.len.symm.trans G0_63.out.len
  obtain rfl : sn1 = gn1 := S1_59.out.len.symm.trans G1_64.out.len
  have lGB0 := GB0_66.out.1
  have qGB00 := GB0_66.out.2 0 _ rfl
  have qGB01 := GB0_66.out.2 1 _ rfl
  have qGB02 := GB0_66.out.2 2 _ rfl
  have qGB03 := GB0_66.out.2 3 _ rfl
  have lSB0 := SB0_60.out.1
  have qSB00 := SB0_60.out.2 0 _ rfl
  have qSB01 := SB0_60.out.2 1 _ rfl
  have qSB02 := SB0_60.out.2 2 _ rfl
  have qSB03 := SB0_60.out.2 3 _ rfl
  try simp only [World.size_alloc] at lGB0 lSB0
  go_wp2_with fail
  refine (eqMatrix_law _ _ _ _ _ _ _ _ d0 _ G0_63.out.reads S0_58.out.reads gm0).mono ?_
  rintro e w_67 ⟨rfl, h_67⟩
  clear lGB0 qGB00 qGB01 qGB02 qGB03 lSB0 qSB00 qSB01 qSB02 qSB03
  have A0_68 := Lib.hid (A0_57.out.ext h_67)
  clear A0_57
  have S0_69 := Lib.hid (S0_58.out.ext h_67)
  clear S0_58
  have S1_70 := Lib.hid (S1_59.out.ext h_67)
  clear S1_59
  have SB0_71 := Lib.hid (SB0_60.out.ext h_67)
  clear SB0_60
  have X0_72 := Lib.hid (X0_61.out.ext h_67)
  clear X0_61
  have XB0_73 := Lib.hid (XB0_62.out.ext h_67)
  clear XB0_62
  have G0_74 := Lib.hid (G0_63.out.ext h_67)
  clear G0_63
  have G1_75 := Lib.hid (G1_64.out.ext h_67)
  clear G1_64
  have GB0_76 := Lib.hid (GB0_66.out.ext h_67)
  clear GB0_66
  have E_77 := Lib.hid (E_65.out.trans h_67)
  clear E_65
  have z_78 := Ext.le h_67
  try simp only [World.size_alloc] at z_78
  have Z_78 := Lib.hid z_78
  clear z_78
  clear h_67
  go_wp2_with fail
  refine (eqIntS_x _ _ _ _ _ d1 _ G1_75.out.reads S1_70.out.reads gm1).mono ?_
  rintro e w_79 ⟨rfl, h_79⟩
  have A0_80 := Lib.hid (A0_68.out.ext h_79)
  clear A0_68
  have S0_81 := Lib.hid (S0_69.out.ext h_79)
  clear S0_69
  have S1_82 := Lib.hid (S1_70.out.ext h_79)
  clear S1_70
  have SB0_83 := Lib.hid (SB0_71.out.ext h_79)
  clear SB0_71
  have X0_84 := Lib.hid (X0_72.out.ext h_79)
  clear X0_72
  have XB0_85 := Lib.hid (XB0_73.out.ext h_79)
  clear XB0_73
  have G0_86 := Lib.hid (G0_74.out.ext h_79)
  clear G0_74
  have G1_87 := Lib.hid (G1_75.out.ext h_79)
  clear G1_75
  have GB0_88 := Lib.hid (GB0_76.out.ext h_79)
  clear GB0_76
  have E_89 := Lib.hid (E_77.out.trans h_79)
  clear E_77
  have z_90 := Ext.le h_79
  try simp only [World.size_alloc] at z_90
  have Z_90 := Lib.hid z_90
  clear z_90
  clear h_79
  have lXB0 := XB0_85.out.1
  have qXB00 := XB0_85.out.2 0 _ rfl
  have qXB01 := XB0_85.out.2 1 _ rfl
  have qXB02 := XB0_85.out.2 2 _ rfl
  have qXB03 := XB0_85.out.2 3 _ rfl
  have lA0 := A0_80.out.1
  have qA00 := A0_80.out.2 0 _ rfl
  have qA01 := A0_80.out.2 1 _ rfl
  have qA02 := A0_80.out.2 2 _ rfl
  have qA03 := A0_80.out.2 3 _ rfl
  try simp only [World.size_alloc] at lXB0 lA0
  go_wp2_with fail
  go_region_held3 (fun w' => Ext w_79 w' ∧ (∀ b o, b < w_79.heap.size → w'.cell? ⟨b, o, none⟩ = w_79.cell? ⟨b, o, none⟩)) (first | (with_reducible exact ext2 (Ext.trans (And.left ‹Ext w_79 _ ∧ _›) ‹Ext _ _›)) | (refine ext2 ?_; with_reducible repeat (first | exact Ext.refl _ | refine Ext.drew ?_))) (first
    | (go_at_call 17; refine (toMatrix_law _ _ _ _ _ _ xs0 _ (HR0.out.ext (E_89.out.trans (And.left ‹Ext w_79 _ ∧ _›))) hn0).mono ?_; rintro e w_91 ⟨b_91, rfl, o_91, h_91⟩)
    | (go_at_call 19; refine (eqMatrix_law _ _ _ _ _ _ _ _ xs0 _ (Own.reads (Own.ext X0_84.out (And.left ‹Ext w_79 _ ∧ _›))) (Own.reads o_91) hn0).mono ?_; rintro e w_92 ⟨rfl, h_92⟩))
  clear lXB0 qXB00 qXB01 qXB02 qXB03 lA0 qA00 qA01 qA02 qA03
  have hx_92 := And.left ‹Ext w_79 w_92 ∧ _›
  try clear h_91 h_92 o_91
  have A0_93 := Lib.hid (A0_80.out.ext hx_92)
  clear A0_80
  have S0_94 := Lib.hid (S0_81.out.ext hx_92)
  clear S0_81
  have S1_95 := Lib.hid (S1_82.out.ext hx_92)
  clear S1_82
  have SB0_96 := Lib.hid (SB0_83.out.ext hx_92)
  clear SB0_83
  have X0_97 := Lib.hid (X0_84.out.ext hx_92)
  clear X0_84
  have XB0_98 := Lib.hid (XB0_85.out.ext hx_92)
  clear XB0_85
  have G0_99 := Lib.hid (G0_86.out.ext hx_92)
  clear G0_86
  have G1_100 := Lib.hid (G1_87.out.ext hx_92)
  clear G1_87
  have GB0_101 := Lib.hid (GB0_88.out.ext hx_92)
  clear GB0_88
  have E_102 := Lib.hid (E_89.out.trans hx_92)
  clear E_89
  have z_103 := Ext.le hx_92
  try simp only [World.size_alloc] at z_103
  have Z_103 := Lib.hid z_103
  clear z_103
  clear hx_92
  have X0_b104 := Lib.hid X0_97.out.blk
  have lXB0 := XB0_98.out.1
  have qXB00 := XB0_98.out.2 0 _ rfl
  have qXB01 := XB0_98.out.2 1 _ rfl
  have qXB02 := XB0_98.out.2 2 _ rfl
  have qXB03 := XB0_98.out.2 3 _ rfl
  try simp only [World.size_alloc] at lXB0
  go_wp2_with fail
  refine (markMatrix_law _ _ _ _ _ _ _ _ _ _ _ X0_97.out hn0 (by omega) (by omega)).mono ?_
  rintro e w_105 ⟨rfl, o_105, g_105⟩
  clear lXB0 qXB00 qXB01 qXB02 qXB03
  clear X0_97
  have A0_106 := Lib.hid (A0_93.out.grown g_105 (fun k hk => by have := X0_b104.out k hk; have := Z_9.out; have := Z_13.out; have := Z_18.out; have := Zm_19.out; have := Zq_19.out; have := Z_34.out; have := Z_52.out; have := Zm_53.out; have := Zq_53.out; have := Z_78.out; have := Z_90.out; have := Z_103.out; omega))
  clear A0_93
  have S0_107 := Lib.hid (S0_94.out.grown g_105 (fun k hk => by have := X0_b104.out k hk; have := Z_9.out; have := Z_13.out; have := Z_18.out; have := Zm_19.out; have := Zq_19.out; have := Z_34.out; have := Z_52.out; have := Zm_53.out; have := Zq_53.out; have := Z_78.out; have := Z_90.out; have := Z_103.out; omega))
  clear S0_94
  have S1_108 := Lib.hid (S1_95.out.grown g_105 (fun k hk => by have := X0_b104.out k hk; have := Z_9.out; have := Z_13.out; have := Z_18.out; have := Zm_19.out; have := Zq_19.out; have := Z_34.out; have := Z_52.out; have := Zm_53.out; have := Zq_53.out; have := Z_78.out; have := Z_90.out; have := Z_103.out; omega))
  clear S1_95
  have SB0_109 := Lib.hid (SB0_96.out.grown g_105 (fun k hk => by have := X0_b104.out k hk; have := Z_9.out; have := Z_13.out; have := Z_18.out; have := Zm_19.out; have := Zq_19.out; have := Z_34.out; have := Z_52.out; have := Zm_53.out; have := Zq_53.out; have := Z_78.out; have := Z_90.out; have := Z_103.out; omega))
  clear SB0_96
  have XB0_110 := Lib.hid (XB0_98.out.grown g_105 (fun k hk => by have := X0_b104.out k hk; have := Z_9.out; have := Z_13.out; have := Z_18.out; have := Zm_19.out; have := Zq_19.out; have := Z_34.out; have := Z_52.out; have := Zm_53.out; have := Zq_53.out; have := Z_78.out; have := Z_90.out; have := Z_103.out; omega))
  clear XB0_98
  have G0_111 := Lib.hid (G0_99.out.grown g_105 (fun k hk => by have := X0_b104.out k hk; have := Z_9.out; have := Z_13.out; have := Z_18.out; have := Zm_19.out; have := Zq_19.out; have := Z_34.out; have := Z_52.out; have := Zm_53.out; have := Zq_53.out; have := Z_78.out; have := Z_90.out; have := Z_103.out; omega))
  clear G0_99
  have G1_112 := Lib.hid (G1_100.out.grown g_105 (fun k hk => by have := X0_b104.out k hk; have := Z_9.out; have := Z_13.out; have := Z_18.out; have := Zm_19.out; have := Zq_19.out; have := Z_34.out; have := Z_52.out; have := Zm_53.out; have := Zq_53.out; have := Z_78.out; have := Z_90.out; have := Z_103.out; omega))
  clear G1_100
  have GB0_113 := Lib.hid (GB0_101.out.grown g_105 (fun k hk => by have := X0_b104.out k hk; have := Z_9.out; have := Z_13.out; have := Z_18.out; have := Zm_19.out; have := Zq_19.out; have := Z_34.out; have := Z_52.out; have := Zm_53.out; have := Zq_53.out; have := Z_78.out; have := Z_90.out; have := Z_103.out; omega))
  clear GB0_101
  have E_114 := Lib.hid (E_102.out.grown g_105 (fun k hk => by have := X0_b104.out k hk; have := Z_9.out; have := Z_13.out; have := Z_18.out; have := Zm_19.out; have := Zq_19.out; have := Z_34.out; have := Z_52.out; have := Zm_53.out; have := Zq_53.out; have := Z_78.out; have := Z_90.out; have := Z_103.out; omega))
  clear E_102
  have Z_115 := Lib.hid g_105.size
  clear g_105 X0_b104
  have X0_116 := Lib.hid (o_105)
  clear o_105
  clear X0_116
  clear XB0_110
  have hk : 0 ≤ 1 + (n0 : Int) := by omega
  have lGB0 := GB0_113.out.1
  have qGB00 := GB0_113.out.2 0 _ rfl
  have qGB01 := GB0_113.out.2 1 _ rfl
  have qGB02 := GB0_113.out.2 2 _ rfl
  have qGB03 := GB0_113.out.2 3 _ rfl
  have lSB0 := SB0_109.out.1
  have qSB00 := SB0_109.out.2 0 _ rfl
  have qSB01 := SB0_109.out.2 1 _ rfl
  have qSB02 := SB0_109.out.2 2 _ rfl
  have qSB03 := SB0_109.out.2 3 _ rfl
  try simp only [World.size_alloc] at lGB0 lSB0
  go_wp2_with fail
  refine (eqMatrix_law _ _ _ _ _ _ _ _ d0 _ G0_111.out.reads S0_107.out.reads gm0).mono ?_
  rintro e w_117 ⟨rfl, h_117⟩
  clear lGB0 qGB00 qGB01 qGB02 qGB03 lSB0 qSB00 qSB01 qSB02 qSB03
  have A0_118 := Lib.hid (A0_106.out.ext h_117)
  clear A0_106
  have S0_119 := Lib.hid (S0_107.out.ext h_117)
  clear S0_107
  have S1_120 := Lib.hid (S1_108.out.ext h_117)
  clear S1_108
  have SB0_121 := Lib.hid (SB0_109.out.ext h_117)
  clear SB0_109
  have G0_122 := Lib.hid (G0_111.out.ext h_117)
  clear G0_111
  have G1_123 := Lib.hid (G1_112.out.ext h_117)
  clear G1_112
  have GB0_124 := Lib.hid (GB0_113.out.ext h_117)
  clear GB0_113
  have E_125 := Lib.hid (E_114.out.trans h_117)
  clear E_114
  have z_126 := Ext.le h_117
  try simp only [World.size_alloc] at z_126
  have Z_126 := Lib.hid z_126
  clear z_126
  clear h_117
  go_wp2_with fail
  refine (eqIntS_x _ _ _ _ _ d1 _ G1_123.out.reads S1_120.out.reads gm1).mono ?_
  rintro e w_127 ⟨rfl, h_127⟩
  have A0_128 := Lib.hid (A0_118.out.ext h_127)
  clear A0_118
  have S0_129 := Lib.hid (S0_119.out.ext h_127)
  clear S0_119
  have S1_130 := Lib.hid (S1_120.out.ext h_127)
  clear S1_120
  have SB0_131 := Lib.hid (SB0_121.out.ext h_127)
  clear SB0_121
  have G0_132 := Lib.hid (G0_122.out.ext h_127)
  clear G0_122
  have G1_133 := Lib.hid (G1_123.out.ext h_127)
  clear G1_123
  have GB0_134 := Lib.hid (GB0_124.out.ext h_127)
  clear GB0_124
  have E_135 := Lib.hid (E_125.out.trans h_127)
  clear E_125
  have z_136 := Ext.le h_127
  try simp only [World.size_alloc] at z_136
  have Z_136 := Lib.hid z_136
  clear z_136
  clear h_127
  clear hk
  have G0_b137 := Lib.hid G0_132.out.blk
  have lGB0 := GB0_134.out.1
  have qGB00 := GB0_134.out.2 0 _ rfl
  have qGB01 := GB0_134.out.2 1 _ rfl
  have qGB02 := GB0_134.out.2 2 _ rfl
  have qGB03 := GB0_134.out.2 3 _ rfl
  try simp only [World.size_alloc] at lGB0
  go_wp2_with fail
  refine (markMatrix_law _ _ _ _ _ _ _ _ _ _ _ G0_132.out gm0 (by omega) (by omega)).mono ?_
  rintro e w_138 ⟨rfl, o_138, g_138⟩
  clear lGB0 qGB00 qGB01 qGB02 qGB03
  clear G0_132
  have A0_139 := Lib.hid (A0_128.out.grown g_138 (fun k hk => by have := G0_b137.out k hk; have := Z_9.out; have := Z_13.out; have := Z_18.out; have := Zm_19.out; have := Zq_19.out; have := Z_34.out; have := Z_52.out; have := Zm_53.out; have := Zq_53.out; have := Z_78.out; have := Z_90.out; have := Z_103.out; have := Z_115.out; have := Z_126.out; have := Z_136.out; omega))
  clear A0_128
  have S0_140 := Lib.hid (S0_129.out.grown g_138 (fun k hk => by have := G0_b137.out k hk; have := Z_9.out; have := Z_13.out; have := Z_18.out; have := Zm_19.out; have := Zq_19.out; have := Z_34.out; have := Z_52.out; have := Zm_53.out; have := Zq_53.out; have := Z_78.out; have := Z_90.out; have := Z_103.out; have := Z_115.out; have := Z_126.out; have := Z_136.out; omega))
  clear S0_129
  have S1_141 := Lib.hid (S1_130.out.grown g_138 (fun k hk => by have := G0_b137.out k hk; have := Z_9.out; have := Z_13.out; have := Z_18.out; have := Zm_19.out; have := Zq_19.out; have := Z_34.out; have := Z_52.out; have := Zm_53.out; have := Zq_53.out; have := Z_78.out; have := Z_90.out; have := Z_103.out; have := Z_115.out; have := Z_126.out; have := Z_136.out; omega))
  clear S1_130
  have SB0_142 := Lib.hid (SB0_131.out.grown g_138 (fun k hk => by have := G0_b137.out k hk; have := Z_9.out; have := Z_13.out; have := Z_18.out; have := Zm_19.out; have := Zq_19.out; have := Z_34.out; have := Z_52.out; have := Zm_53.out; have := Zq_53.out; have := Z_78.out; have := Z_90.out; have := Z_103.out; have := Z_115.out; have := Z_126.out; have := Z_136.out; omega))
  clear SB0_131
  have G1_143 := Lib.hid (G1_133.out.grown g_138 (fun k hk => by have := G0_b137.out k hk; have := Z_9.out; have := Z_13.out; have := Z_18.out; have := Zm_19.out; have := Zq_19.out; have := Z_34.out; have := Z_52.out; have := Zm_53.out; have := Zq_53.out; have := Z_78.out; have := Z_90.out; have := Z_103.out; have := Z_115.out; have := Z_126.out; have := Z_136.out; omega))
  clear G1_133
  have GB0_144 := Lib.hid (GB0_134.out.grown g_138 (fun k hk => by have := G0_b137.out k hk; have := Z_9.out; have := Z_13.out; have := Z_18.out; have := Zm_19.out; have := Zq_19.out; have := Z_34.out; have := Z_52.out; have := Zm_53.out; have := Zq_53.out; have := Z_78.out; have := Z_90.out; have := Z_103.out; have := Z_115.out; have := Z_126.out; have := Z_136.out; omega))
  clear GB0_134
  have E_145 := Lib.hid (E_135.out.grown g_138 (fun k hk => by have := G0_b137.out k hk; have := Z_9.out; have := Z_13.out; have := Z_18.out; have := Zm_19.out; have := Zq_19.out; have := Z_34.out; have := Z_52.out; have := Zm_53.out; have := Zq_53.out; have := Z_78.out; have := Z_90.out; have := Z_103.out; have := Z_115.out; have := Z_126.out; have := Z_136.out; omega))
  clear E_135
  have Z_146 := Lib.hid g_138.size
  clear g_138 G0_b137
  have G0_147 := Lib.hid (o_138)
  clear o_138
  have G1_b148 := Lib.hid G1_143.out.blk
  go_wp2_with fail
  refine (markIntS_law _ _ _ _ _ _ _ _ G1_143.out gm1 (by omega) (by omega)).mono ?_
  rintro e w_149 ⟨rfl, o_149, g_149⟩
  clear G1_143
  have A0_150 := Lib.hid (A0_139.out.grown g_149 (fun k hk => by have := G1_b148.out k hk; have := Z_9.out; have := Z_13.out; have := Z_18.out; have := Zm_19.out; have := Zq_19.out; have := Z_34.out; have := Z_52.out; have := Zm_53.out; have := Zq_53.out; have := Z_78.out; have := Z_90.out; have := Z_103.out; have := Z_115.out; have := Z_126.out; have := Z_136.out; have := Z_146.out; omega))
  clear A0_139
  have S0_151 := Lib.hid (S0_140.out.grown g_149 (fun k hk => by have := G1_b148.out k hk; have := Z_9.out; have := Z_13.out; have := Z_18.out; have := Zm_19.out; have := Zq_19.out; have := Z_34.out; have := Z_52.out; have := Zm_53.out; have := Zq_53.out; have := Z_78.out; have := Z_90.out; have := Z_103.out; have := Z_115.out; have := Z_126.out; have := Z_136.out; have := Z_146.out; omega))
  clear S0_140
  have S1_152 := Lib.hid (S1_141.out.grown g_149 (fun k hk => by have := G1_b148.out k hk; have := Z_9.out; have := Z_13.out; have := Z_18.out; have := Zm_19.out; have := Zq_19.out; have := Z_34.out; have := Z_52.out; have := Zm_53.out; have := Zq_53.out; have := Z_78.out; have := Z_90.out; have := Z_103.out; have := Z_115.out; have := Z_126.out; have := Z_136.out; have := Z_146.out; omega))
  clear S1_141
  have SB0_153 := Lib.hid (SB0_142.out.grown g_149 (fun k hk => by have := G1_b148.out k hk; have := Z_9.out; have := Z_13.out; have := Z_18.out; have := Zm_19.out; have := Zq_19.out; have := Z_34.out; have := Z_52.out; have := Zm_53.out; have := Zq_53.out; have := Z_78.out; have := Z_90.out; have := Z_103.out; have := Z_115.out; have := Z_126.out; have := Z_136.out; have := Z_146.out; omega))
  clear SB0_142
  have GB0_154 := Lib.hid (GB0_144.out.grown g_149 (fun k hk => by have := G1_b148.out k hk; have := Z_9.out; have := Z_13.out; have := Z_18.out; have := Zm_19.out; have := Zq_19.out; have := Z_34.out; have := Z_52.out; have := Zm_53.out; have := Zq_53.out; have := Z_78.out; have := Z_90.out; have := Z_103.out; have := Z_115.out; have := Z_126.out; have := Z_136.out; have := Z_146.out; omega))
  clear GB0_144
  have G0_155 := Lib.hid (G0_147.out.grown g_149 (fun k hk => by have := G1_b148.out k hk; have := Z_9.out; have := Z_13.out; have := Z_18.out; have := Zm_19.out; have := Zq_19.out; have := Z_34.out; have := Z_52.out; have := Zm_53.out; have := Zq_53.out; have := Z_78.out; have := Z_90.out; have := Z_103.out; have := Z_115.out; have := Z_126.out; have := Z_136.out; have := Z_146.out; omega))
  clear G0_147
  have E_156 := Lib.hid (E_145.out.grown g_149 (fun k hk => by have := G1_b148.out k hk; have := Z_9.out; have := Z_13.out; have := Z_18.out; have := Zm_19.out; have := Zq_19.out; have := Z_34.out; have := Z_52.out; have := Zm_53.out; have := Zq_53.out; have := Z_78.out; have := Z_90.out; have := Z_103.out; have := Z_115.out; have := Z_126.out; have := Z_136.out; have := Z_146.out; omega))
  clear E_145
  have Z_157 := Lib.hid g_149.size
  clear g_149 G1_b148
  have G1_158 := Lib.hid (o_149)
  clear o_149
  have lGB0 := GB0_154.out.1
  have qGB00 := GB0_154.out.2 0 _ rfl
  have qGB01 := GB0_154.out.2 1 _ rfl
  have qGB02 := GB0_154.out.2 2 _ rfl
  have qGB03 := GB0_154.out.2 3 _ rfl
  try simp only [World.size_alloc] at lGB0
  go_wp2_with fail
  refine (heldMatrix_law _ _ _ _ _ _ _ _ G0_155.out.reads gm0 (by omega) (by omega)).mono ?_
  rintro e w_159 ⟨rfl, h_159⟩
  clear lGB0 qGB00 qGB01 qGB02 qGB03
  have hq159 : 0 ≤ 1 + (sn0 : Int) := by omega
  have A0_160 := Lib.hid (A0_150.out.ext h_159)
  clear A0_150
  have S0_161 := Lib.hid (S0_151.out.ext h_159)
  clear S0_151
  have S1_162 := Lib.hid (S1_152.out.ext h_159)
  clear S1_152
  have SB0_163 := Lib.hid (SB0_153.out.ext h_159)
  clear SB0_153
  have GB0_164 := Lib.hid (GB0_154.out.ext h_159)
  clear GB0_154
  have G0_165 := Lib.hid (G0_155.out.ext h_159)
  clear G0_155
  have G1_166 := Lib.hid (G1_158.out.ext h_159)
  clear G1_158
  have E_167 := Lib.hid (E_156.out.trans h_159)
  clear E_156
  have z_168 := Ext.le h_159
  try simp only [World.size_alloc] at z_168
  have Z_168 := Lib.hid z_168
  clear z_168
  clear h_159
  go_wp2_with fail
  refine (heldIntS_x _ _ _ _ _ G1_166.out.reads gm1 (by omega) (by omega)).mono ?_
  rintro e w_169 ⟨rfl, h_169⟩
  have hq169 : 0 ≤ 1 + (sn0 : Int) + (sn1 : Int) := by omega
  have A0_170 := Lib.hid (A0_160.out.ext h_169)
  clear A0_160
  have S0_171 := Lib.hid (S0_161.out.ext h_169)
  clear S0_161
  have S1_172 := Lib.hid (S1_162.out.ext h_169)
  clear S1_162
  have SB0_173 := Lib.hid (SB0_163.out.ext h_169)
  clear SB0_163
  have GB0_174 := Lib.hid (GB0_164.out.ext h_169)
  clear GB0_164
  have G0_175 := Lib.hid (G0_165.out.ext h_169)
  clear G0_165
  have G1_176 := Lib.hid (G1_166.out.ext h_169)
  clear G1_166
  have E_177 := Lib.hid (E_167.out.trans h_169)
  clear E_167
  have z_178 := Ext.le h_169
  try simp only [World.size_alloc] at z_178
  have Z_178 := Lib.hid z_178
  clear z_178
  clear h_169
  have lA0 := A0_170.out.1
  have qA00 := A0_170.out.2 0 _ rfl
  have qA01 := A0_170.out.2 1 _ rfl
  have qA02 := A0_170.out.2 2 _ rfl
  have qA03 := A0_170.out.2 3 _ rfl
  try simp only [World.size_alloc] at lA0
  go_wp2_with fail
  refine (toMatrix_law _ _ _ _ _ _ xs0 _ (HR0.out.ext E_177.out) hn0).mono ?_
  rintro e w_179 ⟨b_179, rfl, o_179, h_179⟩
  clear lA0 qA00 qA01 qA02 qA03
  have A0_180 := Lib.hid (A0_170.out.ext h_179)
  clear A0_170
  have S0_181 := Lib.hid (S0_171.out.ext h_179)
  clear S0_171
  have S1_182 := Lib.hid (S1_172.out.ext h_179)
  clear S1_172
  have SB0_183 := Lib.hid (SB0_173.out.ext h_179)
  clear SB0_173
  have GB0_184 := Lib.hid (GB0_174.out.ext h_179)
  clear GB0_174
  have G0_185 := Lib.hid (G0_175.out.ext h_179)
  clear G0_175
  have G1_186 := Lib.hid (G1_176.out.ext h_179)
  clear G1_176
  have E_187 := Lib.hid (E_177.out.trans h_179)
  clear E_177
  have z_188 := Ext.le h_179
  try simp only [World.size_alloc] at z_188
  have Z_188 := Lib.hid z_188
  clear z_188
  have T_189 := Lib.hid (o_179)
  clear o_179 h_179
  go_wp2_with fail
  refine (reduceMatrix_impl2 T_189.out.reads hn0 hM.out).mono ?_
  rintro e w_190 ⟨v0, v1, tmid, rfl, thmid, ⟨ta0, tn0, tc0, rfl, tO0, tm0⟩, ⟨ta1, tn1, tc1, rfl, tO1, tm1⟩, h_190⟩
  clear T_189
  have A0_191 := Lib.hid (A0_180.out.ext h_190)
  clear A0_180
  have S0_192 := Lib.hid (S0_181.out.ext h_190)
  clear S0_181
  have S1_193 := Lib.hid (S1_182.out.ext h_190)
  clear S1_182
  have SB0_194 := Lib.hid (SB0_183.out.ext h_190)
  clear SB0_183
  have GB0_195 := Lib.hid (GB0_184.out.ext h_190)
  clear GB0_184
  have G0_196 := Lib.hid (G0_185.out.ext h_190)
  clear G0_185
  have G1_197 := Lib.hid (G1_186.out.ext h_190)
  clear G1_186
  have E_198 := Lib.hid (E_187.out.trans h_190)
  clear E_187
  have z_199 := Ext.le h_190
  try simp only [World.size_alloc] at z_199
  have Z_199 := Lib.hid z_199
  clear z_199
  clear h_190
  try simp only [World.size_alloc] at thmid
  have Zm_200 := Lib.hid thmid.1
  have Zq_200 := Lib.hid thmid.2
  clear thmid
  try simp only [World.size_alloc] at tO0
  have H0_201 := Lib.hid (tO0)
  clear tO0
  try simp only [World.size_alloc] at tO1
  have H1_202 := Lib.hid (tO1)
  clear tO1
  have P_203 := (Ext.refl w_190).alloc (.cells #[.int .i64 pP0, .int .i64 pR0, .int .i64 pC0, .slice ta0 tn0 tc0] 26)
  have A0_204 := Lib.hid (A0_191.out.ext P_203)
  clear A0_191
  have S0_205 := Lib.hid (S0_192.out.ext P_203)
  clear S0_192
  have S1_206 := Lib.hid (S1_193.out.ext P_203)
  clear S1_193
  have SB0_207 := Lib.hid (SB0_194.out.ext P_203)
  clear SB0_194
  have GB0_208 := Lib.hid (GB0_195.out.ext P_203)
  clear GB0_195
  have G0_209 := Lib.hid (G0_196.out.ext P_203)
  clear G0_196
  have G1_210 := Lib.hid (G1_197.out.ext P_203)
  clear G1_197
  have H0_211 := Lib.hid (H0_201.out.ext P_203)
  clear H0_201
  have H1_212 := Lib.hid (H1_202.out.ext P_203)
  clear H1_202
  have E_213 := Lib.hid (E_198.out.trans P_203)
  clear E_198
  clear P_203
  have HB0_214 := Lib.hid (cells_new w_190 #[.int .i64 pP0, .int .i64 pR0, .int .i64 pC0, .slice ta0 tn0 tc0] 26)
  obtain rfl : sn0 = tn0 := S0_205.out.len.symm.trans H0_211.out.len
  obtain rfl : sn1 = tn1 := S1_206.out.len.symm.trans H1_212.out.len
  have lHB0 := HB0_214.out.1
  have qHB00 := HB0_214.out.2 0 _ rfl
  have qHB01 := HB0_214.out.2 1 _ rfl
  have qHB02 := HB0_214.out.2 2 _ rfl
  have qHB03 := HB0_214.out.2 3 _ rfl
  have lSB0 := SB0_207.out.1
  have qSB00 := SB0_207.out.2 0 _ rfl
  have qSB01 := SB0_207.out.2 1 _ rfl
  have qSB02 := SB0_207.out.2 2 _ rfl
  have qSB03 := SB0_207.out.2 3 _ rfl
  try simp only [World.size_alloc] at lHB0 lSB0
  go_wp2_with fail
  refine (eqMatrix_law _ _ _ _ _ _ _ _ d0 _ H0_211.out.reads S0_205.out.reads gm0).mono ?_
  rintro e w_215 ⟨rfl, h_215⟩
  clear lHB0 qHB00 qHB01 qHB02 qHB03 lSB0 qSB00 qSB01 qSB02 qSB03
  have A0_216 := Lib.hid (A0_204.out.ext h_215)
  clear A0_204
  have S0_217 := Lib.hid (S0_205.out.ext h_215)
  clear S0_205
  have S1_218 := Lib.hid (S1_206.out.ext h_215)
  clear S1_206
  have SB0_219 := Lib.hid (SB0_207.out.ext h_215)
  clear SB0_207
  have GB0_220 := Lib.hid (GB0_208.out.ext h_215)
  clear GB0_208
  have G0_221 := Lib.hid (G0_209.out.ext h_215)
  clear G0_209
  have G1_222 := Lib.hid (G1_210.out.ext h_215)
  clear G1_210
  have H0_223 := Lib.hid (H0_211.out.ext h_215)
  clear H0_211
  have H1_224 := Lib.hid (H1_212.out.ext h_215)
  clear H1_212
  have HB0_225 := Lib.hid (HB0_214.out.ext h_215)
  clear HB0_214
  have E_226 := Lib.hid (E_213.out.trans h_215)
  clear E_213
  have z_227 := Ext.le h_215
  try simp only [World.size_alloc] at z_227
  have Z_227 := Lib.hid z_227
  clear z_227
  clear h_215
  go_wp2_with fail
  refine (eqIntS_x _ _ _ _ _ d1 _ H1_224.out.reads S1_218.out.reads gm1).mono ?_
  rintro e w_228 ⟨rfl, h_228⟩
  have A0_229 := Lib.hid (A0_216.out.ext h_228)
  clear A0_216
  have S0_230 := Lib.hid (S0_217.out.ext h_228)
  clear S0_217
  have S1_231 := Lib.hid (S1_218.out.ext h_228)
  clear S1_218
  have SB0_232 := Lib.hid (SB0_219.out.ext h_228)
  clear SB0_219
  have GB0_233 := Lib.hid (GB0_220.out.ext h_228)
  clear GB0_220
  have G0_234 := Lib.hid (G0_221.out.ext h_228)
  clear G0_221
  have G1_235 := Lib.hid (G1_222.out.ext h_228)
  clear G1_222
  have H0_236 := Lib.hid (H0_223.out.ext h_228)
  clear H0_223
  have H1_237 := Lib.hid (H1_224.out.ext h_228)
  clear H1_224
  have HB0_238 := Lib.hid (HB0_225.out.ext h_228)
  clear HB0_225
  have E_239 := Lib.hid (E_226.out.trans h_228)
  clear E_226
  have z_240 := Ext.le h_228
  try simp only [World.size_alloc] at z_240
  have Z_240 := Lib.hid z_240
  clear z_240
  clear h_228
  have lGB0 := GB0_233.out.1
  have qGB00 := GB0_233.out.2 0 _ rfl
  have qGB01 := GB0_233.out.2 1 _ rfl
  have qGB02 := GB0_233.out.2 2 _ rfl
  have qGB03 := GB0_233.out.2 3 _ rfl
  try simp only [World.size_alloc] at lGB0
  go_wp2_with fail
  refine (heldMatrix_law _ _ _ _ _ _ _ _ G0_234.out.reads gm0 (by omega) (by omega)).mono ?_
  rintro e w_241 ⟨rfl, h_241⟩
  clear lGB0 qGB00 qGB01 qGB02 qGB03
  have hq241 : 0 ≤ 1 + (sn0 : Int) := by omega
  have A0_242 := Lib.hid (A0_229.out.ext h_241)
  clear A0_229
  have S0_243 := Lib.hid (S0_230.out.ext h_241)
  clear S0_230
  have S1_244 := Lib.hid (S1_231.out.ext h_241)
  clear S1_231
  have SB0_245 := Lib.hid (SB0_232.out.ext h_241)
  clear SB0_232
  have GB0_246 := Lib.hid (GB0_233.out.ext h_241)
  clear GB0_233
  have G0_247 := Lib.hid (G0_234.out.ext h_241)
  clear G0_234
  have G1_248 := Lib.hid (G1_235.out.ext h_241)
  clear G1_235
  have H0_249 := Lib.hid (H0_236.out.ext h_241)
  clear H0_236
  have H1_250 := Lib.hid (H1_237.out.ext h_241)
  clear H1_237
  have HB0_251 := Lib.hid (HB0_238.out.ext h_241)
  clear HB0_238
  have E_252 := Lib.hid (E_239.out.trans h_241)
  clear E_239
  have z_253 := Ext.le h_241
  try simp only [World.size_alloc] at z_253
  have Z_253 := Lib.hid z_253
  clear z_253
  clear h_241
  go_wp2_with fail
  refine (heldIntS_x _ _ _ _ _ G1_248.out.reads gm1 (by omega) (by omega)).mono ?_
  rintro e w_254 ⟨rfl, h_254⟩
  have hq254 : 0 ≤ 1 + (sn0 : Int) + (sn1 : Int) := by omega
  have A0_255 := Lib.hid (A0_242.out.ext h_254)
  clear A0_242
  have S0_256 := Lib.hid (S0_243.out.ext h_254)
  clear S0_243
  have S1_257 := Lib.hid (S1_244.out.ext h_254)
  clear S1_244
  have SB0_258 := Lib.hid (SB0_245.out.ext h_254)
  clear SB0_245
  have GB0_259 := Lib.hid (GB0_246.out.ext h_254)
  clear GB0_246
  have G0_260 := Lib.hid (G0_247.out.ext h_254)
  clear G0_247
  have G1_261 := Lib.hid (G1_248.out.ext h_254)
  clear G1_248
  have H0_262 := Lib.hid (H0_249.out.ext h_254)
  clear H0_249
  have H1_263 := Lib.hid (H1_250.out.ext h_254)
  clear H1_250
  have HB0_264 := Lib.hid (HB0_251.out.ext h_254)
  clear HB0_251
  have E_265 := Lib.hid (E_252.out.trans h_254)
  clear E_252
  have z_266 := Ext.le h_254
  try simp only [World.size_alloc] at z_266
  have Z_266 := Lib.hid z_266
  clear z_266
  clear h_254
  go_wp2
  go_ret
  exact ⟨rfl, E_265.out⟩

set_option maxRecDepth 100000 in
theorem lifted (os : Os) (started : os.Started) (H : Type) (enc : TypeId × Value → H) :
    ReturnsInHanded {} Try.checked os 4 .any (Rows.fnExactReduceMatrixSpec.pre6 enc Try.prog Try.f4 Rows.fnExactReduceMatrixRow.domain false) (Rows.fnExactReduceMatrixSpec.post enc Try.prog Try.f4 false true false false) := by
  refine returnsInHanded_of_change (C := Try.checked) own started (by kernel_rfl) Try.func4
    (ChangeSpec.witness6 (enc := enc) (C := Try.checked) false ⟨#[], #[.agg #[.int .i64 0, .int .i64 0, .int .i64 0, .slice none 0 0]], []⟩ 8 (by kernel_rfl) (by kernel_rfl) (by kernel_rfl) (by kernel_rfl)) ?_
  intro W base args ds gs before hval0 hW hcnd _
  have hval : ∀ (j : Nat) t v, Try.f4.params[j]? = some t → args[j]? = some v → Value.okWide Try.prog W .any base t v := hval0
  have hW' := hW
  obtain ⟨p, q, hA0, hV, rfl, hfz, hnd⟩ := hW
  have hA : DataW.TrodAll enc Try.prog W 0 (fun _ => true) true Try.f4.params.toList args.toList ds p := hA0
  rw [Try.params4] at hA hval
  obtain ⟨v0, vs0, d0, ds0, p0, q0, hargs, rfl, rfl, h0, r0⟩ := trodAll_cons hA
  obtain ⟨rfl, rfl, rfl⟩ := trodAll_nil r0
  obtain rfl : args = #[v0] := by cases args; simp_all
  obtain ⟨rfl, rfl⟩ := trodVars_none hV
  have k0 := h0
  have lt0 : ∀ x ∈ p0, x.block < W.heap.size := by obtain ⟨m, hm⟩ := k0; exact DataW.trod_lt m _ _ _ hm
  obtain ⟨P0, R0, C0, a0, n0, c0, xs0, rfl, w0⟩ := open_mat (hval 0 _ v0 rfl rfl) h0
  clear hA0 hval0
  refine (walk P0 R0 C0 a0 n0 c0 xs0 W w0).mono fun e W' ⟨he, bel⟩ => ?_
  subst he
  exact ⟨_, rfl, _, _, _, [], _, [], hW', trodAll_mk1 (shut_bool Try.underlying4 _), (trodAll_cons_mk (Below.trod laidOut (by kernel_rfl) (of_decide_eq_true (by kernel_rfl)) k0 bel lt0) trodAll_mk0), rfl, Below.frame bel _, fun h => by cases h⟩

theorem over : Rows.fnExactReduceMatrixRow.holds Try.pinned (OpenSpec.ofChange Rows.fnExactReduceMatrixSpec) :=
  OpenClaim.holds_of_wide 4 Try.f4 rfl rfl rfl rfl rfl rfl rfl ⟨rfl, rfl, rfl, rfl, rfl⟩ rfl rfl rfl rfl rfl (by kernel_rfl) Try.func4 (by kernel_rfl)
    (of_decide_eq_true (by kernel_rfl)) (by unfold Func.isWrapper; first | (rw [if_pos (by decide +kernel)]; kernel_rfl) | (rw [if_neg (by decide +kernel)]; exact ⟨rfl, rfl⟩))
    (fun os started H enc _ => lifted os started H enc)

/-- The statement. -/
theorem proved : Rows.FnExactReduceMatrixSaid := over
#print axioms proved
end Go.Proofs.Ytphopkihieofjaa.fnExactReduceMatrix
