/-
  Proved: the statement given for the law FnExactAdjointModule: at every input the Go text returns true, with no panic, and the arguments read as they read before. No condition is added.
-/
import Derived.Test.YtnikfalpjieibaaFr
import Derived.Test.YtnikfalpjieibaaAms
import Derived.Test.YtnikfalpjieibaaMtR
import Derived.Test.YtnikfalpjieibaaSeatF
namespace Go.Proofs.Ytnikfalpjieibaa.fnExactAdjointModule
open Go.ChangeShapes Go.WideShapes Go.ChangeAt Go.RowKit
open Go.ChangeMaps (open_string shut_string)
set_option linter.unusedVariables false
set_option linter.unusedSimpArgs false

set_option maxRecDepth 100000 in
set_option maxHeartbeats 3200000 in
/-- The walk: the Go text returns true, and nothing that was there has changed. -/
theorem walk (P0 D0 : Int) (a0 : Option Addr) (n0 c0 : Nat) (xs0 : List Int) (w : World) (w0 : Reads w a0 n0 xs0 ∧ n0 ≤ maxLen) :
    Calls Try.prog 5 #[.agg #[.int .i64 P0, .int .i64 D0, .slice a0 n0 c0]] w fun e w' => e = .returned (.bool true) ∧ Ext w w' := by
  obtain ⟨hr0, hm0⟩ := w0
  have HR0 := Lib.hid hr0
  clear hr0
  rcases hM0 : admM P0 D0 xs0 with d0
  have hM := Lib.hid hM0
  clear hM0
  by_cases hz0 : (n0 : Int) ≤ 1048576
  case neg =>
    go_enter Try.func5, Try.ntmps5
    have T0 := cells_new' w #[.int .i64 P0, .int .i64 D0, .slice a0 n0 c0] 24 (w.heap.size) (by simp)
    have A0_1 := Lib.hid (T0.ext (Ext.refl _))
    clear T0
    have E_2 := Lib.hid ((Ext.refl w).alloc (.cells #[.int .i64 P0, .int .i64 D0, .slice a0 n0 c0] 24))
    have lA0 := A0_1.out.1
    have qA00 := A0_1.out.2 0 _ rfl
    have qA01 := A0_1.out.2 1 _ rfl
    have qA02 := A0_1.out.2 2 _ rfl
    try simp only [World.size_alloc] at lA0
    go_wp2_with fail
    refine (szAlgebra_no _ _ _ _ _ _ _ (by omega) (by omega) hm0 (by omega)).mono ?_
    rintro e w_3 ⟨rfl, h_3⟩
    clear lA0 qA00 qA01 qA02
    go_wp2
    go_ret
    exact ⟨rfl, E_2.out.trans h_3⟩
  have hn0 : n0 ≤ 1048576 := by omega
  go_enter Try.func5, Try.ntmps5
  have T0 := cells_new' w #[.int .i64 P0, .int .i64 D0, .slice a0 n0 c0] 24 (w.heap.size) (by simp)
  have A0_4 := Lib.hid (T0.ext (Ext.refl _))
  clear T0
  have E_5 := Lib.hid ((Ext.refl w).alloc (.cells #[.int .i64 P0, .int .i64 D0, .slice a0 n0 c0] 24))
  have lA0 := A0_4.out.1
  have qA00 := A0_4.out.2 0 _ rfl
  have qA01 := A0_4.out.2 1 _ rfl
  have qA02 := A0_4.out.2 2 _ rfl
  try simp only [World.size_alloc] at lA0
  go_wp2_with fail
  refine (szAlgebra_yes _ _ _ _ _ _ _ (by omega) (by omega)).mono ?_
  rintro e w_6 ⟨rfl, h_6⟩
  clear lA0 qA00 qA01 qA02
  have A0_7 := Lib.hid (A0_4.out.ext h_6)
  clear A0_4
  have E_8 := Lib.hid (E_5.out.trans h_6)
  clear E_5
  have z_9 := Ext.le h_6
  try simp only [World.size_alloc] at z_9
  have Z_9 := Lib.hid z_9
  clear z_9
  clear h_6
  have hp : 0 ≤ 1048576 - (n0 : Int) := by omega
  have lA0 := A0_7.out.1
  have qA00 := A0_7.out.2 0 _ rfl
  have qA01 := A0_7.out.2 1 _ rfl
  have qA02 := A0_7.out.2 2 _ rfl
  try simp only [World.size_alloc] at lA0
  go_wp2_with fail
  refine (toAlgebra_law _ _ _ _ _ xs0 _ (HR0.out.ext E_8.out) hn0).mono ?_
  rintro e w_10 ⟨b_10, rfl, o_10, h_10⟩
  clear lA0 qA00 qA01 qA02
  have A0_11 := Lib.hid (A0_7.out.ext h_10)
  clear A0_7
  have E_12 := Lib.hid (E_8.out.trans h_10)
  clear E_8
  have z_13 := Ext.le h_10
  try simp only [World.size_alloc] at z_13
  have Z_13 := Lib.hid z_13
  clear z_13
  have T0_14 := Lib.hid (o_10)
  clear o_10 h_10
  go_wp2_with fail
  refine (adjointModule_spec T0_14.out.reads hn0 hM.out).mono ?_
  rintro e w_15 ⟨v0, rfl, ⟨sa0, sn0, sc0, rfl, sO0, sm0⟩, h_15⟩
  clear T0_14
  have A0_16 := Lib.hid (A0_11.out.ext h_15)
  clear A0_11
  have E_17 := Lib.hid (E_12.out.trans h_15)
  clear E_12
  have z_18 := Ext.le h_15
  try simp only [World.size_alloc] at z_18
  have Z_18 := Lib.hid z_18
  clear z_18
  clear h_15
  try simp only [World.size_alloc] at sO0
  have S0_19 := Lib.hid (sO0)
  clear sO0
  have lA0 := A0_16.out.1
  have qA00 := A0_16.out.2 0 _ rfl
  have qA01 := A0_16.out.2 1 _ rfl
  have qA02 := A0_16.out.2 2 _ rfl
  try simp only [World.size_alloc] at lA0
  go_wp2_with fail
  refine (toAlgebra_law _ _ _ _ _ xs0 _ (HR0.out.ext E_17.out) hn0).mono ?_
  rintro e w_20 ⟨b_20, rfl, o_20, h_20⟩
  clear lA0 qA00 qA01 qA02
  have A0_21 := Lib.hid (A0_16.out.ext h_20)
  clear A0_16
  have S0_22 := Lib.hid (S0_19.out.ext h_20)
  clear S0_19
  have E_23 := Lib.hid (E_17.out.trans h_20)
  clear E_17
  have z_24 := Ext.le h_20
  try simp only [World.size_alloc] at z_24
  have Z_24 := Lib.hid z_24
  clear z_24
  try simp only [World.size_alloc] at o_20
  have X0_25 := Lib.hid (o_20)
  clear o_20 h_20
  have P_26 := (Ext.refl w_20).alloc (.cells #[.int .i64 P0, .int .i64 D0, .slice (some ⟨b_20, 0, none⟩) n0 n0] 29)
  have A0_27 := Lib.hid (A0_21.out.ext P_26)
  clear A0_21
  have S0_28 := Lib.hid (S0_22.out.ext P_26)
  clear S0_22
  have X0_29 := Lib.hid (X0_25.out.ext P_26)
  clear X0_25
  have E_30 := Lib.hid (E_23.out.trans P_26)
  clear E_23
  clear P_26
  have XB0_31 := Lib.hid (cells_new w_20 #[.int .i64 P0, .int .i64 D0, .slice (some ⟨b_20, 0, none⟩) n0 n0] 29)
  have lXB0 := XB0_31.out.1
  have qXB00 := XB0_31.out.2 0 _ rfl
  have qXB01 := XB0_31.out.2 1 _ rfl
  have qXB02 := XB0_31.out.2 2 _ rfl
  try simp only [World.size_alloc] at lXB0
  go_wp2_with fail
  refine (adjointModule_impl X0_29.out.reads hn0 hM.out).mono ?_
  rintro e w_32 ⟨v0, rfl, ⟨ga0, gn0, gc0, rfl, gO0, gm0⟩, h_32⟩
  clear lXB0 qXB00 qXB01 qXB02
  have A0_33 := Lib.hid (A0_27.out.ext h_32)
  clear A0_27
  have S0_34 := Lib.hid (S0_28.out.ext h_32)
  clear S0_28
  have X0_35 := Lib.hid (X0_29.out.ext h_32)
  clear X0_29
  have XB0_36 := Lib.hid (XB0_31.out.ext h_32)
  clear XB0_31
  have E_37 := Lib.hid (E_30.out.trans h_32)
  clear E_30
  have z_38 := Ext.le h_32
  try simp only [World.size_alloc] at z_38
  have Z_38 := Lib.hid z_38
  clear z_38
  clear h_32
  try simp only [World.size_alloc] at gO0
  have G0_39 := Lib.hid (gO0)
  clear gO0
  obtain rfl : sn0 = gn0 := S0_34.out.len.symm.trans G0_39.out.len
  go_wp2_with fail
  refine (eqMatrixS_x _ _ _ _ _ _ _ _ _ d0 _ G0_39.out S0_34.out gm0).mono ?_
  rintro e w_40 ⟨rfl, h_40⟩
  have A0_41 := Lib.hid (A0_33.out.ext h_40)
  clear A0_33
  have S0_42 := Lib.hid (S0_34.out.ext h_40)
  clear S0_34
  have X0_43 := Lib.hid (X0_35.out.ext h_40)
  clear X0_35
  have XB0_44 := Lib.hid (XB0_36.out.ext h_40)
  clear XB0_36
  have G0_45 := Lib.hid (G0_39.out.ext h_40)
  clear G0_39
  have E_46 := Lib.hid (E_37.out.trans h_40)
  clear E_37
  have z_47 := Ext.le h_40
  try simp only [World.size_alloc] at z_47
  have Z_47 := Lib.hid z_47
  clear z_47
  clear h_40
  have lXB0 := XB0_44.out.1
  have qXB00 := XB0_44.out.2 0 _ rfl
  have qXB01 := XB0_44.out.2 1 _ rfl
  have qXB02 := XB0_44.out.2 2 _ rfl
  have lA0 := A0_41.out.1
  have qA00 := A0_41.out.2 0 _ rfl
  have qA01 := A0_41.out.2 1 _ rfl
  have qA02 := A0_41.out.2 2 _ rfl
  try simp only [World.size_alloc] at lXB0 lA0
  go_wp2_with fail
  go_region_held3 (fun w' => Ext w_40 w' ∧ (∀ b o, b < w_40.heap.size → w'.cell? ⟨b, o, none⟩ = w_40.cell? ⟨b, o, none⟩)) (first | (with_reducible exact ext2 (Ext.trans (And.left ‹Ext w_40 _ ∧ _›) ‹Ext _ _›)) | (refine ext2 ?_; with_reducible repeat (first | exact Ext.refl _ | refine Ext.drew ?_))) (first
    | (go_at_call 15; refine (toAlgebra_law _ _ _ _ _ xs0 _ (HR0.out.ext (E_46.out.trans (And.left ‹Ext w_40 _ ∧ _›))) hn0).mono ?_; rintro e w_48 ⟨b_48, rfl, o_48, h_48⟩)
    | (go_at_call 18; refine (eqAlgebra_law _ _ _ _ _ _ _ xs0 _ (Own.reads (Own.ext X0_43.out (And.left ‹Ext w_40 _ ∧ _›))) (Own.reads o_48) hn0).mono ?_; rintro e w_49 ⟨rfl, h_49⟩))
  clear lXB0 qXB00 qXB01 qXB02 lA0 qA00 qA01 qA02
  have hx_49 := And.left ‹Ext w_40 w_49 ∧ _›
  try clear h_48 h_49 o_48
  have A0_50 := Lib.hid (A0_41.out.ext hx_49)
  clear A0_41
  have S0_51 := Lib.hid (S0_42.out.ext hx_49)
  clear S0_42
  have X0_52 := Lib.hid (X0_43.out.ext hx_49)
  clear X0_43
  have XB0_53 := Lib.hid (XB0_44.out.ext hx_49)
  clear XB0_44
  have G0_54 := Lib.hid (G0_45.out.ext hx_49)
  clear G0_45
  have E_55 := Lib.hid (E_46.out.trans hx_49)
  clear E_46
  have z_56 := Ext.le hx_49
  try simp only [World.size_alloc] at z_56
  have Z_56 := Lib.hid z_56
  clear z_56
  clear hx_49
  have X0_b57 := Lib.hid X0_52.out.blk
  have lXB0 := XB0_53.out.1
  have qXB00 := XB0_53.out.2 0 _ rfl
  have qXB01 := XB0_53.out.2 1 _ rfl
  have qXB02 := XB0_53.out.2 2 _ rfl
  try simp only [World.size_alloc] at lXB0
  go_wp2_with fail
  refine (markAlgebra_law _ _ _ _ _ _ _ _ _ _ X0_52.out hn0 (by omega) (by omega)).mono ?_
  rintro e w_58 ⟨rfl, o_58, g_58⟩
  clear lXB0 qXB00 qXB01 qXB02
  clear X0_52
  have A0_59 := Lib.hid (A0_50.out.grown g_58 (fun k hk => by have := X0_b57.out k hk; have := Z_9.out; have := Z_13.out; have := Z_18.out; have := Z_24.out; have := Z_38.out; have := Z_47.out; have := Z_56.out; omega))
  clear A0_50
  have S0_60 := Lib.hid (S0_51.out.grown g_58 (fun k hk => by have := X0_b57.out k hk; have := Z_9.out; have := Z_13.out; have := Z_18.out; have := Z_24.out; have := Z_38.out; have := Z_47.out; have := Z_56.out; omega))
  clear S0_51
  have XB0_61 := Lib.hid (XB0_53.out.grown g_58 (fun k hk => by have := X0_b57.out k hk; have := Z_9.out; have := Z_13.out; have := Z_18.out; have := Z_24.out; have := Z_38.out; have := Z_47.out; have := Z_56.out; omega))
  clear XB0_53
  have G0_62 := Lib.hid (G0_54.out.grown g_58 (fun k hk => by have := X0_b57.out k hk; have := Z_9.out; have := Z_13.out; have := Z_18.out; have := Z_24.out; have := Z_38.out; have := Z_47.out; have := Z_56.out; omega))
  clear G0_54
  have E_63 := Lib.hid (E_55.out.grown g_58 (fun k hk => by have := X0_b57.out k hk; have := Z_9.out; have := Z_13.out; have := Z_18.out; have := Z_24.out; have := Z_38.out; have := Z_47.out; have := Z_56.out; omega))
  clear E_55
  have Z_64 := Lib.hid g_58.size
  clear g_58 X0_b57
  have X0_65 := Lib.hid (o_58)
  clear o_58
  clear X0_65
  clear XB0_61
  have hk : 0 ≤ 1 + (n0 : Int) := by omega
  go_wp2_with fail
  refine (eqMatrixS_x _ _ _ _ _ _ _ _ _ d0 _ G0_62.out S0_60.out gm0).mono ?_
  rintro e w_66 ⟨rfl, h_66⟩
  have A0_67 := Lib.hid (A0_59.out.ext h_66)
  clear A0_59
  have S0_68 := Lib.hid (S0_60.out.ext h_66)
  clear S0_60
  have G0_69 := Lib.hid (G0_62.out.ext h_66)
  clear G0_62
  have E_70 := Lib.hid (E_63.out.trans h_66)
  clear E_63
  have z_71 := Ext.le h_66
  try simp only [World.size_alloc] at z_71
  have Z_71 := Lib.hid z_71
  clear z_71
  clear h_66
  clear hk
  go_wp2_with fail
  refine (markMatrixS_law _ _ _ _ _ _ _ _ G0_69.out gm0 (by omega) (by omega)).mono ?_
  rintro e w_72 ⟨rfl, o_72, g_72⟩
  clear G0_69
  have A0_73 := Lib.hid (A0_67.out.touch g_72 (by have := Z_9.out; have := Z_13.out; have := Z_18.out; have := Z_24.out; have := Z_38.out; have := Z_47.out; have := Z_56.out; have := Z_64.out; have := Z_71.out; omega))
  clear A0_67
  have S0_74 := Lib.hid (S0_68.out.touch g_72 (by have := Z_9.out; have := Z_13.out; have := Z_18.out; have := Z_24.out; have := Z_38.out; have := Z_47.out; have := Z_56.out; have := Z_64.out; have := Z_71.out; omega))
  clear S0_68
  have E_75 := Lib.hid (E_70.out.touch g_72 (by have := Z_9.out; have := Z_13.out; have := Z_18.out; have := Z_24.out; have := Z_38.out; have := Z_47.out; have := Z_56.out; have := Z_64.out; have := Z_71.out; omega))
  clear E_70
  have Z_76 := Lib.hid g_72.size
  clear g_72
  have G0_77 := Lib.hid (o_72)
  clear o_72
  go_wp2_with fail
  refine (heldMatrixS_x _ _ _ _ _ d0 _ _ G0_77.out gm0 (by omega) (by omega)).mono ?_
  rintro e w_78 ⟨rfl, h_78⟩
  have hq78 : 0 ≤ 1 + (totM d0 : Int) := by omega
  have A0_79 := Lib.hid (A0_73.out.ext h_78)
  clear A0_73
  have S0_80 := Lib.hid (S0_74.out.ext h_78)
  clear S0_74
  have G0_81 := Lib.hid (G0_77.out.ext h_78)
  clear G0_77
  have E_82 := Lib.hid (E_75.out.trans h_78)
  clear E_75
  have z_83 := Ext.le h_78
  try simp only [World.size_alloc] at z_83
  have Z_83 := Lib.hid z_83
  clear z_83
  clear h_78
  have lA0 := A0_79.out.1
  have qA00 := A0_79.out.2 0 _ rfl
  have qA01 := A0_79.out.2 1 _ rfl
  have qA02 := A0_79.out.2 2 _ rfl
  try simp only [World.size_alloc] at lA0
  go_wp2_with fail
  refine (toAlgebra_law _ _ _ _ _ xs0 _ (HR0.out.ext E_82.out) hn0).mono ?_
  rintro e w_84 ⟨b_84, rfl, o_84, h_84⟩
  clear lA0 qA00 qA01 qA02
  have A0_85 := Lib.hid (A0_79.out.ext h_84)
  clear A0_79
  have S0_86 := Lib.hid (S0_80.out.ext h_84)
  clear S0_80
  have G0_87 := Lib.hid (G0_81.out.ext h_84)
  clear G0_81
  have E_88 := Lib.hid (E_82.out.trans h_84)
  clear E_82
  have z_89 := Ext.le h_84
  try simp only [World.size_alloc] at z_89
  have Z_89 := Lib.hid z_89
  clear z_89
  have T0_90 := Lib.hid (o_84)
  clear o_84 h_84
  go_wp2_with fail
  refine (adjointModule_impl T0_90.out.reads hn0 hM.out).mono ?_
  rintro e w_91 ⟨v0, rfl, ⟨ta0, tn0, tc0, rfl, tO0, tm0⟩, h_91⟩
  clear T0_90
  have A0_92 := Lib.hid (A0_85.out.ext h_91)
  clear A0_85
  have S0_93 := Lib.hid (S0_86.out.ext h_91)
  clear S0_86
  have G0_94 := Lib.hid (G0_87.out.ext h_91)
  clear G0_87
  have E_95 := Lib.hid (E_88.out.trans h_91)
  clear E_88
  have z_96 := Ext.le h_91
  try simp only [World.size_alloc] at z_96
  have Z_96 := Lib.hid z_96
  clear z_96
  clear h_91
  try simp only [World.size_alloc] at tO0
  have H0_97 := Lib.hid (tO0)
  clear tO0
  obtain rfl : sn0 = tn0 := S0_93.out.len.symm.trans H0_97.out.len
  go_wp2_with fail
  refine (eqMatrixS_x _ _ _ _ _ _ _ _ _ d0 _ H0_97.out S0_93.out gm0).mono ?_
  rintro e w_98 ⟨rfl, h_98⟩
  have A0_99 := Lib.hid (A0_92.out.ext h_98)
  clear A0_92
  have S0_100 := Lib.hid (S0_93.out.ext h_98)
  clear S0_93
  have G0_101 := Lib.hid (G0_94.out.ext h_98)
  clear G0_94
  have H0_102 := Lib.hid (H0_97.out.ext h_98)
  clear H0_97
  have E_103 := Lib.hid (E_95.out.trans h_98)
  clear E_95
  have z_104 := Ext.le h_98
  try simp only [World.size_alloc] at z_104
  have Z_104 := Lib.hid z_104
  clear z_104
  clear h_98
  go_wp2_with fail
  refine (heldMatrixS_x _ _ _ _ _ d0 _ _ G0_101.out gm0 (by omega) (by omega)).mono ?_
  rintro e w_105 ⟨rfl, h_105⟩
  have hq105 : 0 ≤ 1 + (totM d0 : Int) := by omega
  have A0_106 := Lib.hid (A0_99.out.ext h_105)
  clear A0_99
  have S0_107 := Lib.hid (S0_100.out.ext h_105)
  clear S0_100
  have G0_108 := Lib.hid (G0_101.out.ext h_105)
  clear G0_101
  have H0_109 := Lib.hid (H0_102.out.ext h_105)
  clear H0_102
  have E_110 := Lib.hid (E_103.out.trans h_105)
  clear E_103
  have z_111 := Ext.le h_105
  try simp only [World.size_alloc] at z_111
  have Z_111 := Lib.hid z_111
  clear z_111
  clear h_105
  go_wp2
  go_ret
  exact ⟨rfl, E_110.out⟩

set_option maxRecDepth 100000 in
theorem lifted (os : Os) (started : os.Started) (H : Type) (enc : TypeId × Value → H) :
    ReturnsInHanded {} Try.checked os 5 .any (Rows.fnExactAdjointModuleSpec.pre6 enc Try.prog Try.f5 Rows.fnExactAdjointModuleRow.domain false) (Rows.fnExactAdjointModuleSpec.post enc Try.prog Try.f5 false true false false) := by
  refine returnsInHanded_of_change (C := Try.checked) own started (by kernel_rfl) Try.func5
    (ChangeSpec.witness6 (enc := enc) (C := Try.checked) false ⟨#[], #[.agg #[.int .i64 0, .int .i64 0, .slice none 0 0]], []⟩ 8 (by kernel_rfl) (by kernel_rfl) (by kernel_rfl) (by kernel_rfl)) ?_
  intro W base args ds gs before hval0 hW hcnd _
  have hval : ∀ (j : Nat) t v, Try.f5.params[j]? = some t → args[j]? = some v → Value.okWide Try.prog W .any base t v := hval0
  have hW' := hW
  obtain ⟨p, q, hA0, hV, rfl, hfz, hnd⟩ := hW
  have hA : DataW.TrodAll enc Try.prog W 0 (fun _ => true) true Try.f5.params.toList args.toList ds p := hA0
  rw [Try.params5] at hA hval
  obtain ⟨v0, vs0, d0, ds0, p0, q0, hargs, rfl, rfl, h0, r0⟩ := trodAll_cons hA
  obtain ⟨rfl, rfl, rfl⟩ := trodAll_nil r0
  obtain rfl : args = #[v0] := by cases args; simp_all
  obtain ⟨rfl, rfl⟩ := trodVars_none hV
  have k0 := h0
  have lt0 : ∀ x ∈ p0, x.block < W.heap.size := by obtain ⟨m, hm⟩ := k0; exact DataW.trod_lt m _ _ _ hm
  obtain ⟨P0, D0, a0, n0, c0, xs0, rfl, w0⟩ := open_alg (hval 0 _ v0 rfl rfl) h0
  clear hA0 hval0
  refine (walk P0 D0 a0 n0 c0 xs0 W w0).mono fun e W' ⟨he, bel⟩ => ?_
  subst he
  exact ⟨_, rfl, _, _, _, [], _, [], hW', trodAll_mk1 (shut_bool Try.underlying4 _), (trodAll_cons_mk (Below.trod laidOut (by kernel_rfl) (of_decide_eq_true (by kernel_rfl)) k0 bel lt0) trodAll_mk0), rfl, Below.frame bel _, fun h => by cases h⟩

set_option maxRecDepth 1000000 in
set_option maxHeartbeats 40000000 in
theorem closed : joinedFacts Try.pinned.checked.prog 5 Try.f5 Rows.fnExactAdjointModuleSpec Rows.fnExactAdjointModuleRow = true := by
  unfold joinedFacts
  repeat' (with_reducible refine and2 ?_ ?_)
  all_goals (first | (with_reducible exact seat_laid) | (with_reducible exact seat_maps) | (with_reducible exact seat_heard) | (with_reducible exact seat_enter) | (with_reducible refine seat_lifts ?_; kernel_rfl) | (with_reducible refine seat_make ?_; kernel_rfl) | (with_reducible refine seat_plain ?_; kernel_rfl) | (as_aux_lemma => kernel_rfl))

theorem over : Rows.fnExactAdjointModuleRow.holds Try.pinned (OpenSpec.ofChange Rows.fnExactAdjointModuleSpec) :=
  OpenClaim.holds_of_wide 5 Try.f5 rfl rfl rfl rfl rfl rfl rfl ⟨rfl, rfl, rfl, rfl, rfl⟩ rfl rfl rfl rfl rfl (by kernel_rfl) Try.func5 closed
    (of_decide_eq_true (by kernel_rfl)) (by unfold Func.isWrapper; first | (rw [if_pos (by decide +kernel)]; kernel_rfl) | (rw [if_neg (by decide +kernel)]; exact ⟨rfl, rfl⟩))
    (fun os started H enc _ => lifted os started H enc)

/-- The statement. -/
theorem proved : Rows.FnExactAdjointModuleSaid := over
#print axioms proved
end Go.Proofs.Ytnikfalpjieibaa.fnExactAdjointModule
