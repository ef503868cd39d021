/-
  Proved: the statement given for the law FnExactKillingForm: at every input the Go text returns true, with no panic, and the arguments read as they read before. No condition is added.
-/
import Derived.Test.YtgmipolgnpjmnaaFr
import Derived.Test.YtgmipolgnpjmnaaKilI
import Derived.Test.YtgmipolgnpjmnaaKilS
namespace Go.Proofs.Ytgmipolgnpjmnaa.fnExactKillingForm
open Go.ChangeShapes Go.WideShapes Go.ChangeAt Go.RowKit
open Go.ChangeMaps (open_string shut_string)
set_option linter.unusedVariables false

set_option maxRecDepth 100000 in
set_option maxHeartbeats 3200000 in
/-- The walk: the Go text returns true, and nothing that was there has changed. -/
theorem walk (P0 D0 : Int) (a0 : Option Addr) (n0 c0 : Nat) (xs0 : List Int) (w : World) (w0 : Reads w a0 n0 xs0 ∧ n0 ≤ maxLen) :
    Calls Try.prog 14 #[.agg #[.int .i64 P0, .int .i64 D0, .slice a0 n0 c0]] w fun e w' => e = .returned (.bool true) ∧ Ext w w' := by
  obtain ⟨hr0, hm0⟩ := w0
  have HR0 := Lib.hid hr0
  clear hr0
  rcases hM0 : kilM P0 D0 xs0 with ⟨pP0, pR0, pC0, d0⟩
  have hM := Lib.hid hM0
  clear hM0
  by_cases hz0 : (n0 : Int) ≤ 1048576
  case neg =>
    go_enter Try.func14, Try.ntmps14
    have T0 := cells_new' w #[.int .i64 P0, .int .i64 D0, .slice a0 n0 c0] 24 (w.heap.size) (by simp)
    have A0_1 := Lib.hid (T0.ext (Ext.refl _))
    clear T0
    have E_2 := Lib.hid ((Ext.refl w).alloc (.cells #[.int .i64 P0, .int .i64 D0, .slice a0 n0 c0] 24))
    have lA0 := A0_1.out.1
    have qA00 := A0_1.out.2 0 _ rfl
    have qA01 := A0_1.out.2 1 _ rfl
    have qA02 := A0_1.out.2 2 _ rfl
    try simp only [World.size_alloc] at lA0
    go_wp2_with fail
    refine (szAlgebra_no _ _ _ _ _ _ _ (by omega) (by omega) hm0 (by omega)).mono ?_
    rintro e w_3 ⟨rfl, h_3⟩
    clear lA0 qA00 qA01 qA02
    go_wp2
    go_ret
    exact ⟨rfl, E_2.out.trans h_3⟩
  have hn0 : n0 ≤ 1048576 := by omega
  go_enter Try.func14, Try.ntmps14
  have T0 := cells_new' w #[.int .i64 P0, .int .i64 D0, .slice a0 n0 c0] 24 (w.heap.size) (by simp)
  have A0_4 := Lib.hid (T0.ext (Ext.refl _))
  clear T0
  have E_5 := Lib.hid ((Ext.refl w).alloc (.cells #[.int .i64 P0, .int .i64 D0, .slice a0 n0 c0] 24))
  have lA0 := A0_4.out.1
  have qA00 := A0_4.out.2 0 _ rfl
  have qA01 := A0_4.out.2 1 _ rfl
  have qA02 := A0_4.out.2 2 _ rfl
  try simp only [World.size_alloc] at lA0
  go_wp2_with fail
  refine (szAlgebra_yes _ _ _ _ _ _ _ (by omega) (by omega)).mono ?_
  rintro e w_6 ⟨rfl, h_6⟩
  clear lA0 qA00 qA01 qA02
  have A0_7 := Lib.hid (A0_4.out.ext h_6)
  clear A0_4
  have E_8 := Lib.hid (E_5.out.trans h_6)
  clear E_5
  have z_9 := Ext.le h_6
  try simp only [World.size_alloc] at z_9
  have Z_9 := Lib.hid z_9
  clear z_9
  clear h_6
  have hp : 0 ≤ 1048576 - (n0 : Int) := by omega
  have lA0 := A0_7.out.1
  have qA00 := A0_7.out.2 0 _ rfl
  have qA01 := A0_7.out.2 1 _ rfl
  have qA02 := A0_7.out.2 2 _ rfl
  try simp only [World.size_alloc] at lA0
  go_wp2_with fail
  refine (toAlgebra_law _ _ _ _ _ xs0 _ (HR0.out.ext E_8.out) hn0).mono ?_
  rintro e w_10 ⟨b_10, rfl, o_10, h_10⟩
  clear lA0 qA00 qA01 qA02
  have A0_11 := Lib.hid (A0_7.out.ext h_10)
  clear A0_7
  have E_12 := Lib.hid (E_8.out.trans h_10)
  clear E_8
  have z_13 := Ext.le h_10
  try simp only [World.size_alloc] at z_13
  have Z_13 := Lib.hid z_13
  clear z_13
  have T0_14 := Lib.hid (o_10)
  clear o_10 h_10
  go_wp2_with fail
  refine (killingForm_spec T0_14.out.reads hn0 hM.out).mono ?_
  rintro e w_15 ⟨v0, rfl, ⟨sa0, sn0, sc0, rfl, sO0, sm0⟩, h_15⟩
  clear T0_14
  have A0_16 := Lib.hid (A0_11.out.ext h_15)
  clear A0_11
  have E_17 := Lib.hid (E_12.out.trans h_15)
  clear E_12
  have z_18 := Ext.le h_15
  try simp only [World.size_alloc] at z_18
  have Z_18 := Lib.hid z_18
  clear z_18
  clear h_15
  try simp only [World.size_alloc] at sO0
  have S0_19 := Lib.hid (sO0)
  clear sO0
  have P_20 := (Ext.refl w_15).alloc (.cells #[.int .i64 pP0, .int .i64 pR0, .int .i64 pC0, .slice sa0 sn0 sc0] 36)
  have A0_21 := Lib.hid (A0_16.out.ext P_20)
  clear A0_16
  have S0_22 := Lib.hid (S0_19.out.ext P_20)
  clear S0_19
  have E_23 := Lib.hid (E_17.out.trans P_20)
  clear E_17
  clear P_20
  have SB0_24 := Lib.hid (cells_new w_15 #[.int .i64 pP0, .int .i64 pR0, .int .i64 pC0, .slice sa0 sn0 sc0] 36)
  have lA0 := A0_21.out.1
  have qA00 := A0_21.out.2 0 _ rfl
  have qA01 := A0_21.out.2 1 _ rfl
  have qA02 := A0_21.out.2 2 _ rfl
  try simp only [World.size_alloc] at lA0
  go_wp2_with fail
  refine (toAlgebra_law _ _ _ _ _ xs0 _ (HR0.out.ext E_23.out) hn0).mono ?_
  rintro e w_25 ⟨b_25, rfl, o_25, h_25⟩
  clear lA0 qA00 qA01 qA02
  have A0_26 := Lib.hid (A0_21.out.ext h_25)
  clear A0_21
  have S0_27 := Lib.hid (S0_22.out.ext h_25)
  clear S0_22
  have SB0_28 := Lib.hid (SB0_24.out.ext h_25)
  clear SB0_24
  have E_29 := Lib.hid (E_23.out.trans h_25)
  clear E_23
  have z_30 := Ext.le h_25
  try simp only [World.size_alloc] at z_30
  have Z_30 := Lib.hid z_30
  clear z_30
  try simp only [World.size_alloc] at o_25
  have X0_31 := Lib.hid (o_25)
  clear o_25 h_25
  have P_32 := (Ext.refl w_25).alloc (.cells #[.int .i64 P0, .int .i64 D0, .slice (some ⟨b_25, 0, none⟩) n0 n0] 26)
  have A0_33 := Lib.hid (A0_26.out.ext P_32)
  clear A0_26
  have S0_34 := Lib.hid (S0_27.out.ext P_32)
  clear S0_27
  have SB0_35 := Lib.hid (SB0_28.out.ext P_32)
  clear SB0_28
  have X0_36 := Lib.hid (X0_31.out.ext P_32)
  clear X0_31
  have E_37 := Lib.hid (E_29.out.trans P_32)
  clear E_29
  clear P_32
  have XB0_38 := Lib.hid (cells_new w_25 #[.int .i64 P0, .int .i64 D0, .slice (some ⟨b_25, 0, none⟩) n0 n0] 26)
  have lXB0 := XB0_38.out.1
  have qXB00 := XB0_38.out.2 0 _ rfl
  have qXB01 := XB0_38.out.2 1 _ rfl
  have qXB02 := XB0_38.out.2 2 _ rfl
  try simp only [World.size_alloc] at lXB0
  go_wp2_with fail
  refine (killingForm_impl X0_36.out.reads hn0 hM.out).mono ?_
  rintro e w_39 ⟨v0, rfl, ⟨ga0, gn0, gc0, rfl, gO0, gm0⟩, h_39⟩
  clear lXB0 qXB00 qXB01 qXB02
  have A0_40 := Lib.hid (A0_33.out.ext h_39)
  clear A0_33
  have S0_41 := Lib.hid (S0_34.out.ext h_39)
  clear S0_34
  have SB0_42 := Lib.hid (SB0_35.out.ext h_39)
  clear SB0_35
  have X0_43 := Lib.hid (X0_36.out.ext h_39)
  clear X0_36
  have XB0_44 := Lib.hid (XB0_38.out.ext h_39)
  clear XB0_38
  have E_45 := Lib.hid (E_37.out.trans h_39)
  clear E_37
  have z_46 := Ext.le h_39
  try simp only [World.size_alloc] at z_46
  have Z_46 := Lib.hid z_46
  clear z_46
  clear h_39
  try simp only [World.size_alloc] at gO0
  have G0_47 := Lib.hid (gO0)
  clear gO0
  have P_48 := (Ext.refl w_39).alloc (.cells #[.int .i64 pP0, .int .i64 pR0, .int .i64 pC0, .slice ga0 gn0 gc0] 36)
  have A0_49 := Lib.hid (A0_40.out.ext P_48)
  clear A0_40
  have S0_50 := Lib.hid (S0_41.out.ext P_48)
  clear S0_41
  have SB0_51 := Lib.hid (SB0_42.out.ext P_48)
  clear SB0_42
  have X0_52 := Lib.hid (X0_43.out.ext P_48)
  clear X0_43
  have XB0_53 := Lib.hid (XB0_44.out.ext P_48)
  clear XB0_44
  have G0_54 := Lib.hid (G0_47.out.ext P_48)
  clear G0_47
  have E_55 := Lib.hid (E_45.out.trans P_48)
  clear E_45
  clear P_48
  have GB0_56 := Lib.hid (cells_new w_39 #[.int .i64 pP0, .int .i64 pR0, .int .i64 pC0, .slice ga0 gn0 gc0] 36)
  obtain rfl : sn0 = gn0 := S0_50.out.len.symm.trans G0_54.out.len
  have lGB0 := GB0_56.out.1
  have qGB00 := GB0_56.out.2 0 _ rfl
  have qGB01 := GB0_56.out.2 1 _ rfl
  have qGB02 := GB0_56.out.2 2 _ rfl
  have qGB03 := GB0_56.out.2 3 _ rfl
  have lSB0 := SB0_51.out.1
  have qSB00 := SB0_51.out.2 0 _ rfl
  have qSB01 := SB0_51.out.2 1 _ rfl
  have qSB02 := SB0_51.out.2 2 _ rfl
  have qSB03 := SB0_51.out.2 3 _ rfl
  try simp only [World.size_alloc] at lGB0 lSB0
  go_wp2_with fail
  refine (eqMatrix_law _ _ _ _ _ _ _ _ d0 _ G0_54.out.reads S0_50.out.reads gm0).mono ?_
  rintro e w_57 ⟨rfl, h_57⟩
  clear lGB0 qGB00 qGB01 qGB02 qGB03 lSB0 qSB00 qSB01 qSB02 qSB03
  have A0_58 := Lib.hid (A0_49.out.ext h_57)
  clear A0_49
  have S0_59 := Lib.hid (S0_50.out.ext h_57)
  clear S0_50
  have SB0_60 := Lib.hid (SB0_51.out.ext h_57)
  clear SB0_51
  have X0_61 := Lib.hid (X0_52.out.ext h_57)
  clear X0_52
  have XB0_62 := Lib.hid (XB0_53.out.ext h_57)
  clear XB0_53
  have G0_63 := Lib.hid (G0_54.out.ext h_57)
  clear G0_54
  have GB0_64 := Lib.hid (GB0_56.out.ext h_57)
  clear GB0_56
  have E_65 := Lib.hid (E_55.out.trans h_57)
  clear E_55
  have z_66 := Ext.le h_57
  try simp only [World.size_alloc] at z_66
  have Z_66 := Lib.hid z_66
  clear z_66
  clear h_57
  have lXB0 := XB0_62.out.1
  have qXB00 := XB0_62.out.2 0 _ rfl
  have qXB01 := XB0_62.out.2 1 _ rfl
  have qXB02 := XB0_62.out.2 2 _ rfl
  have lA0 := A0_58.out.1
  have qA00 := A0_58.out.2 0 _ rfl
  have qA01 := A0_58.out.2 1 _ rfl
  have qA02 := A0_58.out.2 2 _ rfl
  try simp only [World.size_alloc] at lXB0 lA0
  go_wp2_with fail
  go_region_held3 (fun w' => Ext w_57 w' ∧ (∀ b o, b < w_57.heap.size → w'.cell? ⟨b, o, none⟩ = w_57.cell? ⟨b, o, none⟩)) (first | (with_reducible exact ext2 (Ext.trans (And.left ‹Ext w_57 _ ∧ _›) ‹Ext _ _›)) | (refine ext2 ?_; with_reducible repeat (first | exact Ext.refl _ | refine Ext.drew ?_))) (first
    | (go_at_call 17; refine (toAlgebra_law _ _ _ _ _ xs0 _ (HR0.out.ext (E_65.out.trans (And.left ‹Ext w_57 _ ∧ _›))) hn0).mono ?_; rintro e w_67 ⟨b_67, rfl, o_67, h_67⟩)
    | (go_at_call 19; refine (eqAlgebra_law _ _ _ _ _ _ _ xs0 _ (Own.reads (Own.ext X0_61.out (And.left ‹Ext w_57 _ ∧ _›))) (Own.reads o_67) hn0).mono ?_; rintro e w_68 ⟨rfl, h_68⟩))
  clear lXB0 qXB00 qXB01 qXB02 lA0 qA00 qA01 qA02
  have hx_68 := And.left ‹Ext w_57 w_68 ∧ _›
  try clear h_67 h_68 o_67
  have A0_69 := Lib.hid (A0_58.out.ext hx_68)
  clear A0_58
  have S0_70 := Lib.hid (S0_59.out.ext hx_68)
  clear S0_59
  have SB0_71 := Lib.hid (SB0_60.out.ext hx_68)
  clear SB0_60
  have X0_72 := Lib.hid (X0_61.out.ext hx_68)
  clear X0_61
  have XB0_73 := Lib.hid (XB0_62.out.ext hx_68)
  clear XB0_62
  have G0_74 := Lib.hid (G0_63.out.ext hx_68)
  clear G0_63
  have GB0_75 := Lib.hid (GB0_64.out.ext hx_68)
  clear GB0_64
  have E_76 := Lib.hid (E_65.out.trans hx_68)
  clear E_65
  have z_77 := Ext.le hx_68
  try simp only [World.size_alloc] at z_77
  have Z_77 := Lib.hid z_77
  clear z_77
  clear hx_68
  have X0_b78 := Lib.hid X0_72.out.blk
  have lXB0 := XB0_73.out.1
  have qXB00 := XB0_73.out.2 0 _ rfl
  have qXB01 := XB0_73.out.2 1 _ rfl
  have qXB02 := XB0_73.out.2 2 _ rfl
  try simp only [World.size_alloc] at lXB0
  go_wp2_with fail
  refine (markAlgebra_law _ _ _ _ _ _ _ _ _ _ X0_72.out hn0 (by omega) (by omega)).mono ?_
  rintro e w_79 ⟨rfl, o_79, g_79⟩
  clear lXB0 qXB00 qXB01 qXB02
  clear X0_72
  have A0_80 := Lib.hid (A0_69.out.grown g_79 (fun k hk => by have := X0_b78.out k hk; have := Z_9.out; have := Z_13.out; have := Z_18.out; have := Z_30.out; have := Z_46.out; have := Z_66.out; have := Z_77.out; omega))
  clear A0_69
  have S0_81 := Lib.hid (S0_70.out.grown g_79 (fun k hk => by have := X0_b78.out k hk; have := Z_9.out; have := Z_13.out; have := Z_18.out; have := Z_30.out; have := Z_46.out; have := Z_66.out; have := Z_77.out; omega))
  clear S0_70
  have SB0_82 := Lib.hid (SB0_71.out.grown g_79 (fun k hk => by have := X0_b78.out k hk; have := Z_9.out; have := Z_13.out; have := Z_18.out; have := Z_30.out; have := Z_46.out; have := Z_66.out; have := Z_77.out; omega))
  clear SB0_71
  have XB0_83 := Lib.hid (XB0_73.out.grown g_79 (fun k hk => by have := X0_b78.out k hk; have := Z_9.out; have := Z_13.out; have := Z_18.out; have := Z_30.out; have := Z_46.out; have := Z_66.out; have := Z_77.out; omega))
  clear XB0_73
  have G0_84 := Lib.hid (G0_74.out.grown g_79 (fun k hk => by have := X0_b78.out k hk; have := Z_9.out; have := Z_13.out; have := Z_18.out; have := Z_30.out; have := Z_46.out; have := Z_66.out; have := Z_77.out; omega))
  clear G0_74
  have GB0_85 := Lib.hid (GB0_75.out.grown g_79 (fun k hk => by have := X0_b78.out k hk; have := Z_9.out; have := Z_13.out; have := Z_18.out; have := Z_30.out; have := Z_46.out; have := Z_66.out; have := Z_77.out; omega))
  clear GB0_75
  have E_86 := Lib.hid (E_76.out.grown g_79 (fun k hk => by have := X0_b78.out k hk; have := Z_9.out; have := Z_13.out; have := Z_18.out; have := Z_30.out; have := Z_46.out; have := Z_66.out; have := Z_77.out; omega))
  clear E_76
  have Z_87 := Lib.hid g_79.size
  clear g_79 X0_b78
  have X0_88 := Lib.hid (o_79)
  clear o_79
  clear X0_88
  clear XB0_83
  have hk : 0 ≤ 1 + (n0 : Int) := by omega
  have lGB0 := GB0_85.out.1
  have qGB00 := GB0_85.out.2 0 _ rfl
  have qGB01 := GB0_85.out.2 1 _ rfl
  have qGB02 := GB0_85.out.2 2 _ rfl
  have qGB03 := GB0_85.out.2 3 _ rfl
  have lSB0 := SB0_82.out.1
  have qSB00 := SB0_82.out.2 0 _ rfl
  have qSB01 := SB0_82.out.2 1 _ rfl
  have qSB02 := SB0_82.out.2 2 _ rfl
  have qSB03 := SB0_82.out.2 3 _ rfl
  try simp only [World.size_alloc] at lGB0 lSB0
  go_wp2_with fail
  refine (eqMatrix_law _ _ _ _ _ _ _ _ d0 _ G0_84.out.reads S0_81.out.reads gm0).mono ?_
  rintro e w_89 ⟨rfl, h_89⟩
  clear lGB0 qGB00 qGB01 qGB02 qGB03 lSB0 qSB00 qSB01 qSB02 qSB03
  have A0_90 := Lib.hid (A0_80.out.ext h_89)
  clear A0_80
  have S0_91 := Lib.hid (S0_81.out.ext h_89)
  clear S0_81
  have SB0_92 := Lib.hid (SB0_82.out.ext h_89)
  clear SB0_82
  have G0_93 := Lib.hid (G0_84.out.ext h_89)
  clear G0_84
  have GB0_94 := Lib.hid (GB0_85.out.ext h_89)
  clear GB0_85
  have E_95 := Lib.hid (E_86.out.trans h_89)
  clear E_86
  have z_96 := Ext.le h_89
  try simp only [World.size_alloc] at z_96
  have Z_96 := Lib.hid z_96
  clear z_96
  clear h_89
  clear hk
  have G0_b97 := Lib.hid G0_93.out.blk
  have lGB0 := GB0_94.out.1
  have qGB00 := GB0_94.out.2 0 _ rfl
  have qGB01 := GB0_94.out.2 1 _ rfl
  have qGB02 := GB0_94.out.2 2 _ rfl
  have qGB03 := GB0_94.out.2 3 _ rfl
  try simp only [World.size_alloc] at lGB0
  go_wp2_with fail
  refine (markMatrix_law _ _ _ _ _ _ _ _ _ _ _ G0_93.out gm0 (by omega) (by omega)).mono ?_
  rintro e w_98 ⟨rfl, o_98, g_98⟩
  clear lGB0 qGB00 qGB01 qGB02 qGB03
  clear G0_93
  have A0_99 := Lib.hid (A0_90.out.grown g_98 (fun k hk => by have := G0_b97.out k hk; have := Z_9.out; have := Z_13.out; have := Z_18.out; have := Z_30.out; have := Z_46.out; have := Z_66.out; have := Z_77.out; have := Z_87.out; have := Z_96.out; omega))
  clear A0_90
  have S0_100 := Lib.hid (S0_91.out.grown g_98 (fun k hk => by have := G0_b97.out k hk; have := Z_9.out; have := Z_13.out; have := Z_18.out; have := Z_30.out; have := Z_46.out; have := Z_66.out; have := Z_77.out; have := Z_87.out; have := Z_96.out; omega))
  clear S0_91
  have SB0_101 := Lib.hid (SB0_92.out.grown g_98 (fun k hk => by have := G0_b97.out k hk; have := Z_9.out; have := Z_13.out; have := Z_18.out; have := Z_30.out; have := Z_46.out; have := Z_66.out; have := Z_77.out; have := Z_87.out; have := Z_96.out; omega))
  clear SB0_92
  have GB0_102 := Lib.hid (GB0_94.out.grown g_98 (fun k hk => by have := G0_b97.out k hk; have := Z_9.out; have := Z_13.out; have := Z_18.out; have := Z_30.out; have := Z_46.out; have := Z_66.out; have := Z_77.out; have := Z_87.out; have := Z_96.out; omega))
  clear GB0_94
  have E_103 := Lib.hid (E_95.out.grown g_98 (fun k hk => by have := G0_b97.out k hk; have := Z_9.out; have := Z_13.out; have := Z_18.out; have := Z_30.out; have := Z_46.out; have := Z_66.out; have := Z_77.out; have := Z_87.out; have := Z_96.out; omega))
  clear E_95
  have Z_104 := Lib.hid g_98.size
  clear g_98 G0_b97
  have G0_105 := Lib.hid (o_98)
  clear o_98
  have lGB0 := GB0_102.out.1
  have qGB00 := GB0_102.out.2 0 _ rfl
  have qGB01 := GB0_102.out.2 1 _ rfl
  have qGB02 := GB0_102.out.2 2 _ rfl
  have qGB03 := GB0_102.out.2 3 _ rfl
  try simp only [World.size_alloc] at lGB0
  go_wp2_with fail
  refine (heldMatrix_law _ _ _ _ _ _ _ _ G0_105.out.reads gm0 (by omega) (by omega)).mono ?_
  rintro e w_106 ⟨rfl, h_106⟩
  clear lGB0 qGB00 qGB01 qGB02 qGB03
  have hq106 : 0 ≤ 1 + (sn0 : Int) := by omega
  have A0_107 := Lib.hid (A0_99.out.ext h_106)
  clear A0_99
  have S0_108 := Lib.hid (S0_100.out.ext h_106)
  clear S0_100
  have SB0_109 := Lib.hid (SB0_101.out.ext h_106)
  clear SB0_101
  have GB0_110 := Lib.hid (GB0_102.out.ext h_106)
  clear GB0_102
  have G0_111 := Lib.hid (G0_105.out.ext h_106)
  clear G0_105
  have E_112 := Lib.hid (E_103.out.trans h_106)
  clear E_103
  have z_113 := Ext.le h_106
  try simp only [World.size_alloc] at z_113
  have Z_113 := Lib.hid z_113
  clear z_113
  clear h_106
  have lA0 := A0_107.out.1
  have qA00 := A0_107.out.2 0 _ rfl
  have qA01 := A0_107.out.2 1 _ rfl
  have qA02 := A0_107.out.2 2 _ rfl
  try simp only [World.size_alloc] at lA0
  go_wp2_with fail
  refine (toAlgebra_law _ _ _ _ _ xs0 _ (HR0.out.ext E_112.out) hn0).mono ?_
  rintro e w_114 ⟨b_114, rfl, o_114, h_114⟩
  clear lA0 qA00 qA01 qA02
  have A0_115 := Lib.hid (A0_107.out.ext h_114)
  clear A0_107
  have S0_116 := Lib.hid (S0_108.out.ext h_114)
  clear S0_108
  have SB0_117 := Lib.hid (SB0_109.out.ext h_114)
  clear SB0_109
  have GB0_118 := Lib.hid (GB0_110.out.ext h_114)
  clear GB0_110
  have G0_119 := Lib.hid (G0_111.out.ext h_114)
  clear G0_111
  have E_120 := Lib.hid (E_112.out.trans h_114)
  clear E_112
  have z_121 := Ext.le h_114
  try simp only [World.size_alloc] at z_121
  have Z_121 := Lib.hid z_121
  clear z_121
  have T0_122 := Lib.hid (o_114)
  clear o_114 h_114
  go_wp2_with fail
  refine (killingForm_impl T0_122.out.reads hn0 hM.out).mono ?_
  rintro e w_123 ⟨v0, rfl, ⟨ta0, tn0, tc0, rfl, tO0, tm0⟩, h_123⟩
  clear T0_122
  have A0_124 := Lib.hid (A0_115.out.ext h_123)
  clear A0_115
  have S0_125 := Lib.hid (S0_116.out.ext h_123)
  clear S0_116
  have SB0_126 := Lib.hid (SB0_117.out.ext h_123)
  clear SB0_117
  have GB0_127 := Lib.hid (GB0_118.out.ext h_123)
  clear GB0_118
  have G0_128 := Lib.hid (G0_119.out.ext h_123)
  clear G0_119
  have E_129 := Lib.hid (E_120.out.trans h_123)
  clear E_120
  have z_130 := Ext.le h_123
  try simp only [World.size_alloc] at z_130
  have Z_130 := Lib.hid z_130
  clear z_130
  clear h_123
  try simp only [World.size_alloc] at tO0
  have H0_131 := Lib.hid (tO0)
  clear tO0
  have P_132 := (Ext.refl w_123).alloc (.cells #[.int .i64 pP0, .int .i64 pR0, .int .i64 pC0, .slice ta0 tn0 tc0] 36)
  have A0_133 := Lib.hid (A0_124.out.ext P_132)
  clear A0_124
  have S0_134 := Lib.hid (S0_125.out.ext P_132)
  clear S0_125
  have SB0_135 := Lib.hid (SB0_126.out.ext P_132)
  clear SB0_126
  have GB0_136 := Lib.hid (GB0_127.out.ext P_132)
  clear GB0_127
  have G0_137 := Lib.hid (G0_128.out.ext P_132)
  clear G0_128
  have H0_138 := Lib.hid (H0_131.out.ext P_132)
  clear H0_131
  have E_139 := Lib.hid (E_129.out.trans P_132)
  clear E_129
  clear P_132
  have HB0_140 := Lib.hid (cells_new w_123 #[.int .i64 pP0, .int .i64 pR0, .int .i64 pC0, .slice ta0 tn0 tc0] 36)
  obtain rfl : sn0 = tn0 := S0_134.out.len.symm.trans H0_138.out.len
  have lHB0 := HB0_140.out.1
  have qHB00 := HB0_140.out.2 0 _ rfl
  have qHB01 := HB0_140.out.2 1 _ rfl
  have qHB02 := HB0_140.out.2 2 _ rfl
  have qHB03 := HB0_140.out.2 3 _ rfl
  have lSB0 := SB0_135.out.1
  have qSB00 := SB0_135.out.2 0 _ rfl
  have qSB01 := SB0_135.out.2 1 _ rfl
  have qSB02 := SB0_135.out.2 2 _ rfl
  have qSB03 := SB0_135.out.2 3 _ rfl
  try simp only [World.size_alloc] at lHB0 lSB0
  go_wp2_with fail
  refine (eqMatrix_law _ _ _ _ _ _ _ _ d0 _ H0_138.out.reads S0_134.out.reads gm0).mono ?_
  rintro e w_141 ⟨rfl, h_141⟩
  clear lHB0 qHB00 qHB01 qHB02 qHB03 lSB0 qSB00 qSB01 qSB02 qSB03
  have A0_142 := Lib.hid (A0_133.out.ext h_141)
  clear A0_133
  have S0_143 := Lib.hid (S0_134.out.ext h_141)
  clear S0_134
  have SB0_144 := Lib.hid (SB0_135.out.ext h_141)
  clear SB0_135
  have GB0_145 := Lib.hid (GB0_136.out.ext h_141)
  clear GB0_136
  have G0_146 := Lib.hid (G0_137.out.ext h_141)
  clear G0_137
  have H0_147 := Lib.hid (H0_138.out.ext h_141)
  clear H0_138
  have HB0_148 := Lib.hid (HB0_140.out.ext h_141)
  clear HB0_140
  have E_149 := Lib.hid (E_139.out.trans h_141)
  clear E_139
  have z_150 := Ext.le h_141
  try simp only [World.size_alloc] at z_150
  have Z_150 := Lib.hid z_150
  clear z_150
  clear h_141
  have lGB0 := GB0_145.out.1
  have qGB00 := GB0_145.out.2 0 _ rfl
  have qGB01 := GB0_145.out.2 1 _ rfl
  have qGB02 := GB0_145.out.2 2 _ rfl
  have qGB03 := GB0_145.out.2 3 _ rfl
  try simp only [World.size_alloc] at lGB0
  go_wp2_with fail
  refine (heldMatrix_law _ _ _ _ _ _ _ _ G0_146.out.reads gm0 (by omega) (by omega)).mono ?_
  rintro e w_151 ⟨rfl, h_151⟩
  clear lGB0 qGB00 qGB01 qGB02 qGB03
  have hq151 : 0 ≤ 1 + (sn0 : Int) := by omega
  have A0_152 := Lib.hid (A0_142.out.ext h_151)
  clear A0_142
  have S0_153 := Lib.hid (S0_143.out.ext h_151)
  clear S0_143
  have SB0_154 := Lib.hid (SB0_144.out.ext h_151)
  clear SB0_144
  have GB0_155 := Lib.hid (GB0_145.out.ext h_151)
  clear GB0_145
  have G0_156 := Lib.hid (G0_146.out.ext h_151)
  clear G0_146
  have H0_157 := Lib.hid (H0_147.out.ext h_151)
  clear H0_147
  have HB0_158 := Lib.hid (HB0_148.out.ext h_151)
  clear HB0_148
  have E_159 := Lib.hid (E_149.out.trans h_151)
  clear E_149
  have z_160 := Ext.le h_151
  try simp only [World.size_alloc] at z_160
  have Z_160 := Lib.hid z_160
  clear z_160
  clear h_151
  go_wp2
  go_ret
  exact ⟨rfl, E_159.out⟩

set_option maxRecDepth 100000 in
theorem lifted (os : Os) (started : os.Started) (H : Type) (enc : TypeId × Value → H) :
    ReturnsInHanded {} Try.checked os 14 .any (Rows.fnExactKillingFormSpec.pre6 enc Try.prog Try.f14 Rows.fnExactKillingFormRow.domain false) (Rows.fnExactKillingFormSpec.post enc Try.prog Try.f14 false true false false) := by
  refine returnsInHanded_of_change (C := Try.checked) own started (by kernel_rfl) Try.func14
    (ChangeSpec.witness6 (enc := enc) (C := Try.checked) false ⟨#[], #[.agg #[.int .i64 0, .int .i64 0, .slice none 0 0]], []⟩ 8 (by kernel_rfl) (by kernel_rfl) (by kernel_rfl) (by kernel_rfl)) ?_
  intro W base args ds gs before hval0 hW hcnd _
  have hval : ∀ (j : Nat) t v, Try.f14.params[j]? = some t → args[j]? = some v → Value.okWide Try.prog W .any base t v := hval0
  have hW' := hW
  obtain ⟨p, q, hA0, hV, rfl, hfz, hnd⟩ := hW
  have hA : DataW.TrodAll enc Try.prog W 0 (fun _ => true) true Try.f14.params.toList args.toList ds p := hA0
  rw [Try.params14] at hA hval
  obtain ⟨v0, vs0, d0, ds0, p0, q0, hargs, rfl, rfl, h0, r0⟩ := trodAll_cons hA
  obtain ⟨rfl, rfl, rfl⟩ := trodAll_nil r0
  obtain rfl : args = #[v0] := by cases args; simp_all
  obtain ⟨rfl, rfl⟩ := trodVars_none hV
  have k0 := h0
  have lt0 : ∀ x ∈ p0, x.block < W.heap.size := by obtain ⟨m, hm⟩ := k0; exact DataW.trod_lt m _ _ _ hm
  obtain ⟨P0, D0, a0, n0, c0, xs0, rfl, w0⟩ := open_alg (hval 0 _ v0 rfl rfl) h0
  clear hA0 hval0
  refine (walk P0 D0 a0 n0 c0 xs0 W w0).mono fun e W' ⟨he, bel⟩ => ?_
  subst he
  exact ⟨_, rfl, _, _, _, [], _, [], hW', trodAll_mk1 (shut_bool Try.underlying4 _), (trodAll_cons_mk (Below.trod laidOut (by kernel_rfl) (of_decide_eq_true (by kernel_rfl)) k0 bel lt0) trodAll_mk0), rfl, Below.frame bel _, fun h => by cases h⟩

theorem over : Rows.fnExactKillingFormRow.holds Try.pinned (OpenSpec.ofChange Rows.fnExactKillingFormSpec) :=
  OpenClaim.holds_of_wide 14 Try.f14 rfl rfl rfl rfl rfl rfl rfl ⟨rfl, rfl, rfl, rfl, rfl⟩ rfl rfl rfl rfl rfl (by kernel_rfl) Try.func14 (by kernel_rfl)
    (of_decide_eq_true (by kernel_rfl)) (by unfold Func.isWrapper; first | (rw [if_pos (by decide +kernel)]; kernel_rfl) | (rw [if_neg (by decide +kernel)]; exact ⟨rfl, rfl⟩))
    (fun os started H enc _ => lifted os started H enc)

/-- The statement. -/
theorem proved : Rows.FnExactKillingFormSaid := over
#print axioms proved
end Go.Proofs.Ytgmipolgnpjmnaa.fnExactKillingForm
