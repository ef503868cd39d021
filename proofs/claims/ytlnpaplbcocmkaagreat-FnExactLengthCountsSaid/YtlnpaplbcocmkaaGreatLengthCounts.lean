/-
  Proved: the statement given for the law FnExactLengthCounts: at every input the Go text returns true, with no panic, and the arguments read as they read before. No condition is added.
-/
import Derived.Test.YtlnpaplbcocmkaaGreatFr
import Derived.Test.YtlnpaplbcocmkaaGreatRowC
import Derived.Test.YtlnpaplbcocmkaaGreatLct
import Derived.Test.YtlnpaplbcocmkaaGreatSCartan
import Derived.Test.YtlnpaplbcocmkaaGreatSeatF
namespace Go.Proofs.YtlnpaplbcocmkaaGreat.fnExactLengthCounts
open Go.ChangeShapes Go.WideShapes Go.ChangeAt Go.RowKit
open Go.ChangeMaps (open_string shut_string)
set_option linter.unusedVariables false

set_option maxRecDepth 100000 in
set_option maxHeartbeats 3200000 in
/-- The walk: the Go text returns true, and nothing that was there has changed. -/
theorem walk (R0 : Int) (a0 : Option Addr) (n0 c0 : Nat) (xs0 : List Int) (w : World) (w0 : Reads w a0 n0 xs0 ∧ n0 ≤ maxLen) :
    Calls Tryz.prog 4 #[.agg #[.int .i64 R0, .slice a0 n0 c0]] w fun e w' => e = .returned (.bool true) ∧ Ext w w' := by
  obtain ⟨hr0, hm0⟩ := w0
  have HR0 := Lib.hid hr0
  clear hr0
  rcases hM0 : lcO R0 xs0 with d0
  have hM := Lib.hid hM0
  clear hM0
  by_cases hz0 : (n0 : Int) ≤ 1048576
  case neg =>
    go_enter Tryz.func4, Tryz.ntmps4
    have T0 := cells_new' w #[.int .i64 R0, .slice a0 n0 c0] 24 (w.heap.size) (by simp)
    have A0_1 := Lib.hid (T0.ext (Ext.refl _))
    clear T0
    have E_2 := Lib.hid ((Ext.refl w).alloc (.cells #[.int .i64 R0, .slice a0 n0 c0] 24))
    have lA0 := A0_1.out.1
    have qA00 := A0_1.out.2 0 _ rfl
    have qA01 := A0_1.out.2 1 _ rfl
    try simp only [World.size_alloc] at lA0
    go_wp2_with fail
    refine (szCartan_no _ _ _ _ _ _ (by omega) (by omega) hm0 (by omega)).mono ?_
    rintro e w_3 ⟨rfl, h_3⟩
    clear lA0 qA00 qA01
    go_wp2
    go_ret
    exact ⟨rfl, E_2.out.trans h_3⟩
  have hn0 : n0 ≤ 1048576 := by omega
  go_enter Tryz.func4, Tryz.ntmps4
  have T0 := cells_new' w #[.int .i64 R0, .slice a0 n0 c0] 24 (w.heap.size) (by simp)
  have A0_4 := Lib.hid (T0.ext (Ext.refl _))
  clear T0
  have E_5 := Lib.hid ((Ext.refl w).alloc (.cells #[.int .i64 R0, .slice a0 n0 c0] 24))
  have lA0 := A0_4.out.1
  have qA00 := A0_4.out.2 0 _ rfl
  have qA01 := A0_4.out.2 1 _ rfl
  try simp only [World.size_alloc] at lA0
  go_wp2_with fail
  refine (szCartan_yes _ _ _ _ _ _ (by omega) (by omega)).mono ?_
  rintro e w_6 ⟨rfl, h_6⟩
  clear lA0 qA00 qA01
  have A0_7 := Lib.hid (A0_4.out.ext h_6)
  clear A0_4
  have E_8 := Lib.hid (E_5.out.trans h_6)
  clear E_5
  have z_9 := Ext.le h_6
  try simp only [World.size_alloc] at z_9
  have Z_9 := Lib.hid z_9
  clear z_9
  clear h_6
  have hp : 0 ≤ 1048576 - (n0 : Int) := by omega
  have lA0 := A0_7.out.1
  have qA00 := A0_7.out.2 0 _ rfl
  have qA01 := A0_7.out.2 1 _ rfl
  try simp only [World.size_alloc] at lA0
  go_wp2_with fail
  refine (toCartan_law _ _ _ _ xs0 _ (HR0.out.ext E_8.out) hn0).mono ?_
  rintro e w_10 ⟨b_10, rfl, o_10, h_10⟩
  clear lA0 qA00 qA01
  have A0_11 := Lib.hid (A0_7.out.ext h_10)
  clear A0_7
  have E_12 := Lib.hid (E_8.out.trans h_10)
  clear E_8
  have z_13 := Ext.le h_10
  try simp only [World.size_alloc] at z_13
  have Z_13 := Lib.hid z_13
  clear z_13
  have T0_14 := Lib.hid (o_10)
  clear o_10 h_10
  go_wp2_with fail
  refine (lengthCounts_spec T0_14.out.reads hn0 hM.out).mono ?_
  rintro e w_15 ⟨v0, rfl, ⟨sa0, sn0, sc0, rfl, sO0, sm0⟩, h_15⟩
  clear T0_14
  have A0_16 := Lib.hid (A0_11.out.ext h_15)
  clear A0_11
  have E_17 := Lib.hid (E_12.out.trans h_15)
  clear E_12
  have z_18 := Ext.le h_15
  try simp only [World.size_alloc] at z_18
  have Z_18 := Lib.hid z_18
  clear z_18
  clear h_15
  try simp only [World.size_alloc] at sO0
  have S0_19 := Lib.hid (sO0)
  clear sO0
  have lA0 := A0_16.out.1
  have qA00 := A0_16.out.2 0 _ rfl
  have qA01 := A0_16.out.2 1 _ rfl
  try simp only [World.size_alloc] at lA0
  go_wp2_with fail
  refine (toCartan_law _ _ _ _ xs0 _ (HR0.out.ext E_17.out) hn0).mono ?_
  rintro e w_20 ⟨b_20, rfl, o_20, h_20⟩
  clear lA0 qA00 qA01
  have A0_21 := Lib.hid (A0_16.out.ext h_20)
  clear A0_16
  have S0_22 := Lib.hid (S0_19.out.ext h_20)
  clear S0_19
  have E_23 := Lib.hid (E_17.out.trans h_20)
  clear E_17
  have z_24 := Ext.le h_20
  try simp only [World.size_alloc] at z_24
  have Z_24 := Lib.hid z_24
  clear z_24
  try simp only [World.size_alloc] at o_20
  have X0_25 := Lib.hid (o_20)
  clear o_20 h_20
  have P_26 := (Ext.refl w_20).alloc (.cells #[.int .i64 R0, .slice (some ⟨b_20, 0, none⟩) n0 n0] 27)
  have A0_27 := Lib.hid (A0_21.out.ext P_26)
  clear A0_21
  have S0_28 := Lib.hid (S0_22.out.ext P_26)
  clear S0_22
  have X0_29 := Lib.hid (X0_25.out.ext P_26)
  clear X0_25
  have E_30 := Lib.hid (E_23.out.trans P_26)
  clear E_23
  clear P_26
  have XB0_31 := Lib.hid (cells_new w_20 #[.int .i64 R0, .slice (some ⟨b_20, 0, none⟩) n0 n0] 27)
  have lXB0 := XB0_31.out.1
  have qXB00 := XB0_31.out.2 0 _ rfl
  have qXB01 := XB0_31.out.2 1 _ rfl
  try simp only [World.size_alloc] at lXB0
  go_wp2_with fail
  refine (lengthCounts_impl X0_29.out.reads hn0 hM.out).mono ?_
  rintro e w_32 ⟨v0, rfl, ⟨ga0, gn0, gc0, rfl, gO0, gm0⟩, h_32⟩
  clear lXB0 qXB00 qXB01
  have A0_33 := Lib.hid (A0_27.out.ext h_32)
  clear A0_27
  have S0_34 := Lib.hid (S0_28.out.ext h_32)
  clear S0_28
  have X0_35 := Lib.hid (X0_29.out.ext h_32)
  clear X0_29
  have XB0_36 := Lib.hid (XB0_31.out.ext h_32)
  clear XB0_31
  have E_37 := Lib.hid (E_30.out.trans h_32)
  clear E_30
  have z_38 := Ext.le h_32
  try simp only [World.size_alloc] at z_38
  have Z_38 := Lib.hid z_38
  clear z_38
  clear h_32
  try simp only [World.size_alloc] at gO0
  have G0_39 := Lib.hid (gO0)
  clear gO0
  obtain rfl : sn0 = gn0 := S0_34.out.len.symm.trans G0_39.out.len
  go_wp2_with fail
  refine (eqIntS_x _ _ _ _ _ d0 _ G0_39.out.reads S0_34.out.reads gm0).mono ?_
  rintro e w_40 ⟨rfl, h_40⟩
  have A0_41 := Lib.hid (A0_33.out.ext h_40)
  clear A0_33
  have S0_42 := Lib.hid (S0_34.out.ext h_40)
  clear S0_34
  have X0_43 := Lib.hid (X0_35.out.ext h_40)
  clear X0_35
  have XB0_44 := Lib.hid (XB0_36.out.ext h_40)
  clear XB0_36
  have G0_45 := Lib.hid (G0_39.out.ext h_40)
  clear G0_39
  have E_46 := Lib.hid (E_37.out.trans h_40)
  clear E_37
  have z_47 := Ext.le h_40
  try simp only [World.size_alloc] at z_47
  have Z_47 := Lib.hid z_47
  clear z_47
  clear h_40
  have lXB0 := XB0_44.out.1
  have qXB00 := XB0_44.out.2 0 _ rfl
  have qXB01 := XB0_44.out.2 1 _ rfl
  have lA0 := A0_41.out.1
  have qA00 := A0_41.out.2 0 _ rfl
  have qA01 := A0_41.out.2 1 _ rfl
  try simp only [World.size_alloc] at lXB0 lA0
  go_wp2_with fail
  go_region_held3 (fun w' => Ext w_40 w' ∧ (∀ b o, b < w_40.heap.size → w'.cell? ⟨b, o, none⟩ = w_40.cell? ⟨b, o, none⟩)) (first | (with_reducible exact ext2 (Ext.trans (And.left ‹Ext w_40 _ ∧ _›) ‹Ext _ _›)) | (refine ext2 ?_; with_reducible repeat (first | exact Ext.refl _ | refine Ext.drew ?_))) (first
    | (go_at_call 17; refine (toCartan_law _ _ _ _ xs0 _ (HR0.out.ext (E_46.out.trans (And.left ‹Ext w_40 _ ∧ _›))) hn0).mono ?_; rintro e w_48 ⟨b_48, rfl, o_48, h_48⟩)
    | (go_at_call 19; refine (eqCartan_law _ _ _ _ _ _ xs0 _ (Own.reads (Own.ext X0_43.out (And.left ‹Ext w_40 _ ∧ _›))) (Own.reads o_48) hn0).mono ?_; rintro e w_49 ⟨rfl, h_49⟩))
  clear lXB0 qXB00 qXB01 lA0 qA00 qA01
  have hx_49 := And.left ‹Ext w_40 w_49 ∧ _›
  try clear h_48 h_49 o_48
  have A0_50 := Lib.hid (A0_41.out.ext hx_49)
  clear A0_41
  have S0_51 := Lib.hid (S0_42.out.ext hx_49)
  clear S0_42
  have X0_52 := Lib.hid (X0_43.out.ext hx_49)
  clear X0_43
  have XB0_53 := Lib.hid (XB0_44.out.ext hx_49)
  clear XB0_44
  have G0_54 := Lib.hid (G0_45.out.ext hx_49)
  clear G0_45
  have E_55 := Lib.hid (E_46.out.trans hx_49)
  clear E_46
  have z_56 := Ext.le hx_49
  try simp only [World.size_alloc] at z_56
  have Z_56 := Lib.hid z_56
  clear z_56
  clear hx_49
  have X0_b57 := Lib.hid X0_52.out.blk
  have lXB0 := XB0_53.out.1
  have qXB00 := XB0_53.out.2 0 _ rfl
  have qXB01 := XB0_53.out.2 1 _ rfl
  try simp only [World.size_alloc] at lXB0
  go_wp2_with fail
  refine (markCartan_law _ _ _ _ _ _ _ _ _ X0_52.out hn0 (by omega) (by omega)).mono ?_
  rintro e w_58 ⟨rfl, o_58, g_58⟩
  clear lXB0 qXB00 qXB01
  clear X0_52
  have A0_59 := Lib.hid (A0_50.out.grown g_58 (fun k hk => by have := X0_b57.out k hk; have := Z_9.out; have := Z_13.out; have := Z_18.out; have := Z_24.out; have := Z_38.out; have := Z_47.out; have := Z_56.out; omega))
  clear A0_50
  have S0_60 := Lib.hid (S0_51.out.grown g_58 (fun k hk => by have := X0_b57.out k hk; have := Z_9.out; have := Z_13.out; have := Z_18.out; have := Z_24.out; have := Z_38.out; have := Z_47.out; have := Z_56.out; omega))
  clear S0_51
  have XB0_61 := Lib.hid (XB0_53.out.grown g_58 (fun k hk => by have := X0_b57.out k hk; have := Z_9.out; have := Z_13.out; have := Z_18.out; have := Z_24.out; have := Z_38.out; have := Z_47.out; have := Z_56.out; omega))
  clear XB0_53
  have G0_62 := Lib.hid (G0_54.out.grown g_58 (fun k hk => by have := X0_b57.out k hk; have := Z_9.out; have := Z_13.out; have := Z_18.out; have := Z_24.out; have := Z_38.out; have := Z_47.out; have := Z_56.out; omega))
  clear G0_54
  have E_63 := Lib.hid (E_55.out.grown g_58 (fun k hk => by have := X0_b57.out k hk; have := Z_9.out; have := Z_13.out; have := Z_18.out; have := Z_24.out; have := Z_38.out; have := Z_47.out; have := Z_56.out; omega))
  clear E_55
  have Z_64 := Lib.hid g_58.size
  clear g_58 X0_b57
  have X0_65 := Lib.hid (o_58)
  clear o_58
  clear X0_65
  clear XB0_61
  have hk : 0 ≤ 1 + (n0 : Int) := by omega
  go_wp2_with fail
  refine (eqIntS_x _ _ _ _ _ d0 _ G0_62.out.reads S0_60.out.reads gm0).mono ?_
  rintro e w_66 ⟨rfl, h_66⟩
  have A0_67 := Lib.hid (A0_59.out.ext h_66)
  clear A0_59
  have S0_68 := Lib.hid (S0_60.out.ext h_66)
  clear S0_60
  have G0_69 := Lib.hid (G0_62.out.ext h_66)
  clear G0_62
  have E_70 := Lib.hid (E_63.out.trans h_66)
  clear E_63
  have z_71 := Ext.le h_66
  try simp only [World.size_alloc] at z_71
  have Z_71 := Lib.hid z_71
  clear z_71
  clear h_66
  clear hk
  have G0_b72 := Lib.hid G0_69.out.blk
  go_wp2_with fail
  refine (markIntS_law _ _ _ _ _ _ _ _ G0_69.out gm0 (by omega) (by omega)).mono ?_
  rintro e w_73 ⟨rfl, o_73, g_73⟩
  clear G0_69
  have A0_74 := Lib.hid (A0_67.out.grown g_73 (fun k hk => by have := G0_b72.out k hk; have := Z_9.out; have := Z_13.out; have := Z_18.out; have := Z_24.out; have := Z_38.out; have := Z_47.out; have := Z_56.out; have := Z_64.out; have := Z_71.out; omega))
  clear A0_67
  have S0_75 := Lib.hid (S0_68.out.grown g_73 (fun k hk => by have := G0_b72.out k hk; have := Z_9.out; have := Z_13.out; have := Z_18.out; have := Z_24.out; have := Z_38.out; have := Z_47.out; have := Z_56.out; have := Z_64.out; have := Z_71.out; omega))
  clear S0_68
  have E_76 := Lib.hid (E_70.out.grown g_73 (fun k hk => by have := G0_b72.out k hk; have := Z_9.out; have := Z_13.out; have := Z_18.out; have := Z_24.out; have := Z_38.out; have := Z_47.out; have := Z_56.out; have := Z_64.out; have := Z_71.out; omega))
  clear E_70
  have Z_77 := Lib.hid g_73.size
  clear g_73 G0_b72
  have G0_78 := Lib.hid (o_73)
  clear o_73
  go_wp2_with fail
  refine (heldIntS_x _ _ _ _ _ G0_78.out.reads gm0 (by omega) (by omega)).mono ?_
  rintro e w_79 ⟨rfl, h_79⟩
  have hq79 : 0 ≤ 1 + (sn0 : Int) := by omega
  have A0_80 := Lib.hid (A0_74.out.ext h_79)
  clear A0_74
  have S0_81 := Lib.hid (S0_75.out.ext h_79)
  clear S0_75
  have G0_82 := Lib.hid (G0_78.out.ext h_79)
  clear G0_78
  have E_83 := Lib.hid (E_76.out.trans h_79)
  clear E_76
  have z_84 := Ext.le h_79
  try simp only [World.size_alloc] at z_84
  have Z_84 := Lib.hid z_84
  clear z_84
  clear h_79
  have lA0 := A0_80.out.1
  have qA00 := A0_80.out.2 0 _ rfl
  have qA01 := A0_80.out.2 1 _ rfl
  try simp only [World.size_alloc] at lA0
  go_wp2_with fail
  refine (toCartan_law _ _ _ _ xs0 _ (HR0.out.ext E_83.out) hn0).mono ?_
  rintro e w_85 ⟨b_85, rfl, o_85, h_85⟩
  clear lA0 qA00 qA01
  have A0_86 := Lib.hid (A0_80.out.ext h_85)
  clear A0_80
  have S0_87 := Lib.hid (S0_81.out.ext h_85)
  clear S0_81
  have G0_88 := Lib.hid (G0_82.out.ext h_85)
  clear G0_82
  have E_89 := Lib.hid (E_83.out.trans h_85)
  clear E_83
  have z_90 := Ext.le h_85
  try simp only [World.size_alloc] at z_90
  have Z_90 := Lib.hid z_90
  clear z_90
  have T0_91 := Lib.hid (o_85)
  clear o_85 h_85
  go_wp2_with fail
  refine (lengthCounts_impl T0_91.out.reads hn0 hM.out).mono ?_
  rintro e w_92 ⟨v0, rfl, ⟨ta0, tn0, tc0, rfl, tO0, tm0⟩, h_92⟩
  clear T0_91
  have A0_93 := Lib.hid (A0_86.out.ext h_92)
  clear A0_86
  have S0_94 := Lib.hid (S0_87.out.ext h_92)
  clear S0_87
  have G0_95 := Lib.hid (G0_88.out.ext h_92)
  clear G0_88
  have E_96 := Lib.hid (E_89.out.trans h_92)
  clear E_89
  have z_97 := Ext.le h_92
  try simp only [World.size_alloc] at z_97
  have Z_97 := Lib.hid z_97
  clear z_97
  clear h_92
  try simp only [World.size_alloc] at tO0
  have H0_98 := Lib.hid (tO0)
  clear tO0
  obtain rfl : sn0 = tn0 := S0_94.out.len.symm.trans H0_98.out.len
  go_wp2_with fail
  refine (eqIntS_x _ _ _ _ _ d0 _ H0_98.out.reads S0_94.out.reads gm0).mono ?_
  rintro e w_99 ⟨rfl, h_99⟩
  have A0_100 := Lib.hid (A0_93.out.ext h_99)
  clear A0_93
  have S0_101 := Lib.hid (S0_94.out.ext h_99)
  clear S0_94
  have G0_102 := Lib.hid (G0_95.out.ext h_99)
  clear G0_95
  have H0_103 := Lib.hid (H0_98.out.ext h_99)
  clear H0_98
  have E_104 := Lib.hid (E_96.out.trans h_99)
  clear E_96
  have z_105 := Ext.le h_99
  try simp only [World.size_alloc] at z_105
  have Z_105 := Lib.hid z_105
  clear z_105
  clear h_99
  go_wp2_with fail
  refine (heldIntS_x _ _ _ _ _ G0_102.out.reads gm0 (by omega) (by omega)).mono ?_
  rintro e w_106 ⟨rfl, h_106⟩
  have hq106 : 0 ≤ 1 + (sn0 : Int) := by omega
  have A0_107 := Lib.hid (A0_100.out.ext h_106)
  clear A0_100
  have S0_108 := Lib.hid (S0_101.out.ext h_106)
  clear S0_101
  have G0_109 := Lib.hid (G0_102.out.ext h_106)
  clear G0_102
  have H0_110 := Lib.hid (H0_103.out.ext h_106)
  clear H0_103
  have E_111 := Lib.hid (E_104.out.trans h_106)
  clear E_104
  have z_112 := Ext.le h_106
  try simp only [World.size_alloc] at z_112
  have Z_112 := Lib.hid z_112
  clear z_112
  clear h_106
  go_wp2
  go_ret
  exact ⟨rfl, E_111.out⟩

set_option maxRecDepth 100000 in
theorem lifted (os : Os) (started : os.Started) (H : Type) (enc : TypeId × Value → H) :
    ReturnsInHanded {} Tryz.checked os 4 .any (Rows.fnExactLengthCountsSpec.pre6 enc Tryz.prog Tryz.f4 Rows.fnExactLengthCountsRow.domain false) (Rows.fnExactLengthCountsSpec.post enc Tryz.prog Tryz.f4 false true false false) := by
  refine returnsInHanded_of_change (C := Tryz.checked) own started (by kernel_rfl) Tryz.func4
    (ChangeSpec.witness6 (enc := enc) (C := Tryz.checked) false ⟨#[], #[.agg #[.int .i64 0, .slice none 0 0]], []⟩ 8 (by kernel_rfl) (by kernel_rfl) (by kernel_rfl) (by kernel_rfl)) ?_
  intro W base args ds gs before hval0 hW hcnd _
  have hval : ∀ (j : Nat) t v, Tryz.f4.params[j]? = some t → args[j]? = some v → Value.okWide Tryz.prog W .any base t v := hval0
  have hW' := hW
  obtain ⟨p, q, hA0, hV, rfl, hfz, hnd⟩ := hW
  have hA : DataW.TrodAll enc Tryz.prog W 0 (fun _ => true) true Tryz.f4.params.toList args.toList ds p := hA0
  rw [Tryz.params4] at hA hval
  obtain ⟨v0, vs0, d0, ds0, p0, q0, hargs, rfl, rfl, h0, r0⟩ := trodAll_cons hA
  obtain ⟨rfl, rfl, rfl⟩ := trodAll_nil r0
  obtain rfl : args = #[v0] := by cases args; simp_all
  obtain ⟨rfl, rfl⟩ := trodVars_none hV
  have k0 := h0
  have lt0 : ∀ x ∈ p0, x.block < W.heap.size := by obtain ⟨m, hm⟩ := k0; exact DataW.trod_lt m _ _ _ hm
  obtain ⟨R0, a0, n0, c0, xs0, rfl, w0⟩ := open_car (hval 0 _ v0 rfl rfl) h0
  clear hA0 hval0
  refine (walk R0 a0 n0 c0 xs0 W w0).mono fun e W' ⟨he, bel⟩ => ?_
  subst he
  exact ⟨_, rfl, _, _, _, [], _, [], hW', trodAll_mk1 (shut_bool Tryz.underlying4 _), (trodAll_cons_mk (Below.trod laidOut (by kernel_rfl) (of_decide_eq_true (by kernel_rfl)) k0 bel lt0) trodAll_mk0), rfl, Below.frame bel _, fun h => by cases h⟩

set_option maxRecDepth 1000000 in
set_option maxHeartbeats 40000000 in
theorem closed : joinedFacts Tryz.pinned.checked.prog 4 Tryz.f4 Rows.fnExactLengthCountsSpec Rows.fnExactLengthCountsRow = true := by
  unfold joinedFacts
  repeat' (with_reducible refine and2 ?_ ?_)
  all_goals (first | (with_reducible exact seat_laid) | (with_reducible exact seat_maps) | (with_reducible exact seat_heard) | (with_reducible exact seat_enter) | (with_reducible refine seat_lifts ?_; kernel_rfl) | (with_reducible refine seat_make ?_; kernel_rfl) | (with_reducible refine seat_plain ?_; kernel_rfl) | (as_aux_lemma => kernel_rfl))

theorem over : Rows.fnExactLengthCountsRow.holds Tryz.pinned (OpenSpec.ofChange Rows.fnExactLengthCountsSpec) :=
  OpenClaim.holds_of_wide 4 Tryz.f4 rfl rfl rfl rfl rfl rfl rfl ⟨rfl, rfl, rfl, rfl, rfl⟩ rfl rfl rfl rfl rfl (by kernel_rfl) Tryz.func4 closed
    (of_decide_eq_true (by kernel_rfl)) (by unfold Func.isWrapper; first | (rw [if_pos (by decide +kernel)]; kernel_rfl) | (rw [if_neg (by decide +kernel)]; exact ⟨rfl, rfl⟩))
    (fun os started H enc _ => lifted os started H enc)

/-- The statement. -/
theorem proved : Rows.FnExactLengthCountsSaid := over
#print axioms proved
end Go.Proofs.YtlnpaplbcocmkaaGreat.fnExactLengthCounts
