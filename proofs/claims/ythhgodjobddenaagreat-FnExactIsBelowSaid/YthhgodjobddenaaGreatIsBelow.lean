/-
  Proved: the statement given for the law FnExactIsBelow: at every input the Go text returns true, with no panic, and the arguments read as they read before. No condition is added.
-/
import Derived.Test.YthhgodjobddenaaGreatFr
import Derived.Test.YthhgodjobddenaaGreatRowC
import Derived.Test.YthhgodjobddenaaGreatTwb
import Derived.Test.YthhgodjobddenaaGreatSCartan
import Derived.Test.YthhgodjobddenaaGreatSeatF
namespace Go.Proofs.YthhgodjobddenaaGreat.fnExactIsBelow
open Go.ChangeShapes Go.WideShapes Go.ChangeAt Go.RowKit
open Go.ChangeMaps (open_string shut_string)
set_option linter.unusedVariables false

set_option maxRecDepth 100000 in
set_option maxHeartbeats 3200000 in
/-- The walk: the Go text returns true, and nothing that was there has changed. -/
theorem walk (R0 : Int) (a0 : Option Addr) (n0 c0 : Nat) (xs0 : List Int) (a1 : Option Addr) (n1 c1 : Nat) (xs1 : List Int) (a2 : Option Addr) (n2 c2 : Nat) (xs2 : List Int) (w : World) (w0 : Reads w a0 n0 xs0 ∧ n0 ≤ maxLen) (w1 : Reads w a1 n1 xs1 ∧ n1 ≤ maxLen) (w2 : Reads w a2 n2 xs2 ∧ n2 ≤ maxLen) :
    Calls Tryz.prog 9 #[.agg #[.int .i64 R0, .slice a0 n0 c0], .slice a1 n1 c1, .slice a2 n2 c2] w fun e w' => e = .returned (.bool true) ∧ Ext w w' := by
  obtain ⟨hr0, hm0⟩ := w0
  have HR0 := Lib.hid hr0
  clear hr0
  obtain ⟨hr1, hm1⟩ := w1
  have HR1 := Lib.hid hr1
  clear hr1
  obtain ⟨hr2, hm2⟩ := w2
  have HR2 := Lib.hid hr2
  clear hr2
  rcases hM0 : isbO R0 xs0 xs1 xs2 with i0
  have hM := Lib.hid hM0
  clear hM0
  by_cases hz0 : (n1 : Int) ≤ 1048576
  case neg =>
    go_enter Tryz.func9, Tryz.ntmps9
    have T0 := cells_new' w #[.int .i64 R0, .slice a0 n0 c0] 24 (w.heap.size) (by simp)
    have A0_1 := Lib.hid (T0.ext (Ext.refl _))
    clear T0
    have E_2 := Lib.hid ((Ext.refl w).alloc (.cells #[.int .i64 R0, .slice a0 n0 c0] 24))
    have hlt : (1048576 : Int) < (n1 : Int) := by omega
    go_wp2
    go_ret
    exact ⟨rfl, E_2.out⟩
  by_cases hz1 : (n2 : Int) ≤ 1048576
  case neg =>
    go_enter Tryz.func9, Tryz.ntmps9
    have T0 := cells_new' w #[.int .i64 R0, .slice a0 n0 c0] 24 (w.heap.size) (by simp)
    have A0_3 := Lib.hid (T0.ext (Ext.refl _))
    clear T0
    have E_4 := Lib.hid ((Ext.refl w).alloc (.cells #[.int .i64 R0, .slice a0 n0 c0] 24))
    have hlt : (1048576 : Int) < (n2 : Int) := by omega
    go_wp2
    go_ret
    exact ⟨rfl, E_4.out⟩
  by_cases hz2 : (n0 : Int) ≤ 1048576
  case neg =>
    go_enter Tryz.func9, Tryz.ntmps9
    have T0 := cells_new' w #[.int .i64 R0, .slice a0 n0 c0] 24 (w.heap.size) (by simp)
    have A0_5 := Lib.hid (T0.ext (Ext.refl _))
    clear T0
    have E_6 := Lib.hid ((Ext.refl w).alloc (.cells #[.int .i64 R0, .slice a0 n0 c0] 24))
    have lA0 := A0_5.out.1
    have qA00 := A0_5.out.2 0 _ rfl
    have qA01 := A0_5.out.2 1 _ rfl
    try simp only [World.size_alloc] at lA0
    go_wp2_with fail
    refine (szCartan_no _ _ _ _ _ _ (by omega) (by omega) hm0 (by omega)).mono ?_
    rintro e w_7 ⟨rfl, h_7⟩
    clear lA0 qA00 qA01
    go_wp2
    go_ret
    exact ⟨rfl, E_6.out.trans h_7⟩
  have hn0 : n0 ≤ 1048576 := by omega
  have hn1 : n1 ≤ 1048576 := by omega
  have hn2 : n2 ≤ 1048576 := by omega
  go_enter Tryz.func9, Tryz.ntmps9
  have T0 := cells_new' w #[.int .i64 R0, .slice a0 n0 c0] 24 (w.heap.size) (by simp)
  have A0_8 := Lib.hid (T0.ext (Ext.refl _))
  clear T0
  have E_9 := Lib.hid ((Ext.refl w).alloc (.cells #[.int .i64 R0, .slice a0 n0 c0] 24))
  have lA0 := A0_8.out.1
  have qA00 := A0_8.out.2 0 _ rfl
  have qA01 := A0_8.out.2 1 _ rfl
  try simp only [World.size_alloc] at lA0
  go_wp2_with fail
  refine (szCartan_yes _ _ _ _ _ _ (by omega) (by omega)).mono ?_
  rintro e w_10 ⟨rfl, h_10⟩
  clear lA0 qA00 qA01
  have A0_11 := Lib.hid (A0_8.out.ext h_10)
  clear A0_8
  have E_12 := Lib.hid (E_9.out.trans h_10)
  clear E_9
  have z_13 := Ext.le h_10
  try simp only [World.size_alloc] at z_13
  have Z_13 := Lib.hid z_13
  clear z_13
  clear h_10
  have hp : 0 ≤ 1048576 - (n0 : Int) := by omega
  have lA0 := A0_11.out.1
  have qA00 := A0_11.out.2 0 _ rfl
  have qA01 := A0_11.out.2 1 _ rfl
  try simp only [World.size_alloc] at lA0
  go_wp2_with fail
  refine (toCartan_law _ _ _ _ xs0 _ (HR0.out.ext E_12.out) hn0).mono ?_
  rintro e w_14 ⟨b_14, rfl, o_14, h_14⟩
  clear lA0 qA00 qA01
  have A0_15 := Lib.hid (A0_11.out.ext h_14)
  clear A0_11
  have E_16 := Lib.hid (E_12.out.trans h_14)
  clear E_12
  have z_17 := Ext.le h_14
  try simp only [World.size_alloc] at z_17
  have Z_17 := Lib.hid z_17
  clear z_17
  have T0_18 := Lib.hid (o_14)
  clear o_14 h_14
  go_wp2_with fail
  refine (toIntS_law _ _ _ xs1 _ (HR1.out.ext E_16.out) hn1).mono ?_
  rintro e w_19 ⟨b_19, rfl, o_19, h_19⟩
  have A0_20 := Lib.hid (A0_15.out.ext h_19)
  clear A0_15
  have T0_21 := Lib.hid (T0_18.out.ext h_19)
  clear T0_18
  have E_22 := Lib.hid (E_16.out.trans h_19)
  clear E_16
  have z_23 := Ext.le h_19
  try simp only [World.size_alloc] at z_23
  have Z_23 := Lib.hid z_23
  clear z_23
  have T1_24 := Lib.hid (o_19)
  clear o_19 h_19
  go_wp2_with fail
  refine (toIntS_law _ _ _ xs2 _ (HR2.out.ext E_22.out) hn2).mono ?_
  rintro e w_25 ⟨b_25, rfl, o_25, h_25⟩
  have A0_26 := Lib.hid (A0_20.out.ext h_25)
  clear A0_20
  have T0_27 := Lib.hid (T0_21.out.ext h_25)
  clear T0_21
  have T1_28 := Lib.hid (T1_24.out.ext h_25)
  clear T1_24
  have E_29 := Lib.hid (E_22.out.trans h_25)
  clear E_22
  have z_30 := Ext.le h_25
  try simp only [World.size_alloc] at z_30
  have Z_30 := Lib.hid z_30
  clear z_30
  have T2_31 := Lib.hid (o_25)
  clear o_25 h_25
  go_wp2_with fail
  refine (isBelow_spec T0_27.out.reads hn0 T1_28.out.reads hn1 T2_31.out.reads hn2 hM.out).mono ?_
  rintro e w_32 ⟨rfl, h_32⟩
  clear T0_27
  clear T1_28
  clear T2_31
  have A0_33 := Lib.hid (A0_26.out.ext h_32)
  clear A0_26
  have E_34 := Lib.hid (E_29.out.trans h_32)
  clear E_29
  have z_35 := Ext.le h_32
  try simp only [World.size_alloc] at z_35
  have Z_35 := Lib.hid z_35
  clear z_35
  clear h_32
  have lA0 := A0_33.out.1
  have qA00 := A0_33.out.2 0 _ rfl
  have qA01 := A0_33.out.2 1 _ rfl
  try simp only [World.size_alloc] at lA0
  go_wp2_with fail
  refine (toCartan_law _ _ _ _ xs0 _ (HR0.out.ext E_34.out) hn0).mono ?_
  rintro e w_36 ⟨b_36, rfl, o_36, h_36⟩
  clear lA0 qA00 qA01
  have A0_37 := Lib.hid (A0_33.out.ext h_36)
  clear A0_33
  have E_38 := Lib.hid (E_34.out.trans h_36)
  clear E_34
  have z_39 := Ext.le h_36
  try simp only [World.size_alloc] at z_39
  have Z_39 := Lib.hid z_39
  clear z_39
  try simp only [World.size_alloc] at o_36
  have X0_40 := Lib.hid (o_36)
  clear o_36 h_36
  have P_41 := (Ext.refl w_36).alloc (.cells #[.int .i64 R0, .slice (some ⟨b_36, 0, none⟩) n0 n0] 27)
  have A0_42 := Lib.hid (A0_37.out.ext P_41)
  clear A0_37
  have X0_43 := Lib.hid (X0_40.out.ext P_41)
  clear X0_40
  have E_44 := Lib.hid (E_38.out.trans P_41)
  clear E_38
  clear P_41
  have XB0_45 := Lib.hid (cells_new w_36 #[.int .i64 R0, .slice (some ⟨b_36, 0, none⟩) n0 n0] 27)
  go_wp2_with fail
  refine (toIntS_law _ _ _ xs1 _ (HR1.out.ext E_44.out) hn1).mono ?_
  rintro e w_46 ⟨b_46, rfl, o_46, h_46⟩
  have A0_47 := Lib.hid (A0_42.out.ext h_46)
  clear A0_42
  have X0_48 := Lib.hid (X0_43.out.ext h_46)
  clear X0_43
  have XB0_49 := Lib.hid (XB0_45.out.ext h_46)
  clear XB0_45
  have E_50 := Lib.hid (E_44.out.trans h_46)
  clear E_44
  have z_51 := Ext.le h_46
  try simp only [World.size_alloc] at z_51
  have Z_51 := Lib.hid z_51
  clear z_51
  try simp only [World.size_alloc] at o_46
  have X1_52 := Lib.hid (o_46)
  clear o_46 h_46
  go_wp2_with fail
  refine (toIntS_law _ _ _ xs2 _ (HR2.out.ext E_50.out) hn2).mono ?_
  rintro e w_53 ⟨b_53, rfl, o_53, h_53⟩
  have A0_54 := Lib.hid (A0_47.out.ext h_53)
  clear A0_47
  have X0_55 := Lib.hid (X0_48.out.ext h_53)
  clear X0_48
  have XB0_56 := Lib.hid (XB0_49.out.ext h_53)
  clear XB0_49
  have X1_57 := Lib.hid (X1_52.out.ext h_53)
  clear X1_52
  have E_58 := Lib.hid (E_50.out.trans h_53)
  clear E_50
  have z_59 := Ext.le h_53
  try simp only [World.size_alloc] at z_59
  have Z_59 := Lib.hid z_59
  clear z_59
  try simp only [World.size_alloc] at o_53
  have X2_60 := Lib.hid (o_53)
  clear o_53 h_53
  have lXB0 := XB0_56.out.1
  have qXB00 := XB0_56.out.2 0 _ rfl
  have qXB01 := XB0_56.out.2 1 _ rfl
  try simp only [World.size_alloc] at lXB0
  go_wp2_with fail
  refine (isBelow_impl X0_55.out.reads hn0 X1_57.out.reads hn1 X2_60.out.reads hn2 hM.out).mono ?_
  rintro e w_61 ⟨rfl, h_61⟩
  clear lXB0 qXB00 qXB01
  have A0_62 := Lib.hid (A0_54.out.ext h_61)
  clear A0_54
  have X0_63 := Lib.hid (X0_55.out.ext h_61)
  clear X0_55
  have XB0_64 := Lib.hid (XB0_56.out.ext h_61)
  clear XB0_56
  have X1_65 := Lib.hid (X1_57.out.ext h_61)
  clear X1_57
  have X2_66 := Lib.hid (X2_60.out.ext h_61)
  clear X2_60
  have E_67 := Lib.hid (E_58.out.trans h_61)
  clear E_58
  have z_68 := Ext.le h_61
  try simp only [World.size_alloc] at z_68
  have Z_68 := Lib.hid z_68
  clear z_68
  clear h_61
  have lXB0 := XB0_64.out.1
  have qXB00 := XB0_64.out.2 0 _ rfl
  have qXB01 := XB0_64.out.2 1 _ rfl
  have lA0 := A0_62.out.1
  have qA00 := A0_62.out.2 0 _ rfl
  have qA01 := A0_62.out.2 1 _ rfl
  try simp only [World.size_alloc] at lXB0 lA0
  go_wp2_with fail
  go_region_held3 (fun w' => Ext w_61 w' ∧ (∀ b o, b < w_61.heap.size → w'.cell? ⟨b, o, none⟩ = w_61.cell? ⟨b, o, none⟩)) (first | (with_reducible exact ext2 (Ext.trans (And.left ‹Ext w_61 _ ∧ _›) ‹Ext _ _›)) | (refine ext2 ?_; with_reducible repeat (first | exact Ext.refl _ | refine Ext.drew ?_))) (first
    | (go_at_call 16; refine (toCartan_law _ _ _ _ xs0 _ (HR0.out.ext (E_67.out.trans (And.left ‹Ext w_61 _ ∧ _›))) hn0).mono ?_; rintro e w_69 ⟨b_69, rfl, o_69, h_69⟩)
    | (go_at_call 19; refine (eqCartan_law _ _ _ _ _ _ xs0 _ (Own.reads (Own.ext X0_63.out (And.left ‹Ext w_61 _ ∧ _›))) (Own.reads o_69) hn0).mono ?_; rintro e w_70 ⟨rfl, h_70⟩))
  clear lXB0 qXB00 qXB01 lA0 qA00 qA01
  have hx_70 := And.left ‹Ext w_61 w_70 ∧ _›
  try clear h_69 h_70 o_69
  have A0_71 := Lib.hid (A0_62.out.ext hx_70)
  clear A0_62
  have X0_72 := Lib.hid (X0_63.out.ext hx_70)
  clear X0_63
  have XB0_73 := Lib.hid (XB0_64.out.ext hx_70)
  clear XB0_64
  have X1_74 := Lib.hid (X1_65.out.ext hx_70)
  clear X1_65
  have X2_75 := Lib.hid (X2_66.out.ext hx_70)
  clear X2_66
  have E_76 := Lib.hid (E_67.out.trans hx_70)
  clear E_67
  have z_77 := Ext.le hx_70
  try simp only [World.size_alloc] at z_77
  have Z_77 := Lib.hid z_77
  clear z_77
  clear hx_70
  go_wp2_with fail
  refine (toIntS_law _ _ _ xs1 _ (HR1.out.ext E_76.out) hn1).mono ?_
  rintro e w_78 ⟨b_78, rfl, o_78, h_78⟩
  have A0_79 := Lib.hid (A0_71.out.ext h_78)
  clear A0_71
  have X0_80 := Lib.hid (X0_72.out.ext h_78)
  clear X0_72
  have XB0_81 := Lib.hid (XB0_73.out.ext h_78)
  clear XB0_73
  have X1_82 := Lib.hid (X1_74.out.ext h_78)
  clear X1_74
  have X2_83 := Lib.hid (X2_75.out.ext h_78)
  clear X2_75
  have E_84 := Lib.hid (E_76.out.trans h_78)
  clear E_76
  have z_85 := Ext.le h_78
  try simp only [World.size_alloc] at z_85
  have Z_85 := Lib.hid z_85
  clear z_85
  have T_86 := Lib.hid (o_78)
  clear o_78 h_78
  go_wp2_with fail
  refine (eqIntS_x _ _ _ _ _ xs1 _ X1_82.out.reads T_86.out.reads hn1).mono ?_
  rintro e w_87 ⟨rfl, h_87⟩
  clear T_86
  have A0_88 := Lib.hid (A0_79.out.ext h_87)
  clear A0_79
  have X0_89 := Lib.hid (X0_80.out.ext h_87)
  clear X0_80
  have XB0_90 := Lib.hid (XB0_81.out.ext h_87)
  clear XB0_81
  have X1_91 := Lib.hid (X1_82.out.ext h_87)
  clear X1_82
  have X2_92 := Lib.hid (X2_83.out.ext h_87)
  clear X2_83
  have E_93 := Lib.hid (E_84.out.trans h_87)
  clear E_84
  have z_94 := Ext.le h_87
  try simp only [World.size_alloc] at z_94
  have Z_94 := Lib.hid z_94
  clear z_94
  clear h_87
  go_wp2_with fail
  refine (toIntS_law _ _ _ xs2 _ (HR2.out.ext E_93.out) hn2).mono ?_
  rintro e w_95 ⟨b_95, rfl, o_95, h_95⟩
  have A0_96 := Lib.hid (A0_88.out.ext h_95)
  clear A0_88
  have X0_97 := Lib.hid (X0_89.out.ext h_95)
  clear X0_89
  have XB0_98 := Lib.hid (XB0_90.out.ext h_95)
  clear XB0_90
  have X1_99 := Lib.hid (X1_91.out.ext h_95)
  clear X1_91
  have X2_100 := Lib.hid (X2_92.out.ext h_95)
  clear X2_92
  have E_101 := Lib.hid (E_93.out.trans h_95)
  clear E_93
  have z_102 := Ext.le h_95
  try simp only [World.size_alloc] at z_102
  have Z_102 := Lib.hid z_102
  clear z_102
  have T_103 := Lib.hid (o_95)
  clear o_95 h_95
  go_wp2_with fail
  refine (eqIntS_x _ _ _ _ _ xs2 _ X2_100.out.reads T_103.out.reads hn2).mono ?_
  rintro e w_104 ⟨rfl, h_104⟩
  clear T_103
  have A0_105 := Lib.hid (A0_96.out.ext h_104)
  clear A0_96
  have X0_106 := Lib.hid (X0_97.out.ext h_104)
  clear X0_97
  have XB0_107 := Lib.hid (XB0_98.out.ext h_104)
  clear XB0_98
  have X1_108 := Lib.hid (X1_99.out.ext h_104)
  clear X1_99
  have X2_109 := Lib.hid (X2_100.out.ext h_104)
  clear X2_100
  have E_110 := Lib.hid (E_101.out.trans h_104)
  clear E_101
  have z_111 := Ext.le h_104
  try simp only [World.size_alloc] at z_111
  have Z_111 := Lib.hid z_111
  clear z_111
  clear h_104
  go_wp2
  go_ret
  exact ⟨rfl, E_110.out⟩

set_option maxRecDepth 100000 in
theorem lifted (os : Os) (started : os.Started) (H : Type) (enc : TypeId × Value → H) :
    ReturnsInHanded {} Tryz.checked os 9 .any (Rows.fnExactIsBelowSpec.pre6 enc Tryz.prog Tryz.f9 Rows.fnExactIsBelowRow.domain false) (Rows.fnExactIsBelowSpec.post enc Tryz.prog Tryz.f9 false true false false) := by
  refine returnsInHanded_of_change (C := Tryz.checked) own started (by kernel_rfl) Tryz.func9
    (ChangeSpec.witness6 (enc := enc) (C := Tryz.checked) false ⟨#[], #[.agg #[.int .i64 0, .slice none 0 0], .slice none 0 0, .slice none 0 0], []⟩ 8 (by kernel_rfl) (by kernel_rfl) (by kernel_rfl) (by kernel_rfl)) ?_
  intro W base args ds gs before hval0 hW hcnd _
  have hval : ∀ (j : Nat) t v, Tryz.f9.params[j]? = some t → args[j]? = some v → Value.okWide Tryz.prog W .any base t v := hval0
  have hW' := hW
  obtain ⟨p, q, hA0, hV, rfl, hfz, hnd⟩ := hW
  have hA : DataW.TrodAll enc Tryz.prog W 0 (fun _ => true) true Tryz.f9.params.toList args.toList ds p := hA0
  rw [Tryz.params9] at hA hval
  obtain ⟨v0, vs0, d0, ds0, p0, q0, hargs, rfl, rfl, h0, r0⟩ := trodAll_cons hA
  obtain ⟨v1, vs1, d1, ds1, p1, q1, rfl, rfl, rfl, h1, r1⟩ := trodAll_cons r0
  obtain ⟨v2, vs2, d2, ds2, p2, q2, rfl, rfl, rfl, h2, r2⟩ := trodAll_cons r1
  obtain ⟨rfl, rfl, rfl⟩ := trodAll_nil r2
  obtain rfl : args = #[v0, v1, v2] := by cases args; simp_all
  obtain ⟨rfl, rfl⟩ := trodVars_none hV
  have k0 := h0
  have lt0 : ∀ x ∈ p0, x.block < W.heap.size := by obtain ⟨m, hm⟩ := k0; exact DataW.trod_lt m _ _ _ hm
  obtain ⟨R0, a0, n0, c0, xs0, rfl, w0⟩ := open_car (hval 0 _ v0 rfl rfl) h0
  have k1 := h1
  have lt1 : ∀ x ∈ p1, x.block < W.heap.size := by obtain ⟨m, hm⟩ := k1; exact DataW.trod_lt m _ _ _ hm
  obtain ⟨a1, n1, c1, xs1, rfl, w1⟩ := open_intsl (hval 1 _ v1 rfl rfl) h1
  have k2 := h2
  have lt2 : ∀ x ∈ p2, x.block < W.heap.size := by obtain ⟨m, hm⟩ := k2; exact DataW.trod_lt m _ _ _ hm
  obtain ⟨a2, n2, c2, xs2, rfl, w2⟩ := open_intsl (hval 2 _ v2 rfl rfl) h2
  clear hA0 hval0
  refine (walk R0 a0 n0 c0 xs0 a1 n1 c1 xs1 a2 n2 c2 xs2 W w0 w1 w2).mono fun e W' ⟨he, bel⟩ => ?_
  subst he
  exact ⟨_, rfl, _, _, _, [], _, [], hW', trodAll_mk1 (shut_bool Tryz.underlying4 _), (trodAll_cons_mk (Below.trod laidOut (by kernel_rfl) (of_decide_eq_true (by kernel_rfl)) k0 bel lt0) (trodAll_cons_mk (Below.trod laidOut (by kernel_rfl) (of_decide_eq_true (by kernel_rfl)) k1 bel lt1) (trodAll_cons_mk (Below.trod laidOut (by kernel_rfl) (of_decide_eq_true (by kernel_rfl)) k2 bel lt2) trodAll_mk0))), rfl, Below.frame bel _, fun h => by cases h⟩

set_option maxRecDepth 1000000 in
set_option maxHeartbeats 40000000 in
theorem closed : joinedFacts Tryz.pinned.checked.prog 9 Tryz.f9 Rows.fnExactIsBelowSpec Rows.fnExactIsBelowRow = true := by
  unfold joinedFacts
  repeat' (with_reducible refine and2 ?_ ?_)
  all_goals (first | (with_reducible exact seat_laid) | (with_reducible exact seat_maps) | (with_reducible exact seat_heard) | (with_reducible exact seat_enter) | (with_reducible refine seat_lifts ?_; kernel_rfl) | (with_reducible refine seat_make ?_; kernel_rfl) | (with_reducible refine seat_plain ?_; kernel_rfl) | (as_aux_lemma => kernel_rfl))

theorem over : Rows.fnExactIsBelowRow.holds Tryz.pinned (OpenSpec.ofChange Rows.fnExactIsBelowSpec) :=
  OpenClaim.holds_of_wide 9 Tryz.f9 rfl rfl rfl rfl rfl rfl rfl ⟨rfl, rfl, rfl, rfl, rfl⟩ rfl rfl rfl rfl rfl (by kernel_rfl) Tryz.func9 closed
    (of_decide_eq_true (by kernel_rfl)) (by unfold Func.isWrapper; first | (rw [if_pos (by decide +kernel)]; kernel_rfl) | (rw [if_neg (by decide +kernel)]; exact ⟨rfl, rfl⟩))
    (fun os started H enc _ => lifted os started H enc)

/-- The statement. -/
theorem proved : Rows.FnExactIsBelowSaid := over
#print axioms proved
end Go.Proofs.YthhgodjobddenaaGreat.fnExactIsBelow
