/-
  Proved: the statement given for the law FnExactIsModule: at every input the Go text returns true, with no panic, and the arguments read as they read before. No condition is added.
-/
import Derived.Test.YtnikfalpjieibaaFr
import Derived.Test.YtnikfalpjieibaaMs2
import Derived.Test.YtnikfalpjieibaaMtA
import Derived.Test.YtnikfalpjieibaaSeatF
namespace Go.Proofs.Ytnikfalpjieibaa.fnExactIsModule
open Go.ChangeShapes Go.WideShapes Go.ChangeAt Go.RowKit
open Go.ChangeMaps (open_string shut_string)
set_option linter.unusedVariables false
set_option linter.unusedSimpArgs false

set_option maxRecDepth 100000 in
set_option maxHeartbeats 3200000 in
/-- The walk: the Go text returns true, and nothing that was there has changed. -/
theorem walk (P0 D0 : Int) (a0 : Option Addr) (n0 c0 : Nat) (xs0 : List Int) (a1 : Option Addr) (n1 c1 : Nat) (ms1 : List Mat) (w : World) (w0 : Reads w a0 n0 xs0 ∧ n0 ≤ maxLen) (w1 : MatsA w a1 n1 ms1 ∧ MatsW ms1 ∧ n1 ≤ maxLen) :
    Calls Try.prog 3 #[.agg #[.int .i64 P0, .int .i64 D0, .slice a0 n0 c0], .slice a1 n1 c1] w fun e w' => e = .returned (.bool true) ∧ Ext w w' := by
  obtain ⟨hr0, hm0⟩ := w0
  have HR0 := Lib.hid hr0
  clear hr0
  obtain ⟨hr1, hW1, hm1⟩ := w1
  have HR1 := Lib.hid hr1
  have HW1 := Lib.hid hW1
  obtain ⟨L1, hL1⟩ : ∃ L : Nat, n1 + msL ms1 n1 = L := ⟨_, rfl⟩
  have HL1 := Lib.hid hL1
  clear hr1 hW1 hL1
  rcases hM0 : modB P0 D0 xs0 ms1 with i0
  have hM := Lib.hid hM0
  clear hM0
  by_cases hz0 : (n0 : Int) ≤ 1048576
  case neg =>
    go_enter Try.func3, Try.ntmps3
    have T0 := cells_new' w #[.int .i64 P0, .int .i64 D0, .slice a0 n0 c0] 24 (w.heap.size) (by simp)
    have A0_1 := Lib.hid (T0.ext (Ext.refl _))
    clear T0
    have E_2 := Lib.hid ((Ext.refl w).alloc (.cells #[.int .i64 P0, .int .i64 D0, .slice a0 n0 c0] 24))
    have lA0 := A0_1.out.1
    have qA00 := A0_1.out.2 0 _ rfl
    have qA01 := A0_1.out.2 1 _ rfl
    have qA02 := A0_1.out.2 2 _ rfl
    try simp only [World.size_alloc] at lA0
    go_wp2_with fail
    refine (szAlgebra_no _ _ _ _ _ _ _ (by omega) (by omega) hm0 (by omega)).mono ?_
    rintro e w_3 ⟨rfl, h_3⟩
    clear lA0 qA00 qA01 qA02
    go_wp2
    go_ret
    exact ⟨rfl, E_2.out.trans h_3⟩
  by_cases hz1 : (n0 : Int) + (L1 : Int) ≤ 1048576
  case neg =>
    go_enter Try.func3, Try.ntmps3
    have T0 := cells_new' w #[.int .i64 P0, .int .i64 D0, .slice a0 n0 c0] 24 (w.heap.size) (by simp)
    have A0_4 := Lib.hid (T0.ext (Ext.refl _))
    clear T0
    have E_5 := Lib.hid ((Ext.refl w).alloc (.cells #[.int .i64 P0, .int .i64 D0, .slice a0 n0 c0] 24))
    have lA0 := A0_4.out.1
    have qA00 := A0_4.out.2 0 _ rfl
    have qA01 := A0_4.out.2 1 _ rfl
    have qA02 := A0_4.out.2 2 _ rfl
    try simp only [World.size_alloc] at lA0
    go_wp2_with fail
    refine (szAlgebra_yes _ _ _ _ _ _ _ (by omega) (by omega)).mono ?_
    rintro e w_6 ⟨rfl, h_6⟩
    clear lA0 qA00 qA01 qA02
    have A0_7 := Lib.hid (A0_4.out.ext h_6)
    clear A0_4
    have E_8 := Lib.hid (E_5.out.trans h_6)
    clear E_5
    have z_9 := Ext.le h_6
    try simp only [World.size_alloc] at z_9
    have Z_9 := Lib.hid z_9
    clear z_9
    clear h_6
    have hp1 : 0 ≤ 1048576 - (n0 : Int) := by omega
    go_wp2_with fail
    refine (szMatrixS_no (HR1.out.ext E_8.out) HW1.out HL1.out (by omega) (by omega) hm1 (by omega)).mono ?_
    rintro e w_10 ⟨rfl, h_10⟩
    go_wp2
    go_ret
    exact ⟨rfl, E_8.out.trans h_10⟩
  have hln1 : n1 ≤ L1 := by rw [← HL1.out]; exact Nat.le_add_right _ _
  have HT1 : Hid ((dats ms1).flatten.length ≤ 1048576) := by
    have h1 := msL_all ms1
    rw [HR1.out.1] at h1
    have h2 := HL1.out
    show _ ≤ _
    omega
  have hn0 : n0 ≤ 1048576 := by omega
  have hn1 : n1 ≤ 1048576 := by omega
  have hto1 := totM_le ms1 n1 HR1.out.1 hn1 HT1.out
  go_enter Try.func3, Try.ntmps3
  have T0 := cells_new' w #[.int .i64 P0, .int .i64 D0, .slice a0 n0 c0] 24 (w.heap.size) (by simp)
  have A0_11 := Lib.hid (T0.ext (Ext.refl _))
  clear T0
  have E_12 := Lib.hid ((Ext.refl w).alloc (.cells #[.int .i64 P0, .int .i64 D0, .slice a0 n0 c0] 24))
  have lA0 := A0_11.out.1
  have qA00 := A0_11.out.2 0 _ rfl
  have qA01 := A0_11.out.2 1 _ rfl
  have qA02 := A0_11.out.2 2 _ rfl
  try simp only [World.size_alloc] at lA0
  go_wp2_with fail
  refine (szAlgebra_yes _ _ _ _ _ _ _ (by omega) (by omega)).mono ?_
  rintro e w_13 ⟨rfl, h_13⟩
  clear lA0 qA00 qA01 qA02
  have A0_14 := Lib.hid (A0_11.out.ext h_13)
  clear A0_11
  have E_15 := Lib.hid (E_12.out.trans h_13)
  clear E_12
  have z_16 := Ext.le h_13
  try simp only [World.size_alloc] at z_16
  have Z_16 := Lib.hid z_16
  clear z_16
  clear h_13
  have hp1 : 0 ≤ 1048576 - (n0 : Int) := by omega
  go_wp2_with fail
  refine (szMatrixS_yes (HR1.out.ext E_15.out) HW1.out HL1.out (by omega) hm1 (by omega)).mono ?_
  rintro e w_17 ⟨rfl, h_17⟩
  have A0_18 := Lib.hid (A0_14.out.ext h_17)
  clear A0_14
  have E_19 := Lib.hid (E_15.out.trans h_17)
  clear E_15
  have z_20 := Ext.le h_17
  try simp only [World.size_alloc] at z_20
  have Z_20 := Lib.hid z_20
  clear z_20
  clear h_17
  have hp : 0 ≤ 1048576 - (n0 : Int) - (L1 : Int) := by omega
  have lA0 := A0_18.out.1
  have qA00 := A0_18.out.2 0 _ rfl
  have qA01 := A0_18.out.2 1 _ rfl
  have qA02 := A0_18.out.2 2 _ rfl
  try simp only [World.size_alloc] at lA0
  go_wp2_with fail
  refine (toAlgebra_law _ _ _ _ _ xs0 _ (HR0.out.ext E_19.out) hn0).mono ?_
  rintro e w_21 ⟨b_21, rfl, o_21, h_21⟩
  clear lA0 qA00 qA01 qA02
  have A0_22 := Lib.hid (A0_18.out.ext h_21)
  clear A0_18
  have E_23 := Lib.hid (E_19.out.trans h_21)
  clear E_19
  have z_24 := Ext.le h_21
  try simp only [World.size_alloc] at z_24
  have Z_24 := Lib.hid z_24
  clear z_24
  have T0_25 := Lib.hid (o_21)
  clear o_21 h_21
  go_wp2_with fail
  refine (toMatrixS_law _ _ _ ms1 _ (HR1.out.ext E_23.out) hn1 HT1.out).mono ?_
  rintro e w_26 ⟨b_26, rfl, o_26, h_26⟩
  have A0_27 := Lib.hid (A0_22.out.ext h_26)
  clear A0_22
  have T0_28 := Lib.hid (T0_25.out.ext h_26)
  clear T0_25
  have E_29 := Lib.hid (E_23.out.trans h_26)
  clear E_23
  have z_30 := Ext.le h_26
  try simp only [World.size_alloc] at z_30
  have Z_30 := Lib.hid z_30
  clear z_30
  have T1_31 := Lib.hid (o_26)
  clear o_26 h_26
  go_wp2_with fail
  refine (isModule_spec T0_28.out.reads hn0 T1_31.out.reads hn1 hM.out).mono ?_
  rintro e w_32 ⟨rfl, h_32⟩
  clear T0_28
  clear T1_31
  have A0_33 := Lib.hid (A0_27.out.ext h_32)
  clear A0_27
  have E_34 := Lib.hid (E_29.out.trans h_32)
  clear E_29
  have z_35 := Ext.le h_32
  try simp only [World.size_alloc] at z_35
  have Z_35 := Lib.hid z_35
  clear z_35
  clear h_32
  have lA0 := A0_33.out.1
  have qA00 := A0_33.out.2 0 _ rfl
  have qA01 := A0_33.out.2 1 _ rfl
  have qA02 := A0_33.out.2 2 _ rfl
  try simp only [World.size_alloc] at lA0
  go_wp2_with fail
  refine (toAlgebra_law _ _ _ _ _ xs0 _ (HR0.out.ext E_34.out) hn0).mono ?_
  rintro e w_36 ⟨b_36, rfl, o_36, h_36⟩
  clear lA0 qA00 qA01 qA02
  have A0_37 := Lib.hid (A0_33.out.ext h_36)
  clear A0_33
  have E_38 := Lib.hid (E_34.out.trans h_36)
  clear E_34
  have z_39 := Ext.le h_36
  try simp only [World.size_alloc] at z_39
  have Z_39 := Lib.hid z_39
  clear z_39
  try simp only [World.size_alloc] at o_36
  have X0_40 := Lib.hid (o_36)
  clear o_36 h_36
  have P_41 := (Ext.refl w_36).alloc (.cells #[.int .i64 P0, .int .i64 D0, .slice (some ⟨b_36, 0, none⟩) n0 n0] 29)
  have A0_42 := Lib.hid (A0_37.out.ext P_41)
  clear A0_37
  have X0_43 := Lib.hid (X0_40.out.ext P_41)
  clear X0_40
  have E_44 := Lib.hid (E_38.out.trans P_41)
  clear E_38
  clear P_41
  have XB0_45 := Lib.hid (cells_new w_36 #[.int .i64 P0, .int .i64 D0, .slice (some ⟨b_36, 0, none⟩) n0 n0] 29)
  go_wp2_with fail
  refine (toMatrixS_law _ _ _ ms1 _ (HR1.out.ext E_44.out) hn1 HT1.out).mono ?_
  rintro e w_46 ⟨b_46, rfl, o_46, h_46⟩
  have A0_47 := Lib.hid (A0_42.out.ext h_46)
  clear A0_42
  have X0_48 := Lib.hid (X0_43.out.ext h_46)
  clear X0_43
  have XB0_49 := Lib.hid (XB0_45.out.ext h_46)
  clear XB0_45
  have E_50 := Lib.hid (E_44.out.trans h_46)
  clear E_44
  have z_51 := Ext.le h_46
  try simp only [World.size_alloc] at z_51
  have Z_51 := Lib.hid z_51
  clear z_51
  try simp only [World.size_alloc] at o_46
  have X1_52 := Lib.hid (o_46)
  clear o_46 h_46
  have lXB0 := XB0_49.out.1
  have qXB00 := XB0_49.out.2 0 _ rfl
  have qXB01 := XB0_49.out.2 1 _ rfl
  have qXB02 := XB0_49.out.2 2 _ rfl
  try simp only [World.size_alloc] at lXB0
  go_wp2_with fail
  refine (isModule_impl X0_48.out.reads hn0 X1_52.out.reads hn1 hM.out).mono ?_
  rintro e w_53 ⟨rfl, h_53⟩
  clear lXB0 qXB00 qXB01 qXB02
  have A0_54 := Lib.hid (A0_47.out.ext h_53)
  clear A0_47
  have X0_55 := Lib.hid (X0_48.out.ext h_53)
  clear X0_48
  have XB0_56 := Lib.hid (XB0_49.out.ext h_53)
  clear XB0_49
  have X1_57 := Lib.hid (X1_52.out.ext h_53)
  clear X1_52
  have E_58 := Lib.hid (E_50.out.trans h_53)
  clear E_50
  have z_59 := Ext.le h_53
  try simp only [World.size_alloc] at z_59
  have Z_59 := Lib.hid z_59
  clear z_59
  clear h_53
  have X1_60 := Lib.hid X1_57.out.1
  clear X1_57
  have lXB0 := XB0_56.out.1
  have qXB00 := XB0_56.out.2 0 _ rfl
  have qXB01 := XB0_56.out.2 1 _ rfl
  have qXB02 := XB0_56.out.2 2 _ rfl
  have lA0 := A0_54.out.1
  have qA00 := A0_54.out.2 0 _ rfl
  have qA01 := A0_54.out.2 1 _ rfl
  have qA02 := A0_54.out.2 2 _ rfl
  try simp only [World.size_alloc] at lXB0 lA0
  go_wp2_with fail
  go_region_held3 (fun w' => Ext w_53 w' ∧ (∀ b o, b < w_53.heap.size → w'.cell? ⟨b, o, none⟩ = w_53.cell? ⟨b, o, none⟩)) (first | (with_reducible exact ext2 (Ext.trans (And.left ‹Ext w_53 _ ∧ _›) ‹Ext _ _›)) | (refine ext2 ?_; with_reducible repeat (first | exact Ext.refl _ | refine Ext.drew ?_))) (first
    | (go_at_call 15; refine (toAlgebra_law _ _ _ _ _ xs0 _ (HR0.out.ext (E_58.out.trans (And.left ‹Ext w_53 _ ∧ _›))) hn0).mono ?_; rintro e w_61 ⟨b_61, rfl, o_61, h_61⟩)
    | (go_at_call 18; refine (eqAlgebra_law _ _ _ _ _ _ _ xs0 _ (Own.reads (Own.ext X0_55.out (And.left ‹Ext w_53 _ ∧ _›))) (Own.reads o_61) hn0).mono ?_; rintro e w_62 ⟨rfl, h_62⟩))
  clear lXB0 qXB00 qXB01 qXB02 lA0 qA00 qA01 qA02
  have hx_62 := And.left ‹Ext w_53 w_62 ∧ _›
  try clear h_61 h_62 o_61
  have A0_63 := Lib.hid (A0_54.out.ext hx_62)
  clear A0_54
  have X0_64 := Lib.hid (X0_55.out.ext hx_62)
  clear X0_55
  have XB0_65 := Lib.hid (XB0_56.out.ext hx_62)
  clear XB0_56
  have X1_66 := Lib.hid (X1_60.out.ext hx_62)
  clear X1_60
  have E_67 := Lib.hid (E_58.out.trans hx_62)
  clear E_58
  have z_68 := Ext.le hx_62
  try simp only [World.size_alloc] at z_68
  have Z_68 := Lib.hid z_68
  clear z_68
  clear hx_62
  go_wp2_with fail
  refine (toMatrixS_law _ _ _ ms1 _ (HR1.out.ext E_67.out) hn1 HT1.out).mono ?_
  rintro e w_69 ⟨b_69, rfl, o_69, h_69⟩
  have A0_70 := Lib.hid (A0_63.out.ext h_69)
  clear A0_63
  have X0_71 := Lib.hid (X0_64.out.ext h_69)
  clear X0_64
  have XB0_72 := Lib.hid (XB0_65.out.ext h_69)
  clear XB0_65
  have X1_73 := Lib.hid (X1_66.out.ext h_69)
  clear X1_66
  have E_74 := Lib.hid (E_67.out.trans h_69)
  clear E_67
  have z_75 := Ext.le h_69
  try simp only [World.size_alloc] at z_75
  have Z_75 := Lib.hid z_75
  clear z_75
  have T_76 := Lib.hid (o_69)
  clear o_69 h_69
  go_wp2_with fail
  refine (eqMatrixS_x _ _ _ _ _ _ _ _ _ ms1 _ X1_73.out T_76.out.1 hn1).mono ?_
  rintro e w_77 ⟨rfl, h_77⟩
  clear T_76
  have A0_78 := Lib.hid (A0_70.out.ext h_77)
  clear A0_70
  have X0_79 := Lib.hid (X0_71.out.ext h_77)
  clear X0_71
  have XB0_80 := Lib.hid (XB0_72.out.ext h_77)
  clear XB0_72
  have X1_81 := Lib.hid (X1_73.out.ext h_77)
  clear X1_73
  have E_82 := Lib.hid (E_74.out.trans h_77)
  clear E_74
  have z_83 := Ext.le h_77
  try simp only [World.size_alloc] at z_83
  have Z_83 := Lib.hid z_83
  clear z_83
  clear h_77
  go_wp2
  go_ret
  exact ⟨rfl, E_82.out⟩

set_option maxRecDepth 100000 in
theorem lifted (os : Os) (started : os.Started) (H : Type) (enc : TypeId × Value → H) :
    ReturnsInHanded {} Try.checked os 3 .any (Rows.fnExactIsModuleSpec.pre6 enc Try.prog Try.f3 Rows.fnExactIsModuleRow.domain false) (Rows.fnExactIsModuleSpec.post enc Try.prog Try.f3 false true false false) := by
  refine returnsInHanded_of_change (C := Try.checked) own started (by kernel_rfl) Try.func3
    (ChangeSpec.witness6 (enc := enc) (C := Try.checked) false ⟨#[], #[.agg #[.int .i64 0, .int .i64 0, .slice none 0 0], .slice none 0 0], []⟩ 8 (by kernel_rfl) (by kernel_rfl) (by kernel_rfl) (by kernel_rfl)) ?_
  intro W base args ds gs before hval0 hW hcnd _
  have hval : ∀ (j : Nat) t v, Try.f3.params[j]? = some t → args[j]? = some v → Value.okWide Try.prog W .any base t v := hval0
  have hW' := hW
  obtain ⟨p, q, hA0, hV, rfl, hfz, hnd⟩ := hW
  have hA : DataW.TrodAll enc Try.prog W 0 (fun _ => true) true Try.f3.params.toList args.toList ds p := hA0
  rw [Try.params3] at hA hval
  obtain ⟨v0, vs0, d0, ds0, p0, q0, hargs, rfl, rfl, h0, r0⟩ := trodAll_cons hA
  obtain ⟨v1, vs1, d1, ds1, p1, q1, rfl, rfl, rfl, h1, r1⟩ := trodAll_cons r0
  obtain ⟨rfl, rfl, rfl⟩ := trodAll_nil r1
  obtain rfl : args = #[v0, v1] := by cases args; simp_all
  obtain ⟨rfl, rfl⟩ := trodVars_none hV
  have k0 := h0
  have lt0 : ∀ x ∈ p0, x.block < W.heap.size := by obtain ⟨m, hm⟩ := k0; exact DataW.trod_lt m _ _ _ hm
  obtain ⟨P0, D0, a0, n0, c0, xs0, rfl, w0⟩ := open_alg (hval 0 _ v0 rfl rfl) h0
  have k1 := h1
  have lt1 : ∀ x ∈ p1, x.block < W.heap.size := by obtain ⟨m, hm⟩ := k1; exact DataW.trod_lt m _ _ _ hm
  obtain ⟨a1, n1, c1, ms1, rfl, w1⟩ := open_mats (hval 1 _ v1 rfl rfl) h1
  clear hA0 hval0
  refine (walk P0 D0 a0 n0 c0 xs0 a1 n1 c1 ms1 W w0 w1).mono fun e W' ⟨he, bel⟩ => ?_
  subst he
  exact ⟨_, rfl, _, _, _, [], _, [], hW', trodAll_mk1 (shut_bool Try.underlying4 _), (trodAll_cons_mk (Below.trod laidOut (by kernel_rfl) (of_decide_eq_true (by kernel_rfl)) k0 bel lt0) (trodAll_cons_mk (Below.trod laidOut (by kernel_rfl) (of_decide_eq_true (by kernel_rfl)) k1 bel lt1) trodAll_mk0)), rfl, Below.frame bel _, fun h => by cases h⟩

set_option maxRecDepth 1000000 in
set_option maxHeartbeats 40000000 in
theorem closed : joinedFacts Try.pinned.checked.prog 3 Try.f3 Rows.fnExactIsModuleSpec Rows.fnExactIsModuleRow = true := by
  unfold joinedFacts
  repeat' (with_reducible refine and2 ?_ ?_)
  all_goals (first | (with_reducible exact seat_laid) | (with_reducible exact seat_maps) | (with_reducible exact seat_heard) | (with_reducible exact seat_enter) | (with_reducible refine seat_lifts ?_; kernel_rfl) | (with_reducible refine seat_make ?_; kernel_rfl) | (with_reducible refine seat_plain ?_; kernel_rfl) | (as_aux_lemma => kernel_rfl))

theorem over : Rows.fnExactIsModuleRow.holds Try.pinned (OpenSpec.ofChange Rows.fnExactIsModuleSpec) :=
  OpenClaim.holds_of_wide 3 Try.f3 rfl rfl rfl rfl rfl rfl rfl ⟨rfl, rfl, rfl, rfl, rfl⟩ rfl rfl rfl rfl rfl (by kernel_rfl) Try.func3 closed
    (of_decide_eq_true (by kernel_rfl)) (by unfold Func.isWrapper; first | (rw [if_pos (by decide +kernel)]; kernel_rfl) | (rw [if_neg (by decide +kernel)]; exact ⟨rfl, rfl⟩))
    (fun os started H enc _ => lifted os started H enc)

/-- The statement. -/
theorem proved : Rows.FnExactIsModuleSaid := over
#print axioms proved
end Go.Proofs.Ytnikfalpjieibaa.fnExactIsModule
