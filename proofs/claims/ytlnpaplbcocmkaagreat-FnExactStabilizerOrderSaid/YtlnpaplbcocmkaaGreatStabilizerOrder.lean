/-
  Proved: the statement given for the law FnExactStabilizerOrder: at every input the Go text returns true, with no panic, and the arguments read as they read before. No condition is added.
-/
import Derived.Test.YtlnpaplbcocmkaaGreatFr
import Derived.Test.YtlnpaplbcocmkaaGreatRowC
import Derived.Test.YtlnpaplbcocmkaaGreatOb
import Derived.Test.YtlnpaplbcocmkaaGreatSCartan
import Derived.Test.YtlnpaplbcocmkaaGreatSeatF
namespace Go.Proofs.YtlnpaplbcocmkaaGreat.fnExactStabilizerOrder
open Go.ChangeShapes Go.WideShapes Go.ChangeAt Go.RowKit
open Go.ChangeMaps (open_string shut_string)
set_option linter.unusedVariables false

set_option maxRecDepth 100000 in
set_option maxHeartbeats 3200000 in
/-- The walk: the Go text returns true, and nothing that was there has changed. -/
theorem walk (R0 : Int) (a0 : Option Addr) (n0 c0 : Nat) (xs0 : List Int) (a1 : Option Addr) (n1 c1 : Nat) (xs1 : List Int) (w : World) (w0 : Reads w a0 n0 xs0 ∧ n0 ≤ maxLen) (w1 : Reads w a1 n1 xs1 ∧ n1 ≤ maxLen) :
    Calls Tryz.prog 11 #[.agg #[.int .i64 R0, .slice a0 n0 c0], .slice a1 n1 c1] w fun e w' => e = .returned (.bool true) ∧ Ext w w' := by
  obtain ⟨hr0, hm0⟩ := w0
  have HR0 := Lib.hid hr0
  clear hr0
  obtain ⟨hr1, hm1⟩ := w1
  have HR1 := Lib.hid hr1
  clear hr1
  rcases hM0 : stO R0 xs0 xs1 with i0
  have hM := Lib.hid hM0
  clear hM0
  by_cases hz0 : (n1 : Int) ≤ 1048576
  case neg =>
    go_enter Tryz.func11, Tryz.ntmps11
    have T0 := cells_new' w #[.int .i64 R0, .slice a0 n0 c0] 24 (w.heap.size) (by simp)
    have A0_1 := Lib.hid (T0.ext (Ext.refl _))
    clear T0
    have E_2 := Lib.hid ((Ext.refl w).alloc (.cells #[.int .i64 R0, .slice a0 n0 c0] 24))
    have hlt : (1048576 : Int) < (n1 : Int) := by omega
    go_wp2
    go_ret
    exact ⟨rfl, E_2.out⟩
  by_cases hz1 : (n0 : Int) ≤ 1048576
  case neg =>
    go_enter Tryz.func11, Tryz.ntmps11
    have T0 := cells_new' w #[.int .i64 R0, .slice a0 n0 c0] 24 (w.heap.size) (by simp)
    have A0_3 := Lib.hid (T0.ext (Ext.refl _))
    clear T0
    have E_4 := Lib.hid ((Ext.refl w).alloc (.cells #[.int .i64 R0, .slice a0 n0 c0] 24))
    have lA0 := A0_3.out.1
    have qA00 := A0_3.out.2 0 _ rfl
    have qA01 := A0_3.out.2 1 _ rfl
    try simp only [World.size_alloc] at lA0
    go_wp2_with fail
    refine (szCartan_no _ _ _ _ _ _ (by omega) (by omega) hm0 (by omega)).mono ?_
    rintro e w_5 ⟨rfl, h_5⟩
    clear lA0 qA00 qA01
    go_wp2
    go_ret
    exact ⟨rfl, E_4.out.trans h_5⟩
  have hn0 : n0 ≤ 1048576 := by omega
  have hn1 : n1 ≤ 1048576 := by omega
  go_enter Tryz.func11, Tryz.ntmps11
  have T0 := cells_new' w #[.int .i64 R0, .slice a0 n0 c0] 24 (w.heap.size) (by simp)
  have A0_6 := Lib.hid (T0.ext (Ext.refl _))
  clear T0
  have E_7 := Lib.hid ((Ext.refl w).alloc (.cells #[.int .i64 R0, .slice a0 n0 c0] 24))
  have lA0 := A0_6.out.1
  have qA00 := A0_6.out.2 0 _ rfl
  have qA01 := A0_6.out.2 1 _ rfl
  try simp only [World.size_alloc] at lA0
  go_wp2_with fail
  refine (szCartan_yes _ _ _ _ _ _ (by omega) (by omega)).mono ?_
  rintro e w_8 ⟨rfl, h_8⟩
  clear lA0 qA00 qA01
  have A0_9 := Lib.hid (A0_6.out.ext h_8)
  clear A0_6
  have E_10 := Lib.hid (E_7.out.trans h_8)
  clear E_7
  have z_11 := Ext.le h_8
  try simp only [World.size_alloc] at z_11
  have Z_11 := Lib.hid z_11
  clear z_11
  clear h_8
  have hp : 0 ≤ 1048576 - (n0 : Int) := by omega
  have lA0 := A0_9.out.1
  have qA00 := A0_9.out.2 0 _ rfl
  have qA01 := A0_9.out.2 1 _ rfl
  try simp only [World.size_alloc] at lA0
  go_wp2_with fail
  refine (toCartan_law _ _ _ _ xs0 _ (HR0.out.ext E_10.out) hn0).mono ?_
  rintro e w_12 ⟨b_12, rfl, o_12, h_12⟩
  clear lA0 qA00 qA01
  have A0_13 := Lib.hid (A0_9.out.ext h_12)
  clear A0_9
  have E_14 := Lib.hid (E_10.out.trans h_12)
  clear E_10
  have z_15 := Ext.le h_12
  try simp only [World.size_alloc] at z_15
  have Z_15 := Lib.hid z_15
  clear z_15
  have T0_16 := Lib.hid (o_12)
  clear o_12 h_12
  go_wp2_with fail
  refine (toIntS_law _ _ _ xs1 _ (HR1.out.ext E_14.out) hn1).mono ?_
  rintro e w_17 ⟨b_17, rfl, o_17, h_17⟩
  have A0_18 := Lib.hid (A0_13.out.ext h_17)
  clear A0_13
  have T0_19 := Lib.hid (T0_16.out.ext h_17)
  clear T0_16
  have E_20 := Lib.hid (E_14.out.trans h_17)
  clear E_14
  have z_21 := Ext.le h_17
  try simp only [World.size_alloc] at z_21
  have Z_21 := Lib.hid z_21
  clear z_21
  have T1_22 := Lib.hid (o_17)
  clear o_17 h_17
  go_wp2_with fail
  refine (stabilizerOrder_spec T0_19.out.reads hn0 T1_22.out.reads hn1 hM.out).mono ?_
  rintro e w_23 ⟨rfl, h_23⟩
  clear T0_19
  clear T1_22
  have A0_24 := Lib.hid (A0_18.out.ext h_23)
  clear A0_18
  have E_25 := Lib.hid (E_20.out.trans h_23)
  clear E_20
  have z_26 := Ext.le h_23
  try simp only [World.size_alloc] at z_26
  have Z_26 := Lib.hid z_26
  clear z_26
  clear h_23
  have lA0 := A0_24.out.1
  have qA00 := A0_24.out.2 0 _ rfl
  have qA01 := A0_24.out.2 1 _ rfl
  try simp only [World.size_alloc] at lA0
  go_wp2_with fail
  refine (toCartan_law _ _ _ _ xs0 _ (HR0.out.ext E_25.out) hn0).mono ?_
  rintro e w_27 ⟨b_27, rfl, o_27, h_27⟩
  clear lA0 qA00 qA01
  have A0_28 := Lib.hid (A0_24.out.ext h_27)
  clear A0_24
  have E_29 := Lib.hid (E_25.out.trans h_27)
  clear E_25
  have z_30 := Ext.le h_27
  try simp only [World.size_alloc] at z_30
  have Z_30 := Lib.hid z_30
  clear z_30
  try simp only [World.size_alloc] at o_27
  have X0_31 := Lib.hid (o_27)
  clear o_27 h_27
  have P_32 := (Ext.refl w_27).alloc (.cells #[.int .i64 R0, .slice (some ⟨b_27, 0, none⟩) n0 n0] 27)
  have A0_33 := Lib.hid (A0_28.out.ext P_32)
  clear A0_28
  have X0_34 := Lib.hid (X0_31.out.ext P_32)
  clear X0_31
  have E_35 := Lib.hid (E_29.out.trans P_32)
  clear E_29
  clear P_32
  have XB0_36 := Lib.hid (cells_new w_27 #[.int .i64 R0, .slice (some ⟨b_27, 0, none⟩) n0 n0] 27)
  go_wp2_with fail
  refine (toIntS_law _ _ _ xs1 _ (HR1.out.ext E_35.out) hn1).mono ?_
  rintro e w_37 ⟨b_37, rfl, o_37, h_37⟩
  have A0_38 := Lib.hid (A0_33.out.ext h_37)
  clear A0_33
  have X0_39 := Lib.hid (X0_34.out.ext h_37)
  clear X0_34
  have XB0_40 := Lib.hid (XB0_36.out.ext h_37)
  clear XB0_36
  have E_41 := Lib.hid (E_35.out.trans h_37)
  clear E_35
  have z_42 := Ext.le h_37
  try simp only [World.size_alloc] at z_42
  have Z_42 := Lib.hid z_42
  clear z_42
  try simp only [World.size_alloc] at o_37
  have X1_43 := Lib.hid (o_37)
  clear o_37 h_37
  have lXB0 := XB0_40.out.1
  have qXB00 := XB0_40.out.2 0 _ rfl
  have qXB01 := XB0_40.out.2 1 _ rfl
  try simp only [World.size_alloc] at lXB0
  go_wp2_with fail
  refine (stabilizerOrder_impl X0_39.out.reads hn0 X1_43.out.reads hn1 hM.out).mono ?_
  rintro e w_44 ⟨rfl, h_44⟩
  clear lXB0 qXB00 qXB01
  have A0_45 := Lib.hid (A0_38.out.ext h_44)
  clear A0_38
  have X0_46 := Lib.hid (X0_39.out.ext h_44)
  clear X0_39
  have XB0_47 := Lib.hid (XB0_40.out.ext h_44)
  clear XB0_40
  have X1_48 := Lib.hid (X1_43.out.ext h_44)
  clear X1_43
  have E_49 := Lib.hid (E_41.out.trans h_44)
  clear E_41
  have z_50 := Ext.le h_44
  try simp only [World.size_alloc] at z_50
  have Z_50 := Lib.hid z_50
  clear z_50
  clear h_44
  have lXB0 := XB0_47.out.1
  have qXB00 := XB0_47.out.2 0 _ rfl
  have qXB01 := XB0_47.out.2 1 _ rfl
  have lA0 := A0_45.out.1
  have qA00 := A0_45.out.2 0 _ rfl
  have qA01 := A0_45.out.2 1 _ rfl
  try simp only [World.size_alloc] at lXB0 lA0
  go_wp2_with fail
  go_region_held3 (fun w' => Ext w_44 w' ∧ (∀ b o, b < w_44.heap.size → w'.cell? ⟨b, o, none⟩ = w_44.cell? ⟨b, o, none⟩)) (first | (with_reducible exact ext2 (Ext.trans (And.left ‹Ext w_44 _ ∧ _›) ‹Ext _ _›)) | (refine ext2 ?_; with_reducible repeat (first | exact Ext.refl _ | refine Ext.drew ?_))) (first
    | (go_at_call 17; refine (toCartan_law _ _ _ _ xs0 _ (HR0.out.ext (E_49.out.trans (And.left ‹Ext w_44 _ ∧ _›))) hn0).mono ?_; rintro e w_51 ⟨b_51, rfl, o_51, h_51⟩)
    | (go_at_call 19; refine (eqCartan_law _ _ _ _ _ _ xs0 _ (Own.reads (Own.ext X0_46.out (And.left ‹Ext w_44 _ ∧ _›))) (Own.reads o_51) hn0).mono ?_; rintro e w_52 ⟨rfl, h_52⟩))
  clear lXB0 qXB00 qXB01 lA0 qA00 qA01
  have hx_52 := And.left ‹Ext w_44 w_52 ∧ _›
  try clear h_51 h_52 o_51
  have A0_53 := Lib.hid (A0_45.out.ext hx_52)
  clear A0_45
  have X0_54 := Lib.hid (X0_46.out.ext hx_52)
  clear X0_46
  have XB0_55 := Lib.hid (XB0_47.out.ext hx_52)
  clear XB0_47
  have X1_56 := Lib.hid (X1_48.out.ext hx_52)
  clear X1_48
  have E_57 := Lib.hid (E_49.out.trans hx_52)
  clear E_49
  have z_58 := Ext.le hx_52
  try simp only [World.size_alloc] at z_58
  have Z_58 := Lib.hid z_58
  clear z_58
  clear hx_52
  go_wp2_with fail
  refine (toIntS_law _ _ _ xs1 _ (HR1.out.ext E_57.out) hn1).mono ?_
  rintro e w_59 ⟨b_59, rfl, o_59, h_59⟩
  have A0_60 := Lib.hid (A0_53.out.ext h_59)
  clear A0_53
  have X0_61 := Lib.hid (X0_54.out.ext h_59)
  clear X0_54
  have XB0_62 := Lib.hid (XB0_55.out.ext h_59)
  clear XB0_55
  have X1_63 := Lib.hid (X1_56.out.ext h_59)
  clear X1_56
  have E_64 := Lib.hid (E_57.out.trans h_59)
  clear E_57
  have z_65 := Ext.le h_59
  try simp only [World.size_alloc] at z_65
  have Z_65 := Lib.hid z_65
  clear z_65
  have T_66 := Lib.hid (o_59)
  clear o_59 h_59
  go_wp2_with fail
  refine (eqIntS_x _ _ _ _ _ xs1 _ X1_63.out.reads T_66.out.reads hn1).mono ?_
  rintro e w_67 ⟨rfl, h_67⟩
  clear T_66
  have A0_68 := Lib.hid (A0_60.out.ext h_67)
  clear A0_60
  have X0_69 := Lib.hid (X0_61.out.ext h_67)
  clear X0_61
  have XB0_70 := Lib.hid (XB0_62.out.ext h_67)
  clear XB0_62
  have X1_71 := Lib.hid (X1_63.out.ext h_67)
  clear X1_63
  have E_72 := Lib.hid (E_64.out.trans h_67)
  clear E_64
  have z_73 := Ext.le h_67
  try simp only [World.size_alloc] at z_73
  have Z_73 := Lib.hid z_73
  clear z_73
  clear h_67
  go_wp2
  go_ret
  exact ⟨rfl, E_72.out⟩

set_option maxRecDepth 100000 in
theorem lifted (os : Os) (started : os.Started) (H : Type) (enc : TypeId × Value → H) :
    ReturnsInHanded {} Tryz.checked os 11 .any (Rows.fnExactStabilizerOrderSpec.pre6 enc Tryz.prog Tryz.f11 Rows.fnExactStabilizerOrderRow.domain false) (Rows.fnExactStabilizerOrderSpec.post enc Tryz.prog Tryz.f11 false true false false) := by
  refine returnsInHanded_of_change (C := Tryz.checked) own started (by kernel_rfl) Tryz.func11
    (ChangeSpec.witness6 (enc := enc) (C := Tryz.checked) false ⟨#[], #[.agg #[.int .i64 0, .slice none 0 0], .slice none 0 0], []⟩ 8 (by kernel_rfl) (by kernel_rfl) (by kernel_rfl) (by kernel_rfl)) ?_
  intro W base args ds gs before hval0 hW hcnd _
  have hval : ∀ (j : Nat) t v, Tryz.f11.params[j]? = some t → args[j]? = some v → Value.okWide Tryz.prog W .any base t v := hval0
  have hW' := hW
  obtain ⟨p, q, hA0, hV, rfl, hfz, hnd⟩ := hW
  have hA : DataW.TrodAll enc Tryz.prog W 0 (fun _ => true) true Tryz.f11.params.toList args.toList ds p := hA0
  rw [Tryz.params11] at hA hval
  obtain ⟨v0, vs0, d0, ds0, p0, q0, hargs, rfl, rfl, h0, r0⟩ := trodAll_cons hA
  obtain ⟨v1, vs1, d1, ds1, p1, q1, rfl, rfl, rfl, h1, r1⟩ := trodAll_cons r0
  obtain ⟨rfl, rfl, rfl⟩ := trodAll_nil r1
  obtain rfl : args = #[v0, v1] := by cases args; simp_all
  obtain ⟨rfl, rfl⟩ := trodVars_none hV
  have k0 := h0
  have lt0 : ∀ x ∈ p0, x.block < W.heap.size := by obtain ⟨m, hm⟩ := k0; exact DataW.trod_lt m _ _ _ hm
  obtain ⟨R0, a0, n0, c0, xs0, rfl, w0⟩ := open_car (hval 0 _ v0 rfl rfl) h0
  have k1 := h1
  have lt1 : ∀ x ∈ p1, x.block < W.heap.size := by obtain ⟨m, hm⟩ := k1; exact DataW.trod_lt m _ _ _ hm
  obtain ⟨a1, n1, c1, xs1, rfl, w1⟩ := open_intsl (hval 1 _ v1 rfl rfl) h1
  clear hA0 hval0
  refine (walk R0 a0 n0 c0 xs0 a1 n1 c1 xs1 W w0 w1).mono fun e W' ⟨he, bel⟩ => ?_
  subst he
  exact ⟨_, rfl, _, _, _, [], _, [], hW', trodAll_mk1 (shut_bool Tryz.underlying4 _), (trodAll_cons_mk (Below.trod laidOut (by kernel_rfl) (of_decide_eq_true (by kernel_rfl)) k0 bel lt0) (trodAll_cons_mk (Below.trod laidOut (by kernel_rfl) (of_decide_eq_true (by kernel_rfl)) k1 bel lt1) trodAll_mk0)), rfl, Below.frame bel _, fun h => by cases h⟩

set_option maxRecDepth 1000000 in
set_option maxHeartbeats 40000000 in
theorem closed : joinedFacts Tryz.pinned.checked.prog 11 Tryz.f11 Rows.fnExactStabilizerOrderSpec Rows.fnExactStabilizerOrderRow = true := by
  unfold joinedFacts
  repeat' (with_reducible refine and2 ?_ ?_)
  all_goals (first | (with_reducible exact seat_laid) | (with_reducible exact seat_maps) | (with_reducible exact seat_heard) | (with_reducible exact seat_enter) | (with_reducible refine seat_lifts ?_; kernel_rfl) | (with_reducible refine seat_make ?_; kernel_rfl) | (with_reducible refine seat_plain ?_; kernel_rfl) | (as_aux_lemma => kernel_rfl))

theorem over : Rows.fnExactStabilizerOrderRow.holds Tryz.pinned (OpenSpec.ofChange Rows.fnExactStabilizerOrderSpec) :=
  OpenClaim.holds_of_wide 11 Tryz.f11 rfl rfl rfl rfl rfl rfl rfl ⟨rfl, rfl, rfl, rfl, rfl⟩ rfl rfl rfl rfl rfl (by kernel_rfl) Tryz.func11 closed
    (of_decide_eq_true (by kernel_rfl)) (by unfold Func.isWrapper; first | (rw [if_pos (by decide +kernel)]; kernel_rfl) | (rw [if_neg (by decide +kernel)]; exact ⟨rfl, rfl⟩))
    (fun os started H enc _ => lifted os started H enc)

/-- The statement. -/
theorem proved : Rows.FnExactStabilizerOrderSaid := over
#print axioms proved
end Go.Proofs.YtlnpaplbcocmkaaGreat.fnExactStabilizerOrder
