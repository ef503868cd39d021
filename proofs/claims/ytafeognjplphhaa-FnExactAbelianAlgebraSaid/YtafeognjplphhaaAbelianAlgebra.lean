/-
  Proved: the statement given for the law FnExactAbelianAlgebra: at every input the Go text returns true, with no panic, and the arguments read as they read before. No condition is added.
-/
import Derived.Test.YtafeognjplphhaaBox
import Derived.Test.YtafeognjplphhaaRowA
import Derived.Test.YtafeognjplphhaaAlgE
import Derived.Test.YtafeognjplphhaaSAlgebra
namespace Go.Proofs.Ytafeognjplphhaa.fnExactAbelianAlgebra
open Go.ChangeShapes Go.WideShapes Go.ChangeAt Go.RowKit
open Go.ChangeMaps (open_string shut_string)
set_option linter.unusedVariables false

set_option maxRecDepth 100000 in
set_option maxHeartbeats 3200000 in
/-- The walk: the Go text returns true, and nothing that was there has changed. -/
theorem walk (a0 : Int) (a1 : Int) (w : World) (w0 : (Lit.int .i64 a0).wf = true) (w1 : (Lit.int .i64 a1).wf = true) :
    Calls Try.prog 11 #[.int .i64 a0, .int .i64 a1] w fun e w' => e = .returned (.bool true) ∧ Ext w w' := by
  rcases hM0 : abelA a0 a1 with ⟨pP0, pD0, d0⟩
  have hM := Lib.hid hM0
  clear hM0
  go_enter Try.func11, Try.ntmps11
  have E_1 := Lib.hid (Ext.refl w)
  go_wp2_with fail
  refine (abelianAlgebra_spec hM.out).mono ?_
  rintro e w_2 ⟨v0, rfl, ⟨sa0, sn0, sc0, rfl, sO0, sm0⟩, h_2⟩
  have E_3 := Lib.hid (E_1.out.trans h_2)
  clear E_1
  have z_4 := Ext.le h_2
  try simp only [World.size_alloc] at z_4
  have Z_4 := Lib.hid z_4
  clear z_4
  clear h_2
  try simp only [World.size_alloc] at sO0
  have S0_5 := Lib.hid (sO0)
  clear sO0
  have P_6 := (Ext.refl w_2).alloc (.cells #[.int .i64 pP0, .int .i64 pD0, .slice sa0 sn0 sc0] 46)
  have S0_7 := Lib.hid (S0_5.out.ext P_6)
  clear S0_5
  have E_8 := Lib.hid (E_3.out.trans P_6)
  clear E_3
  clear P_6
  have SB0_9 := Lib.hid (cells_new w_2 #[.int .i64 pP0, .int .i64 pD0, .slice sa0 sn0 sc0] 46)
  go_wp2_with fail
  refine (abelianAlgebra_impl hM.out).mono ?_
  rintro e w_10 ⟨v0, rfl, ⟨ga0, gn0, gc0, rfl, gO0, gm0⟩, h_10⟩
  have S0_11 := Lib.hid (S0_7.out.ext h_10)
  clear S0_7
  have SB0_12 := Lib.hid (SB0_9.out.ext h_10)
  clear SB0_9
  have E_13 := Lib.hid (E_8.out.trans h_10)
  clear E_8
  have z_14 := Ext.le h_10
  try simp only [World.size_alloc] at z_14
  have Z_14 := Lib.hid z_14
  clear z_14
  clear h_10
  try simp only [World.size_alloc] at gO0
  have G0_15 := Lib.hid (gO0)
  clear gO0
  have P_16 := (Ext.refl w_10).alloc (.cells #[.int .i64 pP0, .int .i64 pD0, .slice ga0 gn0 gc0] 46)
  have S0_17 := Lib.hid (S0_11.out.ext P_16)
  clear S0_11
  have SB0_18 := Lib.hid (SB0_12.out.ext P_16)
  clear SB0_12
  have G0_19 := Lib.hid (G0_15.out.ext P_16)
  clear G0_15
  have E_20 := Lib.hid (E_13.out.trans P_16)
  clear E_13
  clear P_16
  have GB0_21 := Lib.hid (cells_new w_10 #[.int .i64 pP0, .int .i64 pD0, .slice ga0 gn0 gc0] 46)
  obtain rfl : sn0 = gn0 := S0_17.out.len.symm.trans G0_19.out.len
  have lGB0 := GB0_21.out.1
  have qGB00 := GB0_21.out.2 0 _ rfl
  have qGB01 := GB0_21.out.2 1 _ rfl
  have qGB02 := GB0_21.out.2 2 _ rfl
  have lSB0 := SB0_18.out.1
  have qSB00 := SB0_18.out.2 0 _ rfl
  have qSB01 := SB0_18.out.2 1 _ rfl
  have qSB02 := SB0_18.out.2 2 _ rfl
  try simp only [World.size_alloc] at lGB0 lSB0
  go_wp2_with fail
  refine (eqAlgebra_law _ _ _ _ _ _ _ d0 _ G0_19.out.reads S0_17.out.reads gm0).mono ?_
  rintro e w_22 ⟨rfl, h_22⟩
  clear lGB0 qGB00 qGB01 qGB02 lSB0 qSB00 qSB01 qSB02
  have S0_23 := Lib.hid (S0_17.out.ext h_22)
  clear S0_17
  have SB0_24 := Lib.hid (SB0_18.out.ext h_22)
  clear SB0_18
  have G0_25 := Lib.hid (G0_19.out.ext h_22)
  clear G0_19
  have GB0_26 := Lib.hid (GB0_21.out.ext h_22)
  clear GB0_21
  have E_27 := Lib.hid (E_20.out.trans h_22)
  clear E_20
  have z_28 := Ext.le h_22
  try simp only [World.size_alloc] at z_28
  have Z_28 := Lib.hid z_28
  clear z_28
  clear h_22
  have G0_b29 := Lib.hid G0_25.out.blk
  have lGB0 := GB0_26.out.1
  have qGB00 := GB0_26.out.2 0 _ rfl
  have qGB01 := GB0_26.out.2 1 _ rfl
  have qGB02 := GB0_26.out.2 2 _ rfl
  try simp only [World.size_alloc] at lGB0
  go_wp2_with fail
  refine (markAlgebra_law _ _ _ _ _ _ _ _ _ _ G0_25.out gm0 (by omega) (by omega)).mono ?_
  rintro e w_30 ⟨rfl, o_30, g_30⟩
  clear lGB0 qGB00 qGB01 qGB02
  clear G0_25
  have S0_31 := Lib.hid (S0_23.out.grown g_30 (fun k hk => by have := G0_b29.out k hk; have := Z_4.out; have := Z_14.out; have := Z_28.out; omega))
  clear S0_23
  have SB0_32 := Lib.hid (SB0_24.out.grown g_30 (fun k hk => by have := G0_b29.out k hk; have := Z_4.out; have := Z_14.out; have := Z_28.out; omega))
  clear SB0_24
  have GB0_33 := Lib.hid (GB0_26.out.grown g_30 (fun k hk => by have := G0_b29.out k hk; have := Z_4.out; have := Z_14.out; have := Z_28.out; omega))
  clear GB0_26
  have E_34 := Lib.hid (E_27.out.grown g_30 (fun k hk => by have := G0_b29.out k hk; have := Z_4.out; have := Z_14.out; have := Z_28.out; omega))
  clear E_27
  have Z_35 := Lib.hid g_30.size
  clear g_30 G0_b29
  have G0_36 := Lib.hid (o_30)
  clear o_30
  have lGB0 := GB0_33.out.1
  have qGB00 := GB0_33.out.2 0 _ rfl
  have qGB01 := GB0_33.out.2 1 _ rfl
  have qGB02 := GB0_33.out.2 2 _ rfl
  try simp only [World.size_alloc] at lGB0
  go_wp2_with fail
  refine (heldAlgebra_law _ _ _ _ _ _ _ G0_36.out.reads gm0 (by omega) (by omega)).mono ?_
  rintro e w_37 ⟨rfl, h_37⟩
  clear lGB0 qGB00 qGB01 qGB02
  have hq37 : 0 ≤ 1 + (sn0 : Int) := by omega
  have S0_38 := Lib.hid (S0_31.out.ext h_37)
  clear S0_31
  have SB0_39 := Lib.hid (SB0_32.out.ext h_37)
  clear SB0_32
  have GB0_40 := Lib.hid (GB0_33.out.ext h_37)
  clear GB0_33
  have G0_41 := Lib.hid (G0_36.out.ext h_37)
  clear G0_36
  have E_42 := Lib.hid (E_34.out.trans h_37)
  clear E_34
  have z_43 := Ext.le h_37
  try simp only [World.size_alloc] at z_43
  have Z_43 := Lib.hid z_43
  clear z_43
  clear h_37
  go_wp2_with fail
  refine (abelianAlgebra_impl hM.out).mono ?_
  rintro e w_44 ⟨v0, rfl, ⟨ta0, tn0, tc0, rfl, tO0, tm0⟩, h_44⟩
  have S0_45 := Lib.hid (S0_38.out.ext h_44)
  clear S0_38
  have SB0_46 := Lib.hid (SB0_39.out.ext h_44)
  clear SB0_39
  have GB0_47 := Lib.hid (GB0_40.out.ext h_44)
  clear GB0_40
  have G0_48 := Lib.hid (G0_41.out.ext h_44)
  clear G0_41
  have E_49 := Lib.hid (E_42.out.trans h_44)
  clear E_42
  have z_50 := Ext.le h_44
  try simp only [World.size_alloc] at z_50
  have Z_50 := Lib.hid z_50
  clear z_50
  clear h_44
  try simp only [World.size_alloc] at tO0
  have H0_51 := Lib.hid (tO0)
  clear tO0
  have P_52 := (Ext.refl w_44).alloc (.cells #[.int .i64 pP0, .int .i64 pD0, .slice ta0 tn0 tc0] 46)
  have S0_53 := Lib.hid (S0_45.out.ext P_52)
  clear S0_45
  have SB0_54 := Lib.hid (SB0_46.out.ext P_52)
  clear SB0_46
  have GB0_55 := Lib.hid (GB0_47.out.ext P_52)
  clear GB0_47
  have G0_56 := Lib.hid (G0_48.out.ext P_52)
  clear G0_48
  have H0_57 := Lib.hid (H0_51.out.ext P_52)
  clear H0_51
  have E_58 := Lib.hid (E_49.out.trans P_52)
  clear E_49
  clear P_52
  have HB0_59 := Lib.hid (cells_new w_44 #[.int .i64 pP0, .int .i64 pD0, .slice ta0 tn0 tc0] 46)
  obtain rfl : sn0 = tn0 := S0_53.out.len.symm.trans H0_57.out.len
  have lHB0 := HB0_59.out.1
  have qHB00 := HB0_59.out.2 0 _ rfl
  have qHB01 := HB0_59.out.2 1 _ rfl
  have qHB02 := HB0_59.out.2 2 _ rfl
  have lSB0 := SB0_54.out.1
  have qSB00 := SB0_54.out.2 0 _ rfl
  have qSB01 := SB0_54.out.2 1 _ rfl
  have qSB02 := SB0_54.out.2 2 _ rfl
  try simp only [World.size_alloc] at lHB0 lSB0
  go_wp2_with fail
  refine (eqAlgebra_law _ _ _ _ _ _ _ d0 _ H0_57.out.reads S0_53.out.reads gm0).mono ?_
  rintro e w_60 ⟨rfl, h_60⟩
  clear lHB0 qHB00 qHB01 qHB02 lSB0 qSB00 qSB01 qSB02
  have S0_61 := Lib.hid (S0_53.out.ext h_60)
  clear S0_53
  have SB0_62 := Lib.hid (SB0_54.out.ext h_60)
  clear SB0_54
  have GB0_63 := Lib.hid (GB0_55.out.ext h_60)
  clear GB0_55
  have G0_64 := Lib.hid (G0_56.out.ext h_60)
  clear G0_56
  have H0_65 := Lib.hid (H0_57.out.ext h_60)
  clear H0_57
  have HB0_66 := Lib.hid (HB0_59.out.ext h_60)
  clear HB0_59
  have E_67 := Lib.hid (E_58.out.trans h_60)
  clear E_58
  have z_68 := Ext.le h_60
  try simp only [World.size_alloc] at z_68
  have Z_68 := Lib.hid z_68
  clear z_68
  clear h_60
  have lGB0 := GB0_63.out.1
  have qGB00 := GB0_63.out.2 0 _ rfl
  have qGB01 := GB0_63.out.2 1 _ rfl
  have qGB02 := GB0_63.out.2 2 _ rfl
  try simp only [World.size_alloc] at lGB0
  go_wp2_with fail
  refine (heldAlgebra_law _ _ _ _ _ _ _ G0_64.out.reads gm0 (by omega) (by omega)).mono ?_
  rintro e w_69 ⟨rfl, h_69⟩
  clear lGB0 qGB00 qGB01 qGB02
  have hq69 : 0 ≤ 1 + (sn0 : Int) := by omega
  have S0_70 := Lib.hid (S0_61.out.ext h_69)
  clear S0_61
  have SB0_71 := Lib.hid (SB0_62.out.ext h_69)
  clear SB0_62
  have GB0_72 := Lib.hid (GB0_63.out.ext h_69)
  clear GB0_63
  have G0_73 := Lib.hid (G0_64.out.ext h_69)
  clear G0_64
  have H0_74 := Lib.hid (H0_65.out.ext h_69)
  clear H0_65
  have HB0_75 := Lib.hid (HB0_66.out.ext h_69)
  clear HB0_66
  have E_76 := Lib.hid (E_67.out.trans h_69)
  clear E_67
  have z_77 := Ext.le h_69
  try simp only [World.size_alloc] at z_77
  have Z_77 := Lib.hid z_77
  clear z_77
  clear h_69
  go_wp2
  go_ret
  exact ⟨rfl, E_76.out⟩

set_option maxRecDepth 100000 in
theorem lifted (os : Os) (started : os.Started) (H : Type) (enc : TypeId × Value → H) :
    ReturnsInHanded {} Try.checked os 11 .any (Rows.fnExactAbelianAlgebraSpec.pre6 enc Try.prog Try.f11 Rows.fnExactAbelianAlgebraRow.domain false) (Rows.fnExactAbelianAlgebraSpec.post enc Try.prog Try.f11 false true false false) := by
  refine returnsInHanded_of_change (C := Try.checked) own started (by kernel_rfl) Try.func11
    (ChangeSpec.witness6 (enc := enc) (C := Try.checked) false ⟨#[], #[.int .i64 0, .int .i64 0], []⟩ 8 (by kernel_rfl) (by kernel_rfl) (by kernel_rfl) (by kernel_rfl)) ?_
  intro W base args ds gs before hval0 hW hcnd _
  have hval : ∀ (j : Nat) t v, Try.f11.params[j]? = some t → args[j]? = some v → Value.okWide Try.prog W .any base t v := hval0
  have hW' := hW
  obtain ⟨p, q, hA0, hV, rfl, hfz, hnd⟩ := hW
  have hA : DataW.TrodAll enc Try.prog W 0 (fun _ => true) true Try.f11.params.toList args.toList ds p := hA0
  rw [Try.params11] at hA hval
  obtain ⟨v0, vs0, d0, ds0, p0, q0, hargs, rfl, rfl, h0, r0⟩ := trodAll_cons hA
  obtain ⟨v1, vs1, d1, ds1, p1, q1, rfl, rfl, rfl, h1, r1⟩ := trodAll_cons r0
  obtain ⟨rfl, rfl, rfl⟩ := trodAll_nil r1
  obtain rfl : args = #[v0, v1] := by cases args; simp_all
  obtain ⟨rfl, rfl⟩ := trodVars_none hV
  obtain ⟨a0, rfl, rfl, rfl, w0⟩ := open_int Try.underlying3 (hval 0 _ v0 rfl rfl) h0
  obtain ⟨a1, rfl, rfl, rfl, w1⟩ := open_int Try.underlying3 (hval 1 _ v1 rfl rfl) h1
  clear hA0 hval0
  refine (walk a0 a1 W w0 w1).mono fun e W' ⟨he, bel⟩ => ?_
  subst he
  exact ⟨_, rfl, _, _, _, [], _, [], hW', trodAll_mk1 (shut_bool Try.underlying4 _), (trodAll_cons_mk (shut_int Try.underlying3 w0) (trodAll_cons_mk (shut_int Try.underlying3 w1) trodAll_mk0)), rfl, Below.frame bel _, fun h => by cases h⟩

theorem over : Rows.fnExactAbelianAlgebraRow.holds Try.pinned (OpenSpec.ofChange Rows.fnExactAbelianAlgebraSpec) :=
  OpenClaim.holds_of_wide 11 Try.f11 rfl rfl rfl rfl rfl rfl rfl ⟨rfl, rfl, rfl, rfl, rfl⟩ rfl rfl rfl rfl rfl (by kernel_rfl) Try.func11 (by kernel_rfl)
    (of_decide_eq_true (by kernel_rfl)) (by unfold Func.isWrapper; first | (rw [if_pos (by decide +kernel)]; kernel_rfl) | (rw [if_neg (by decide +kernel)]; exact ⟨rfl, rfl⟩))
    (fun os started H enc _ => lifted os started H enc)

/-- The statement. -/
theorem proved : Rows.FnExactAbelianAlgebraSaid := over
#print axioms proved
end Go.Proofs.Ytafeognjplphhaa.fnExactAbelianAlgebra
