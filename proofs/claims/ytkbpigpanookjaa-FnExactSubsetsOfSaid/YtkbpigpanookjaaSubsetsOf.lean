/-
  Proved: the statement given for the law FnExactSubsetsOf: at every input the Go text returns true, with no panic, and the arguments read as they read before. No condition is added.
-/
import Derived.Test.YtkbpigpanookjaaFr
import Derived.Test.YtkbpigpanookjaaLng
import Derived.Test.YtkbpigpanookjaaRwR
namespace Go.Proofs.Ytkbpigpanookjaa.fnExactSubsetsOf
open Go.ChangeShapes Go.WideShapes Go.ChangeAt Go.RowKit
open Go.ChangeMaps (open_string shut_string)
set_option linter.unusedVariables false

set_option maxRecDepth 100000 in
set_option maxHeartbeats 3200000 in
/-- The walk: the Go text returns true, and nothing that was there has changed. -/
theorem walk (a0 : Int) (a1 : Int) (w : World) (w0 : (Lit.int .i64 a0).wf = true) (w1 : (Lit.int .i64 a1).wf = true) :
    Calls Try.prog 14 #[.int .i64 a0, .int .i64 a1] w fun e w' => e = .returned (.bool true) ∧ Ext w w' := by
  rcases hM0 : subsM a0 a1 with d0
  have hM := Lib.hid hM0
  clear hM0
  go_enter Try.func14, Try.ntmps14
  have E_1 := Lib.hid (Ext.refl w)
  go_wp2_with fail
  refine (subsetsOf_spec hM.out).mono ?_
  rintro e w_2 ⟨v0, rfl, ⟨sa0, sn0, sc0, rfl, sO0, sm0⟩, h_2⟩
  have E_3 := Lib.hid (E_1.out.trans h_2)
  clear E_1
  have z_4 := Ext.le h_2
  try simp only [World.size_alloc] at z_4
  have Z_4 := Lib.hid z_4
  clear z_4
  clear h_2
  try simp only [World.size_alloc] at sO0
  have S0_5 := Lib.hid (sO0)
  clear sO0
  go_wp2_with fail
  refine (subsetsOf_impl hM.out).mono ?_
  rintro e w_6 ⟨v0, rfl, ⟨ga0, gn0, gc0, rfl, gO0, gm0⟩, h_6⟩
  have S0_7 := Lib.hid (S0_5.out.ext h_6)
  clear S0_5
  have E_8 := Lib.hid (E_3.out.trans h_6)
  clear E_3
  have z_9 := Ext.le h_6
  try simp only [World.size_alloc] at z_9
  have Z_9 := Lib.hid z_9
  clear z_9
  clear h_6
  try simp only [World.size_alloc] at gO0
  have G0_10 := Lib.hid (gO0)
  clear gO0
  obtain rfl : sn0 = gn0 := S0_7.out.len.symm.trans G0_10.out.len
  go_wp2_with fail
  refine (eqIntSS_x _ _ _ _ _ _ _ _ _ d0 _ G0_10.out S0_7.out gm0).mono ?_
  rintro e w_11 ⟨rfl, h_11⟩
  have S0_12 := Lib.hid (S0_7.out.ext h_11)
  clear S0_7
  have G0_13 := Lib.hid (G0_10.out.ext h_11)
  clear G0_10
  have E_14 := Lib.hid (E_8.out.trans h_11)
  clear E_8
  have z_15 := Ext.le h_11
  try simp only [World.size_alloc] at z_15
  have Z_15 := Lib.hid z_15
  clear z_15
  clear h_11
  go_wp2_with fail
  refine (markIntSS_law _ _ _ _ _ _ _ _ G0_13.out gm0 (by omega) (by omega)).mono ?_
  rintro e w_16 ⟨rfl, o_16, g_16⟩
  clear G0_13
  have S0_17 := Lib.hid (S0_12.out.touch g_16 (by have := Z_4.out; have := Z_9.out; have := Z_15.out; omega))
  clear S0_12
  have E_18 := Lib.hid (E_14.out.touch g_16 (by have := Z_4.out; have := Z_9.out; have := Z_15.out; omega))
  clear E_14
  have Z_19 := Lib.hid g_16.size
  clear g_16
  have G0_20 := Lib.hid (o_16)
  clear o_16
  go_wp2_with fail
  refine (heldIntSS_x _ _ _ _ _ d0 _ _ G0_20.out gm0 (by omega) (by omega)).mono ?_
  rintro e w_21 ⟨rfl, h_21⟩
  have hq21 : 0 ≤ 1 + (totR d0 : Int) := by omega
  have S0_22 := Lib.hid (S0_17.out.ext h_21)
  clear S0_17
  have G0_23 := Lib.hid (G0_20.out.ext h_21)
  clear G0_20
  have E_24 := Lib.hid (E_18.out.trans h_21)
  clear E_18
  have z_25 := Ext.le h_21
  try simp only [World.size_alloc] at z_25
  have Z_25 := Lib.hid z_25
  clear z_25
  clear h_21
  go_wp2_with fail
  refine (subsetsOf_impl hM.out).mono ?_
  rintro e w_26 ⟨v0, rfl, ⟨ta0, tn0, tc0, rfl, tO0, tm0⟩, h_26⟩
  have S0_27 := Lib.hid (S0_22.out.ext h_26)
  clear S0_22
  have G0_28 := Lib.hid (G0_23.out.ext h_26)
  clear G0_23
  have E_29 := Lib.hid (E_24.out.trans h_26)
  clear E_24
  have z_30 := Ext.le h_26
  try simp only [World.size_alloc] at z_30
  have Z_30 := Lib.hid z_30
  clear z_30
  clear h_26
  try simp only [World.size_alloc] at tO0
  have H0_31 := Lib.hid (tO0)
  clear tO0
  obtain rfl : sn0 = tn0 := S0_27.out.len.symm.trans H0_31.out.len
  go_wp2_with fail
  refine (eqIntSS_x _ _ _ _ _ _ _ _ _ d0 _ H0_31.out S0_27.out gm0).mono ?_
  rintro e w_32 ⟨rfl, h_32⟩
  have S0_33 := Lib.hid (S0_27.out.ext h_32)
  clear S0_27
  have G0_34 := Lib.hid (G0_28.out.ext h_32)
  clear G0_28
  have H0_35 := Lib.hid (H0_31.out.ext h_32)
  clear H0_31
  have E_36 := Lib.hid (E_29.out.trans h_32)
  clear E_29
  have z_37 := Ext.le h_32
  try simp only [World.size_alloc] at z_37
  have Z_37 := Lib.hid z_37
  clear z_37
  clear h_32
  go_wp2_with fail
  refine (heldIntSS_x _ _ _ _ _ d0 _ _ G0_34.out gm0 (by omega) (by omega)).mono ?_
  rintro e w_38 ⟨rfl, h_38⟩
  have hq38 : 0 ≤ 1 + (totR d0 : Int) := by omega
  have S0_39 := Lib.hid (S0_33.out.ext h_38)
  clear S0_33
  have G0_40 := Lib.hid (G0_34.out.ext h_38)
  clear G0_34
  have H0_41 := Lib.hid (H0_35.out.ext h_38)
  clear H0_35
  have E_42 := Lib.hid (E_36.out.trans h_38)
  clear E_36
  have z_43 := Ext.le h_38
  try simp only [World.size_alloc] at z_43
  have Z_43 := Lib.hid z_43
  clear z_43
  clear h_38
  go_wp2
  go_ret
  exact ⟨rfl, E_42.out⟩

set_option maxRecDepth 100000 in
theorem lifted (os : Os) (started : os.Started) (H : Type) (enc : TypeId × Value → H) :
    ReturnsInHanded {} Try.checked os 14 .any (Rows.fnExactSubsetsOfSpec.pre6 enc Try.prog Try.f14 Rows.fnExactSubsetsOfRow.domain false) (Rows.fnExactSubsetsOfSpec.post enc Try.prog Try.f14 false true false false) := by
  refine returnsInHanded_of_change (C := Try.checked) own started (by kernel_rfl) Try.func14
    (ChangeSpec.witness6 (enc := enc) (C := Try.checked) false ⟨#[], #[.int .i64 0, .int .i64 0], []⟩ 8 (by kernel_rfl) (by kernel_rfl) (by kernel_rfl) (by kernel_rfl)) ?_
  intro W base args ds gs before hval0 hW hcnd _
  have hval : ∀ (j : Nat) t v, Try.f14.params[j]? = some t → args[j]? = some v → Value.okWide Try.prog W .any base t v := hval0
  have hW' := hW
  obtain ⟨p, q, hA0, hV, rfl, hfz, hnd⟩ := hW
  have hA : DataW.TrodAll enc Try.prog W 0 (fun _ => true) true Try.f14.params.toList args.toList ds p := hA0
  rw [Try.params14] at hA hval
  obtain ⟨v0, vs0, d0, ds0, p0, q0, hargs, rfl, rfl, h0, r0⟩ := trodAll_cons hA
  obtain ⟨v1, vs1, d1, ds1, p1, q1, rfl, rfl, rfl, h1, r1⟩ := trodAll_cons r0
  obtain ⟨rfl, rfl, rfl⟩ := trodAll_nil r1
  obtain rfl : args = #[v0, v1] := by cases args; simp_all
  obtain ⟨rfl, rfl⟩ := trodVars_none hV
  obtain ⟨a0, rfl, rfl, rfl, w0⟩ := open_int Try.underlying3 (hval 0 _ v0 rfl rfl) h0
  obtain ⟨a1, rfl, rfl, rfl, w1⟩ := open_int Try.underlying3 (hval 1 _ v1 rfl rfl) h1
  clear hA0 hval0
  refine (walk a0 a1 W w0 w1).mono fun e W' ⟨he, bel⟩ => ?_
  subst he
  exact ⟨_, rfl, _, _, _, [], _, [], hW', trodAll_mk1 (shut_bool Try.underlying4 _), (trodAll_cons_mk (shut_int Try.underlying3 w0) (trodAll_cons_mk (shut_int Try.underlying3 w1) trodAll_mk0)), rfl, Below.frame bel _, fun h => by cases h⟩

theorem over : Rows.fnExactSubsetsOfRow.holds Try.pinned (OpenSpec.ofChange Rows.fnExactSubsetsOfSpec) :=
  OpenClaim.holds_of_wide 14 Try.f14 rfl rfl rfl rfl rfl rfl rfl ⟨rfl, rfl, rfl, rfl, rfl⟩ rfl rfl rfl rfl rfl (by kernel_rfl) Try.func14 (by kernel_rfl)
    (of_decide_eq_true (by kernel_rfl)) (by unfold Func.isWrapper; first | (rw [if_pos (by decide +kernel)]; kernel_rfl) | (rw [if_neg (by decide +kernel)]; exact ⟨rfl, rfl⟩))
    (fun os started H enc _ => lifted os started H enc)

/-- The statement. -/
theorem proved : Rows.FnExactSubsetsOfSaid := over
#print axioms proved
end Go.Proofs.Ytkbpigpanookjaa.fnExactSubsetsOf
