/-
  Proved: the statement given for the law FnExactWeylOrder: at every input the Go text returns true, with no panic, and the arguments read as they read before. No condition is added.
-/
import Derived.Test.YtlnpaplbcocmkaaGreatFr
import Derived.Test.YtlnpaplbcocmkaaGreatRowC
import Derived.Test.YtlnpaplbcocmkaaGreatOp
import Derived.Test.YtlnpaplbcocmkaaGreatSCartan
import Derived.Test.YtlnpaplbcocmkaaGreatSeatF
namespace Go.Proofs.YtlnpaplbcocmkaaGreat.fnExactWeylOrder
open Go.ChangeShapes Go.WideShapes Go.ChangeAt Go.RowKit
open Go.ChangeMaps (open_string shut_string)
set_option linter.unusedVariables false

set_option maxRecDepth 100000 in
set_option maxHeartbeats 3200000 in
/-- The walk: the Go text returns true, and nothing that was there has changed. -/
theorem walk (R0 : Int) (a0 : Option Addr) (n0 c0 : Nat) (xs0 : List Int) (w : World) (w0 : Reads w a0 n0 xs0 ∧ n0 ≤ maxLen) :
    Calls Tryz.prog 3 #[.agg #[.int .i64 R0, .slice a0 n0 c0]] w fun e w' => e = .returned (.bool true) ∧ Ext w w' := by
  obtain ⟨hr0, hm0⟩ := w0
  have HR0 := Lib.hid hr0
  clear hr0
  rcases hM0 : woO R0 xs0 with i0
  have hM := Lib.hid hM0
  clear hM0
  by_cases hz0 : (n0 : Int) ≤ 1048576
  case neg =>
    go_enter Tryz.func3, Tryz.ntmps3
    have T0 := cells_new' w #[.int .i64 R0, .slice a0 n0 c0] 24 (w.heap.size) (by simp)
    have A0_1 := Lib.hid (T0.ext (Ext.refl _))
    clear T0
    have E_2 := Lib.hid ((Ext.refl w).alloc (.cells #[.int .i64 R0, .slice a0 n0 c0] 24))
    have lA0 := A0_1.out.1
    have qA00 := A0_1.out.2 0 _ rfl
    have qA01 := A0_1.out.2 1 _ rfl
    try simp only [World.size_alloc] at lA0
    go_wp2_with fail
    refine (szCartan_no _ _ _ _ _ _ (by omega) (by omega) hm0 (by omega)).mono ?_
    rintro e w_3 ⟨rfl, h_3⟩
    clear lA0 qA00 qA01
    go_wp2
    go_ret
    exact ⟨rfl, E_2.out.trans h_3⟩
  have hn0 : n0 ≤ 1048576 := by omega
  go_enter Tryz.func3, Tryz.ntmps3
  have T0 := cells_new' w #[.int .i64 R0, .slice a0 n0 c0] 24 (w.heap.size) (by simp)
  have A0_4 := Lib.hid (T0.ext (Ext.refl _))
  clear T0
  have E_5 := Lib.hid ((Ext.refl w).alloc (.cells #[.int .i64 R0, .slice a0 n0 c0] 24))
  have lA0 := A0_4.out.1
  have qA00 := A0_4.out.2 0 _ rfl
  have qA01 := A0_4.out.2 1 _ rfl
  try simp only [World.size_alloc] at lA0
  go_wp2_with fail
  refine (szCartan_yes _ _ _ _ _ _ (by omega) (by omega)).mono ?_
  rintro e w_6 ⟨rfl, h_6⟩
  clear lA0 qA00 qA01
  have A0_7 := Lib.hid (A0_4.out.ext h_6)
  clear A0_4
  have E_8 := Lib.hid (E_5.out.trans h_6)
  clear E_5
  have z_9 := Ext.le h_6
  try simp only [World.size_alloc] at z_9
  have Z_9 := Lib.hid z_9
  clear z_9
  clear h_6
  have hp : 0 ≤ 1048576 - (n0 : Int) := by omega
  have lA0 := A0_7.out.1
  have qA00 := A0_7.out.2 0 _ rfl
  have qA01 := A0_7.out.2 1 _ rfl
  try simp only [World.size_alloc] at lA0
  go_wp2_with fail
  refine (toCartan_law _ _ _ _ xs0 _ (HR0.out.ext E_8.out) hn0).mono ?_
  rintro e w_10 ⟨b_10, rfl, o_10, h_10⟩
  clear lA0 qA00 qA01
  have A0_11 := Lib.hid (A0_7.out.ext h_10)
  clear A0_7
  have E_12 := Lib.hid (E_8.out.trans h_10)
  clear E_8
  have z_13 := Ext.le h_10
  try simp only [World.size_alloc] at z_13
  have Z_13 := Lib.hid z_13
  clear z_13
  have T0_14 := Lib.hid (o_10)
  clear o_10 h_10
  go_wp2_with fail
  refine (weylOrder_spec T0_14.out.reads hn0 hM.out).mono ?_
  rintro e w_15 ⟨rfl, h_15⟩
  clear T0_14
  have A0_16 := Lib.hid (A0_11.out.ext h_15)
  clear A0_11
  have E_17 := Lib.hid (E_12.out.trans h_15)
  clear E_12
  have z_18 := Ext.le h_15
  try simp only [World.size_alloc] at z_18
  have Z_18 := Lib.hid z_18
  clear z_18
  clear h_15
  have lA0 := A0_16.out.1
  have qA00 := A0_16.out.2 0 _ rfl
  have qA01 := A0_16.out.2 1 _ rfl
  try simp only [World.size_alloc] at lA0
  go_wp2_with fail
  refine (toCartan_law _ _ _ _ xs0 _ (HR0.out.ext E_17.out) hn0).mono ?_
  rintro e w_19 ⟨b_19, rfl, o_19, h_19⟩
  clear lA0 qA00 qA01
  have A0_20 := Lib.hid (A0_16.out.ext h_19)
  clear A0_16
  have E_21 := Lib.hid (E_17.out.trans h_19)
  clear E_17
  have z_22 := Ext.le h_19
  try simp only [World.size_alloc] at z_22
  have Z_22 := Lib.hid z_22
  clear z_22
  try simp only [World.size_alloc] at o_19
  have X0_23 := Lib.hid (o_19)
  clear o_19 h_19
  have P_24 := (Ext.refl w_19).alloc (.cells #[.int .i64 R0, .slice (some ⟨b_19, 0, none⟩) n0 n0] 27)
  have A0_25 := Lib.hid (A0_20.out.ext P_24)
  clear A0_20
  have X0_26 := Lib.hid (X0_23.out.ext P_24)
  clear X0_23
  have E_27 := Lib.hid (E_21.out.trans P_24)
  clear E_21
  clear P_24
  have XB0_28 := Lib.hid (cells_new w_19 #[.int .i64 R0, .slice (some ⟨b_19, 0, none⟩) n0 n0] 27)
  have lXB0 := XB0_28.out.1
  have qXB00 := XB0_28.out.2 0 _ rfl
  have qXB01 := XB0_28.out.2 1 _ rfl
  try simp only [World.size_alloc] at lXB0
  go_wp2_with fail
  refine (weylOrder_impl X0_26.out.reads hn0 hM.out).mono ?_
  rintro e w_29 ⟨rfl, h_29⟩
  clear lXB0 qXB00 qXB01
  have A0_30 := Lib.hid (A0_25.out.ext h_29)
  clear A0_25
  have X0_31 := Lib.hid (X0_26.out.ext h_29)
  clear X0_26
  have XB0_32 := Lib.hid (XB0_28.out.ext h_29)
  clear XB0_28
  have E_33 := Lib.hid (E_27.out.trans h_29)
  clear E_27
  have z_34 := Ext.le h_29
  try simp only [World.size_alloc] at z_34
  have Z_34 := Lib.hid z_34
  clear z_34
  clear h_29
  have lXB0 := XB0_32.out.1
  have qXB00 := XB0_32.out.2 0 _ rfl
  have qXB01 := XB0_32.out.2 1 _ rfl
  have lA0 := A0_30.out.1
  have qA00 := A0_30.out.2 0 _ rfl
  have qA01 := A0_30.out.2 1 _ rfl
  try simp only [World.size_alloc] at lXB0 lA0
  go_wp2_with fail
  go_region_held3 (fun w' => Ext w_29 w' ∧ (∀ b o, b < w_29.heap.size → w'.cell? ⟨b, o, none⟩ = w_29.cell? ⟨b, o, none⟩)) (first | (with_reducible exact ext2 (Ext.trans (And.left ‹Ext w_29 _ ∧ _›) ‹Ext _ _›)) | (refine ext2 ?_; with_reducible repeat (first | exact Ext.refl _ | refine Ext.drew ?_))) (first
    | (go_at_call 17; refine (toCartan_law _ _ _ _ xs0 _ (HR0.out.ext (E_33.out.trans (And.left ‹Ext w_29 _ ∧ _›))) hn0).mono ?_; rintro e w_35 ⟨b_35, rfl, o_35, h_35⟩)
    | (go_at_call 19; refine (eqCartan_law _ _ _ _ _ _ xs0 _ (Own.reads (Own.ext X0_31.out (And.left ‹Ext w_29 _ ∧ _›))) (Own.reads o_35) hn0).mono ?_; rintro e w_36 ⟨rfl, h_36⟩))
  clear lXB0 qXB00 qXB01 lA0 qA00 qA01
  have hx_36 := And.left ‹Ext w_29 w_36 ∧ _›
  try clear h_35 h_36 o_35
  have A0_37 := Lib.hid (A0_30.out.ext hx_36)
  clear A0_30
  have X0_38 := Lib.hid (X0_31.out.ext hx_36)
  clear X0_31
  have XB0_39 := Lib.hid (XB0_32.out.ext hx_36)
  clear XB0_32
  have E_40 := Lib.hid (E_33.out.trans hx_36)
  clear E_33
  have z_41 := Ext.le hx_36
  try simp only [World.size_alloc] at z_41
  have Z_41 := Lib.hid z_41
  clear z_41
  clear hx_36
  go_wp2
  go_ret
  exact ⟨rfl, E_40.out⟩

set_option maxRecDepth 100000 in
theorem lifted (os : Os) (started : os.Started) (H : Type) (enc : TypeId × Value → H) :
    ReturnsInHanded {} Tryz.checked os 3 .any (Rows.fnExactWeylOrderSpec.pre6 enc Tryz.prog Tryz.f3 Rows.fnExactWeylOrderRow.domain false) (Rows.fnExactWeylOrderSpec.post enc Tryz.prog Tryz.f3 false true false false) := by
  refine returnsInHanded_of_change (C := Tryz.checked) own started (by kernel_rfl) Tryz.func3
    (ChangeSpec.witness6 (enc := enc) (C := Tryz.checked) false ⟨#[], #[.agg #[.int .i64 0, .slice none 0 0]], []⟩ 8 (by kernel_rfl) (by kernel_rfl) (by kernel_rfl) (by kernel_rfl)) ?_
  intro W base args ds gs before hval0 hW hcnd _
  have hval : ∀ (j : Nat) t v, Tryz.f3.params[j]? = some t → args[j]? = some v → Value.okWide Tryz.prog W .any base t v := hval0
  have hW' := hW
  obtain ⟨p, q, hA0, hV, rfl, hfz, hnd⟩ := hW
  have hA : DataW.TrodAll enc Tryz.prog W 0 (fun _ => true) true Tryz.f3.params.toList args.toList ds p := hA0
  rw [Tryz.params3] at hA hval
  obtain ⟨v0, vs0, d0, ds0, p0, q0, hargs, rfl, rfl, h0, r0⟩ := trodAll_cons hA
  obtain ⟨rfl, rfl, rfl⟩ := trodAll_nil r0
  obtain rfl : args = #[v0] := by cases args; simp_all
  obtain ⟨rfl, rfl⟩ := trodVars_none hV
  have k0 := h0
  have lt0 : ∀ x ∈ p0, x.block < W.heap.size := by obtain ⟨m, hm⟩ := k0; exact DataW.trod_lt m _ _ _ hm
  obtain ⟨R0, a0, n0, c0, xs0, rfl, w0⟩ := open_car (hval 0 _ v0 rfl rfl) h0
  clear hA0 hval0
  refine (walk R0 a0 n0 c0 xs0 W w0).mono fun e W' ⟨he, bel⟩ => ?_
  subst he
  exact ⟨_, rfl, _, _, _, [], _, [], hW', trodAll_mk1 (shut_bool Tryz.underlying4 _), (trodAll_cons_mk (Below.trod laidOut (by kernel_rfl) (of_decide_eq_true (by kernel_rfl)) k0 bel lt0) trodAll_mk0), rfl, Below.frame bel _, fun h => by cases h⟩

set_option maxRecDepth 1000000 in
set_option maxHeartbeats 40000000 in
theorem closed : joinedFacts Tryz.pinned.checked.prog 3 Tryz.f3 Rows.fnExactWeylOrderSpec Rows.fnExactWeylOrderRow = true := by
  unfold joinedFacts
  repeat' (with_reducible refine and2 ?_ ?_)
  all_goals (first | (with_reducible exact seat_laid) | (with_reducible exact seat_maps) | (with_reducible exact seat_heard) | (with_reducible exact seat_enter) | (with_reducible refine seat_lifts ?_; kernel_rfl) | (with_reducible refine seat_make ?_; kernel_rfl) | (with_reducible refine seat_plain ?_; kernel_rfl) | (as_aux_lemma => kernel_rfl))

theorem over : Rows.fnExactWeylOrderRow.holds Tryz.pinned (OpenSpec.ofChange Rows.fnExactWeylOrderSpec) :=
  OpenClaim.holds_of_wide 3 Tryz.f3 rfl rfl rfl rfl rfl rfl rfl ⟨rfl, rfl, rfl, rfl, rfl⟩ rfl rfl rfl rfl rfl (by kernel_rfl) Tryz.func3 closed
    (of_decide_eq_true (by kernel_rfl)) (by unfold Func.isWrapper; first | (rw [if_pos (by decide +kernel)]; kernel_rfl) | (rw [if_neg (by decide +kernel)]; exact ⟨rfl, rfl⟩))
    (fun os started H enc _ => lifted os started H enc)

/-- The statement. -/
theorem proved : Rows.FnExactWeylOrderSaid := over
#print axioms proved
end Go.Proofs.YtlnpaplbcocmkaaGreat.fnExactWeylOrder
