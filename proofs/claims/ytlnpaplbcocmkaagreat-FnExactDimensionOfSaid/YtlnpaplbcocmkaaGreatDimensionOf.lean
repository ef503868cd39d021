/-
  Proved: the statement given for the law FnExactDimensionOf: at every input the Go text returns true, with no panic, and the arguments read as they read before. No condition is added.
-/
import Derived.Test.YtlnpaplbcocmkaaGreatSeatF
import Derived.Test.YtlnpaplbcocmkaaGreatFr
import Derived.Test.YtlnpaplbcocmkaaGreatRowC
import Derived.Test.YtlnpaplbcocmkaaGreatSCartan
import Derived.Test.YtlnpaplbcocmkaaGreatTrmT
import Derived.Test.YtlnpaplbcocmkaaGreatDmn
namespace Go.Proofs.YtlnpaplbcocmkaaGreat.fnExactDimensionOf
open Go.ChangeShapes Go.WideShapes Go.ChangeAt Go.RowKit
open Go.ChangeMaps (open_string shut_string)
set_option linter.unusedVariables false
set_option linter.unusedSimpArgs false

set_option maxRecDepth 100000 in
set_option maxHeartbeats 3200000 in
/-- The walk: the Go text returns true, and nothing that was there has changed. -/
theorem walk (R0 : Int) (a0 : Option Addr) (n0 c0 : Nat) (xs0 : List Int) (a1 : Option Addr) (n1 c1 : Nat) (ts1 : List (List Int × Int)) (w : World) (w0 : Reads w a0 n0 xs0 ∧ n0 ≤ maxLen) (w1 : TrmR w a1 n1 ts1 ∧ TrmW ts1 ∧ n1 ≤ maxLen) :
    Calls Tryz.prog 9 #[.agg #[.int .i64 R0, .slice a0 n0 c0], .slice a1 n1 c1] w fun e w' => e = .returned (.bool true) ∧ Ext w w' := by
  obtain ⟨hr0, hm0⟩ := w0
  obtain ⟨hr1, hw1, hm1⟩ := w1
  have HR0 := Lib.hid hr0
  have HR1 := Lib.hid hr1
  have HW1 := Lib.hid hw1
  clear hr0 hr1 hw1
  rcases hM0 : dmO R0 xs0 ts1 with i0
  have hM := Lib.hid hM0
  clear hM0
  have HA := Lib.hid (cells_new w #[.int .i64 R0, .slice a0 n0 c0] 24)
  have HE1 := Lib.hid ((Ext.refl w).alloc (.cells #[.int .i64 R0, .slice a0 n0 c0] 24))
  have lA := HA.out.1
  have q0 := HA.out.2 0 _ rfl
  have q1 := HA.out.2 1 _ rfl
  by_cases hz0 : (n0 : Int) ≤ 1048576
  case neg =>
    go_enter Tryz.func9, Tryz.ntmps9
    go_wp2_with fail
    refine (szCartan_no R0 a0 n0 c0 1048576 _ (by omega) (by omega) hm0 (by omega)).mono ?_
    rintro e w2 ⟨rfl, h2⟩
    go_wp2
    go_ret
    exact ⟨rfl, HE1.out.trans h2⟩
  have hn0 : n0 ≤ 1048576 := by omega
  go_enter Tryz.func9, Tryz.ntmps9
  go_wp2_with fail
  refine (szCartan_yes R0 a0 n0 c0 1048576 _ (by omega) hz0).mono ?_
  rintro e w2 ⟨rfl, h2⟩
  have HE2 := Lib.hid (HE1.out.trans h2)
  have HA2 := Lib.hid (HA.out.ext h2)
  have hl0 : ((1048576 : Int) - n0 < 0) = False := eq_false (by omega)
  clear h2 lA q0 q1 HA HE1
  go_wp2_with fail
  refine (szTermS_law a1 n1 c1 (1048576 - n0) ts1 w2 (HR1.out.ext HE2.out) HW1.out (by omega) (by omega) hm1).mono ?_
  rintro e w3 ⟨⟨hs, rfl⟩ | ⟨hs, rfl⟩, h3⟩
  case inr =>
    go_wp2
    go_ret
    exact ⟨rfl, HE2.out.trans h3⟩
  have HE3 := Lib.hid (HE2.out.trans h3)
  have HA3 := Lib.hid (HA2.out.ext h3)
  have hn1 : n1 ≤ 1048576 := by omega
  have HL1 : Hid (∀ j, j < n1 → (tmR ts1 j).length ≤ 1048576) := fun j hj => by have := tmL_row ts1 hj; omega
  have hl1 : ((1048576 : Int) - n0 - ((n1 + tmL ts1 n1 : Nat) : Int) < 0) = False := eq_false (by omega)
  clear h3 hl0 HE2 HA2
  obtain ⟨L1, hL1⟩ : ∃ L1 : Nat, n1 + tmL ts1 n1 = L1 := ⟨_, rfl⟩
  rw [hL1] at hl1 hs ⊢
  clear hL1
  have lA := HA3.out.1
  have q0 := HA3.out.2 0 _ rfl
  have q1 := HA3.out.2 1 _ rfl
  go_wp2_with fail
  clear hl1 lA q0 q1
  refine (toCartan_law R0 a0 n0 c0 xs0 w3 (HR0.out.ext HE3.out) hn0).mono ?_
  rintro e wa ⟨ba, rfl, oa, ha⟩
  have HEa := Lib.hid (HE3.out.trans ha)
  have HAa := Lib.hid (HA3.out.ext ha)
  have HXa := Lib.hid oa
  clear oa ha HE3 HA3
  go_wp2_with fail
  refine (toTermS_law a1 n1 c1 ts1 wa (HR1.out.ext HEa.out) hn1 HL1.out).mono ?_
  rintro e wb ⟨bb, rfl, ob, hb⟩
  have HEb := Lib.hid (HEa.out.trans hb)
  have HAb := Lib.hid (HAa.out.ext hb)
  have HXb := Lib.hid (HXa.out.ext hb)
  have HYb := Lib.hid ob
  clear ob hb HEa HAa HXa
  go_wp2_with fail
  refine (dimensionOf_spec HXb.out.reads hn0 HYb.out hn1 HL1.out hM.out).mono ?_
  rintro e wc ⟨rfl, hc⟩
  have HEc := Lib.hid (HEb.out.trans hc)
  have HAc := Lib.hid (HAb.out.ext hc)
  clear hc HEb HAb HXb HYb
  have lA := HAc.out.1
  have q0 := HAc.out.2 0 _ rfl
  have q1 := HAc.out.2 1 _ rfl
  go_wp2_with fail
  clear lA q0 q1
  refine (toCartan_law R0 a0 n0 c0 xs0 wc (HR0.out.ext HEc.out) hn0).mono ?_
  rintro e w4 ⟨b4, rfl, o4, h4⟩
  have HX4 := Lib.hid (cells_new w4 #[.int .i64 R0, .slice (some ⟨b4, 0, none⟩) n0 n0] 27)
  have X4 := Lib.hid ((Ext.refl w4).alloc (.cells #[.int .i64 R0, .slice (some ⟨b4, 0, none⟩) n0 n0] 27))
  have HE4 := Lib.hid ((HEc.out.trans h4).trans X4.out)
  have HA4 := Lib.hid ((HAc.out.ext h4).ext X4.out)
  have HO4 := Lib.hid (o4.ext X4.out)
  clear o4 h4 HEc HAc
  go_wp2_with fail
  refine (toTermS_law a1 n1 c1 ts1 _ (HR1.out.ext HE4.out) hn1 HL1.out).mono ?_
  rintro e w5 ⟨b5, rfl, o5, h5⟩
  have HE5 := Lib.hid (HE4.out.trans h5)
  have HA5 := Lib.hid (HA4.out.ext h5)
  have HX5 := Lib.hid (HX4.out.ext h5)
  have HO5 := Lib.hid (HO4.out.ext h5)
  have HY5 := Lib.hid o5
  clear o5 h5 HE4 HA4 HX4 HO4 X4
  have lX := HX5.out.1
  have x0 := HX5.out.2 0 _ rfl
  have x1 := HX5.out.2 1 _ rfl
  go_wp2_with fail
  clear lX x0 x1
  refine (dimensionOf_impl HO5.out.reads hn0 HY5.out hn1 HL1.out hM.out).mono ?_
  rintro e w7 ⟨rfl, h7⟩
  have HE7 := Lib.hid (HE5.out.trans h7)
  have HA7 := Lib.hid (HA5.out.ext h7)
  have HX7 := Lib.hid (HX5.out.ext h7)
  have HX0 := Lib.hid (HO5.out.ext h7)
  have HY7 := Lib.hid (HY5.out.ext h7)
  clear h7 HE5 HA5 HX5 HO5 HY5
  have hne : (i0 != i0) = false := by simp
  have lA := HA7.out.1
  have q0 := HA7.out.2 0 _ rfl
  have q1 := HA7.out.2 1 _ rfl
  have lX := HX7.out.1
  have x0 := HX7.out.2 0 _ rfl
  have x1 := HX7.out.2 1 _ rfl
  go_wp2_with fail
  refine wp_region_held_drew (S := (fun w' => Ext w7 w' ∧ (∀ b o, b < w7.heap.size → w'.cell? ⟨b, o, none⟩ = w7.cell? ⟨b, o, none⟩))) (by kernel_rfl) (ext2 (Ext.refl w7).drew) (fun hHeld => ?_)
  refine wpAnyH_take (i := 0) (v := ?v4) rfl (by kernel_rfl) (by kernel_rfl) (by kernel_rfl) (fun _ _ _ h => h) (Or.inl ⟨by rfl, ?hy4⟩) hHeld ?rest4
  case hy4 => (intro wz hSw; (try dsimp only at hSw); go_simp; (try with_reducible rfl))
  (try simp only [Act.put, List.getElem_toArray, List.getElem_cons_succ, List.getElem_cons_zero]); (try simp only [List.setIfInBounds_toArray]); (try simp only [List.set_cons_succ]); (try simp only [List.set_cons_zero])
  refine wpAnyH_take (i := 1) (v := ?v5) rfl (by kernel_rfl) (by kernel_rfl) (by kernel_rfl) (fun _ _ _ h => h) (Or.inl ⟨by rfl, ?hy5⟩) hHeld ?rest5
  case hy5 => (intro wz hSw; (try dsimp only at hSw); go_simp; (try with_reducible rfl))
  (try simp only [Act.put, List.getElem_toArray, List.getElem_cons_succ, List.getElem_cons_zero]); (try simp only [List.setIfInBounds_toArray]); (try simp only [List.set_cons_succ]); (try simp only [List.set_cons_zero])
  refine wpAnyH_ready (rs := [2]) (by kernel_rfl) (by simp) ?_
  refine AllReadyH.cons rfl (fun K' hK => ?_) AllReadyH.nil
  go_simp
  refine (toCartan_law R0 a0 n0 c0 xs0 _ (HR0.out.ext (HE7.out.trans (And.left hHeld))) hn0).mono ?_
  rintro e w8 ⟨b8, rfl, o8, h8⟩
  have X8 := (And.left hHeld).trans h8
  dsimp only
  refine hK.out _ _ (ext2 X8) (fun hHeld => ?_)
  clear hK
  refine wpAnyH_ready (rs := [3]) (by kernel_rfl) (by simp) ?_
  refine AllReadyH.cons rfl (fun K' hK => ?_) AllReadyH.nil
  go_simp
  refine (eqCartan_law R0 _ _ n0 _ _ xs0 _ (HX0.out.reads.ext X8) o8.reads hn0).mono ?_
  rintro e w9 ⟨rfl, h9⟩
  have X9 := X8.trans h9
  dsimp only
  refine hK.out _ _ (ext2 X9) (fun hHeld => ?_)
  clear hK
  refine wpAnyH_take (i := 4) (v := ?v6) rfl (by kernel_rfl) (by kernel_rfl) (by kernel_rfl) (fun _ _ _ h => h) (Or.inl ⟨by rfl, ?hy6⟩) hHeld ?rest6
  case hy6 => (intro wz hSw; (try dsimp only at hSw); go_simp; (try with_reducible rfl))
  (try simp only [Act.put, List.getElem_toArray, List.getElem_cons_succ, List.getElem_cons_zero]); (try simp only [List.setIfInBounds_toArray]); (try simp only [List.set_cons_succ]); (try simp only [List.set_cons_zero])
  refine wpAnyH_done (by kernel_rfl) ?_ _
  clear hHeld
  have HE9 := Lib.hid (HE7.out.trans X9)
  have HY9 := Lib.hid (HY7.out.ext X9)
  clear lA q0 q1 lX x0 x1 X8 X9 h8 h9 o8 hne
  go_wp2_with fail
  refine (toTermS_law a1 n1 c1 ts1 _ (HR1.out.ext HE9.out) hn1 HL1.out).mono ?_
  rintro e wd ⟨bd, rfl, od, hd⟩
  have HEd := Lib.hid (HE9.out.trans hd)
  have HYd := Lib.hid (HY9.out.ext hd)
  have HZd := Lib.hid od
  clear od hd HE9 HY9
  go_wp2_with fail
  refine (eqTermS_law _ _ n1 _ _ ts1 wd HYd.out HZd.out hn1 HL1.out).mono ?_
  rintro e we ⟨rfl, he⟩
  go_wp2
  go_ret
  exact ⟨rfl, HEd.out.trans he⟩


set_option maxRecDepth 100000 in
theorem lifted (os : Os) (started : os.Started) (H : Type) (enc : TypeId × Value → H) :
    ReturnsInHanded {} Tryz.checked os 9 .any (Rows.fnExactDimensionOfSpec.pre6 enc Tryz.prog Tryz.f9 Rows.fnExactDimensionOfRow.domain false) (Rows.fnExactDimensionOfSpec.post enc Tryz.prog Tryz.f9 false true false false) := by
  refine returnsInHanded_of_change (C := Tryz.checked) own started (by kernel_rfl) Tryz.func9
    (ChangeSpec.witness6 (enc := enc) (C := Tryz.checked) false ⟨#[], #[.agg #[.int .i64 0, .slice none 0 0], .slice none 0 0], []⟩ 8 (by kernel_rfl) (by kernel_rfl) (by kernel_rfl) (by kernel_rfl)) ?_
  intro W base args ds gs before hval0 hW hcnd _
  have hval : ∀ (j : Nat) t v, Tryz.f9.params[j]? = some t → args[j]? = some v → Value.okWide Tryz.prog W .any base t v := hval0
  have hW' := hW
  obtain ⟨p, q, hA0, hV, rfl, hfz, hnd⟩ := hW
  have hA : DataW.TrodAll enc Tryz.prog W 0 (fun _ => true) true Tryz.f9.params.toList args.toList ds p := hA0
  rw [Tryz.params9] at hA hval
  obtain ⟨v0, vs0, d0, ds0, p0, q0, hargs, rfl, rfl, h0, r0⟩ := trodAll_cons hA
  obtain ⟨v1, vs1, d1, ds1, p1, q1, rfl, rfl, rfl, h1, r1⟩ := trodAll_cons r0
  obtain ⟨rfl, rfl, rfl⟩ := trodAll_nil r1
  obtain rfl : args = #[v0, v1] := by cases args; simp_all
  obtain ⟨rfl, rfl⟩ := trodVars_none hV
  have k0 := h0
  have lt0 : ∀ x ∈ p0, x.block < W.heap.size := by obtain ⟨m, hm⟩ := k0; exact DataW.trod_lt m _ _ _ hm
  obtain ⟨R0, a0, n0, c0, xs0, rfl, w0⟩ := open_car (hval 0 _ v0 rfl rfl) h0
  have k1 := h1
  have lt1 : ∀ x ∈ p1, x.block < W.heap.size := by obtain ⟨m, hm⟩ := k1; exact DataW.trod_lt m _ _ _ hm
  obtain ⟨a1, n1, c1, ts1, rfl, w1⟩ := open_terms (hval 1 _ v1 rfl rfl) h1
  clear hA0 hval0
  refine (walk R0 a0 n0 c0 xs0 a1 n1 c1 ts1 W w0 w1).mono fun e W' ⟨he, bel⟩ => ?_
  subst he
  exact ⟨_, rfl, _, _, _, [], _, [], hW', trodAll_mk1 (shut_bool Tryz.underlying4 _), (trodAll_cons_mk (Below.trod laidOut (by kernel_rfl) (of_decide_eq_true (by kernel_rfl)) k0 bel lt0) (trodAll_cons_mk (Below.trod laidOut (by kernel_rfl) (of_decide_eq_true (by kernel_rfl)) k1 bel lt1) trodAll_mk0)), rfl, Below.frame bel _, fun h => by cases h⟩

set_option maxRecDepth 1000000 in
set_option maxHeartbeats 40000000 in
theorem closed : joinedFacts Tryz.pinned.checked.prog 9 Tryz.f9 Rows.fnExactDimensionOfSpec Rows.fnExactDimensionOfRow = true := by
  unfold joinedFacts
  repeat' (with_reducible refine and2 ?_ ?_)
  all_goals (first | (with_reducible exact seat_laid) | (with_reducible exact seat_maps) | (with_reducible exact seat_heard) | (with_reducible exact seat_enter) | (with_reducible refine seat_lifts ?_; kernel_rfl) | (with_reducible refine seat_make ?_; kernel_rfl) | (with_reducible refine seat_plain ?_; kernel_rfl) | (as_aux_lemma => kernel_rfl))

theorem over : Rows.fnExactDimensionOfRow.holds Tryz.pinned (OpenSpec.ofChange Rows.fnExactDimensionOfSpec) :=
  OpenClaim.holds_of_wide 9 Tryz.f9 rfl rfl rfl rfl rfl rfl rfl ⟨rfl, rfl, rfl, rfl, rfl⟩ rfl rfl rfl rfl rfl (by kernel_rfl) Tryz.func9 closed
    (of_decide_eq_true (by kernel_rfl)) (by unfold Func.isWrapper; first | (rw [if_pos (by decide +kernel)]; kernel_rfl) | (rw [if_neg (by decide +kernel)]; exact ⟨rfl, rfl⟩))
    (fun os started H enc _ => lifted os started H enc)

/-- The statement. -/
theorem proved : Rows.FnExactDimensionOfSaid := over
#print axioms proved
end Go.Proofs.YtlnpaplbcocmkaaGreat.fnExactDimensionOf
