/-
  The derived and the lower series of the program, and what is asked of them.
-/
import Derived.Test.YtkbpigpanookjaaSerI
import Derived.Test.YtkbpigpanookjaaBr
namespace Go.Proofs.Ytkbpigpanookjaa
open Go.ChangeShapes Go.WideShapes Go.ChangeAt Go.RowKit
set_option linter.unusedVariables false
set_option linter.unusedSimpArgs false


set_option maxRecDepth 100000 in
set_option maxHeartbeats 3200000 in
theorem derM_no {P D : Int} {a0 oa n : Nat} {l : List Int} {w : World} (hT : Reads w (some ⟨a0, oa, none⟩) n l) (hm0 : n ≤ 1048576) (h0 : algB P D l = false) :
    Calls Try.prog 21 #[.agg #[.int .i64 P, .int .i64 D, .slice (some ⟨a0, oa, none⟩) n n]] w fun e w' => e = .returned (.slice none 0 0) ∧ Ext w w' := by
  have HT := Lib.hid hT
  have H0 := Lib.hid h0
  clear h0 hT
  go_enter Try.func21, Try.ntmps21
  have A0_1 := Lib.hid (cells_new' w #[.int .i64 P, .int .i64 D, .slice (some ⟨a0, oa, none⟩) n n] 27 (w.heap.size) (by simp))
  have E_2 := Lib.hid ((Ext.refl w).alloc (.cells #[.int .i64 P, .int .i64 D, .slice (some ⟨a0, oa, none⟩) n n] 27))
  have lA0 := A0_1.out.1
  have qA00 := A0_1.out.2 0 _ rfl
  have qA01 := A0_1.out.2 1 _ rfl
  have qA02 := A0_1.out.2 2 _ rfl
  try simp only [World.size_alloc] at lA0
  go_wp2_with fail
  refine (wrap_impl P _ a0 oa n n l _ (HT.out.ext E_2.out) hm0 (Nat.le_refl _) (by unfold maxLen; omega)).mono ?_
  rintro e w_3 ⟨B, rfl, hb, hlo, h_3⟩
  clear lA0 qA00 qA01 qA02
  have A0_4 := Lib.hid (A0_1.out.ext h_3)
  clear A0_1
  have E_5 := Lib.hid (E_2.out.trans h_3)
  clear E_2
  clear hb hlo
  rw [H0.out]
  go_wp2
  go_ret
  exact ⟨rfl, E_5.out.alloc _⟩

set_option maxRecDepth 100000 in
set_option maxHeartbeats 3200000 in
theorem derM_yes {P : Int} {D a0 oa n : Nat} {l : List Int} {w : World} (hT : Reads w (some ⟨a0, oa, none⟩) n l) (hm0 : n ≤ 1048576) (h0 : algB P D l = true) (hA : AlgP P D n l) :
    Calls Try.prog 21 #[.agg #[.int .i64 P, .int .i64 D, .slice (some ⟨a0, oa, none⟩) n n]] w fun e w' => ∃ v, e = .returned v ∧ MatS w' w.heap.size w'.heap.size v P D (derS P D l) (derN P D l + 1) ∧ Ext w w' := by
  have HT := Lib.hid hT
  have H0 := Lib.hid h0
  have HAL := Lib.hid hA
  have hD := hA.dim
  have hIP := isP_iff.1 hA.pr
  have HNS := Lib.hid (derN_spec (P := P) (D := D) (l := l) hIP)
  have hmf : ∀ (fn : Fn) (first cap : Array Value) (w : World), (Instr.makeFunc fn first cap).run Try.prog w = .ok (.func fn first cap) w := fun _ _ _ _ => rfl
  have HSR : Hid (∀ w1 B F0 b, Ext w w1 → Cells w1 B [.int .i64 P, .int .i64 D, .slice (some ⟨a0, oa, none⟩) n n] → Cells w1 F0 [.pointer (some ⟨B, 0, none⟩)] → w.heap.size ≤ b → Has w1 b (unitTo D D) → Calls Try.prog 64 #[.agg #[.int .i64 P, .int .i64 D, .int .i64 D, .slice (some ⟨b, 0, none⟩) (D * D) (D * D)], .func (.func 66) #[] #[.pointer (some ⟨F0, 0, none⟩)]] w1 fun e w' => ∃ v, e = .returned v ∧ MatS w' w.heap.size w'.heap.size v P D (derS P D l) (derN P D l + 1) ∧ Ext w1 w') := fun w1 B F0 b h hc hf hbb hU =>
    series_A P D b w.heap.size (derN P D l) F0 (derS P D l) w1 hD (Nat.le_trans HNS.out.1 hD) HNS.out.2 (fun i => (derS_spc hIP i).le) hU (fun i => (derS_spc hIP i).len) hbb
      (fun i hi w2 b2 h2 hb2 => next_A P D B F0 a0 oa n b2 l (derS P D l i) w2 (hf.ext h2) (hc.ext h2) (hT.ext (h.trans h2)) hA (derS_spc hIP i) hb2)
  clear hT h0 hA
  go_enter Try.func21, Try.ntmps21
  have A0_1 := Lib.hid (cells_new' w #[.int .i64 P, .int .i64 D, .slice (some ⟨a0, oa, none⟩) n n] 27 (w.heap.size) (by simp))
  have E_2 := Lib.hid ((Ext.refl w).alloc (.cells #[.int .i64 P, .int .i64 D, .slice (some ⟨a0, oa, none⟩) n n] 27))
  have lA0 := A0_1.out.1
  have qA00 := A0_1.out.2 0 _ rfl
  have qA01 := A0_1.out.2 1 _ rfl
  have qA02 := A0_1.out.2 2 _ rfl
  try simp only [World.size_alloc] at lA0
  go_wp2_with fail
  refine (wrap_impl P _ a0 oa n n l _ (HT.out.ext E_2.out) hm0 (Nat.le_refl _) (by unfold maxLen; omega)).mono ?_
  rintro e w_3 ⟨B, rfl, hb, hlo, h_3⟩
  clear lA0 qA00 qA01 qA02
  have A0_4 := Lib.hid (A0_1.out.ext h_3)
  clear A0_1
  have E_5 := Lib.hid (E_2.out.trans h_3)
  clear E_2
  have B_6 := Lib.hid hb
  clear hb hlo
  rw [H0.out]
  have HW0 : Hid (w.heap.size ≤ w_3.heap.size) := E_5.out.le
  have P_9 := (Ext.refl w_3).alloc (.cells #[.pointer (some ⟨B, 0, none⟩)] 56)
  have A0_7 := Lib.hid (A0_4.out.ext P_9)
  clear A0_4
  have B_8 := Lib.hid (B_6.out.ext P_9)
  clear B_6
  have E_9 := Lib.hid (E_5.out.trans P_9)
  clear E_5
  clear P_9
  have F_10 := Lib.hid (cells_new w_3 #[.pointer (some ⟨B, 0, none⟩)] 56)
  have lF := F_10.out.1
  have qF0 := F_10.out.2 0 _ rfl
  try simp only [World.size_alloc] at lF
  go_wp2_with fail
  refine (all_impl P D B _ _ B_8.out hD).mono ?_
  rintro e w_11 ⟨b, rfl, hu1, hu2, hu, h_11⟩
  clear lF qF0
  have A0_12 := Lib.hid (A0_7.out.ext h_11)
  clear A0_7
  have B_13 := Lib.hid (B_8.out.ext h_11)
  clear B_8
  have F_14 := Lib.hid (F_10.out.ext h_11)
  clear F_10
  have E_15 := Lib.hid (E_9.out.trans h_11)
  clear E_9
  have HBB : Hid (w.heap.size ≤ b) := by have := HW0.out; show _ ≤ _; (try simp only [World.size_alloc] at hu1); omega
  go_wp2_with fail
  refine (HSR.out _ B w_3.heap.size b E_15.out B_13.out F_14.out HBB.out hu).mono ?_
  rintro e w_16 ⟨v, rfl, hM, h_16⟩
  have HM := Lib.hid hM
  have E9 := Lib.hid (E_15.out.trans h_16)
  clear hM h_16
  go_wp2
  go_ret
  exact ⟨v, rfl, HM.out, E9.out⟩

set_option maxRecDepth 100000 in
set_option maxHeartbeats 3200000 in
theorem lowM_no {P D : Int} {a0 oa n : Nat} {l : List Int} {w : World} (hT : Reads w (some ⟨a0, oa, none⟩) n l) (hm0 : n ≤ 1048576) (h0 : algB P D l = false) :
    Calls Try.prog 27 #[.agg #[.int .i64 P, .int .i64 D, .slice (some ⟨a0, oa, none⟩) n n]] w fun e w' => e = .returned (.slice none 0 0) ∧ Ext w w' := by
  have HT := Lib.hid hT
  have H0 := Lib.hid h0
  clear h0 hT
  go_enter Try.func27, Try.ntmps27
  have A0_1 := Lib.hid (cells_new' w #[.int .i64 P, .int .i64 D, .slice (some ⟨a0, oa, none⟩) n n] 27 (w.heap.size) (by simp))
  have E_2 := Lib.hid ((Ext.refl w).alloc (.cells #[.int .i64 P, .int .i64 D, .slice (some ⟨a0, oa, none⟩) n n] 27))
  have lA0 := A0_1.out.1
  have qA00 := A0_1.out.2 0 _ rfl
  have qA01 := A0_1.out.2 1 _ rfl
  have qA02 := A0_1.out.2 2 _ rfl
  try simp only [World.size_alloc] at lA0
  go_wp2_with fail
  refine (wrap_impl P _ a0 oa n n l _ (HT.out.ext E_2.out) hm0 (Nat.le_refl _) (by unfold maxLen; omega)).mono ?_
  rintro e w_3 ⟨B, rfl, hb, hlo, h_3⟩
  clear lA0 qA00 qA01 qA02
  have A0_4 := Lib.hid (A0_1.out.ext h_3)
  clear A0_1
  have E_5 := Lib.hid (E_2.out.trans h_3)
  clear E_2
  clear hb hlo
  rw [H0.out]
  go_wp2
  go_ret
  exact ⟨rfl, E_5.out.alloc _⟩

set_option maxRecDepth 100000 in
set_option maxHeartbeats 3200000 in
theorem lowM_yes {P : Int} {D a0 oa n : Nat} {l : List Int} {w : World} (hT : Reads w (some ⟨a0, oa, none⟩) n l) (hm0 : n ≤ 1048576) (h0 : algB P D l = true) (hA : AlgP P D n l) :
    Calls Try.prog 27 #[.agg #[.int .i64 P, .int .i64 D, .slice (some ⟨a0, oa, none⟩) n n]] w fun e w' => ∃ v, e = .returned v ∧ MatS w' w.heap.size w'.heap.size v P D (lowS P D l) (lowN P D l + 1) ∧ Ext w w' := by
  have HT := Lib.hid hT
  have H0 := Lib.hid h0
  have HAL := Lib.hid hA
  have hD := hA.dim
  have hIP := isP_iff.1 hA.pr
  have HNS := Lib.hid (lowN_spec (P := P) (D := D) (l := l) hIP)
  have hmf : ∀ (fn : Fn) (first cap : Array Value) (w : World), (Instr.makeFunc fn first cap).run Try.prog w = .ok (.func fn first cap) w := fun _ _ _ _ => rfl
  have HSR : Hid (∀ w1 B F0 F1 b9 b, Ext w w1 → Cells w1 B [.int .i64 P, .int .i64 D, .slice (some ⟨a0, oa, none⟩) n n] → Cells w1 F0 [.pointer (some ⟨B, 0, none⟩)] → Cells w1 F1 [.int .i64 P, .int .i64 D, .int .i64 D, .slice (some ⟨b9, 0, none⟩) (D * D) (D * D)] → Has w1 b9 (unitTo D D) → w.heap.size ≤ b → Has w1 b (unitTo D D) → Calls Try.prog 64 #[.agg #[.int .i64 P, .int .i64 D, .int .i64 D, .slice (some ⟨b, 0, none⟩) (D * D) (D * D)], .func (.func 71) #[] #[.pointer (some ⟨F0, 0, none⟩), .pointer (some ⟨F1, 0, none⟩)]] w1 fun e w' => ∃ v, e = .returned v ∧ MatS w' w.heap.size w'.heap.size v P D (lowS P D l) (lowN P D l + 1) ∧ Ext w1 w') := fun w1 B F0 F1 b9 b h hc hf hf1 hu9 hbb hU =>
    series_B P D b w.heap.size (lowN P D l) F0 F1 (lowS P D l) w1 hD (Nat.le_trans HNS.out.1 hD) HNS.out.2 (fun i => (lowS_spc hIP i).le) hU (fun i => (lowS_spc hIP i).len) hbb
      (fun i hi w2 b2 h2 hb2 => next_B P D B F0 F1 a0 oa n b2 b9 l (lowS P D l i) w2 (hf.ext h2) (hf1.ext h2) (hu9.ext h2) (hc.ext h2) (hT.ext (h.trans h2)) hA (lowS_spc hIP i) hb2)
  clear hT h0 hA
  go_enter Try.func27, Try.ntmps27
  have A0_1 := Lib.hid (cells_new' w #[.int .i64 P, .int .i64 D, .slice (some ⟨a0, oa, none⟩) n n] 27 (w.heap.size) (by simp))
  have E_2 := Lib.hid ((Ext.refl w).alloc (.cells #[.int .i64 P, .int .i64 D, .slice (some ⟨a0, oa, none⟩) n n] 27))
  have lA0 := A0_1.out.1
  have qA00 := A0_1.out.2 0 _ rfl
  have qA01 := A0_1.out.2 1 _ rfl
  have qA02 := A0_1.out.2 2 _ rfl
  try simp only [World.size_alloc] at lA0
  go_wp2_with fail
  refine (wrap_impl P _ a0 oa n n l _ (HT.out.ext E_2.out) hm0 (Nat.le_refl _) (by unfold maxLen; omega)).mono ?_
  rintro e w_3 ⟨B, rfl, hb, hlo, h_3⟩
  clear lA0 qA00 qA01 qA02
  have A0_4 := Lib.hid (A0_1.out.ext h_3)
  clear A0_1
  have E_5 := Lib.hid (E_2.out.trans h_3)
  clear E_2
  have B_6 := Lib.hid hb
  clear hb hlo
  rw [H0.out]
  have HW0 : Hid (w.heap.size ≤ w_3.heap.size) := E_5.out.le
  have P_9 := (Ext.refl w_3).alloc (.cells #[.pointer (some ⟨B, 0, none⟩)] 56)
  have A0_7 := Lib.hid (A0_4.out.ext P_9)
  clear A0_4
  have B_8 := Lib.hid (B_6.out.ext P_9)
  clear B_6
  have E_9 := Lib.hid (E_5.out.trans P_9)
  clear E_5
  clear P_9
  have F_10 := Lib.hid (cells_new w_3 #[.pointer (some ⟨B, 0, none⟩)] 56)
  have lF := F_10.out.1
  have qF0 := F_10.out.2 0 _ rfl
  try simp only [World.size_alloc] at lF
  go_wp2_with fail
  refine (all_impl P D B _ _ B_8.out hD).mono ?_
  rintro e w_11 ⟨b, rfl, hu1, hu2, hu, h_11⟩
  clear lF qF0
  have A0_12 := Lib.hid (A0_7.out.ext h_11)
  clear A0_7
  have B_13 := Lib.hid (B_8.out.ext h_11)
  clear B_8
  have F_14 := Lib.hid (F_10.out.ext h_11)
  clear F_10
  have E_15 := Lib.hid (E_9.out.trans h_11)
  clear E_9
  have HU := Lib.hid hu
  clear hu
  have P_8 := (Ext.refl w_11).alloc (.cells #[.int .i64 P, .int .i64 D, .int .i64 D, .slice (some ⟨b, 0, none⟩) (D * D) (D * D)] 41)
  have A0_16 := Lib.hid (A0_12.out.ext P_8)
  clear A0_12
  have B_17 := Lib.hid (B_13.out.ext P_8)
  clear B_13
  have F_18 := Lib.hid (F_14.out.ext P_8)
  clear F_14
  have U_19 := Lib.hid (HU.out.ext P_8)
  clear HU
  have E_20 := Lib.hid (E_15.out.trans P_8)
  clear E_15
  clear P_8
  have G_21 := Lib.hid (cells_new w_11 #[.int .i64 P, .int .i64 D, .int .i64 D, .slice (some ⟨b, 0, none⟩) (D * D) (D * D)] 41)
  have lF := F_18.out.1
  have qF0 := F_18.out.2 0 _ rfl
  have lG := G_21.out.1
  have qG0 := G_21.out.2 0 _ rfl
  have qG1 := G_21.out.2 1 _ rfl
  have qG2 := G_21.out.2 2 _ rfl
  have qG3 := G_21.out.2 3 _ rfl
  try simp only [World.size_alloc] at lF lG
  go_wp2_with fail
  refine (all_impl P D B _ _ B_17.out hD).mono ?_
  rintro e w_22 ⟨b3, rfl, hu3, hu4, hv, h_22⟩
  clear lF qF0 lG qG0 qG1 qG2 qG3
  have A0_23 := Lib.hid (A0_16.out.ext h_22)
  clear A0_16
  have B_24 := Lib.hid (B_17.out.ext h_22)
  clear B_17
  have F_25 := Lib.hid (F_18.out.ext h_22)
  clear F_18
  have U_26 := Lib.hid (U_19.out.ext h_22)
  clear U_19
  have G_27 := Lib.hid (G_21.out.ext h_22)
  clear G_21
  have E_28 := Lib.hid (E_20.out.trans h_22)
  clear E_20
  have HBB : Hid (w.heap.size ≤ b3) := by have := HW0.out; show _ ≤ _; (try simp only [World.size_alloc] at hu3 hu1); omega
  go_wp2_with fail
  refine (HSR.out _ B w_3.heap.size w_11.heap.size b b3 E_28.out B_24.out F_25.out G_27.out U_26.out HBB.out hv).mono ?_
  rintro e w_29 ⟨v, rfl, hM, h_29⟩
  have HM := Lib.hid hM
  have E9 := Lib.hid (E_28.out.trans h_29)
  clear hM h_29
  go_wp2
  go_ret
  exact ⟨v, rfl, HM.out, E9.out⟩

set_option maxHeartbeats 800000 in
theorem derivedSeries_impl {P D : Int} {a0 oa n : Nat} {l : List Int} {w : World} {d : List Mat} (hT : Reads w (some ⟨a0, oa, none⟩) n l) (hm0 : n ≤ 1048576) (hM : derM P D l = d) :
    Calls Try.prog 21 #[.agg #[.int .i64 P, .int .i64 D, .slice (some ⟨a0, oa, none⟩) n n]] w fun e w' => ∃ v, e = .returned v ∧ Rmats w w' v d ∧ Ext w w' := by
  subst hM
  rcases h0 : algB P D l with _ | _
  · refine (derM_no hT hm0 h0).mono ?_
    rintro e w' ⟨rfl, hE⟩
    refine ⟨_, rfl, ⟨none, 0, 0, rfl, ?_, by omega⟩, hE⟩
    rw [derM, h0]
    exact matsR_nil _ _ _ _
  · obtain ⟨D, rfl, hA⟩ := algB_parts h0 hT.1
    refine (derM_yes hT hm0 h0 hA).mono ?_
    rintro e w' ⟨v, rfl, hM, hE⟩
    have hIP := isP_iff.1 hA.pr
    have hN := (derN_spec (P := P) (D := D) (l := l) hIP).1
    have hD := hA.dim
    obtain ⟨a, c, rfl, hR⟩ := hM.toR (Nat.le_refl _) (Nat.le_refl _) (Nat.le_refl _) (by omega) hA.dim (fun i => (derS_spc hIP i).le) (fun i => (derS_spc hIP i).len)
    refine ⟨_, rfl, ⟨a, _, c, rfl, ?_, by omega⟩, hE⟩
    rw [derM, h0, if_pos rfl, Int.toNat_natCast]
    exact hR

set_option maxHeartbeats 800000 in
theorem lowerSeries_impl {P D : Int} {a0 oa n : Nat} {l : List Int} {w : World} {d : List Mat} (hT : Reads w (some ⟨a0, oa, none⟩) n l) (hm0 : n ≤ 1048576) (hM : lowM P D l = d) :
    Calls Try.prog 27 #[.agg #[.int .i64 P, .int .i64 D, .slice (some ⟨a0, oa, none⟩) n n]] w fun e w' => ∃ v, e = .returned v ∧ Rmats w w' v d ∧ Ext w w' := by
  subst hM
  rcases h0 : algB P D l with _ | _
  · refine (lowM_no hT hm0 h0).mono ?_
    rintro e w' ⟨rfl, hE⟩
    refine ⟨_, rfl, ⟨none, 0, 0, rfl, ?_, by omega⟩, hE⟩
    rw [lowM, h0]
    exact matsR_nil _ _ _ _
  · obtain ⟨D, rfl, hA⟩ := algB_parts h0 hT.1
    refine (lowM_yes hT hm0 h0 hA).mono ?_
    rintro e w' ⟨v, rfl, hM, hE⟩
    have hIP := isP_iff.1 hA.pr
    have hN := (lowN_spec (P := P) (D := D) (l := l) hIP).1
    have hD := hA.dim
    obtain ⟨a, c, rfl, hR⟩ := hM.toR (Nat.le_refl _) (Nat.le_refl _) (Nat.le_refl _) (by omega) hA.dim (fun i => (lowS_spc hIP i).le) (fun i => (lowS_spc hIP i).len)
    refine ⟨_, rfl, ⟨a, _, c, rfl, ?_, by omega⟩, hE⟩
    rw [lowM, h0, if_pos rfl, Int.toNat_natCast]
    exact hR

noncomputable def solB (P D : Int) (l : List Int) : Bool := algB P D l && (((derS P D.toNat l (derN P D.toNat l)).1 : Int) == 0)
noncomputable def clsM (P D : Int) (l : List Int) : Int := if algB P D l && (((lowS P D.toNat l (lowN P D.toNat l)).1 : Int) == 0) then (lowN P D.toNat l : Nat) else -1
set_option maxHeartbeats 800000 in
theorem ends_nil (w : World) : Calls Try.prog 76 #[.slice none 0 0] w fun e w' => e = .returned (.bool false) ∧ Ext w w' := by
  go_enter Try.func76, Try.ntmps76
  go_wp2
  go_ret
  exact ⟨rfl, Ext.refl _⟩
set_option maxRecDepth 100000 in
set_option maxHeartbeats 800000 in
theorem ends_ser {w : World} {base hi : Nat} {v : Value} {P : Int} {D N : Nat} {s : Nat → Nat × List Int} (hM : MatS w base hi v P D s (N + 1)) (hN : N ≤ 28) :
    Calls Try.prog 76 #[v] w fun e w' => e = .returned (.bool (((s N).1 : Int) == 0)) ∧ Ext w w' := by
  obtain ⟨a, cap, rfl, hsh⟩ := hM.shape
  obtain ⟨g, rfl, hg1, hg, hc⟩ := hsh (by omega)
  have c1 := hc N (by omega)
  have hz : (s N).1 = (s N).1 := rfl
  obtain ⟨r, hr⟩ : ∃ r, (s N).1 = r := ⟨_, rfl⟩
  rw [hr] at c1 ⊢
  clear hr hz hc hM hsh
  rcases hz : ((r : Int) == 0) with _ | _
  all_goals
    go_enter Try.func76, Try.ntmps76
    go_wp2
    go_ret
    exact ⟨rfl, Ext.refl _⟩
set_option maxRecDepth 100000 in
set_option maxHeartbeats 1600000 in
theorem isSolvable_impl {P D : Int} {a0 oa n : Nat} {l : List Int} {w : World} {i : Bool} (hT : Reads w (some ⟨a0, oa, none⟩) n l) (hm0 : n ≤ 1048576) (hM : solB P D l = i) :
    Calls Try.prog 31 #[.agg #[.int .i64 P, .int .i64 D, .slice (some ⟨a0, oa, none⟩) n n]] w fun e w' => e = .returned (.bool i) ∧ Ext w w' := by
  subst hM
  have HT := Lib.hid hT
  have HA : Hid (solB P D l = (algB P D l && (((derS P D.toNat l (derN P D.toNat l)).1 : Int) == 0))) := rfl
  generalize solB P D l = q at HA
  rcases h0 : algB P D l with _ | _
  · have HF : Hid (q = false) := by rw [Hid, HA.out, h0]; rfl
    have H0 := Lib.hid h0
    clear h0 hT HA
    go_enter Try.func31, Try.ntmps31
    have A0_1 := Lib.hid (cells_new' w #[.int .i64 P, .int .i64 D, .slice (some ⟨a0, oa, none⟩) n n] 27 (w.heap.size) (by simp))
    have E_2 := Lib.hid ((Ext.refl w).alloc (.cells #[.int .i64 P, .int .i64 D, .slice (some ⟨a0, oa, none⟩) n n] 27))
    have lA0 := A0_1.out.1
    have qA00 := A0_1.out.2 0 _ rfl
    have qA01 := A0_1.out.2 1 _ rfl
    have qA02 := A0_1.out.2 2 _ rfl
    try simp only [World.size_alloc] at lA0
    go_wp2_with fail
    refine (derM_no (HT.out.ext E_2.out) hm0 H0.out).mono ?_
    rintro e w_3 ⟨rfl, h_3⟩
    clear lA0 qA00 qA01 qA02
    have A0_4 := Lib.hid (A0_1.out.ext h_3)
    clear A0_1
    have E_5 := Lib.hid (E_2.out.trans h_3)
    clear E_2
    go_wp2_with fail
    refine (ends_nil _).mono ?_
    rintro e w_6 ⟨rfl, h_6⟩
    have A0_7 := Lib.hid (A0_4.out.ext h_6)
    clear A0_4
    have E_8 := Lib.hid (E_5.out.trans h_6)
    clear E_5
    go_wp2
    go_ret
    exact ⟨ret_bool HF.out.symm, E_8.out⟩
  · obtain ⟨D, rfl, hA⟩ := algB_parts h0 hT.1
    have HF : Hid (q = (((derS P D l (derN P D l)).1 : Int) == 0)) := by rw [Hid, HA.out, h0, Int.toNat_natCast]; rfl
    have H0 := Lib.hid h0
    have HAL := Lib.hid hA
    have hN : derN P D l ≤ 28 := Nat.le_trans (derN_spec (isP_iff.1 hA.pr)).1 hA.dim
    clear h0 hT HA hA
    go_enter Try.func31, Try.ntmps31
    have A0_1 := Lib.hid (cells_new' w #[.int .i64 P, .int .i64 D, .slice (some ⟨a0, oa, none⟩) n n] 27 (w.heap.size) (by simp))
    have E_2 := Lib.hid ((Ext.refl w).alloc (.cells #[.int .i64 P, .int .i64 D, .slice (some ⟨a0, oa, none⟩) n n] 27))
    have lA0 := A0_1.out.1
    have qA00 := A0_1.out.2 0 _ rfl
    have qA01 := A0_1.out.2 1 _ rfl
    have qA02 := A0_1.out.2 2 _ rfl
    try simp only [World.size_alloc] at lA0
    go_wp2_with fail
    refine (derM_yes (HT.out.ext E_2.out) hm0 H0.out HAL.out).mono ?_
    rintro e w_3 ⟨v, rfl, hM, h_3⟩
    clear lA0 qA00 qA01 qA02
    have HM := Lib.hid hM
    clear hM
    have A0_4 := Lib.hid (A0_1.out.ext h_3)
    clear A0_1
    have E_5 := Lib.hid (E_2.out.trans h_3)
    clear E_2
    go_wp2_with fail
    refine (ends_ser HM.out hN).mono ?_
    rintro e w_6 ⟨rfl, h_6⟩
    have E9 := Lib.hid (E_5.out.trans h_6)
    clear h_6
    go_wp2
    go_ret
    exact ⟨ret_bool HF.out.symm, E9.out⟩

set_option maxRecDepth 100000 in
set_option maxHeartbeats 1600000 in
theorem classOf_impl {P D : Int} {a0 oa n : Nat} {l : List Int} {w : World} {i : Int} (hT : Reads w (some ⟨a0, oa, none⟩) n l) (hm0 : n ≤ 1048576) (hM : clsM P D l = i) :
    Calls Try.prog 33 #[.agg #[.int .i64 P, .int .i64 D, .slice (some ⟨a0, oa, none⟩) n n]] w fun e w' => e = .returned (.int .i64 i) ∧ Ext w w' := by
  subst hM
  have HT := Lib.hid hT
  have HA : Hid (clsM P D l = if algB P D l && (((lowS P D.toNat l (lowN P D.toNat l)).1 : Int) == 0) then ((lowN P D.toNat l : Nat) : Int) else -1) := rfl
  generalize clsM P D l = q at HA
  rcases h0 : algB P D l with _ | _
  · have HF : Hid (q = -1) := by rw [Hid, HA.out, h0]; rfl
    have H0 := Lib.hid h0
    clear h0 hT HA
    go_enter Try.func33, Try.ntmps33
    have A0_1 := Lib.hid (cells_new' w #[.int .i64 P, .int .i64 D, .slice (some ⟨a0, oa, none⟩) n n] 27 (w.heap.size) (by simp))
    have E_2 := Lib.hid ((Ext.refl w).alloc (.cells #[.int .i64 P, .int .i64 D, .slice (some ⟨a0, oa, none⟩) n n] 27))
    have lA0 := A0_1.out.1
    have qA00 := A0_1.out.2 0 _ rfl
    have qA01 := A0_1.out.2 1 _ rfl
    have qA02 := A0_1.out.2 2 _ rfl
    try simp only [World.size_alloc] at lA0
    go_wp2_with fail
    refine (lowM_no (HT.out.ext E_2.out) hm0 H0.out).mono ?_
    rintro e w_3 ⟨rfl, h_3⟩
    clear lA0 qA00 qA01 qA02
    have A0_4 := Lib.hid (A0_1.out.ext h_3)
    clear A0_1
    have E_5 := Lib.hid (E_2.out.trans h_3)
    clear E_2
    go_wp2_with fail
    refine (ends_nil _).mono ?_
    rintro e w_6 ⟨rfl, h_6⟩
    have A0_7 := Lib.hid (A0_4.out.ext h_6)
    clear A0_4
    have E_8 := Lib.hid (E_5.out.trans h_6)
    clear E_5
    go_wp2
    go_ret
    exact ⟨ret_int HF.out.symm, E_8.out⟩
  · obtain ⟨D, rfl, hA⟩ := algB_parts h0 hT.1
    have HF : Hid (q = if (((lowS P D l (lowN P D l)).1 : Int) == 0) then ((lowN P D l : Nat) : Int) else -1) := by rw [Hid, HA.out, h0, Int.toNat_natCast]; simp only [Bool.true_and]
    have H0 := Lib.hid h0
    have HAL := Lib.hid hA
    have hN : lowN P D l ≤ 28 := Nat.le_trans (lowN_spec (isP_iff.1 hA.pr)).1 hA.dim
    clear h0 hT HA hA
    go_enter Try.func33, Try.ntmps33
    have A0_1 := Lib.hid (cells_new' w #[.int .i64 P, .int .i64 D, .slice (some ⟨a0, oa, none⟩) n n] 27 (w.heap.size) (by simp))
    have E_2 := Lib.hid ((Ext.refl w).alloc (.cells #[.int .i64 P, .int .i64 D, .slice (some ⟨a0, oa, none⟩) n n] 27))
    have lA0 := A0_1.out.1
    have qA00 := A0_1.out.2 0 _ rfl
    have qA01 := A0_1.out.2 1 _ rfl
    have qA02 := A0_1.out.2 2 _ rfl
    try simp only [World.size_alloc] at lA0
    go_wp2_with fail
    refine (lowM_yes (HT.out.ext E_2.out) hm0 H0.out HAL.out).mono ?_
    rintro e w_3 ⟨v, rfl, hM, h_3⟩
    clear lA0 qA00 qA01 qA02
    have HM := Lib.hid hM
    clear hM
    have A0_4 := Lib.hid (A0_1.out.ext h_3)
    clear A0_1
    have E_5 := Lib.hid (E_2.out.trans h_3)
    clear E_2
    obtain ⟨va, vc, hvv, _⟩ := HM.out.shape
    subst hvv
    have HES := Lib.hid (ends_ser HM.out hN)
    rcases hz : (((lowS P D l (lowN P D l)).1 : Int) == 0) with _ | _
    all_goals
      rw [hz] at HES HF
      clear hz
      generalize lowN P D l = N at *
      generalize lowS P D l = S at *
      go_wp2_with fail
      refine HES.out.mono ?_
      rintro e w_6 ⟨rfl, h_6⟩
      have E9 := Lib.hid (E_5.out.trans h_6)
      clear h_6
      go_wp2
      go_ret
      exact ⟨ret_int (by rw [HF.out]; simp), E9.out⟩
end Go.Proofs.Ytkbpigpanookjaa
