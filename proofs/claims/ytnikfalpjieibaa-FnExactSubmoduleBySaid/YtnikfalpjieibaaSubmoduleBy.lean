/-
  Proved: the statement given for the law FnExactSubmoduleBy: at every input the Go text returns true, with no panic, and the arguments read as they read before. No condition is added.
-/
import Derived.Test.YtnikfalpjieibaaFr
import Derived.Test.YtnikfalpjieibaaSbt
import Derived.Test.YtnikfalpjieibaaMtA
import Derived.Test.YtnikfalpjieibaaSeatF
namespace Go.Proofs.Ytnikfalpjieibaa.fnExactSubmoduleBy
open Go.ChangeShapes Go.WideShapes Go.ChangeAt Go.RowKit
open Go.ChangeMaps (open_string shut_string)
set_option linter.unusedVariables false
set_option linter.unusedSimpArgs false

set_option maxRecDepth 100000 in
set_option maxHeartbeats 3200000 in
/-- The walk: the Go text returns true, and nothing that was there has changed. -/
theorem walk (P0 D0 : Int) (a0 : Option Addr) (n0 c0 : Nat) (xs0 : List Int) (a1 : Option Addr) (n1 c1 : Nat) (ms1 : List Mat) (P2 R2 C2 : Int) (a2 : Option Addr) (n2 c2 : Nat) (xs2 : List Int) (w : World) (w0 : Reads w a0 n0 xs0 ∧ n0 ≤ maxLen) (w1 : MatsA w a1 n1 ms1 ∧ MatsW ms1 ∧ n1 ≤ maxLen) (w2 : Reads w a2 n2 xs2 ∧ n2 ≤ maxLen) :
    Calls Try.prog 10 #[.agg #[.int .i64 P0, .int .i64 D0, .slice a0 n0 c0], .slice a1 n1 c1, .agg #[.int .i64 P2, .int .i64 R2, .int .i64 C2, .slice a2 n2 c2]] w fun e w' => e = .returned (.bool true) ∧ Ext w w' := by
  obtain ⟨hr0, hm0⟩ := w0
  have HR0 := Lib.hid hr0
  clear hr0
  obtain ⟨hr1, hW1, hm1⟩ := w1
  have HR1 := Lib.hid hr1
  have HW1 := Lib.hid hW1
  obtain ⟨L1, hL1⟩ : ∃ L : Nat, n1 + msL ms1 n1 = L := ⟨_, rfl⟩
  have HL1 := Lib.hid hL1
  clear hr1 hW1 hL1
  obtain ⟨hr2, hm2⟩ := w2
  have HR2 := Lib.hid hr2
  clear hr2
  rcases hM0 : smbM P0 D0 xs0 ms1 P2 R2 C2 xs2 with ⟨⟨pP0, pR0, pC0, d0⟩, i1⟩
  have hM := Lib.hid hM0
  clear hM0
  by_cases hz0 : (n0 : Int) ≤ 1048576
  case neg =>
    go_enter Try.func10, Try.ntmps10
    have T0 := cells_new' w #[.int .i64 P0, .int .i64 D0, .slice a0 n0 c0] 24 (w.heap.size) (by simp)
    have T2 := cells_new' (w.alloc (.cells #[.int .i64 P0, .int .i64 D0, .slice a0 n0 c0] 24)) #[.int .i64 P2, .int .i64 R2, .int .i64 C2, .slice a2 n2 c2] 56 (w.heap.size + 1) (by simp)
    have A0_1 := Lib.hid (T0.ext ((Ext.refl _).alloc (.cells #[.int .i64 P2, .int .i64 R2, .int .i64 C2, .slice a2 n2 c2] 56)))
    clear T0
    have A2_2 := Lib.hid (T2.ext (Ext.refl _))
    clear T2
    have E_3 := Lib.hid (((Ext.refl w).alloc (.cells #[.int .i64 P0, .int .i64 D0, .slice a0 n0 c0] 24)).alloc (.cells #[.int .i64 P2, .int .i64 R2, .int .i64 C2, .slice a2 n2 c2] 56))
    have lA0 := A0_1.out.1
    have qA00 := A0_1.out.2 0 _ rfl
    have qA01 := A0_1.out.2 1 _ rfl
    have qA02 := A0_1.out.2 2 _ rfl
    try simp only [World.size_alloc] at lA0
    go_wp2_with fail
    refine (szAlgebra_no _ _ _ _ _ _ _ (by omega) (by omega) hm0 (by omega)).mono ?_
    rintro e w_4 ⟨rfl, h_4⟩
    clear lA0 qA00 qA01 qA02
    go_wp2
    go_ret
    exact ⟨rfl, E_3.out.trans h_4⟩
  by_cases hz1 : (n0 : Int) + (L1 : Int) ≤ 1048576
  case neg =>
    go_enter Try.func10, Try.ntmps10
    have T0 := cells_new' w #[.int .i64 P0, .int .i64 D0, .slice a0 n0 c0] 24 (w.heap.size) (by simp)
    have T2 := cells_new' (w.alloc (.cells #[.int .i64 P0, .int .i64 D0, .slice a0 n0 c0] 24)) #[.int .i64 P2, .int .i64 R2, .int .i64 C2, .slice a2 n2 c2] 56 (w.heap.size + 1) (by simp)
    have A0_5 := Lib.hid (T0.ext ((Ext.refl _).alloc (.cells #[.int .i64 P2, .int .i64 R2, .int .i64 C2, .slice a2 n2 c2] 56)))
    clear T0
    have A2_6 := Lib.hid (T2.ext (Ext.refl _))
    clear T2
    have E_7 := Lib.hid (((Ext.refl w).alloc (.cells #[.int .i64 P0, .int .i64 D0, .slice a0 n0 c0] 24)).alloc (.cells #[.int .i64 P2, .int .i64 R2, .int .i64 C2, .slice a2 n2 c2] 56))
    have lA0 := A0_5.out.1
    have qA00 := A0_5.out.2 0 _ rfl
    have qA01 := A0_5.out.2 1 _ rfl
    have qA02 := A0_5.out.2 2 _ rfl
    try simp only [World.size_alloc] at lA0
    go_wp2_with fail
    refine (szAlgebra_yes _ _ _ _ _ _ _ (by omega) (by omega)).mono ?_
    rintro e w_8 ⟨rfl, h_8⟩
    clear lA0 qA00 qA01 qA02
    have A0_9 := Lib.hid (A0_5.out.ext h_8)
    clear A0_5
    have A2_10 := Lib.hid (A2_6.out.ext h_8)
    clear A2_6
    have E_11 := Lib.hid (E_7.out.trans h_8)
    clear E_7
    have z_12 := Ext.le h_8
    try simp only [World.size_alloc] at z_12
    have Z_12 := Lib.hid z_12
    clear z_12
    clear h_8
    have hp1 : 0 ≤ 1048576 - (n0 : Int) := by omega
    go_wp2_with fail
    refine (szMatrixS_no (HR1.out.ext E_11.out) HW1.out HL1.out (by omega) (by omega) hm1 (by omega)).mono ?_
    rintro e w_13 ⟨rfl, h_13⟩
    go_wp2
    go_ret
    exact ⟨rfl, E_11.out.trans h_13⟩
  by_cases hz2 : (n0 : Int) + (L1 : Int) + (n2 : Int) ≤ 1048576
  case neg =>
    go_enter Try.func10, Try.ntmps10
    have T0 := cells_new' w #[.int .i64 P0, .int .i64 D0, .slice a0 n0 c0] 24 (w.heap.size) (by simp)
    have T2 := cells_new' (w.alloc (.cells #[.int .i64 P0, .int .i64 D0, .slice a0 n0 c0] 24)) #[.int .i64 P2, .int .i64 R2, .int .i64 C2, .slice a2 n2 c2] 56 (w.heap.size + 1) (by simp)
    have A0_14 := Lib.hid (T0.ext ((Ext.refl _).alloc (.cells #[.int .i64 P2, .int .i64 R2, .int .i64 C2, .slice a2 n2 c2] 56)))
    clear T0
    have A2_15 := Lib.hid (T2.ext (Ext.refl _))
    clear T2
    have E_16 := Lib.hid (((Ext.refl w).alloc (.cells #[.int .i64 P0, .int .i64 D0, .slice a0 n0 c0] 24)).alloc (.cells #[.int .i64 P2, .int .i64 R2, .int .i64 C2, .slice a2 n2 c2] 56))
    have lA0 := A0_14.out.1
    have qA00 := A0_14.out.2 0 _ rfl
    have qA01 := A0_14.out.2 1 _ rfl
    have qA02 := A0_14.out.2 2 _ rfl
    try simp only [World.size_alloc] at lA0
    go_wp2_with fail
    refine (szAlgebra_yes _ _ _ _ _ _ _ (by omega) (by omega)).mono ?_
    rintro e w_17 ⟨rfl, h_17⟩
    clear lA0 qA00 qA01 qA02
    have A0_18 := Lib.hid (A0_14.out.ext h_17)
    clear A0_14
    have A2_19 := Lib.hid (A2_15.out.ext h_17)
    clear A2_15
    have E_20 := Lib.hid (E_16.out.trans h_17)
    clear E_16
    have z_21 := Ext.le h_17
    try simp only [World.size_alloc] at z_21
    have Z_21 := Lib.hid z_21
    clear z_21
    clear h_17
    have hp1 : 0 ≤ 1048576 - (n0 : Int) := by omega
    go_wp2_with fail
    refine (szMatrixS_yes (HR1.out.ext E_20.out) HW1.out HL1.out (by omega) hm1 (by omega)).mono ?_
    rintro e w_22 ⟨rfl, h_22⟩
    have A0_23 := Lib.hid (A0_18.out.ext h_22)
    clear A0_18
    have A2_24 := Lib.hid (A2_19.out.ext h_22)
    clear A2_19
    have E_25 := Lib.hid (E_20.out.trans h_22)
    clear E_20
    have z_26 := Ext.le h_22
    try simp only [World.size_alloc] at z_26
    have Z_26 := Lib.hid z_26
    clear z_26
    clear h_22
    have hp2 : 0 ≤ 1048576 - (n0 : Int) - (L1 : Int) := by omega
    have lA2 := A2_24.out.1
    have qA20 := A2_24.out.2 0 _ rfl
    have qA21 := A2_24.out.2 1 _ rfl
    have qA22 := A2_24.out.2 2 _ rfl
    have qA23 := A2_24.out.2 3 _ rfl
    try simp only [World.size_alloc] at lA2
    go_wp2_with fail
    refine (szMatrix_no _ _ _ _ _ _ _ _ (by omega) (by omega) hm2 (by omega)).mono ?_
    rintro e w_27 ⟨rfl, h_27⟩
    clear lA2 qA20 qA21 qA22 qA23
    go_wp2
    go_ret
    exact ⟨rfl, E_25.out.trans h_27⟩
  have hln1 : n1 ≤ L1 := by rw [← HL1.out]; exact Nat.le_add_right _ _
  have HT1 : Hid ((dats ms1).flatten.length ≤ 1048576) := by
    have h1 := msL_all ms1
    rw [HR1.out.1] at h1
    have h2 := HL1.out
    show _ ≤ _
    omega
  have hn0 : n0 ≤ 1048576 := by omega
  have hn1 : n1 ≤ 1048576 := by omega
  have hn2 : n2 ≤ 1048576 := by omega
  have hto1 := totM_le ms1 n1 HR1.out.1 hn1 HT1.out
  go_enter Try.func10, Try.ntmps10
  have T0 := cells_new' w #[.int .i64 P0, .int .i64 D0, .slice a0 n0 c0] 24 (w.heap.size) (by simp)
  have T2 := cells_new' (w.alloc (.cells #[.int .i64 P0, .int .i64 D0, .slice a0 n0 c0] 24)) #[.int .i64 P2, .int .i64 R2, .int .i64 C2, .slice a2 n2 c2] 56 (w.heap.size + 1) (by simp)
  have A0_28 := Lib.hid (T0.ext ((Ext.refl _).alloc (.cells #[.int .i64 P2, .int .i64 R2, .int .i64 C2, .slice a2 n2 c2] 56)))
  clear T0
  have A2_29 := Lib.hid (T2.ext (Ext.refl _))
  clear T2
  have E_30 := Lib.hid (((Ext.refl w).alloc (.cells #[.int .i64 P0, .int .i64 D0, .slice a0 n0 c0] 24)).alloc (.cells #[.int .i64 P2, .int .i64 R2, .int .i64 C2, .slice a2 n2 c2] 56))
  have lA0 := A0_28.out.1
  have qA00 := A0_28.out.2 0 _ rfl
  have qA01 := A0_28.out.2 1 _ rfl
  have qA02 := A0_28.out.2 2 _ rfl
  try simp only [World.size_alloc] at lA0
  go_wp2_with fail
  refine (szAlgebra_yes _ _ _ _ _ _ _ (by omega) (by omega)).mono ?_
  rintro e w_31 ⟨rfl, h_31⟩
  clear lA0 qA00 qA01 qA02
  have A0_32 := Lib.hid (A0_28.out.ext h_31)
  clear A0_28
  have A2_33 := Lib.hid (A2_29.out.ext h_31)
  clear A2_29
  have E_34 := Lib.hid (E_30.out.trans h_31)
  clear E_30
  have z_35 := Ext.le h_31
  try simp only [World.size_alloc] at z_35
  have Z_35 := Lib.hid z_35
  clear z_35
  clear h_31
  have hp1 : 0 ≤ 1048576 - (n0 : Int) := by omega
  go_wp2_with fail
  refine (szMatrixS_yes (HR1.out.ext E_34.out) HW1.out HL1.out (by omega) hm1 (by omega)).mono ?_
  rintro e w_36 ⟨rfl, h_36⟩
  have A0_37 := Lib.hid (A0_32.out.ext h_36)
  clear A0_32
  have A2_38 := Lib.hid (A2_33.out.ext h_36)
  clear A2_33
  have E_39 := Lib.hid (E_34.out.trans h_36)
  clear E_34
  have z_40 := Ext.le h_36
  try simp only [World.size_alloc] at z_40
  have Z_40 := Lib.hid z_40
  clear z_40
  clear h_36
  have hp2 : 0 ≤ 1048576 - (n0 : Int) - (L1 : Int) := by omega
  have lA2 := A2_38.out.1
  have qA20 := A2_38.out.2 0 _ rfl
  have qA21 := A2_38.out.2 1 _ rfl
  have qA22 := A2_38.out.2 2 _ rfl
  have qA23 := A2_38.out.2 3 _ rfl
  try simp only [World.size_alloc] at lA2
  go_wp2_with fail
  refine (szMatrix_yes _ _ _ _ _ _ _ _ (by omega) (by omega)).mono ?_
  rintro e w_41 ⟨rfl, h_41⟩
  clear lA2 qA20 qA21 qA22 qA23
  have A0_42 := Lib.hid (A0_37.out.ext h_41)
  clear A0_37
  have A2_43 := Lib.hid (A2_38.out.ext h_41)
  clear A2_38
  have E_44 := Lib.hid (E_39.out.trans h_41)
  clear E_39
  have z_45 := Ext.le h_41
  try simp only [World.size_alloc] at z_45
  have Z_45 := Lib.hid z_45
  clear z_45
  clear h_41
  have hp : 0 ≤ 1048576 - (n0 : Int) - (L1 : Int) - (n2 : Int) := by omega
  have lA0 := A0_42.out.1
  have qA00 := A0_42.out.2 0 _ rfl
  have qA01 := A0_42.out.2 1 _ rfl
  have qA02 := A0_42.out.2 2 _ rfl
  have lA2 := A2_43.out.1
  have qA20 := A2_43.out.2 0 _ rfl
  have qA21 := A2_43.out.2 1 _ rfl
  have qA22 := A2_43.out.2 2 _ rfl
  have qA23 := A2_43.out.2 3 _ rfl
  try simp only [World.size_alloc] at lA0 lA2
  go_upto_region 11 with fail
  go_cut [8, 9] (fun s0 s1 wx => ∃ B0 sa0 sn0 sc0, s0 = .pointer (some ⟨B0, 0, none⟩) ∧ s1 = .bool i1 ∧ Hid (Cells wx B0 [.int .i64 pP0, .int .i64 pR0, .int .i64 pC0, .slice sa0 sn0 sc0]) ∧ Hid (Own wx 0 wx.heap.size sa0 sn0 d0) ∧ sn0 ≤ 1048576 ∧ Hid (Ext w_41 wx))
  case first =>
    go_region_held3 (fun w' => Ext w_41 w' ∧ (∀ b o, b < w_41.heap.size → w'.cell? ⟨b, o, none⟩ = w_41.cell? ⟨b, o, none⟩)) (first | (with_reducible exact ext2 (Ext.trans (And.left ‹Ext w_41 _ ∧ _›) ‹Ext _ _›)) | (refine ext2 ?_; with_reducible repeat (first | exact Ext.refl _ | exact And.left ‹Ext w_41 _ ∧ _› | exact (((((Ext.refl _).drew).trans h_46).trans h_47).trans h_48).trans h_49 | refine Ext.drew ?_ | refine Ext.alloc ?_ _ | refine Ext.setCell ?_ (by have e0 : w_41.drew.heap.size = w_41.heap.size := rfl; simp <;> omega) _))) (first
      | (go_at_call_of 15 (Value.slice a0 n0 c0); refine (toAlgebra_law _ _ _ _ _ xs0 _ (HR0.out.ext (E_44.out.trans (And.left ‹Ext w_41 _ ∧ _›))) hn0).mono ?_; rintro e w_46 ⟨b_46, rfl, o_46, h_46⟩; have c_46 := h_46.cells; have f_46 := h_46.frees; have y_46 := h_46.le; have x_46 := fun k hk => Nat.lt_of_lt_of_le (n := k) hk h_46.le; (try simp only [World.size_drew] at y_46 x_46); (try simp only [World.size_alloc] at y_46 x_46); (try simp only [Nat.add_one_le_iff] at y_46); (try have z_46_0 : w_41.heap.size < w_46.heap.size := by omega); (try have z_46_2 : w_47.heap.size < w_46.heap.size := by omega); (try have z_46_3 : w_48.heap.size < w_46.heap.size := by omega); (try have z_46_4 : w_49.heap.size < w_46.heap.size := by omega))
      | (go_at_call_of 16 (Value.slice a1 n1 c1); refine (toMatrixS_law _ _ _ ms1 _ (HR1.out.ext (E_44.out.trans (And.left ‹Ext w_41 _ ∧ _›))) hn1 HT1.out).mono ?_; rintro e w_47 ⟨b_47, rfl, o_47, h_47⟩; have c_47 := h_47.cells; have f_47 := h_47.frees; have y_47 := h_47.le; have x_47 := fun k hk => Nat.lt_of_lt_of_le (n := k) hk h_47.le; (try simp only [World.size_drew] at y_47 x_47); (try simp only [World.size_alloc] at y_47 x_47); (try simp only [Nat.add_one_le_iff] at y_47); (try have z_47_0 : w_41.heap.size < w_47.heap.size := by omega); (try have z_47_1 : w_46.heap.size < w_47.heap.size := by omega); (try have z_47_3 : w_48.heap.size < w_47.heap.size := by omega); (try have z_47_4 : w_49.heap.size < w_47.heap.size := by omega))
      | (go_at_call_of 43 (Value.slice a2 n2 c2); refine (toMatrix_law _ _ _ _ _ _ xs2 _ (HR2.out.ext (E_44.out.trans (And.left ‹Ext w_41 _ ∧ _›))) hn2).mono ?_; rintro e w_48 ⟨b_48, rfl, o_48, h_48⟩; have c_48 := h_48.cells; have f_48 := h_48.frees; have y_48 := h_48.le; have x_48 := fun k hk => Nat.lt_of_lt_of_le (n := k) hk h_48.le; (try simp only [World.size_drew] at y_48 x_48); (try simp only [World.size_alloc] at y_48 x_48); (try simp only [Nat.add_one_le_iff] at y_48); (try have z_48_0 : w_41.heap.size < w_48.heap.size := by omega); (try have z_48_1 : w_46.heap.size < w_48.heap.size := by omega); (try have z_48_2 : w_47.heap.size < w_48.heap.size := by omega); (try have z_48_4 : w_49.heap.size < w_48.heap.size := by omega))
      | (go_at_call 42; refine (submoduleBy_spec (Own.reads (Own.ext o_46 (by with_reducible first | exact (((Ext.refl _).trans h_47).trans h_48) | exact Ext.alloc (((Ext.refl _).trans h_47).trans h_48) _ | exact (((Ext.alloc (Ext.refl _) _).trans h_47).trans h_48) | exact ((Ext.alloc ((Ext.refl _).trans h_47) _).trans h_48)))) hn0 (MatsO.reads (MatsO.ext o_47 (by with_reducible first | exact ((Ext.refl _).trans h_48) | exact Ext.alloc ((Ext.refl _).trans h_48) _ | exact ((Ext.alloc (Ext.refl _) _).trans h_48)))) hn1 (Own.reads (Own.ext o_48 (by with_reducible first | exact Ext.refl _ | exact Ext.alloc (Ext.refl _) _))) hn2 hM.out).mono ?_; rintro e w_49 ⟨v0, rfl, ⟨sa0, sn0, sc0, rfl, sO0, sm0⟩, h_49⟩; have c_49 := h_49.cells; have f_49 := h_49.frees; have y_49 := h_49.le; have x_49 := fun k hk => Nat.lt_of_lt_of_le (n := k) hk h_49.le; (try simp only [World.size_drew] at y_49 x_49); (try simp only [World.size_alloc] at y_49 x_49); (try simp only [Nat.add_one_le_iff] at y_49); (try have z_49_0 : w_41.heap.size < w_49.heap.size := by omega); (try have z_49_1 : w_46.heap.size < w_49.heap.size := by omega); (try have z_49_2 : w_47.heap.size < w_49.heap.size := by omega); (try have z_49_3 : w_48.heap.size < w_49.heap.size := by omega)))
    all_goals (go_wp2_with fail; go_meet; with_reducible first
      | exact ⟨w_49.heap.size, _, _, _, rfl, rfl, Lib.hid (cells_new w_49 #[.int .i64 pP0, .int .i64 pR0, .int .i64 pC0, .slice sa0 sn0 sc0] 37), Lib.hid (Own.any (Own.ext sO0 ((Ext.refl _).alloc _)) (by simp)), sm0, Lib.hid (And.left ‹Ext w_41 _ ∧ _›)⟩
      | exact ⟨w_48.heap.size, _, _, _, rfl, rfl, Lib.hid (early4 (lo := 0) ((cells_new w_48 _ _).ext h_49)), Lib.hid (Own.any (own4 sO0 (by have e0 : w_41.drew.heap.size = w_41.heap.size := rfl; simp <;> omega) _ _ _ _) (by simp)), sm0, Lib.hid (And.left ‹Ext w_41 _ ∧ _›)⟩
      | exact ⟨w_47.heap.size, _, _, _, rfl, rfl, Lib.hid (early4 (lo := 0) (((cells_new w_47 _ _).ext h_48).ext h_49)), Lib.hid (Own.any (own4 sO0 (by have e0 : w_41.drew.heap.size = w_41.heap.size := rfl; simp <;> omega) _ _ _ _) (by simp)), sm0, Lib.hid (And.left ‹Ext w_41 _ ∧ _›)⟩
      | exact ⟨w_46.heap.size, _, _, _, rfl, rfl, Lib.hid (early4 (lo := 0) ((((cells_new w_46 _ _).ext h_47).ext h_48).ext h_49)), Lib.hid (Own.any (own4 sO0 (by have e0 : w_41.drew.heap.size = w_41.heap.size := rfl; simp <;> omega) _ _ _ _) (by simp)), sm0, Lib.hid (And.left ‹Ext w_41 _ ∧ _›)⟩
      | exact ⟨w_41.heap.size, _, _, _, rfl, rfl, Lib.hid (early4 (lo := 0) ((((((cells_new w_41 _ _).ext (Ext.drew (Ext.refl _))).ext h_46).ext h_47).ext h_48).ext h_49)), Lib.hid (Own.any (own4 sO0 (by have e0 : w_41.drew.heap.size = w_41.heap.size := rfl; simp <;> omega) _ _ _ _) (by simp)), sm0, Lib.hid (And.left ‹Ext w_41 _ ∧ _›)⟩)
  case rest =>
    obtain ⟨B0, sa0, sn0, sc0, rfl, rfl, cB0, sO0, sm0, h_50⟩ := hcut
    have hx_50 := h_50.out
    clear h_50
    clear lA0 qA00 qA01 qA02 lA2 qA20 qA21 qA22 qA23
    obtain ⟨w_50, rfl⟩ : ∃ wq : World, wq = wc := ⟨_, rfl⟩
    have A0_51 := Lib.hid (A0_42.out.ext hx_50)
    clear A0_42
    have A2_52 := Lib.hid (A2_43.out.ext hx_50)
    clear A2_43
    have E_53 := Lib.hid (E_44.out.trans hx_50)
    clear E_44
    have z_54 := Ext.le hx_50
    try simp only [World.size_alloc] at z_54
    have Z_54 := Lib.hid z_54
    clear z_54
    clear hx_50
    have hsO0 := sO0.out
    clear sO0
    have S0_55 := Lib.hid (hsO0)
    clear hsO0
    have hcB0 := cB0.out
    clear cB0
    have ZcS0 := Lib.hid hcB0.1
    have SB0_56 := Lib.hid (hcB0)
    clear hcB0
    have lA0 := A0_51.out.1
    have qA00 := A0_51.out.2 0 _ rfl
    have qA01 := A0_51.out.2 1 _ rfl
    have qA02 := A0_51.out.2 2 _ rfl
    try simp only [World.size_alloc] at lA0
    go_wp2_with fail
    refine (toAlgebra_law _ _ _ _ _ xs0 _ (HR0.out.ext E_53.out) hn0).mono ?_
    rintro e w_57 ⟨b_57, rfl, o_57, h_57⟩
    clear lA0 qA00 qA01 qA02
    have A0_58 := Lib.hid (A0_51.out.ext h_57)
    clear A0_51
    have A2_59 := Lib.hid (A2_52.out.ext h_57)
    clear A2_52
    have S0_60 := Lib.hid (S0_55.out.ext h_57)
    clear S0_55
    have SB0_61 := Lib.hid (SB0_56.out.ext h_57)
    clear SB0_56
    have E_62 := Lib.hid (E_53.out.trans h_57)
    clear E_53
    have z_63 := Ext.le h_57
    try simp only [World.size_alloc] at z_63
    have Z_63 := Lib.hid z_63
    clear z_63
    try simp only [World.size_alloc] at o_57
    have X0_64 := Lib.hid (o_57)
    clear o_57 h_57
    have P_65 := (Ext.refl w_57).alloc (.cells #[.int .i64 P0, .int .i64 D0, .slice (some ⟨b_57, 0, none⟩) n0 n0] 29)
    have A0_66 := Lib.hid (A0_58.out.ext P_65)
    clear A0_58
    have A2_67 := Lib.hid (A2_59.out.ext P_65)
    clear A2_59
    have S0_68 := Lib.hid (S0_60.out.ext P_65)
    clear S0_60
    have SB0_69 := Lib.hid (SB0_61.out.ext P_65)
    clear SB0_61
    have X0_70 := Lib.hid (X0_64.out.ext P_65)
    clear X0_64
    have E_71 := Lib.hid (E_62.out.trans P_65)
    clear E_62
    clear P_65
    have XB0_72 := Lib.hid (cells_new w_57 #[.int .i64 P0, .int .i64 D0, .slice (some ⟨b_57, 0, none⟩) n0 n0] 29)
    go_wp2_with fail
    refine (toMatrixS_law _ _ _ ms1 _ (HR1.out.ext E_71.out) hn1 HT1.out).mono ?_
    rintro e w_73 ⟨b_73, rfl, o_73, h_73⟩
    have A0_74 := Lib.hid (A0_66.out.ext h_73)
    clear A0_66
    have A2_75 := Lib.hid (A2_67.out.ext h_73)
    clear A2_67
    have S0_76 := Lib.hid (S0_68.out.ext h_73)
    clear S0_68
    have SB0_77 := Lib.hid (SB0_69.out.ext h_73)
    clear SB0_69
    have X0_78 := Lib.hid (X0_70.out.ext h_73)
    clear X0_70
    have XB0_79 := Lib.hid (XB0_72.out.ext h_73)
    clear XB0_72
    have E_80 := Lib.hid (E_71.out.trans h_73)
    clear E_71
    have z_81 := Ext.le h_73
    try simp only [World.size_alloc] at z_81
    have Z_81 := Lib.hid z_81
    clear z_81
    try simp only [World.size_alloc] at o_73
    have X1_82 := Lib.hid (o_73)
    clear o_73 h_73
    have lA2 := A2_75.out.1
    have qA20 := A2_75.out.2 0 _ rfl
    have qA21 := A2_75.out.2 1 _ rfl
    have qA22 := A2_75.out.2 2 _ rfl
    have qA23 := A2_75.out.2 3 _ rfl
    try simp only [World.size_alloc] at lA2
    go_wp2_with fail
    refine (toMatrix_law _ _ _ _ _ _ xs2 _ (HR2.out.ext E_80.out) hn2).mono ?_
    rintro e w_83 ⟨b_83, rfl, o_83, h_83⟩
    clear lA2 qA20 qA21 qA22 qA23
    have A0_84 := Lib.hid (A0_74.out.ext h_83)
    clear A0_74
    have A2_85 := Lib.hid (A2_75.out.ext h_83)
    clear A2_75
    have S0_86 := Lib.hid (S0_76.out.ext h_83)
    clear S0_76
    have SB0_87 := Lib.hid (SB0_77.out.ext h_83)
    clear SB0_77
    have X0_88 := Lib.hid (X0_78.out.ext h_83)
    clear X0_78
    have XB0_89 := Lib.hid (XB0_79.out.ext h_83)
    clear XB0_79
    have X1_90 := Lib.hid (X1_82.out.ext h_83)
    clear X1_82
    have E_91 := Lib.hid (E_80.out.trans h_83)
    clear E_80
    have z_92 := Ext.le h_83
    try simp only [World.size_alloc] at z_92
    have Z_92 := Lib.hid z_92
    clear z_92
    try simp only [World.size_alloc] at o_83
    have X2_93 := Lib.hid (o_83)
    clear o_83 h_83
    have P_94 := (Ext.refl w_83).alloc (.cells #[.int .i64 P2, .int .i64 R2, .int .i64 C2, .slice (some ⟨b_83, 0, none⟩) n2 n2] 37)
    have A0_95 := Lib.hid (A0_84.out.ext P_94)
    clear A0_84
    have A2_96 := Lib.hid (A2_85.out.ext P_94)
    clear A2_85
    have S0_97 := Lib.hid (S0_86.out.ext P_94)
    clear S0_86
    have SB0_98 := Lib.hid (SB0_87.out.ext P_94)
    clear SB0_87
    have X0_99 := Lib.hid (X0_88.out.ext P_94)
    clear X0_88
    have XB0_100 := Lib.hid (XB0_89.out.ext P_94)
    clear XB0_89
    have X1_101 := Lib.hid (X1_90.out.ext P_94)
    clear X1_90
    have X2_102 := Lib.hid (X2_93.out.ext P_94)
    clear X2_93
    have E_103 := Lib.hid (E_91.out.trans P_94)
    clear E_91
    clear P_94
    have XB2_104 := Lib.hid (cells_new w_83 #[.int .i64 P2, .int .i64 R2, .int .i64 C2, .slice (some ⟨b_83, 0, none⟩) n2 n2] 37)
    have lXB0 := XB0_100.out.1
    have qXB00 := XB0_100.out.2 0 _ rfl
    have qXB01 := XB0_100.out.2 1 _ rfl
    have qXB02 := XB0_100.out.2 2 _ rfl
    have lXB2 := XB2_104.out.1
    have qXB20 := XB2_104.out.2 0 _ rfl
    have qXB21 := XB2_104.out.2 1 _ rfl
    have qXB22 := XB2_104.out.2 2 _ rfl
    have qXB23 := XB2_104.out.2 3 _ rfl
    try simp only [World.size_alloc] at lXB0 lXB2
    go_wp2_with fail
    refine (submoduleBy_impl X0_99.out.reads hn0 X1_101.out.reads hn1 X2_102.out.reads hn2 hM.out).mono ?_
    rintro e w_105 ⟨v0, rfl, ⟨ga0, gn0, gc0, rfl, gO0, gm0⟩, h_105⟩
    clear lXB0 qXB00 qXB01 qXB02 lXB2 qXB20 qXB21 qXB22 qXB23
    have A0_106 := Lib.hid (A0_95.out.ext h_105)
    clear A0_95
    have A2_107 := Lib.hid (A2_96.out.ext h_105)
    clear A2_96
    have S0_108 := Lib.hid (S0_97.out.ext h_105)
    clear S0_97
    have SB0_109 := Lib.hid (SB0_98.out.ext h_105)
    clear SB0_98
    have X0_110 := Lib.hid (X0_99.out.ext h_105)
    clear X0_99
    have XB0_111 := Lib.hid (XB0_100.out.ext h_105)
    clear XB0_100
    have X1_112 := Lib.hid (X1_101.out.ext h_105)
    clear X1_101
    have X2_113 := Lib.hid (X2_102.out.ext h_105)
    clear X2_102
    have XB2_114 := Lib.hid (XB2_104.out.ext h_105)
    clear XB2_104
    have E_115 := Lib.hid (E_103.out.trans h_105)
    clear E_103
    have z_116 := Ext.le h_105
    try simp only [World.size_alloc] at z_116
    have Z_116 := Lib.hid z_116
    clear z_116
    clear h_105
    try simp only [World.size_alloc] at gO0
    have G0_117 := Lib.hid (gO0)
    clear gO0
    have P_118 := (Ext.refl w_105).alloc (.cells #[.int .i64 pP0, .int .i64 pR0, .int .i64 pC0, .slice ga0 gn0 gc0] 37)
    have A0_119 := Lib.hid (A0_106.out.ext P_118)
    clear A0_106
    have A2_120 := Lib.hid (A2_107.out.ext P_118)
    clear A2_107
    have S0_121 := Lib.hid (S0_108.out.ext P_118)
    clear S0_108
    have SB0_122 := Lib.hid (SB0_109.out.ext P_118)
    clear SB0_109
    have X0_123 := Lib.hid (X0_110.out.ext P_118)
    clear X0_110
    have XB0_124 := Lib.hid (XB0_111.out.ext P_118)
    clear XB0_111
    have X1_125 := Lib.hid (X1_112.out.ext P_118)
    clear X1_112
    have X2_126 := Lib.hid (X2_113.out.ext P_118)
    clear X2_113
    have XB2_127 := Lib.hid (XB2_114.out.ext P_118)
    clear XB2_114
    have G0_128 := Lib.hid (G0_117.out.ext P_118)
    clear G0_117
    have E_129 := Lib.hid (E_115.out.trans P_118)
    clear E_115
    clear P_118
    have GB0_130 := Lib.hid (cells_new w_105 #[.int .i64 pP0, .int .i64 pR0, .int .i64 pC0, .slice ga0 gn0 gc0] 37)
    have X1_131 := Lib.hid X1_125.out.1
    clear X1_125
    obtain rfl : sn0 = gn0 := S0_121.out.len.symm.trans G0_128.out.len
    have lGB0 := GB0_130.out.1
    have qGB00 := GB0_130.out.2 0 _ rfl
    have qGB01 := GB0_130.out.2 1 _ rfl
    have qGB02 := GB0_130.out.2 2 _ rfl
    have qGB03 := GB0_130.out.2 3 _ rfl
    have lSB0 := SB0_122.out.1
    have qSB00 := SB0_122.out.2 0 _ rfl
    have qSB01 := SB0_122.out.2 1 _ rfl
    have qSB02 := SB0_122.out.2 2 _ rfl
    have qSB03 := SB0_122.out.2 3 _ rfl
    try simp only [World.size_alloc] at lGB0 lSB0
    go_wp2_with fail
    refine (eqMatrix_law _ _ _ _ _ _ _ _ d0 _ G0_128.out.reads S0_121.out.reads gm0).mono ?_
    rintro e w_132 ⟨rfl, h_132⟩
    clear lGB0 qGB00 qGB01 qGB02 qGB03 lSB0 qSB00 qSB01 qSB02 qSB03
    have A0_133 := Lib.hid (A0_119.out.ext h_132)
    clear A0_119
    have A2_134 := Lib.hid (A2_120.out.ext h_132)
    clear A2_120
    have S0_135 := Lib.hid (S0_121.out.ext h_132)
    clear S0_121
    have SB0_136 := Lib.hid (SB0_122.out.ext h_132)
    clear SB0_122
    have X0_137 := Lib.hid (X0_123.out.ext h_132)
    clear X0_123
    have XB0_138 := Lib.hid (XB0_124.out.ext h_132)
    clear XB0_124
    have X1_139 := Lib.hid (X1_131.out.ext h_132)
    clear X1_131
    have X2_140 := Lib.hid (X2_126.out.ext h_132)
    clear X2_126
    have XB2_141 := Lib.hid (XB2_127.out.ext h_132)
    clear XB2_127
    have G0_142 := Lib.hid (G0_128.out.ext h_132)
    clear G0_128
    have GB0_143 := Lib.hid (GB0_130.out.ext h_132)
    clear GB0_130
    have E_144 := Lib.hid (E_129.out.trans h_132)
    clear E_129
    have z_145 := Ext.le h_132
    try simp only [World.size_alloc] at z_145
    have Z_145 := Lib.hid z_145
    clear z_145
    clear h_132
    have lXB0 := XB0_138.out.1
    have qXB00 := XB0_138.out.2 0 _ rfl
    have qXB01 := XB0_138.out.2 1 _ rfl
    have qXB02 := XB0_138.out.2 2 _ rfl
    have lA0 := A0_133.out.1
    have qA00 := A0_133.out.2 0 _ rfl
    have qA01 := A0_133.out.2 1 _ rfl
    have qA02 := A0_133.out.2 2 _ rfl
    try simp only [World.size_alloc] at lXB0 lA0
    go_wp2_with fail
    go_region_held3 (fun w' => Ext w_132 w' ∧ (∀ b o, b < w_132.heap.size → w'.cell? ⟨b, o, none⟩ = w_132.cell? ⟨b, o, none⟩)) (first | (with_reducible exact ext2 (Ext.trans (And.left ‹Ext w_132 _ ∧ _›) ‹Ext _ _›)) | (refine ext2 ?_; with_reducible repeat (first | exact Ext.refl _ | refine Ext.drew ?_))) (first
      | (go_at_call 15; refine (toAlgebra_law _ _ _ _ _ xs0 _ (HR0.out.ext (E_144.out.trans (And.left ‹Ext w_132 _ ∧ _›))) hn0).mono ?_; rintro e w_146 ⟨b_146, rfl, o_146, h_146⟩)
      | (go_at_call 18; refine (eqAlgebra_law _ _ _ _ _ _ _ xs0 _ (Own.reads (Own.ext X0_137.out (And.left ‹Ext w_132 _ ∧ _›))) (Own.reads o_146) hn0).mono ?_; rintro e w_147 ⟨rfl, h_147⟩))
    clear lXB0 qXB00 qXB01 qXB02 lA0 qA00 qA01 qA02
    have hx_147 := And.left ‹Ext w_132 w_147 ∧ _›
    try clear h_146 h_147 o_146
    have A0_148 := Lib.hid (A0_133.out.ext hx_147)
    clear A0_133
    have A2_149 := Lib.hid (A2_134.out.ext hx_147)
    clear A2_134
    have S0_150 := Lib.hid (S0_135.out.ext hx_147)
    clear S0_135
    have SB0_151 := Lib.hid (SB0_136.out.ext hx_147)
    clear SB0_136
    have X0_152 := Lib.hid (X0_137.out.ext hx_147)
    clear X0_137
    have XB0_153 := Lib.hid (XB0_138.out.ext hx_147)
    clear XB0_138
    have X1_154 := Lib.hid (X1_139.out.ext hx_147)
    clear X1_139
    have X2_155 := Lib.hid (X2_140.out.ext hx_147)
    clear X2_140
    have XB2_156 := Lib.hid (XB2_141.out.ext hx_147)
    clear XB2_141
    have G0_157 := Lib.hid (G0_142.out.ext hx_147)
    clear G0_142
    have GB0_158 := Lib.hid (GB0_143.out.ext hx_147)
    clear GB0_143
    have E_159 := Lib.hid (E_144.out.trans hx_147)
    clear E_144
    have z_160 := Ext.le hx_147
    try simp only [World.size_alloc] at z_160
    have Z_160 := Lib.hid z_160
    clear z_160
    clear hx_147
    go_wp2_with fail
    refine (toMatrixS_law _ _ _ ms1 _ (HR1.out.ext E_159.out) hn1 HT1.out).mono ?_
    rintro e w_161 ⟨b_161, rfl, o_161, h_161⟩
    have A0_162 := Lib.hid (A0_148.out.ext h_161)
    clear A0_148
    have A2_163 := Lib.hid (A2_149.out.ext h_161)
    clear A2_149
    have S0_164 := Lib.hid (S0_150.out.ext h_161)
    clear S0_150
    have SB0_165 := Lib.hid (SB0_151.out.ext h_161)
    clear SB0_151
    have X0_166 := Lib.hid (X0_152.out.ext h_161)
    clear X0_152
    have XB0_167 := Lib.hid (XB0_153.out.ext h_161)
    clear XB0_153
    have X1_168 := Lib.hid (X1_154.out.ext h_161)
    clear X1_154
    have X2_169 := Lib.hid (X2_155.out.ext h_161)
    clear X2_155
    have XB2_170 := Lib.hid (XB2_156.out.ext h_161)
    clear XB2_156
    have G0_171 := Lib.hid (G0_157.out.ext h_161)
    clear G0_157
    have GB0_172 := Lib.hid (GB0_158.out.ext h_161)
    clear GB0_158
    have E_173 := Lib.hid (E_159.out.trans h_161)
    clear E_159
    have z_174 := Ext.le h_161
    try simp only [World.size_alloc] at z_174
    have Z_174 := Lib.hid z_174
    clear z_174
    have T_175 := Lib.hid (o_161)
    clear o_161 h_161
    go_wp2_with fail
    refine (eqMatrixS_x _ _ _ _ _ _ _ _ _ ms1 _ X1_168.out T_175.out.1 hn1).mono ?_
    rintro e w_176 ⟨rfl, h_176⟩
    clear T_175
    have A0_177 := Lib.hid (A0_162.out.ext h_176)
    clear A0_162
    have A2_178 := Lib.hid (A2_163.out.ext h_176)
    clear A2_163
    have S0_179 := Lib.hid (S0_164.out.ext h_176)
    clear S0_164
    have SB0_180 := Lib.hid (SB0_165.out.ext h_176)
    clear SB0_165
    have X0_181 := Lib.hid (X0_166.out.ext h_176)
    clear X0_166
    have XB0_182 := Lib.hid (XB0_167.out.ext h_176)
    clear XB0_167
    have X1_183 := Lib.hid (X1_168.out.ext h_176)
    clear X1_168
    have X2_184 := Lib.hid (X2_169.out.ext h_176)
    clear X2_169
    have XB2_185 := Lib.hid (XB2_170.out.ext h_176)
    clear XB2_170
    have G0_186 := Lib.hid (G0_171.out.ext h_176)
    clear G0_171
    have GB0_187 := Lib.hid (GB0_172.out.ext h_176)
    clear GB0_172
    have E_188 := Lib.hid (E_173.out.trans h_176)
    clear E_173
    have z_189 := Ext.le h_176
    try simp only [World.size_alloc] at z_189
    have Z_189 := Lib.hid z_189
    clear z_189
    clear h_176
    have lXB2 := XB2_185.out.1
    have qXB20 := XB2_185.out.2 0 _ rfl
    have qXB21 := XB2_185.out.2 1 _ rfl
    have qXB22 := XB2_185.out.2 2 _ rfl
    have qXB23 := XB2_185.out.2 3 _ rfl
    have lA2 := A2_178.out.1
    have qA20 := A2_178.out.2 0 _ rfl
    have qA21 := A2_178.out.2 1 _ rfl
    have qA22 := A2_178.out.2 2 _ rfl
    have qA23 := A2_178.out.2 3 _ rfl
    try simp only [World.size_alloc] at lXB2 lA2
    go_wp2_with fail
    go_region_held3 (fun w' => Ext w_176 w' ∧ (∀ b o, b < w_176.heap.size → w'.cell? ⟨b, o, none⟩ = w_176.cell? ⟨b, o, none⟩)) (first | (with_reducible exact ext2 (Ext.trans (And.left ‹Ext w_176 _ ∧ _›) ‹Ext _ _›)) | (refine ext2 ?_; with_reducible repeat (first | exact Ext.refl _ | refine Ext.drew ?_))) (first
      | (go_at_call 43; refine (toMatrix_law _ _ _ _ _ _ xs2 _ (HR2.out.ext (E_188.out.trans (And.left ‹Ext w_176 _ ∧ _›))) hn2).mono ?_; rintro e w_190 ⟨b_190, rfl, o_190, h_190⟩)
      | (go_at_call 23; refine (eqMatrix_law _ _ _ _ _ _ _ _ xs2 _ (Own.reads (Own.ext X2_184.out (And.left ‹Ext w_176 _ ∧ _›))) (Own.reads o_190) hn2).mono ?_; rintro e w_191 ⟨rfl, h_191⟩))
    clear lXB2 qXB20 qXB21 qXB22 qXB23 lA2 qA20 qA21 qA22 qA23
    have hx_191 := And.left ‹Ext w_176 w_191 ∧ _›
    try clear h_190 h_191 o_190
    have A0_192 := Lib.hid (A0_177.out.ext hx_191)
    clear A0_177
    have A2_193 := Lib.hid (A2_178.out.ext hx_191)
    clear A2_178
    have S0_194 := Lib.hid (S0_179.out.ext hx_191)
    clear S0_179
    have SB0_195 := Lib.hid (SB0_180.out.ext hx_191)
    clear SB0_180
    have X0_196 := Lib.hid (X0_181.out.ext hx_191)
    clear X0_181
    have XB0_197 := Lib.hid (XB0_182.out.ext hx_191)
    clear XB0_182
    have X1_198 := Lib.hid (X1_183.out.ext hx_191)
    clear X1_183
    have X2_199 := Lib.hid (X2_184.out.ext hx_191)
    clear X2_184
    have XB2_200 := Lib.hid (XB2_185.out.ext hx_191)
    clear XB2_185
    have G0_201 := Lib.hid (G0_186.out.ext hx_191)
    clear G0_186
    have GB0_202 := Lib.hid (GB0_187.out.ext hx_191)
    clear GB0_187
    have E_203 := Lib.hid (E_188.out.trans hx_191)
    clear E_188
    have z_204 := Ext.le hx_191
    try simp only [World.size_alloc] at z_204
    have Z_204 := Lib.hid z_204
    clear z_204
    clear hx_191
    have X0_b205 := Lib.hid X0_196.out.blk
    have lXB0 := XB0_197.out.1
    have qXB00 := XB0_197.out.2 0 _ rfl
    have qXB01 := XB0_197.out.2 1 _ rfl
    have qXB02 := XB0_197.out.2 2 _ rfl
    try simp only [World.size_alloc] at lXB0
    go_wp2_with fail
    refine (markAlgebra_law _ _ _ _ _ _ _ _ _ _ X0_196.out hn0 (by omega) (by omega)).mono ?_
    rintro e w_206 ⟨rfl, o_206, g_206⟩
    clear lXB0 qXB00 qXB01 qXB02
    clear X0_196
    have A0_207 := Lib.hid (A0_192.out.grown g_206 (fun k hk => by have := X0_b205.out k hk; have := Z_35.out; have := Z_40.out; have := Z_45.out; have := Z_54.out; have := ZcS0.out; have := Z_63.out; have := Z_81.out; have := Z_92.out; have := Z_116.out; have := Z_145.out; have := Z_160.out; have := Z_174.out; have := Z_189.out; have := Z_204.out; omega))
    clear A0_192
    have A2_208 := Lib.hid (A2_193.out.grown g_206 (fun k hk => by have := X0_b205.out k hk; have := Z_35.out; have := Z_40.out; have := Z_45.out; have := Z_54.out; have := ZcS0.out; have := Z_63.out; have := Z_81.out; have := Z_92.out; have := Z_116.out; have := Z_145.out; have := Z_160.out; have := Z_174.out; have := Z_189.out; have := Z_204.out; omega))
    clear A2_193
    have S0_209 := Lib.hid (S0_194.out.grown g_206 (fun k hk => by have := X0_b205.out k hk; have := Z_35.out; have := Z_40.out; have := Z_45.out; have := Z_54.out; have := ZcS0.out; have := Z_63.out; have := Z_81.out; have := Z_92.out; have := Z_116.out; have := Z_145.out; have := Z_160.out; have := Z_174.out; have := Z_189.out; have := Z_204.out; omega))
    clear S0_194
    have SB0_210 := Lib.hid (SB0_195.out.grown g_206 (fun k hk => by have := X0_b205.out k hk; have := Z_35.out; have := Z_40.out; have := Z_45.out; have := Z_54.out; have := ZcS0.out; have := Z_63.out; have := Z_81.out; have := Z_92.out; have := Z_116.out; have := Z_145.out; have := Z_160.out; have := Z_174.out; have := Z_189.out; have := Z_204.out; omega))
    clear SB0_195
    have XB0_211 := Lib.hid (XB0_197.out.grown g_206 (fun k hk => by have := X0_b205.out k hk; have := Z_35.out; have := Z_40.out; have := Z_45.out; have := Z_54.out; have := ZcS0.out; have := Z_63.out; have := Z_81.out; have := Z_92.out; have := Z_116.out; have := Z_145.out; have := Z_160.out; have := Z_174.out; have := Z_189.out; have := Z_204.out; omega))
    clear XB0_197
    have X1_212 := Lib.hid (X1_198.out.grown g_206 (fun k hk => by have := X0_b205.out k hk; have := Z_35.out; have := Z_40.out; have := Z_45.out; have := Z_54.out; have := ZcS0.out; have := Z_63.out; have := Z_81.out; have := Z_92.out; have := Z_116.out; have := Z_145.out; have := Z_160.out; have := Z_174.out; have := Z_189.out; have := Z_204.out; omega))
    clear X1_198
    have X2_213 := Lib.hid (X2_199.out.grown g_206 (fun k hk => by have := X0_b205.out k hk; have := Z_35.out; have := Z_40.out; have := Z_45.out; have := Z_54.out; have := ZcS0.out; have := Z_63.out; have := Z_81.out; have := Z_92.out; have := Z_116.out; have := Z_145.out; have := Z_160.out; have := Z_174.out; have := Z_189.out; have := Z_204.out; omega))
    clear X2_199
    have XB2_214 := Lib.hid (XB2_200.out.grown g_206 (fun k hk => by have := X0_b205.out k hk; have := Z_35.out; have := Z_40.out; have := Z_45.out; have := Z_54.out; have := ZcS0.out; have := Z_63.out; have := Z_81.out; have := Z_92.out; have := Z_116.out; have := Z_145.out; have := Z_160.out; have := Z_174.out; have := Z_189.out; have := Z_204.out; omega))
    clear XB2_200
    have G0_215 := Lib.hid (G0_201.out.grown g_206 (fun k hk => by have := X0_b205.out k hk; have := Z_35.out; have := Z_40.out; have := Z_45.out; have := Z_54.out; have := ZcS0.out; have := Z_63.out; have := Z_81.out; have := Z_92.out; have := Z_116.out; have := Z_145.out; have := Z_160.out; have := Z_174.out; have := Z_189.out; have := Z_204.out; omega))
    clear G0_201
    have GB0_216 := Lib.hid (GB0_202.out.grown g_206 (fun k hk => by have := X0_b205.out k hk; have := Z_35.out; have := Z_40.out; have := Z_45.out; have := Z_54.out; have := ZcS0.out; have := Z_63.out; have := Z_81.out; have := Z_92.out; have := Z_116.out; have := Z_145.out; have := Z_160.out; have := Z_174.out; have := Z_189.out; have := Z_204.out; omega))
    clear GB0_202
    have E_217 := Lib.hid (E_203.out.grown g_206 (fun k hk => by have := X0_b205.out k hk; have := Z_35.out; have := Z_40.out; have := Z_45.out; have := Z_54.out; have := ZcS0.out; have := Z_63.out; have := Z_81.out; have := Z_92.out; have := Z_116.out; have := Z_145.out; have := Z_160.out; have := Z_174.out; have := Z_189.out; have := Z_204.out; omega))
    clear E_203
    have Z_218 := Lib.hid g_206.size
    clear g_206 X0_b205
    have X0_219 := Lib.hid (o_206)
    clear o_206
    clear X0_219
    clear XB0_211
    go_wp2_with fail
    refine (markMatrixS_law _ _ _ _ _ _ _ _ X1_212.out hn1 (by omega) (by omega)).mono ?_
    rintro e w_220 ⟨rfl, o_220, g_220⟩
    clear X1_212
    have A0_221 := Lib.hid (A0_207.out.touch g_220 (by have := Z_35.out; have := Z_40.out; have := Z_45.out; have := Z_54.out; have := ZcS0.out; have := Z_63.out; have := Z_81.out; have := Z_92.out; have := Z_116.out; have := Z_145.out; have := Z_160.out; have := Z_174.out; have := Z_189.out; have := Z_204.out; have := Z_218.out; omega))
    clear A0_207
    have A2_222 := Lib.hid (A2_208.out.touch g_220 (by have := Z_35.out; have := Z_40.out; have := Z_45.out; have := Z_54.out; have := ZcS0.out; have := Z_63.out; have := Z_81.out; have := Z_92.out; have := Z_116.out; have := Z_145.out; have := Z_160.out; have := Z_174.out; have := Z_189.out; have := Z_204.out; have := Z_218.out; omega))
    clear A2_208
    have S0_223 := Lib.hid (S0_209.out.touch g_220 (by have := Z_35.out; have := Z_40.out; have := Z_45.out; have := Z_54.out; have := ZcS0.out; have := Z_63.out; have := Z_81.out; have := Z_92.out; have := Z_116.out; have := Z_145.out; have := Z_160.out; have := Z_174.out; have := Z_189.out; have := Z_204.out; have := Z_218.out; omega))
    clear S0_209
    have SB0_224 := Lib.hid (SB0_210.out.touch g_220 (by have := Z_35.out; have := Z_40.out; have := Z_45.out; have := Z_54.out; have := ZcS0.out; have := Z_63.out; have := Z_81.out; have := Z_92.out; have := Z_116.out; have := Z_145.out; have := Z_160.out; have := Z_174.out; have := Z_189.out; have := Z_204.out; have := Z_218.out; omega))
    clear SB0_210
    have X2_225 := Lib.hid (X2_213.out.touch g_220 (by have := Z_35.out; have := Z_40.out; have := Z_45.out; have := Z_54.out; have := ZcS0.out; have := Z_63.out; have := Z_81.out; have := Z_92.out; have := Z_116.out; have := Z_145.out; have := Z_160.out; have := Z_174.out; have := Z_189.out; have := Z_204.out; have := Z_218.out; omega))
    clear X2_213
    have XB2_226 := Lib.hid (XB2_214.out.touch g_220 (by have := Z_35.out; have := Z_40.out; have := Z_45.out; have := Z_54.out; have := ZcS0.out; have := Z_63.out; have := Z_81.out; have := Z_92.out; have := Z_116.out; have := Z_145.out; have := Z_160.out; have := Z_174.out; have := Z_189.out; have := Z_204.out; have := Z_218.out; omega))
    clear XB2_214
    have G0_227 := Lib.hid (G0_215.out.touch g_220 (by have := Z_35.out; have := Z_40.out; have := Z_45.out; have := Z_54.out; have := ZcS0.out; have := Z_63.out; have := Z_81.out; have := Z_92.out; have := Z_116.out; have := Z_145.out; have := Z_160.out; have := Z_174.out; have := Z_189.out; have := Z_204.out; have := Z_218.out; omega))
    clear G0_215
    have GB0_228 := Lib.hid (GB0_216.out.touch g_220 (by have := Z_35.out; have := Z_40.out; have := Z_45.out; have := Z_54.out; have := ZcS0.out; have := Z_63.out; have := Z_81.out; have := Z_92.out; have := Z_116.out; have := Z_145.out; have := Z_160.out; have := Z_174.out; have := Z_189.out; have := Z_204.out; have := Z_218.out; omega))
    clear GB0_216
    have E_229 := Lib.hid (E_217.out.touch g_220 (by have := Z_35.out; have := Z_40.out; have := Z_45.out; have := Z_54.out; have := ZcS0.out; have := Z_63.out; have := Z_81.out; have := Z_92.out; have := Z_116.out; have := Z_145.out; have := Z_160.out; have := Z_174.out; have := Z_189.out; have := Z_204.out; have := Z_218.out; omega))
    clear E_217
    have Z_230 := Lib.hid g_220.size
    clear g_220
    have X1_231 := Lib.hid (o_220)
    clear o_220
    clear X1_231
    have X2_b232 := Lib.hid X2_225.out.blk
    have lXB2 := XB2_226.out.1
    have qXB20 := XB2_226.out.2 0 _ rfl
    have qXB21 := XB2_226.out.2 1 _ rfl
    have qXB22 := XB2_226.out.2 2 _ rfl
    have qXB23 := XB2_226.out.2 3 _ rfl
    try simp only [World.size_alloc] at lXB2
    go_wp2_with fail
    refine (markMatrix_law _ _ _ _ _ _ _ _ _ _ _ X2_225.out hn2 (by omega) (by omega)).mono ?_
    rintro e w_233 ⟨rfl, o_233, g_233⟩
    clear lXB2 qXB20 qXB21 qXB22 qXB23
    clear X2_225
    have A0_234 := Lib.hid (A0_221.out.grown g_233 (fun k hk => by have := X2_b232.out k hk; have := Z_35.out; have := Z_40.out; have := Z_45.out; have := Z_54.out; have := ZcS0.out; have := Z_63.out; have := Z_81.out; have := Z_92.out; have := Z_116.out; have := Z_145.out; have := Z_160.out; have := Z_174.out; have := Z_189.out; have := Z_204.out; have := Z_218.out; have := Z_230.out; omega))
    clear A0_221
    have A2_235 := Lib.hid (A2_222.out.grown g_233 (fun k hk => by have := X2_b232.out k hk; have := Z_35.out; have := Z_40.out; have := Z_45.out; have := Z_54.out; have := ZcS0.out; have := Z_63.out; have := Z_81.out; have := Z_92.out; have := Z_116.out; have := Z_145.out; have := Z_160.out; have := Z_174.out; have := Z_189.out; have := Z_204.out; have := Z_218.out; have := Z_230.out; omega))
    clear A2_222
    have S0_236 := Lib.hid (S0_223.out.grown g_233 (fun k hk => by have := X2_b232.out k hk; have := Z_35.out; have := Z_40.out; have := Z_45.out; have := Z_54.out; have := ZcS0.out; have := Z_63.out; have := Z_81.out; have := Z_92.out; have := Z_116.out; have := Z_145.out; have := Z_160.out; have := Z_174.out; have := Z_189.out; have := Z_204.out; have := Z_218.out; have := Z_230.out; omega))
    clear S0_223
    have SB0_237 := Lib.hid (SB0_224.out.grown g_233 (fun k hk => by have := X2_b232.out k hk; have := Z_35.out; have := Z_40.out; have := Z_45.out; have := Z_54.out; have := ZcS0.out; have := Z_63.out; have := Z_81.out; have := Z_92.out; have := Z_116.out; have := Z_145.out; have := Z_160.out; have := Z_174.out; have := Z_189.out; have := Z_204.out; have := Z_218.out; have := Z_230.out; omega))
    clear SB0_224
    have XB2_238 := Lib.hid (XB2_226.out.grown g_233 (fun k hk => by have := X2_b232.out k hk; have := Z_35.out; have := Z_40.out; have := Z_45.out; have := Z_54.out; have := ZcS0.out; have := Z_63.out; have := Z_81.out; have := Z_92.out; have := Z_116.out; have := Z_145.out; have := Z_160.out; have := Z_174.out; have := Z_189.out; have := Z_204.out; have := Z_218.out; have := Z_230.out; omega))
    clear XB2_226
    have G0_239 := Lib.hid (G0_227.out.grown g_233 (fun k hk => by have := X2_b232.out k hk; have := Z_35.out; have := Z_40.out; have := Z_45.out; have := Z_54.out; have := ZcS0.out; have := Z_63.out; have := Z_81.out; have := Z_92.out; have := Z_116.out; have := Z_145.out; have := Z_160.out; have := Z_174.out; have := Z_189.out; have := Z_204.out; have := Z_218.out; have := Z_230.out; omega))
    clear G0_227
    have GB0_240 := Lib.hid (GB0_228.out.grown g_233 (fun k hk => by have := X2_b232.out k hk; have := Z_35.out; have := Z_40.out; have := Z_45.out; have := Z_54.out; have := ZcS0.out; have := Z_63.out; have := Z_81.out; have := Z_92.out; have := Z_116.out; have := Z_145.out; have := Z_160.out; have := Z_174.out; have := Z_189.out; have := Z_204.out; have := Z_218.out; have := Z_230.out; omega))
    clear GB0_228
    have E_241 := Lib.hid (E_229.out.grown g_233 (fun k hk => by have := X2_b232.out k hk; have := Z_35.out; have := Z_40.out; have := Z_45.out; have := Z_54.out; have := ZcS0.out; have := Z_63.out; have := Z_81.out; have := Z_92.out; have := Z_116.out; have := Z_145.out; have := Z_160.out; have := Z_174.out; have := Z_189.out; have := Z_204.out; have := Z_218.out; have := Z_230.out; omega))
    clear E_229
    have Z_242 := Lib.hid g_233.size
    clear g_233 X2_b232
    have X2_243 := Lib.hid (o_233)
    clear o_233
    clear X2_243
    clear XB2_238
    have hk : 0 ≤ 1 + (n0 : Int) + (totM ms1 : Int) + (n2 : Int) := by omega
    have lGB0 := GB0_240.out.1
    have qGB00 := GB0_240.out.2 0 _ rfl
    have qGB01 := GB0_240.out.2 1 _ rfl
    have qGB02 := GB0_240.out.2 2 _ rfl
    have qGB03 := GB0_240.out.2 3 _ rfl
    have lSB0 := SB0_237.out.1
    have qSB00 := SB0_237.out.2 0 _ rfl
    have qSB01 := SB0_237.out.2 1 _ rfl
    have qSB02 := SB0_237.out.2 2 _ rfl
    have qSB03 := SB0_237.out.2 3 _ rfl
    try simp only [World.size_alloc] at lGB0 lSB0
    go_wp2_with fail
    refine (eqMatrix_law _ _ _ _ _ _ _ _ d0 _ G0_239.out.reads S0_236.out.reads gm0).mono ?_
    rintro e w_244 ⟨rfl, h_244⟩
    clear lGB0 qGB00 qGB01 qGB02 qGB03 lSB0 qSB00 qSB01 qSB02 qSB03
    have A0_245 := Lib.hid (A0_234.out.ext h_244)
    clear A0_234
    have A2_246 := Lib.hid (A2_235.out.ext h_244)
    clear A2_235
    have S0_247 := Lib.hid (S0_236.out.ext h_244)
    clear S0_236
    have SB0_248 := Lib.hid (SB0_237.out.ext h_244)
    clear SB0_237
    have G0_249 := Lib.hid (G0_239.out.ext h_244)
    clear G0_239
    have GB0_250 := Lib.hid (GB0_240.out.ext h_244)
    clear GB0_240
    have E_251 := Lib.hid (E_241.out.trans h_244)
    clear E_241
    have z_252 := Ext.le h_244
    try simp only [World.size_alloc] at z_252
    have Z_252 := Lib.hid z_252
    clear z_252
    clear h_244
    clear hk
    have G0_b253 := Lib.hid G0_249.out.blk
    have lGB0 := GB0_250.out.1
    have qGB00 := GB0_250.out.2 0 _ rfl
    have qGB01 := GB0_250.out.2 1 _ rfl
    have qGB02 := GB0_250.out.2 2 _ rfl
    have qGB03 := GB0_250.out.2 3 _ rfl
    try simp only [World.size_alloc] at lGB0
    go_wp2_with fail
    refine (markMatrix_law _ _ _ _ _ _ _ _ _ _ _ G0_249.out gm0 (by omega) (by omega)).mono ?_
    rintro e w_254 ⟨rfl, o_254, g_254⟩
    clear lGB0 qGB00 qGB01 qGB02 qGB03
    clear G0_249
    have A0_255 := Lib.hid (A0_245.out.grown g_254 (fun k hk => by have := G0_b253.out k hk; have := Z_35.out; have := Z_40.out; have := Z_45.out; have := Z_54.out; have := ZcS0.out; have := Z_63.out; have := Z_81.out; have := Z_92.out; have := Z_116.out; have := Z_145.out; have := Z_160.out; have := Z_174.out; have := Z_189.out; have := Z_204.out; have := Z_218.out; have := Z_230.out; have := Z_242.out; have := Z_252.out; omega))
    clear A0_245
    have A2_256 := Lib.hid (A2_246.out.grown g_254 (fun k hk => by have := G0_b253.out k hk; have := Z_35.out; have := Z_40.out; have := Z_45.out; have := Z_54.out; have := ZcS0.out; have := Z_63.out; have := Z_81.out; have := Z_92.out; have := Z_116.out; have := Z_145.out; have := Z_160.out; have := Z_174.out; have := Z_189.out; have := Z_204.out; have := Z_218.out; have := Z_230.out; have := Z_242.out; have := Z_252.out; omega))
    clear A2_246
    have S0_257 := Lib.hid (S0_247.out.grown g_254 (fun k hk => by have := G0_b253.out k hk; have := Z_35.out; have := Z_40.out; have := Z_45.out; have := Z_54.out; have := ZcS0.out; have := Z_63.out; have := Z_81.out; have := Z_92.out; have := Z_116.out; have := Z_145.out; have := Z_160.out; have := Z_174.out; have := Z_189.out; have := Z_204.out; have := Z_218.out; have := Z_230.out; have := Z_242.out; have := Z_252.out; omega))
    clear S0_247
    have SB0_258 := Lib.hid (SB0_248.out.grown g_254 (fun k hk => by have := G0_b253.out k hk; have := Z_35.out; have := Z_40.out; have := Z_45.out; have := Z_54.out; have := ZcS0.out; have := Z_63.out; have := Z_81.out; have := Z_92.out; have := Z_116.out; have := Z_145.out; have := Z_160.out; have := Z_174.out; have := Z_189.out; have := Z_204.out; have := Z_218.out; have := Z_230.out; have := Z_242.out; have := Z_252.out; omega))
    clear SB0_248
    have GB0_259 := Lib.hid (GB0_250.out.grown g_254 (fun k hk => by have := G0_b253.out k hk; have := Z_35.out; have := Z_40.out; have := Z_45.out; have := Z_54.out; have := ZcS0.out; have := Z_63.out; have := Z_81.out; have := Z_92.out; have := Z_116.out; have := Z_145.out; have := Z_160.out; have := Z_174.out; have := Z_189.out; have := Z_204.out; have := Z_218.out; have := Z_230.out; have := Z_242.out; have := Z_252.out; omega))
    clear GB0_250
    have E_260 := Lib.hid (E_251.out.grown g_254 (fun k hk => by have := G0_b253.out k hk; have := Z_35.out; have := Z_40.out; have := Z_45.out; have := Z_54.out; have := ZcS0.out; have := Z_63.out; have := Z_81.out; have := Z_92.out; have := Z_116.out; have := Z_145.out; have := Z_160.out; have := Z_174.out; have := Z_189.out; have := Z_204.out; have := Z_218.out; have := Z_230.out; have := Z_242.out; have := Z_252.out; omega))
    clear E_251
    have Z_261 := Lib.hid g_254.size
    clear g_254 G0_b253
    have G0_262 := Lib.hid (o_254)
    clear o_254
    have lGB0 := GB0_259.out.1
    have qGB00 := GB0_259.out.2 0 _ rfl
    have qGB01 := GB0_259.out.2 1 _ rfl
    have qGB02 := GB0_259.out.2 2 _ rfl
    have qGB03 := GB0_259.out.2 3 _ rfl
    try simp only [World.size_alloc] at lGB0
    go_wp2_with fail
    refine (heldMatrix_law _ _ _ _ _ _ _ _ G0_262.out.reads gm0 (by omega) (by omega)).mono ?_
    rintro e w_263 ⟨rfl, h_263⟩
    clear lGB0 qGB00 qGB01 qGB02 qGB03
    have hq263 : 0 ≤ 1 + (sn0 : Int) := by omega
    have A0_264 := Lib.hid (A0_255.out.ext h_263)
    clear A0_255
    have A2_265 := Lib.hid (A2_256.out.ext h_263)
    clear A2_256
    have S0_266 := Lib.hid (S0_257.out.ext h_263)
    clear S0_257
    have SB0_267 := Lib.hid (SB0_258.out.ext h_263)
    clear SB0_258
    have GB0_268 := Lib.hid (GB0_259.out.ext h_263)
    clear GB0_259
    have G0_269 := Lib.hid (G0_262.out.ext h_263)
    clear G0_262
    have E_270 := Lib.hid (E_260.out.trans h_263)
    clear E_260
    have z_271 := Ext.le h_263
    try simp only [World.size_alloc] at z_271
    have Z_271 := Lib.hid z_271
    clear z_271
    clear h_263
    have lA0 := A0_264.out.1
    have qA00 := A0_264.out.2 0 _ rfl
    have qA01 := A0_264.out.2 1 _ rfl
    have qA02 := A0_264.out.2 2 _ rfl
    have lA2 := A2_265.out.1
    have qA20 := A2_265.out.2 0 _ rfl
    have qA21 := A2_265.out.2 1 _ rfl
    have qA22 := A2_265.out.2 2 _ rfl
    have qA23 := A2_265.out.2 3 _ rfl
    try simp only [World.size_alloc] at lA0 lA2
    go_upto_region 38 with fail
    go_cut [18, 19] (fun s0 s1 wx => ∃ B0 ta0 tn0 tc0, s0 = .pointer (some ⟨B0, 0, none⟩) ∧ s1 = .bool i1 ∧ Hid (Cells wx B0 [.int .i64 pP0, .int .i64 pR0, .int .i64 pC0, .slice ta0 tn0 tc0]) ∧ Hid (Own wx 0 wx.heap.size ta0 tn0 d0) ∧ tn0 ≤ 1048576 ∧ Hid (Ext w_263 wx))
    case first =>
      go_region_held3 (fun w' => Ext w_263 w' ∧ (∀ b o, b < w_263.heap.size → w'.cell? ⟨b, o, none⟩ = w_263.cell? ⟨b, o, none⟩)) (first | (with_reducible exact ext2 (Ext.trans (And.left ‹Ext w_263 _ ∧ _›) ‹Ext _ _›)) | (refine ext2 ?_; with_reducible repeat (first | exact Ext.refl _ | exact And.left ‹Ext w_263 _ ∧ _› | exact (((((Ext.refl _).drew).trans h_272).trans h_273).trans h_274).trans h_275 | refine Ext.drew ?_ | refine Ext.alloc ?_ _ | refine Ext.setCell ?_ (by have e0 : w_263.drew.heap.size = w_263.heap.size := rfl; simp <;> omega) _))) (first
        | (go_at_call_of 15 (Value.slice a0 n0 c0); refine (toAlgebra_law _ _ _ _ _ xs0 _ (HR0.out.ext (E_270.out.trans (And.left ‹Ext w_263 _ ∧ _›))) hn0).mono ?_; rintro e w_272 ⟨b_272, rfl, o_272, h_272⟩; have c_272 := h_272.cells; have f_272 := h_272.frees; have y_272 := h_272.le; have x_272 := fun k hk => Nat.lt_of_lt_of_le (n := k) hk h_272.le; (try simp only [World.size_drew] at y_272 x_272); (try simp only [World.size_alloc] at y_272 x_272); (try simp only [Nat.add_one_le_iff] at y_272); (try have z_272_0 : w_263.heap.size < w_272.heap.size := by omega); (try have z_272_2 : w_273.heap.size < w_272.heap.size := by omega); (try have z_272_3 : w_274.heap.size < w_272.heap.size := by omega); (try have z_272_4 : w_275.heap.size < w_272.heap.size := by omega))
        | (go_at_call_of 16 (Value.slice a1 n1 c1); refine (toMatrixS_law _ _ _ ms1 _ (HR1.out.ext (E_270.out.trans (And.left ‹Ext w_263 _ ∧ _›))) hn1 HT1.out).mono ?_; rintro e w_273 ⟨b_273, rfl, o_273, h_273⟩; have c_273 := h_273.cells; have f_273 := h_273.frees; have y_273 := h_273.le; have x_273 := fun k hk => Nat.lt_of_lt_of_le (n := k) hk h_273.le; (try simp only [World.size_drew] at y_273 x_273); (try simp only [World.size_alloc] at y_273 x_273); (try simp only [Nat.add_one_le_iff] at y_273); (try have z_273_0 : w_263.heap.size < w_273.heap.size := by omega); (try have z_273_1 : w_272.heap.size < w_273.heap.size := by omega); (try have z_273_3 : w_274.heap.size < w_273.heap.size := by omega); (try have z_273_4 : w_275.heap.size < w_273.heap.size := by omega))
        | (go_at_call_of 43 (Value.slice a2 n2 c2); refine (toMatrix_law _ _ _ _ _ _ xs2 _ (HR2.out.ext (E_270.out.trans (And.left ‹Ext w_263 _ ∧ _›))) hn2).mono ?_; rintro e w_274 ⟨b_274, rfl, o_274, h_274⟩; have c_274 := h_274.cells; have f_274 := h_274.frees; have y_274 := h_274.le; have x_274 := fun k hk => Nat.lt_of_lt_of_le (n := k) hk h_274.le; (try simp only [World.size_drew] at y_274 x_274); (try simp only [World.size_alloc] at y_274 x_274); (try simp only [Nat.add_one_le_iff] at y_274); (try have z_274_0 : w_263.heap.size < w_274.heap.size := by omega); (try have z_274_1 : w_272.heap.size < w_274.heap.size := by omega); (try have z_274_2 : w_273.heap.size < w_274.heap.size := by omega); (try have z_274_4 : w_275.heap.size < w_274.heap.size := by omega))
        | (go_at_call 44; refine (submoduleBy_impl (Own.reads (Own.ext o_272 (by with_reducible first | exact (((Ext.refl _).trans h_273).trans h_274) | exact Ext.alloc (((Ext.refl _).trans h_273).trans h_274) _ | exact (((Ext.alloc (Ext.refl _) _).trans h_273).trans h_274) | exact ((Ext.alloc ((Ext.refl _).trans h_273) _).trans h_274)))) hn0 (MatsO.reads (MatsO.ext o_273 (by with_reducible first | exact ((Ext.refl _).trans h_274) | exact Ext.alloc ((Ext.refl _).trans h_274) _ | exact ((Ext.alloc (Ext.refl _) _).trans h_274)))) hn1 (Own.reads (Own.ext o_274 (by with_reducible first | exact Ext.refl _ | exact Ext.alloc (Ext.refl _) _))) hn2 hM.out).mono ?_; rintro e w_275 ⟨v0, rfl, ⟨ta0, tn0, tc0, rfl, tO0, tm0⟩, h_275⟩; have c_275 := h_275.cells; have f_275 := h_275.frees; have y_275 := h_275.le; have x_275 := fun k hk => Nat.lt_of_lt_of_le (n := k) hk h_275.le; (try simp only [World.size_drew] at y_275 x_275); (try simp only [World.size_alloc] at y_275 x_275); (try simp only [Nat.add_one_le_iff] at y_275); (try have z_275_0 : w_263.heap.size < w_275.heap.size := by omega); (try have z_275_1 : w_272.heap.size < w_275.heap.size := by omega); (try have z_275_2 : w_273.heap.size < w_275.heap.size := by omega); (try have z_275_3 : w_274.heap.size < w_275.heap.size := by omega)))
      all_goals (go_wp2_with fail; go_meet; with_reducible first
        | exact ⟨w_275.heap.size, _, _, _, rfl, rfl, Lib.hid (cells_new w_275 #[.int .i64 pP0, .int .i64 pR0, .int .i64 pC0, .slice ta0 tn0 tc0] 37), Lib.hid (Own.any (Own.ext tO0 ((Ext.refl _).alloc _)) (by simp)), tm0, Lib.hid (And.left ‹Ext w_263 _ ∧ _›)⟩
        | exact ⟨w_274.heap.size, _, _, _, rfl, rfl, Lib.hid (early4 (lo := 0) ((cells_new w_274 _ _).ext h_275)), Lib.hid (Own.any (own4 tO0 (by have e0 : w_263.drew.heap.size = w_263.heap.size := rfl; simp <;> omega) _ _ _ _) (by simp)), tm0, Lib.hid (And.left ‹Ext w_263 _ ∧ _›)⟩
        | exact ⟨w_273.heap.size, _, _, _, rfl, rfl, Lib.hid (early4 (lo := 0) (((cells_new w_273 _ _).ext h_274).ext h_275)), Lib.hid (Own.any (own4 tO0 (by have e0 : w_263.drew.heap.size = w_263.heap.size := rfl; simp <;> omega) _ _ _ _) (by simp)), tm0, Lib.hid (And.left ‹Ext w_263 _ ∧ _›)⟩
        | exact ⟨w_272.heap.size, _, _, _, rfl, rfl, Lib.hid (early4 (lo := 0) ((((cells_new w_272 _ _).ext h_273).ext h_274).ext h_275)), Lib.hid (Own.any (own4 tO0 (by have e0 : w_263.drew.heap.size = w_263.heap.size := rfl; simp <;> omega) _ _ _ _) (by simp)), tm0, Lib.hid (And.left ‹Ext w_263 _ ∧ _›)⟩
        | exact ⟨w_263.heap.size, _, _, _, rfl, rfl, Lib.hid (early4 (lo := 0) ((((((cells_new w_263 _ _).ext (Ext.drew (Ext.refl _))).ext h_272).ext h_273).ext h_274).ext h_275)), Lib.hid (Own.any (own4 tO0 (by have e0 : w_263.drew.heap.size = w_263.heap.size := rfl; simp <;> omega) _ _ _ _) (by simp)), tm0, Lib.hid (And.left ‹Ext w_263 _ ∧ _›)⟩)
    case rest =>
      obtain ⟨B0, ta0, tn0, tc0, rfl, rfl, cB0, tO0, tm0, h_276⟩ := hcut
      have hx_276 := h_276.out
      clear h_276
      clear lA0 qA00 qA01 qA02 lA2 qA20 qA21 qA22 qA23
      obtain ⟨w_276, rfl⟩ : ∃ wq : World, wq = wc := ⟨_, rfl⟩
      have A0_277 := Lib.hid (A0_264.out.ext hx_276)
      clear A0_264
      have A2_278 := Lib.hid (A2_265.out.ext hx_276)
      clear A2_265
      have S0_279 := Lib.hid (S0_266.out.ext hx_276)
      clear S0_266
      have SB0_280 := Lib.hid (SB0_267.out.ext hx_276)
      clear SB0_267
      have GB0_281 := Lib.hid (GB0_268.out.ext hx_276)
      clear GB0_268
      have G0_282 := Lib.hid (G0_269.out.ext hx_276)
      clear G0_269
      have E_283 := Lib.hid (E_270.out.trans hx_276)
      clear E_270
      have z_284 := Ext.le hx_276
      try simp only [World.size_alloc] at z_284
      have Z_284 := Lib.hid z_284
      clear z_284
      clear hx_276
      have htO0 := tO0.out
      clear tO0
      have H0_285 := Lib.hid (htO0)
      clear htO0
      have hcB0 := cB0.out
      clear cB0
      have ZcH0 := Lib.hid hcB0.1
      have HB0_286 := Lib.hid (hcB0)
      clear hcB0
      obtain rfl : sn0 = tn0 := S0_279.out.len.symm.trans H0_285.out.len
      have lHB0 := HB0_286.out.1
      have qHB00 := HB0_286.out.2 0 _ rfl
      have qHB01 := HB0_286.out.2 1 _ rfl
      have qHB02 := HB0_286.out.2 2 _ rfl
      have qHB03 := HB0_286.out.2 3 _ rfl
      have lSB0 := SB0_280.out.1
      have qSB00 := SB0_280.out.2 0 _ rfl
      have qSB01 := SB0_280.out.2 1 _ rfl
      have qSB02 := SB0_280.out.2 2 _ rfl
      have qSB03 := SB0_280.out.2 3 _ rfl
      try simp only [World.size_alloc] at lHB0 lSB0
      go_wp2_with fail
      refine (eqMatrix_law _ _ _ _ _ _ _ _ d0 _ H0_285.out.reads S0_279.out.reads gm0).mono ?_
      rintro e w_287 ⟨rfl, h_287⟩
      clear lHB0 qHB00 qHB01 qHB02 qHB03 lSB0 qSB00 qSB01 qSB02 qSB03
      have A0_288 := Lib.hid (A0_277.out.ext h_287)
      clear A0_277
      have A2_289 := Lib.hid (A2_278.out.ext h_287)
      clear A2_278
      have S0_290 := Lib.hid (S0_279.out.ext h_287)
      clear S0_279
      have SB0_291 := Lib.hid (SB0_280.out.ext h_287)
      clear SB0_280
      have GB0_292 := Lib.hid (GB0_281.out.ext h_287)
      clear GB0_281
      have G0_293 := Lib.hid (G0_282.out.ext h_287)
      clear G0_282
      have H0_294 := Lib.hid (H0_285.out.ext h_287)
      clear H0_285
      have HB0_295 := Lib.hid (HB0_286.out.ext h_287)
      clear HB0_286
      have E_296 := Lib.hid (E_283.out.trans h_287)
      clear E_283
      have z_297 := Ext.le h_287
      try simp only [World.size_alloc] at z_297
      have Z_297 := Lib.hid z_297
      clear z_297
      clear h_287
      have lGB0 := GB0_292.out.1
      have qGB00 := GB0_292.out.2 0 _ rfl
      have qGB01 := GB0_292.out.2 1 _ rfl
      have qGB02 := GB0_292.out.2 2 _ rfl
      have qGB03 := GB0_292.out.2 3 _ rfl
      try simp only [World.size_alloc] at lGB0
      go_wp2_with fail
      refine (heldMatrix_law _ _ _ _ _ _ _ _ G0_293.out.reads gm0 (by omega) (by omega)).mono ?_
      rintro e w_298 ⟨rfl, h_298⟩
      clear lGB0 qGB00 qGB01 qGB02 qGB03
      have hq298 : 0 ≤ 1 + (sn0 : Int) := by omega
      have A0_299 := Lib.hid (A0_288.out.ext h_298)
      clear A0_288
      have A2_300 := Lib.hid (A2_289.out.ext h_298)
      clear A2_289
      have S0_301 := Lib.hid (S0_290.out.ext h_298)
      clear S0_290
      have SB0_302 := Lib.hid (SB0_291.out.ext h_298)
      clear SB0_291
      have GB0_303 := Lib.hid (GB0_292.out.ext h_298)
      clear GB0_292
      have G0_304 := Lib.hid (G0_293.out.ext h_298)
      clear G0_293
      have H0_305 := Lib.hid (H0_294.out.ext h_298)
      clear H0_294
      have HB0_306 := Lib.hid (HB0_295.out.ext h_298)
      clear HB0_295
      have E_307 := Lib.hid (E_296.out.trans h_298)
      clear E_296
      have z_308 := Ext.le h_298
      try simp only [World.size_alloc] at z_308
      have Z_308 := Lib.hid z_308
      clear z_308
      clear h_298
      go_wp2
      go_ret
      exact ⟨rfl, E_307.out⟩

set_option maxRecDepth 100000 in
theorem lifted (os : Os) (started : os.Started) (H : Type) (enc : TypeId × Value → H) :
    ReturnsInHanded {} Try.checked os 10 .any (Rows.fnExactSubmoduleBySpec.pre6 enc Try.prog Try.f10 Rows.fnExactSubmoduleByRow.domain false) (Rows.fnExactSubmoduleBySpec.post enc Try.prog Try.f10 false true false false) := by
  refine returnsInHanded_of_change (C := Try.checked) own started (by kernel_rfl) Try.func10
    (ChangeSpec.witness6 (enc := enc) (C := Try.checked) false ⟨#[], #[.agg #[.int .i64 0, .int .i64 0, .slice none 0 0], .slice none 0 0, .agg #[.int .i64 0, .int .i64 0, .int .i64 0, .slice none 0 0]], []⟩ 8 (by kernel_rfl) (by kernel_rfl) (by kernel_rfl) (by kernel_rfl)) ?_
  intro W base args ds gs before hval0 hW hcnd _
  have hval : ∀ (j : Nat) t v, Try.f10.params[j]? = some t → args[j]? = some v → Value.okWide Try.prog W .any base t v := hval0
  have hW' := hW
  obtain ⟨p, q, hA0, hV, rfl, hfz, hnd⟩ := hW
  have hA : DataW.TrodAll enc Try.prog W 0 (fun _ => true) true Try.f10.params.toList args.toList ds p := hA0
  rw [Try.params10] at hA hval
  obtain ⟨v0, vs0, d0, ds0, p0, q0, hargs, rfl, rfl, h0, r0⟩ := trodAll_cons hA
  obtain ⟨v1, vs1, d1, ds1, p1, q1, rfl, rfl, rfl, h1, r1⟩ := trodAll_cons r0
  obtain ⟨v2, vs2, d2, ds2, p2, q2, rfl, rfl, rfl, h2, r2⟩ := trodAll_cons r1
  obtain ⟨rfl, rfl, rfl⟩ := trodAll_nil r2
  obtain rfl : args = #[v0, v1, v2] := by cases args; simp_all
  obtain ⟨rfl, rfl⟩ := trodVars_none hV
  have k0 := h0
  have lt0 : ∀ x ∈ p0, x.block < W.heap.size := by obtain ⟨m, hm⟩ := k0; exact DataW.trod_lt m _ _ _ hm
  obtain ⟨P0, D0, a0, n0, c0, xs0, rfl, w0⟩ := open_alg (hval 0 _ v0 rfl rfl) h0
  have k1 := h1
  have lt1 : ∀ x ∈ p1, x.block < W.heap.size := by obtain ⟨m, hm⟩ := k1; exact DataW.trod_lt m _ _ _ hm
  obtain ⟨a1, n1, c1, ms1, rfl, w1⟩ := open_mats (hval 1 _ v1 rfl rfl) h1
  have k2 := h2
  have lt2 : ∀ x ∈ p2, x.block < W.heap.size := by obtain ⟨m, hm⟩ := k2; exact DataW.trod_lt m _ _ _ hm
  obtain ⟨P2, R2, C2, a2, n2, c2, xs2, rfl, w2⟩ := open_mat (hval 2 _ v2 rfl rfl) h2
  clear hA0 hval0
  refine (walk P0 D0 a0 n0 c0 xs0 a1 n1 c1 ms1 P2 R2 C2 a2 n2 c2 xs2 W w0 w1 w2).mono fun e W' ⟨he, bel⟩ => ?_
  subst he
  exact ⟨_, rfl, _, _, _, [], _, [], hW', trodAll_mk1 (shut_bool Try.underlying4 _), (trodAll_cons_mk (Below.trod laidOut (by kernel_rfl) (of_decide_eq_true (by kernel_rfl)) k0 bel lt0) (trodAll_cons_mk (Below.trod laidOut (by kernel_rfl) (of_decide_eq_true (by kernel_rfl)) k1 bel lt1) (trodAll_cons_mk (Below.trod laidOut (by kernel_rfl) (of_decide_eq_true (by kernel_rfl)) k2 bel lt2) trodAll_mk0))), rfl, Below.frame bel _, fun h => by cases h⟩

set_option maxRecDepth 1000000 in
set_option maxHeartbeats 40000000 in
theorem closed : joinedFacts Try.pinned.checked.prog 10 Try.f10 Rows.fnExactSubmoduleBySpec Rows.fnExactSubmoduleByRow = true := by
  unfold joinedFacts
  repeat' (with_reducible refine and2 ?_ ?_)
  all_goals (first | (with_reducible exact seat_laid) | (with_reducible exact seat_maps) | (with_reducible exact seat_heard) | (with_reducible exact seat_enter) | (with_reducible refine seat_lifts ?_; kernel_rfl) | (with_reducible refine seat_make ?_; kernel_rfl) | (with_reducible refine seat_plain ?_; kernel_rfl) | (as_aux_lemma => kernel_rfl))

theorem over : Rows.fnExactSubmoduleByRow.holds Try.pinned (OpenSpec.ofChange Rows.fnExactSubmoduleBySpec) :=
  OpenClaim.holds_of_wide 10 Try.f10 rfl rfl rfl rfl rfl rfl rfl ⟨rfl, rfl, rfl, rfl, rfl⟩ rfl rfl rfl rfl rfl (by kernel_rfl) Try.func10 closed
    (of_decide_eq_true (by kernel_rfl)) (by unfold Func.isWrapper; first | (rw [if_pos (by decide +kernel)]; kernel_rfl) | (rw [if_neg (by decide +kernel)]; exact ⟨rfl, rfl⟩))
    (fun os started H enc _ => lifted os started H enc)

/-- The statement. -/
theorem proved : Rows.FnExactSubmoduleBySaid := over
#print axioms proved
end Go.Proofs.Ytnikfalpjieibaa.fnExactSubmoduleBy
