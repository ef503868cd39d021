/-
  Proved: the statement given for the law FnExactIsSubmodule: at every input the Go text returns true, with no panic, and the arguments read as they read before. No condition is added.
-/
import Derived.Test.YtnikfalpjieibaaFr
import Derived.Test.YtnikfalpjieibaaSbs2
import Derived.Test.YtnikfalpjieibaaMtA
import Derived.Test.YtnikfalpjieibaaSeatF
namespace Go.Proofs.Ytnikfalpjieibaa.fnExactIsSubmodule
open Go.ChangeShapes Go.WideShapes Go.ChangeAt Go.RowKit
open Go.ChangeMaps (open_string shut_string)
set_option linter.unusedVariables false
set_option linter.unusedSimpArgs false

set_option maxRecDepth 100000 in
set_option maxHeartbeats 3200000 in
/-- The walk: the Go text returns true, and nothing that was there has changed. -/
theorem walk (P0 D0 : Int) (a0 : Option Addr) (n0 c0 : Nat) (xs0 : List Int) (a1 : Option Addr) (n1 c1 : Nat) (ms1 : List Mat) (P2 R2 C2 : Int) (a2 : Option Addr) (n2 c2 : Nat) (xs2 : List Int) (w : World) (w0 : Reads w a0 n0 xs0 ∧ n0 ≤ maxLen) (w1 : MatsA w a1 n1 ms1 ∧ MatsW ms1 ∧ n1 ≤ maxLen) (w2 : Reads w a2 n2 xs2 ∧ n2 ≤ maxLen) :
    Calls Try.prog 11 #[.agg #[.int .i64 P0, .int .i64 D0, .slice a0 n0 c0], .slice a1 n1 c1, .agg #[.int .i64 P2, .int .i64 R2, .int .i64 C2, .slice a2 n2 c2]] w fun e w' => e = .returned (.bool true) ∧ Ext w w' := by
  obtain ⟨hr0, hm0⟩ := w0
  have HR0 := Lib.hid hr0
  clear hr0
  obtain ⟨hr1, hW1, hm1⟩ := w1
  have HR1 := Lib.hid hr1
  have HW1 := Lib.hid hW1
  obtain ⟨L1, hL1⟩ : ∃ L : Nat, n1 + msL ms1 n1 = L := ⟨_, rfl⟩
  have HL1 := Lib.hid hL1
  clear hr1 hW1 hL1
  obtain ⟨hr2, hm2⟩ := w2
  have HR2 := Lib.hid hr2
  clear hr2
  rcases hM0 : smoB P0 D0 xs0 ms1 P2 R2 C2 xs2 with i0
  have hM := Lib.hid hM0
  clear hM0
  by_cases hz0 : (n0 : Int) ≤ 1048576
  case neg =>
    go_enter Try.func11, Try.ntmps11
    have T0 := cells_new' w #[.int .i64 P0, .int .i64 D0, .slice a0 n0 c0] 24 (w.heap.size) (by simp)
    have T2 := cells_new' (w.alloc (.cells #[.int .i64 P0, .int .i64 D0, .slice a0 n0 c0] 24)) #[.int .i64 P2, .int .i64 R2, .int .i64 C2, .slice a2 n2 c2] 56 (w.heap.size + 1) (by simp)
    have A0_1 := Lib.hid (T0.ext ((Ext.refl _).alloc (.cells #[.int .i64 P2, .int .i64 R2, .int .i64 C2, .slice a2 n2 c2] 56)))
    clear T0
    have A2_2 := Lib.hid (T2.ext (Ext.refl _))
    clear T2
    have E_3 := Lib.hid (((Ext.refl w).alloc (.cells #[.int .i64 P0, .int .i64 D0, .slice a0 n0 c0] 24)).alloc (.cells #[.int .i64 P2, .int .i64 R2, .int .i64 C2, .slice a2 n2 c2] 56))
    have lA0 := A0_1.out.1
    have qA00 := A0_1.out.2 0 _ rfl
    have qA01 := A0_1.out.2 1 _ rfl
    have qA02 := A0_1.out.2 2 _ rfl
    try simp only [World.size_alloc] at lA0
    go_wp2_with fail
    refine (szAlgebra_no _ _ _ _ _ _ _ (by omega) (by omega) hm0 (by omega)).mono ?_
    rintro e w_4 ⟨rfl, h_4⟩
    clear lA0 qA00 qA01 qA02
    go_wp2
    go_ret
    exact ⟨rfl, E_3.out.trans h_4⟩
  by_cases hz1 : (n0 : Int) + (L1 : Int) ≤ 1048576
  case neg =>
    go_enter Try.func11, Try.ntmps11
    have T0 := cells_new' w #[.int .i64 P0, .int .i64 D0, .slice a0 n0 c0] 24 (w.heap.size) (by simp)
    have T2 := cells_new' (w.alloc (.cells #[.int .i64 P0, .int .i64 D0, .slice a0 n0 c0] 24)) #[.int .i64 P2, .int .i64 R2, .int .i64 C2, .slice a2 n2 c2] 56 (w.heap.size + 1) (by simp)
    have A0_5 := Lib.hid (T0.ext ((Ext.refl _).alloc (.cells #[.int .i64 P2, .int .i64 R2, .int .i64 C2, .slice a2 n2 c2] 56)))
    clear T0
    have A2_6 := Lib.hid (T2.ext (Ext.refl _))
    clear T2
    have E_7 := Lib.hid (((Ext.refl w).alloc (.cells #[.int .i64 P0, .int .i64 D0, .slice a0 n0 c0] 24)).alloc (.cells #[.int .i64 P2, .int .i64 R2, .int .i64 C2, .slice a2 n2 c2] 56))
    have lA0 := A0_5.out.1
    have qA00 := A0_5.out.2 0 _ rfl
    have qA01 := A0_5.out.2 1 _ rfl
    have qA02 := A0_5.out.2 2 _ rfl
    try simp only [World.size_alloc] at lA0
    go_wp2_with fail
    refine (szAlgebra_yes _ _ _ _ _ _ _ (by omega) (by omega)).mono ?_
    rintro e w_8 ⟨rfl, h_8⟩
    clear lA0 qA00 qA01 qA02
    have A0_9 := Lib.hid (A0_5.out.ext h_8)
    clear A0_5
    have A2_10 := Lib.hid (A2_6.out.ext h_8)
    clear A2_6
    have E_11 := Lib.hid (E_7.out.trans h_8)
    clear E_7
    have z_12 := Ext.le h_8
    try simp only [World.size_alloc] at z_12
    have Z_12 := Lib.hid z_12
    clear z_12
    clear h_8
    have hp1 : 0 ≤ 1048576 - (n0 : Int) := by omega
    go_wp2_with fail
    refine (szMatrixS_no (HR1.out.ext E_11.out) HW1.out HL1.out (by omega) (by omega) hm1 (by omega)).mono ?_
    rintro e w_13 ⟨rfl, h_13⟩
    go_wp2
    go_ret
    exact ⟨rfl, E_11.out.trans h_13⟩
  by_cases hz2 : (n0 : Int) + (L1 : Int) + (n2 : Int) ≤ 1048576
  case neg =>
    go_enter Try.func11, Try.ntmps11
    have T0 := cells_new' w #[.int .i64 P0, .int .i64 D0, .slice a0 n0 c0] 24 (w.heap.size) (by simp)
    have T2 := cells_new' (w.alloc (.cells #[.int .i64 P0, .int .i64 D0, .slice a0 n0 c0] 24)) #[.int .i64 P2, .int .i64 R2, .int .i64 C2, .slice a2 n2 c2] 56 (w.heap.size + 1) (by simp)
    have A0_14 := Lib.hid (T0.ext ((Ext.refl _).alloc (.cells #[.int .i64 P2, .int .i64 R2, .int .i64 C2, .slice a2 n2 c2] 56)))
    clear T0
    have A2_15 := Lib.hid (T2.ext (Ext.refl _))
    clear T2
    have E_16 := Lib.hid (((Ext.refl w).alloc (.cells #[.int .i64 P0, .int .i64 D0, .slice a0 n0 c0] 24)).alloc (.cells #[.int .i64 P2, .int .i64 R2, .int .i64 C2, .slice a2 n2 c2] 56))
    have lA0 := A0_14.out.1
    have qA00 := A0_14.out.2 0 _ rfl
    have qA01 := A0_14.out.2 1 _ rfl
    have qA02 := A0_14.out.2 2 _ rfl
    try simp only [World.size_alloc] at lA0
    go_wp2_with fail
    refine (szAlgebra_yes _ _ _ _ _ _ _ (by omega) (by omega)).mono ?_
    rintro e w_17 ⟨rfl, h_17⟩
    clear lA0 qA00 qA01 qA02
    have A0_18 := Lib.hid (A0_14.out.ext h_17)
    clear A0_14
    have A2_19 := Lib.hid (A2_15.out.ext h_17)
    clear A2_15
    have E_20 := Lib.hid (E_16.out.trans h_17)
    clear E_16
    have z_21 := Ext.le h_17
    try simp only [World.size_alloc] at z_21
    have Z_21 := Lib.hid z_21
    clear z_21
    clear h_17
    have hp1 : 0 ≤ 1048576 - (n0 : Int) := by omega
    go_wp2_with fail
    refine (szMatrixS_yes (HR1.out.ext E_20.out) HW1.out HL1.out (by omega) hm1 (by omega)).mono ?_
    rintro e w_22 ⟨rfl, h_22⟩
    have A0_23 := Lib.hid (A0_18.out.ext h_22)
    clear A0_18
    have A2_24 := Lib.hid (A2_19.out.ext h_22)
    clear A2_19
    have E_25 := Lib.hid (E_20.out.trans h_22)
    clear E_20
    have z_26 := Ext.le h_22
    try simp only [World.size_alloc] at z_26
    have Z_26 := Lib.hid z_26
    clear z_26
    clear h_22
    have hp2 : 0 ≤ 1048576 - (n0 : Int) - (L1 : Int) := by omega
    have lA2 := A2_24.out.1
    have qA20 := A2_24.out.2 0 _ rfl
    have qA21 := A2_24.out.2 1 _ rfl
    have qA22 := A2_24.out.2 2 _ rfl
    have qA23 := A2_24.out.2 3 _ rfl
    try simp only [World.size_alloc] at lA2
    go_wp2_with fail
    refine (szMatrix_no _ _ _ _ _ _ _ _ (by omega) (by omega) hm2 (by omega)).mono ?_
    rintro e w_27 ⟨rfl, h_27⟩
    clear lA2 qA20 qA21 qA22 qA23
    go_wp2
    go_ret
    exact ⟨rfl, E_25.out.trans h_27⟩
  have hln1 : n1 ≤ L1 := by rw [← HL1.out]; exact Nat.le_add_right _ _
  have HT1 : Hid ((dats ms1).flatten.length ≤ 1048576) := by
    have h1 := msL_all ms1
    rw [HR1.out.1] at h1
    have h2 := HL1.out
    show _ ≤ _
    omega
  have hn0 : n0 ≤ 1048576 := by omega
  have hn1 : n1 ≤ 1048576 := by omega
  have hn2 : n2 ≤ 1048576 := by omega
  have hto1 := totM_le ms1 n1 HR1.out.1 hn1 HT1.out
  go_enter Try.func11, Try.ntmps11
  have T0 := cells_new' w #[.int .i64 P0, .int .i64 D0, .slice a0 n0 c0] 24 (w.heap.size) (by simp)
  have T2 := cells_new' (w.alloc (.cells #[.int .i64 P0, .int .i64 D0, .slice a0 n0 c0] 24)) #[.int .i64 P2, .int .i64 R2, .int .i64 C2, .slice a2 n2 c2] 56 (w.heap.size + 1) (by simp)
  have A0_28 := Lib.hid (T0.ext ((Ext.refl _).alloc (.cells #[.int .i64 P2, .int .i64 R2, .int .i64 C2, .slice a2 n2 c2] 56)))
  clear T0
  have A2_29 := Lib.hid (T2.ext (Ext.refl _))
  clear T2
  have E_30 := Lib.hid (((Ext.refl w).alloc (.cells #[.int .i64 P0, .int .i64 D0, .slice a0 n0 c0] 24)).alloc (.cells #[.int .i64 P2, .int .i64 R2, .int .i64 C2, .slice a2 n2 c2] 56))
  have lA0 := A0_28.out.1
  have qA00 := A0_28.out.2 0 _ rfl
  have qA01 := A0_28.out.2 1 _ rfl
  have qA02 := A0_28.out.2 2 _ rfl
  try simp only [World.size_alloc] at lA0
  go_wp2_with fail
  refine (szAlgebra_yes _ _ _ _ _ _ _ (by omega) (by omega)).mono ?_
  rintro e w_31 ⟨rfl, h_31⟩
  clear lA0 qA00 qA01 qA02
  have A0_32 := Lib.hid (A0_28.out.ext h_31)
  clear A0_28
  have A2_33 := Lib.hid (A2_29.out.ext h_31)
  clear A2_29
  have E_34 := Lib.hid (E_30.out.trans h_31)
  clear E_30
  have z_35 := Ext.le h_31
  try simp only [World.size_alloc] at z_35
  have Z_35 := Lib.hid z_35
  clear z_35
  clear h_31
  have hp1 : 0 ≤ 1048576 - (n0 : Int) := by omega
  go_wp2_with fail
  refine (szMatrixS_yes (HR1.out.ext E_34.out) HW1.out HL1.out (by omega) hm1 (by omega)).mono ?_
  rintro e w_36 ⟨rfl, h_36⟩
  have A0_37 := Lib.hid (A0_32.out.ext h_36)
  clear A0_32
  have A2_38 := Lib.hid (A2_33.out.ext h_36)
  clear A2_33
  have E_39 := Lib.hid (E_34.out.trans h_36)
  clear E_34
  have z_40 := Ext.le h_36
  try simp only [World.size_alloc] at z_40
  have Z_40 := Lib.hid z_40
  clear z_40
  clear h_36
  have hp2 : 0 ≤ 1048576 - (n0 : Int) - (L1 : Int) := by omega
  have lA2 := A2_38.out.1
  have qA20 := A2_38.out.2 0 _ rfl
  have qA21 := A2_38.out.2 1 _ rfl
  have qA22 := A2_38.out.2 2 _ rfl
  have qA23 := A2_38.out.2 3 _ rfl
  try simp only [World.size_alloc] at lA2
  go_wp2_with fail
  refine (szMatrix_yes _ _ _ _ _ _ _ _ (by omega) (by omega)).mono ?_
  rintro e w_41 ⟨rfl, h_41⟩
  clear lA2 qA20 qA21 qA22 qA23
  have A0_42 := Lib.hid (A0_37.out.ext h_41)
  clear A0_37
  have A2_43 := Lib.hid (A2_38.out.ext h_41)
  clear A2_38
  have E_44 := Lib.hid (E_39.out.trans h_41)
  clear E_39
  have z_45 := Ext.le h_41
  try simp only [World.size_alloc] at z_45
  have Z_45 := Lib.hid z_45
  clear z_45
  clear h_41
  have hp : 0 ≤ 1048576 - (n0 : Int) - (L1 : Int) - (n2 : Int) := by omega
  have lA0 := A0_42.out.1
  have qA00 := A0_42.out.2 0 _ rfl
  have qA01 := A0_42.out.2 1 _ rfl
  have qA02 := A0_42.out.2 2 _ rfl
  have lA2 := A2_43.out.1
  have qA20 := A2_43.out.2 0 _ rfl
  have qA21 := A2_43.out.2 1 _ rfl
  have qA22 := A2_43.out.2 2 _ rfl
  have qA23 := A2_43.out.2 3 _ rfl
  try simp only [World.size_alloc] at lA0 lA2
  go_upto_region 11 with fail
  go_cut [8] (fun s0 wx => s0 = .bool i0 ∧ Hid (Ext w_41 wx))
  case first =>
    go_region_held3 (fun w' => Ext w_41 w' ∧ (∀ b o, b < w_41.heap.size → w'.cell? ⟨b, o, none⟩ = w_41.cell? ⟨b, o, none⟩)) (first | (with_reducible exact ext2 (Ext.trans (And.left ‹Ext w_41 _ ∧ _›) ‹Ext _ _›)) | (refine ext2 ?_; with_reducible repeat (first | exact Ext.refl _ | exact And.left ‹Ext w_41 _ ∧ _› | exact (((((Ext.refl _).drew).trans h_46).trans h_47).trans h_48).trans h_49 | refine Ext.drew ?_ | refine Ext.alloc ?_ _ | refine Ext.setCell ?_ (by have e0 : w_41.drew.heap.size = w_41.heap.size := rfl; simp <;> omega) _))) (first
      | (go_at_call_of 15 (Value.slice a0 n0 c0); refine (toAlgebra_law _ _ _ _ _ xs0 _ (HR0.out.ext (E_44.out.trans (And.left ‹Ext w_41 _ ∧ _›))) hn0).mono ?_; rintro e w_46 ⟨b_46, rfl, o_46, h_46⟩; have c_46 := h_46.cells; have f_46 := h_46.frees; have y_46 := h_46.le; have x_46 := fun k hk => Nat.lt_of_lt_of_le (n := k) hk h_46.le; (try simp only [World.size_drew] at y_46 x_46); (try simp only [World.size_alloc] at y_46 x_46); (try simp only [Nat.add_one_le_iff] at y_46); (try have z_46_0 : w_41.heap.size < w_46.heap.size := by omega); (try have z_46_2 : w_47.heap.size < w_46.heap.size := by omega); (try have z_46_3 : w_48.heap.size < w_46.heap.size := by omega); (try have z_46_4 : w_49.heap.size < w_46.heap.size := by omega))
      | (go_at_call_of 16 (Value.slice a1 n1 c1); refine (toMatrixS_law _ _ _ ms1 _ (HR1.out.ext (E_44.out.trans (And.left ‹Ext w_41 _ ∧ _›))) hn1 HT1.out).mono ?_; rintro e w_47 ⟨b_47, rfl, o_47, h_47⟩; have c_47 := h_47.cells; have f_47 := h_47.frees; have y_47 := h_47.le; have x_47 := fun k hk => Nat.lt_of_lt_of_le (n := k) hk h_47.le; (try simp only [World.size_drew] at y_47 x_47); (try simp only [World.size_alloc] at y_47 x_47); (try simp only [Nat.add_one_le_iff] at y_47); (try have z_47_0 : w_41.heap.size < w_47.heap.size := by omega); (try have z_47_1 : w_46.heap.size < w_47.heap.size := by omega); (try have z_47_3 : w_48.heap.size < w_47.heap.size := by omega); (try have z_47_4 : w_49.heap.size < w_47.heap.size := by omega))
      | (go_at_call_of 43 (Value.slice a2 n2 c2); refine (toMatrix_law _ _ _ _ _ _ xs2 _ (HR2.out.ext (E_44.out.trans (And.left ‹Ext w_41 _ ∧ _›))) hn2).mono ?_; rintro e w_48 ⟨b_48, rfl, o_48, h_48⟩; have c_48 := h_48.cells; have f_48 := h_48.frees; have y_48 := h_48.le; have x_48 := fun k hk => Nat.lt_of_lt_of_le (n := k) hk h_48.le; (try simp only [World.size_drew] at y_48 x_48); (try simp only [World.size_alloc] at y_48 x_48); (try simp only [Nat.add_one_le_iff] at y_48); (try have z_48_0 : w_41.heap.size < w_48.heap.size := by omega); (try have z_48_1 : w_46.heap.size < w_48.heap.size := by omega); (try have z_48_2 : w_47.heap.size < w_48.heap.size := by omega); (try have z_48_4 : w_49.heap.size < w_48.heap.size := by omega))
      | (go_at_call 45; refine (isSubmodule_spec (Own.reads (Own.ext o_46 (by with_reducible first | exact (((Ext.refl _).trans h_47).trans h_48) | exact Ext.alloc (((Ext.refl _).trans h_47).trans h_48) _ | exact (((Ext.alloc (Ext.refl _) _).trans h_47).trans h_48) | exact ((Ext.alloc ((Ext.refl _).trans h_47) _).trans h_48)))) hn0 (MatsO.reads (MatsO.ext o_47 (by with_reducible first | exact ((Ext.refl _).trans h_48) | exact Ext.alloc ((Ext.refl _).trans h_48) _ | exact ((Ext.alloc (Ext.refl _) _).trans h_48)))) hn1 (Own.reads (Own.ext o_48 (by with_reducible first | exact Ext.refl _ | exact Ext.alloc (Ext.refl _) _))) hn2 hM.out).mono ?_; rintro e w_49 ⟨rfl, h_49⟩; have c_49 := h_49.cells; have f_49 := h_49.frees; have y_49 := h_49.le; have x_49 := fun k hk => Nat.lt_of_lt_of_le (n := k) hk h_49.le; (try simp only [World.size_drew] at y_49 x_49); (try simp only [World.size_alloc] at y_49 x_49); (try simp only [Nat.add_one_le_iff] at y_49); (try have z_49_0 : w_41.heap.size < w_49.heap.size := by omega); (try have z_49_1 : w_46.heap.size < w_49.heap.size := by omega); (try have z_49_2 : w_47.heap.size < w_49.heap.size := by omega); (try have z_49_3 : w_48.heap.size < w_49.heap.size := by omega)))
    all_goals (go_wp2_with fail; go_meet; with_reducible first
      | exact ⟨rfl, Lib.hid (And.left ‹Ext w_41 _ ∧ _›)⟩)
  case rest =>
    obtain ⟨rfl, h_50⟩ := hcut
    have hx_50 := h_50.out
    clear h_50
    clear lA0 qA00 qA01 qA02 lA2 qA20 qA21 qA22 qA23
    obtain ⟨w_50, rfl⟩ : ∃ wq : World, wq = wc := ⟨_, rfl⟩
    have A0_51 := Lib.hid (A0_42.out.ext hx_50)
    clear A0_42
    have A2_52 := Lib.hid (A2_43.out.ext hx_50)
    clear A2_43
    have E_53 := Lib.hid (E_44.out.trans hx_50)
    clear E_44
    have z_54 := Ext.le hx_50
    try simp only [World.size_alloc] at z_54
    have Z_54 := Lib.hid z_54
    clear z_54
    clear hx_50
    have lA0 := A0_51.out.1
    have qA00 := A0_51.out.2 0 _ rfl
    have qA01 := A0_51.out.2 1 _ rfl
    have qA02 := A0_51.out.2 2 _ rfl
    try simp only [World.size_alloc] at lA0
    go_wp2_with fail
    refine (toAlgebra_law _ _ _ _ _ xs0 _ (HR0.out.ext E_53.out) hn0).mono ?_
    rintro e w_55 ⟨b_55, rfl, o_55, h_55⟩
    clear lA0 qA00 qA01 qA02
    have A0_56 := Lib.hid (A0_51.out.ext h_55)
    clear A0_51
    have A2_57 := Lib.hid (A2_52.out.ext h_55)
    clear A2_52
    have E_58 := Lib.hid (E_53.out.trans h_55)
    clear E_53
    have z_59 := Ext.le h_55
    try simp only [World.size_alloc] at z_59
    have Z_59 := Lib.hid z_59
    clear z_59
    try simp only [World.size_alloc] at o_55
    have X0_60 := Lib.hid (o_55)
    clear o_55 h_55
    have P_61 := (Ext.refl w_55).alloc (.cells #[.int .i64 P0, .int .i64 D0, .slice (some ⟨b_55, 0, none⟩) n0 n0] 29)
    have A0_62 := Lib.hid (A0_56.out.ext P_61)
    clear A0_56
    have A2_63 := Lib.hid (A2_57.out.ext P_61)
    clear A2_57
    have X0_64 := Lib.hid (X0_60.out.ext P_61)
    clear X0_60
    have E_65 := Lib.hid (E_58.out.trans P_61)
    clear E_58
    clear P_61
    have XB0_66 := Lib.hid (cells_new w_55 #[.int .i64 P0, .int .i64 D0, .slice (some ⟨b_55, 0, none⟩) n0 n0] 29)
    go_wp2_with fail
    refine (toMatrixS_law _ _ _ ms1 _ (HR1.out.ext E_65.out) hn1 HT1.out).mono ?_
    rintro e w_67 ⟨b_67, rfl, o_67, h_67⟩
    have A0_68 := Lib.hid (A0_62.out.ext h_67)
    clear A0_62
    have A2_69 := Lib.hid (A2_63.out.ext h_67)
    clear A2_63
    have X0_70 := Lib.hid (X0_64.out.ext h_67)
    clear X0_64
    have XB0_71 := Lib.hid (XB0_66.out.ext h_67)
    clear XB0_66
    have E_72 := Lib.hid (E_65.out.trans h_67)
    clear E_65
    have z_73 := Ext.le h_67
    try simp only [World.size_alloc] at z_73
    have Z_73 := Lib.hid z_73
    clear z_73
    try simp only [World.size_alloc] at o_67
    have X1_74 := Lib.hid (o_67)
    clear o_67 h_67
    have lA2 := A2_69.out.1
    have qA20 := A2_69.out.2 0 _ rfl
    have qA21 := A2_69.out.2 1 _ rfl
    have qA22 := A2_69.out.2 2 _ rfl
    have qA23 := A2_69.out.2 3 _ rfl
    try simp only [World.size_alloc] at lA2
    go_wp2_with fail
    refine (toMatrix_law _ _ _ _ _ _ xs2 _ (HR2.out.ext E_72.out) hn2).mono ?_
    rintro e w_75 ⟨b_75, rfl, o_75, h_75⟩
    clear lA2 qA20 qA21 qA22 qA23
    have A0_76 := Lib.hid (A0_68.out.ext h_75)
    clear A0_68
    have A2_77 := Lib.hid (A2_69.out.ext h_75)
    clear A2_69
    have X0_78 := Lib.hid (X0_70.out.ext h_75)
    clear X0_70
    have XB0_79 := Lib.hid (XB0_71.out.ext h_75)
    clear XB0_71
    have X1_80 := Lib.hid (X1_74.out.ext h_75)
    clear X1_74
    have E_81 := Lib.hid (E_72.out.trans h_75)
    clear E_72
    have z_82 := Ext.le h_75
    try simp only [World.size_alloc] at z_82
    have Z_82 := Lib.hid z_82
    clear z_82
    try simp only [World.size_alloc] at o_75
    have X2_83 := Lib.hid (o_75)
    clear o_75 h_75
    have P_84 := (Ext.refl w_75).alloc (.cells #[.int .i64 P2, .int .i64 R2, .int .i64 C2, .slice (some ⟨b_75, 0, none⟩) n2 n2] 37)
    have A0_85 := Lib.hid (A0_76.out.ext P_84)
    clear A0_76
    have A2_86 := Lib.hid (A2_77.out.ext P_84)
    clear A2_77
    have X0_87 := Lib.hid (X0_78.out.ext P_84)
    clear X0_78
    have XB0_88 := Lib.hid (XB0_79.out.ext P_84)
    clear XB0_79
    have X1_89 := Lib.hid (X1_80.out.ext P_84)
    clear X1_80
    have X2_90 := Lib.hid (X2_83.out.ext P_84)
    clear X2_83
    have E_91 := Lib.hid (E_81.out.trans P_84)
    clear E_81
    clear P_84
    have XB2_92 := Lib.hid (cells_new w_75 #[.int .i64 P2, .int .i64 R2, .int .i64 C2, .slice (some ⟨b_75, 0, none⟩) n2 n2] 37)
    have lXB0 := XB0_88.out.1
    have qXB00 := XB0_88.out.2 0 _ rfl
    have qXB01 := XB0_88.out.2 1 _ rfl
    have qXB02 := XB0_88.out.2 2 _ rfl
    have lXB2 := XB2_92.out.1
    have qXB20 := XB2_92.out.2 0 _ rfl
    have qXB21 := XB2_92.out.2 1 _ rfl
    have qXB22 := XB2_92.out.2 2 _ rfl
    have qXB23 := XB2_92.out.2 3 _ rfl
    try simp only [World.size_alloc] at lXB0 lXB2
    go_wp2_with fail
    refine (isSubmodule_impl X0_87.out.reads hn0 X1_89.out.reads hn1 X2_90.out.reads hn2 hM.out).mono ?_
    rintro e w_93 ⟨rfl, h_93⟩
    clear lXB0 qXB00 qXB01 qXB02 lXB2 qXB20 qXB21 qXB22 qXB23
    have A0_94 := Lib.hid (A0_85.out.ext h_93)
    clear A0_85
    have A2_95 := Lib.hid (A2_86.out.ext h_93)
    clear A2_86
    have X0_96 := Lib.hid (X0_87.out.ext h_93)
    clear X0_87
    have XB0_97 := Lib.hid (XB0_88.out.ext h_93)
    clear XB0_88
    have X1_98 := Lib.hid (X1_89.out.ext h_93)
    clear X1_89
    have X2_99 := Lib.hid (X2_90.out.ext h_93)
    clear X2_90
    have XB2_100 := Lib.hid (XB2_92.out.ext h_93)
    clear XB2_92
    have E_101 := Lib.hid (E_91.out.trans h_93)
    clear E_91
    have z_102 := Ext.le h_93
    try simp only [World.size_alloc] at z_102
    have Z_102 := Lib.hid z_102
    clear z_102
    clear h_93
    have X1_103 := Lib.hid X1_98.out.1
    clear X1_98
    have lXB0 := XB0_97.out.1
    have qXB00 := XB0_97.out.2 0 _ rfl
    have qXB01 := XB0_97.out.2 1 _ rfl
    have qXB02 := XB0_97.out.2 2 _ rfl
    have lA0 := A0_94.out.1
    have qA00 := A0_94.out.2 0 _ rfl
    have qA01 := A0_94.out.2 1 _ rfl
    have qA02 := A0_94.out.2 2 _ rfl
    try simp only [World.size_alloc] at lXB0 lA0
    go_wp2_with fail
    go_region_held3 (fun w' => Ext w_93 w' ∧ (∀ b o, b < w_93.heap.size → w'.cell? ⟨b, o, none⟩ = w_93.cell? ⟨b, o, none⟩)) (first | (with_reducible exact ext2 (Ext.trans (And.left ‹Ext w_93 _ ∧ _›) ‹Ext _ _›)) | (refine ext2 ?_; with_reducible repeat (first | exact Ext.refl _ | refine Ext.drew ?_))) (first
      | (go_at_call 15; refine (toAlgebra_law _ _ _ _ _ xs0 _ (HR0.out.ext (E_101.out.trans (And.left ‹Ext w_93 _ ∧ _›))) hn0).mono ?_; rintro e w_104 ⟨b_104, rfl, o_104, h_104⟩)
      | (go_at_call 18; refine (eqAlgebra_law _ _ _ _ _ _ _ xs0 _ (Own.reads (Own.ext X0_96.out (And.left ‹Ext w_93 _ ∧ _›))) (Own.reads o_104) hn0).mono ?_; rintro e w_105 ⟨rfl, h_105⟩))
    clear lXB0 qXB00 qXB01 qXB02 lA0 qA00 qA01 qA02
    have hx_105 := And.left ‹Ext w_93 w_105 ∧ _›
    try clear h_104 h_105 o_104
    have A0_106 := Lib.hid (A0_94.out.ext hx_105)
    clear A0_94
    have A2_107 := Lib.hid (A2_95.out.ext hx_105)
    clear A2_95
    have X0_108 := Lib.hid (X0_96.out.ext hx_105)
    clear X0_96
    have XB0_109 := Lib.hid (XB0_97.out.ext hx_105)
    clear XB0_97
    have X1_110 := Lib.hid (X1_103.out.ext hx_105)
    clear X1_103
    have X2_111 := Lib.hid (X2_99.out.ext hx_105)
    clear X2_99
    have XB2_112 := Lib.hid (XB2_100.out.ext hx_105)
    clear XB2_100
    have E_113 := Lib.hid (E_101.out.trans hx_105)
    clear E_101
    have z_114 := Ext.le hx_105
    try simp only [World.size_alloc] at z_114
    have Z_114 := Lib.hid z_114
    clear z_114
    clear hx_105
    go_wp2_with fail
    refine (toMatrixS_law _ _ _ ms1 _ (HR1.out.ext E_113.out) hn1 HT1.out).mono ?_
    rintro e w_115 ⟨b_115, rfl, o_115, h_115⟩
    have A0_116 := Lib.hid (A0_106.out.ext h_115)
    clear A0_106
    have A2_117 := Lib.hid (A2_107.out.ext h_115)
    clear A2_107
    have X0_118 := Lib.hid (X0_108.out.ext h_115)
    clear X0_108
    have XB0_119 := Lib.hid (XB0_109.out.ext h_115)
    clear XB0_109
    have X1_120 := Lib.hid (X1_110.out.ext h_115)
    clear X1_110
    have X2_121 := Lib.hid (X2_111.out.ext h_115)
    clear X2_111
    have XB2_122 := Lib.hid (XB2_112.out.ext h_115)
    clear XB2_112
    have E_123 := Lib.hid (E_113.out.trans h_115)
    clear E_113
    have z_124 := Ext.le h_115
    try simp only [World.size_alloc] at z_124
    have Z_124 := Lib.hid z_124
    clear z_124
    have T_125 := Lib.hid (o_115)
    clear o_115 h_115
    go_wp2_with fail
    refine (eqMatrixS_x _ _ _ _ _ _ _ _ _ ms1 _ X1_120.out T_125.out.1 hn1).mono ?_
    rintro e w_126 ⟨rfl, h_126⟩
    clear T_125
    have A0_127 := Lib.hid (A0_116.out.ext h_126)
    clear A0_116
    have A2_128 := Lib.hid (A2_117.out.ext h_126)
    clear A2_117
    have X0_129 := Lib.hid (X0_118.out.ext h_126)
    clear X0_118
    have XB0_130 := Lib.hid (XB0_119.out.ext h_126)
    clear XB0_119
    have X1_131 := Lib.hid (X1_120.out.ext h_126)
    clear X1_120
    have X2_132 := Lib.hid (X2_121.out.ext h_126)
    clear X2_121
    have XB2_133 := Lib.hid (XB2_122.out.ext h_126)
    clear XB2_122
    have E_134 := Lib.hid (E_123.out.trans h_126)
    clear E_123
    have z_135 := Ext.le h_126
    try simp only [World.size_alloc] at z_135
    have Z_135 := Lib.hid z_135
    clear z_135
    clear h_126
    have lXB2 := XB2_133.out.1
    have qXB20 := XB2_133.out.2 0 _ rfl
    have qXB21 := XB2_133.out.2 1 _ rfl
    have qXB22 := XB2_133.out.2 2 _ rfl
    have qXB23 := XB2_133.out.2 3 _ rfl
    have lA2 := A2_128.out.1
    have qA20 := A2_128.out.2 0 _ rfl
    have qA21 := A2_128.out.2 1 _ rfl
    have qA22 := A2_128.out.2 2 _ rfl
    have qA23 := A2_128.out.2 3 _ rfl
    try simp only [World.size_alloc] at lXB2 lA2
    go_wp2_with fail
    go_region_held3 (fun w' => Ext w_126 w' ∧ (∀ b o, b < w_126.heap.size → w'.cell? ⟨b, o, none⟩ = w_126.cell? ⟨b, o, none⟩)) (first | (with_reducible exact ext2 (Ext.trans (And.left ‹Ext w_126 _ ∧ _›) ‹Ext _ _›)) | (refine ext2 ?_; with_reducible repeat (first | exact Ext.refl _ | refine Ext.drew ?_))) (first
      | (go_at_call 43; refine (toMatrix_law _ _ _ _ _ _ xs2 _ (HR2.out.ext (E_134.out.trans (And.left ‹Ext w_126 _ ∧ _›))) hn2).mono ?_; rintro e w_136 ⟨b_136, rfl, o_136, h_136⟩)
      | (go_at_call 23; refine (eqMatrix_law _ _ _ _ _ _ _ _ xs2 _ (Own.reads (Own.ext X2_132.out (And.left ‹Ext w_126 _ ∧ _›))) (Own.reads o_136) hn2).mono ?_; rintro e w_137 ⟨rfl, h_137⟩))
    clear lXB2 qXB20 qXB21 qXB22 qXB23 lA2 qA20 qA21 qA22 qA23
    have hx_137 := And.left ‹Ext w_126 w_137 ∧ _›
    try clear h_136 h_137 o_136
    have A0_138 := Lib.hid (A0_127.out.ext hx_137)
    clear A0_127
    have A2_139 := Lib.hid (A2_128.out.ext hx_137)
    clear A2_128
    have X0_140 := Lib.hid (X0_129.out.ext hx_137)
    clear X0_129
    have XB0_141 := Lib.hid (XB0_130.out.ext hx_137)
    clear XB0_130
    have X1_142 := Lib.hid (X1_131.out.ext hx_137)
    clear X1_131
    have X2_143 := Lib.hid (X2_132.out.ext hx_137)
    clear X2_132
    have XB2_144 := Lib.hid (XB2_133.out.ext hx_137)
    clear XB2_133
    have E_145 := Lib.hid (E_134.out.trans hx_137)
    clear E_134
    have z_146 := Ext.le hx_137
    try simp only [World.size_alloc] at z_146
    have Z_146 := Lib.hid z_146
    clear z_146
    clear hx_137
    go_wp2
    go_ret
    exact ⟨rfl, E_145.out⟩

set_option maxRecDepth 100000 in
theorem lifted (os : Os) (started : os.Started) (H : Type) (enc : TypeId × Value → H) :
    ReturnsInHanded {} Try.checked os 11 .any (Rows.fnExactIsSubmoduleSpec.pre6 enc Try.prog Try.f11 Rows.fnExactIsSubmoduleRow.domain false) (Rows.fnExactIsSubmoduleSpec.post enc Try.prog Try.f11 false true false false) := by
  refine returnsInHanded_of_change (C := Try.checked) own started (by kernel_rfl) Try.func11
    (ChangeSpec.witness6 (enc := enc) (C := Try.checked) false ⟨#[], #[.agg #[.int .i64 0, .int .i64 0, .slice none 0 0], .slice none 0 0, .agg #[.int .i64 0, .int .i64 0, .int .i64 0, .slice none 0 0]], []⟩ 8 (by kernel_rfl) (by kernel_rfl) (by kernel_rfl) (by kernel_rfl)) ?_
  intro W base args ds gs before hval0 hW hcnd _
  have hval : ∀ (j : Nat) t v, Try.f11.params[j]? = some t → args[j]? = some v → Value.okWide Try.prog W .any base t v := hval0
  have hW' := hW
  obtain ⟨p, q, hA0, hV, rfl, hfz, hnd⟩ := hW
  have hA : DataW.TrodAll enc Try.prog W 0 (fun _ => true) true Try.f11.params.toList args.toList ds p := hA0
  rw [Try.params11] at hA hval
  obtain ⟨v0, vs0, d0, ds0, p0, q0, hargs, rfl, rfl, h0, r0⟩ := trodAll_cons hA
  obtain ⟨v1, vs1, d1, ds1, p1, q1, rfl, rfl, rfl, h1, r1⟩ := trodAll_cons r0
  obtain ⟨v2, vs2, d2, ds2, p2, q2, rfl, rfl, rfl, h2, r2⟩ := trodAll_cons r1
  obtain ⟨rfl, rfl, rfl⟩ := trodAll_nil r2
  obtain rfl : args = #[v0, v1, v2] := by cases args; simp_all
  obtain ⟨rfl, rfl⟩ := trodVars_none hV
  have k0 := h0
  have lt0 : ∀ x ∈ p0, x.block < W.heap.size := by obtain ⟨m, hm⟩ := k0; exact DataW.trod_lt m _ _ _ hm
  obtain ⟨P0, D0, a0, n0, c0, xs0, rfl, w0⟩ := open_alg (hval 0 _ v0 rfl rfl) h0
  have k1 := h1
  have lt1 : ∀ x ∈ p1, x.block < W.heap.size := by obtain ⟨m, hm⟩ := k1; exact DataW.trod_lt m _ _ _ hm
  obtain ⟨a1, n1, c1, ms1, rfl, w1⟩ := open_mats (hval 1 _ v1 rfl rfl) h1
  have k2 := h2
  have lt2 : ∀ x ∈ p2, x.block < W.heap.size := by obtain ⟨m, hm⟩ := k2; exact DataW.trod_lt m _ _ _ hm
  obtain ⟨P2, R2, C2, a2, n2, c2, xs2, rfl, w2⟩ := open_mat (hval 2 _ v2 rfl rfl) h2
  clear hA0 hval0
  refine (walk P0 D0 a0 n0 c0 xs0 a1 n1 c1 ms1 P2 R2 C2 a2 n2 c2 xs2 W w0 w1 w2).mono fun e W' ⟨he, bel⟩ => ?_
  subst he
  exact ⟨_, rfl, _, _, _, [], _, [], hW', trodAll_mk1 (shut_bool Try.underlying4 _), (trodAll_cons_mk (Below.trod laidOut (by kernel_rfl) (of_decide_eq_true (by kernel_rfl)) k0 bel lt0) (trodAll_cons_mk (Below.trod laidOut (by kernel_rfl) (of_decide_eq_true (by kernel_rfl)) k1 bel lt1) (trodAll_cons_mk (Below.trod laidOut (by kernel_rfl) (of_decide_eq_true (by kernel_rfl)) k2 bel lt2) trodAll_mk0))), rfl, Below.frame bel _, fun h => by cases h⟩

set_option maxRecDepth 1000000 in
set_option maxHeartbeats 40000000 in
theorem closed : joinedFacts Try.pinned.checked.prog 11 Try.f11 Rows.fnExactIsSubmoduleSpec Rows.fnExactIsSubmoduleRow = true := by
  unfold joinedFacts
  repeat' (with_reducible refine and2 ?_ ?_)
  all_goals (first | (with_reducible exact seat_laid) | (with_reducible exact seat_maps) | (with_reducible exact seat_heard) | (with_reducible exact seat_enter) | (with_reducible refine seat_lifts ?_; kernel_rfl) | (with_reducible refine seat_make ?_; kernel_rfl) | (with_reducible refine seat_plain ?_; kernel_rfl) | (as_aux_lemma => kernel_rfl))

theorem over : Rows.fnExactIsSubmoduleRow.holds Try.pinned (OpenSpec.ofChange Rows.fnExactIsSubmoduleSpec) :=
  OpenClaim.holds_of_wide 11 Try.f11 rfl rfl rfl rfl rfl rfl rfl ⟨rfl, rfl, rfl, rfl, rfl⟩ rfl rfl rfl rfl rfl (by kernel_rfl) Try.func11 closed
    (of_decide_eq_true (by kernel_rfl)) (by unfold Func.isWrapper; first | (rw [if_pos (by decide +kernel)]; kernel_rfl) | (rw [if_neg (by decide +kernel)]; exact ⟨rfl, rfl⟩))
    (fun os started H enc _ => lifted os started H enc)

/-- The statement. -/
theorem proved : Rows.FnExactIsSubmoduleSaid := over
#print axioms proved
end Go.Proofs.Ytnikfalpjieibaa.fnExactIsSubmodule
