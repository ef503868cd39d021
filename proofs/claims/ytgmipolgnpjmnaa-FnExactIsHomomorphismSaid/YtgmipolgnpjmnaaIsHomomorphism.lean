/-
  Proved: the statement given for the law FnExactIsHomomorphism: at every input the Go text returns true, with no panic, and the arguments read as they read before. No condition is added.
-/
import Derived.Test.YtgmipolgnpjmnaaFr
import Derived.Test.YtgmipolgnpjmnaaHom
namespace Go.Proofs.Ytgmipolgnpjmnaa.fnExactIsHomomorphism
open Go.ChangeShapes Go.WideShapes Go.ChangeAt Go.RowKit
open Go.ChangeMaps (open_string shut_string)
set_option linter.unusedVariables false

set_option maxRecDepth 100000 in
set_option maxHeartbeats 3200000 in
/-- The walk: the Go text returns true, and nothing that was there has changed. -/
theorem walk (P0 D0 : Int) (a0 : Option Addr) (n0 c0 : Nat) (xs0 : List Int) (P1 D1 : Int) (a1 : Option Addr) (n1 c1 : Nat) (xs1 : List Int) (P2 R2 C2 : Int) (a2 : Option Addr) (n2 c2 : Nat) (xs2 : List Int) (w : World) (w0 : Reads w a0 n0 xs0 ∧ n0 ≤ maxLen) (w1 : Reads w a1 n1 xs1 ∧ n1 ≤ maxLen) (w2 : Reads w a2 n2 xs2 ∧ n2 ≤ maxLen) :
    Calls Try.prog 13 #[.agg #[.int .i64 P0, .int .i64 D0, .slice a0 n0 c0], .agg #[.int .i64 P1, .int .i64 D1, .slice a1 n1 c1], .agg #[.int .i64 P2, .int .i64 R2, .int .i64 C2, .slice a2 n2 c2]] w fun e w' => e = .returned (.bool true) ∧ Ext w w' := by
  obtain ⟨hr0, hm0⟩ := w0
  have HR0 := Lib.hid hr0
  clear hr0
  obtain ⟨hr1, hm1⟩ := w1
  have HR1 := Lib.hid hr1
  clear hr1
  obtain ⟨hr2, hm2⟩ := w2
  have HR2 := Lib.hid hr2
  clear hr2
  rcases hM0 : homM P0 D0 xs0 P1 D1 xs1 P2 R2 C2 xs2 with i0
  have hM := Lib.hid hM0
  clear hM0
  by_cases hz0 : (n0 : Int) ≤ 1048576
  case neg =>
    go_enter Try.func13, Try.ntmps13
    have T0 := cells_new' w #[.int .i64 P0, .int .i64 D0, .slice a0 n0 c0] 24 (w.heap.size) (by simp)
    have T1 := cells_new' (w.alloc (.cells #[.int .i64 P0, .int .i64 D0, .slice a0 n0 c0] 24)) #[.int .i64 P1, .int .i64 D1, .slice a1 n1 c1] 24 (w.heap.size + 1) (by simp)
    have T2 := cells_new' ((w.alloc (.cells #[.int .i64 P0, .int .i64 D0, .slice a0 n0 c0] 24)).alloc (.cells #[.int .i64 P1, .int .i64 D1, .slice a1 n1 c1] 24)) #[.int .i64 P2, .int .i64 R2, .int .i64 C2, .slice a2 n2 c2] 34 (w.heap.size + 1 + 1) (by simp)
    have A0_1 := Lib.hid (T0.ext (((Ext.refl _).alloc (.cells #[.int .i64 P1, .int .i64 D1, .slice a1 n1 c1] 24)).alloc (.cells #[.int .i64 P2, .int .i64 R2, .int .i64 C2, .slice a2 n2 c2] 34)))
    clear T0
    have A1_2 := Lib.hid (T1.ext ((Ext.refl _).alloc (.cells #[.int .i64 P2, .int .i64 R2, .int .i64 C2, .slice a2 n2 c2] 34)))
    clear T1
    have A2_3 := Lib.hid (T2.ext (Ext.refl _))
    clear T2
    have E_4 := Lib.hid ((((Ext.refl w).alloc (.cells #[.int .i64 P0, .int .i64 D0, .slice a0 n0 c0] 24)).alloc (.cells #[.int .i64 P1, .int .i64 D1, .slice a1 n1 c1] 24)).alloc (.cells #[.int .i64 P2, .int .i64 R2, .int .i64 C2, .slice a2 n2 c2] 34))
    have lA0 := A0_1.out.1
    have qA00 := A0_1.out.2 0 _ rfl
    have qA01 := A0_1.out.2 1 _ rfl
    have qA02 := A0_1.out.2 2 _ rfl
    try simp only [World.size_alloc] at lA0
    go_wp2_with fail
    refine (szAlgebra_no _ _ _ _ _ _ _ (by omega) (by omega) hm0 (by omega)).mono ?_
    rintro e w_5 ⟨rfl, h_5⟩
    clear lA0 qA00 qA01 qA02
    go_wp2
    go_ret
    exact ⟨rfl, E_4.out.trans h_5⟩
  by_cases hz1 : (n0 : Int) + (n1 : Int) ≤ 1048576
  case neg =>
    go_enter Try.func13, Try.ntmps13
    have T0 := cells_new' w #[.int .i64 P0, .int .i64 D0, .slice a0 n0 c0] 24 (w.heap.size) (by simp)
    have T1 := cells_new' (w.alloc (.cells #[.int .i64 P0, .int .i64 D0, .slice a0 n0 c0] 24)) #[.int .i64 P1, .int .i64 D1, .slice a1 n1 c1] 24 (w.heap.size + 1) (by simp)
    have T2 := cells_new' ((w.alloc (.cells #[.int .i64 P0, .int .i64 D0, .slice a0 n0 c0] 24)).alloc (.cells #[.int .i64 P1, .int .i64 D1, .slice a1 n1 c1] 24)) #[.int .i64 P2, .int .i64 R2, .int .i64 C2, .slice a2 n2 c2] 34 (w.heap.size + 1 + 1) (by simp)
    have A0_6 := Lib.hid (T0.ext (((Ext.refl _).alloc (.cells #[.int .i64 P1, .int .i64 D1, .slice a1 n1 c1] 24)).alloc (.cells #[.int .i64 P2, .int .i64 R2, .int .i64 C2, .slice a2 n2 c2] 34)))
    clear T0
    have A1_7 := Lib.hid (T1.ext ((Ext.refl _).alloc (.cells #[.int .i64 P2, .int .i64 R2, .int .i64 C2, .slice a2 n2 c2] 34)))
    clear T1
    have A2_8 := Lib.hid (T2.ext (Ext.refl _))
    clear T2
    have E_9 := Lib.hid ((((Ext.refl w).alloc (.cells #[.int .i64 P0, .int .i64 D0, .slice a0 n0 c0] 24)).alloc (.cells #[.int .i64 P1, .int .i64 D1, .slice a1 n1 c1] 24)).alloc (.cells #[.int .i64 P2, .int .i64 R2, .int .i64 C2, .slice a2 n2 c2] 34))
    have lA0 := A0_6.out.1
    have qA00 := A0_6.out.2 0 _ rfl
    have qA01 := A0_6.out.2 1 _ rfl
    have qA02 := A0_6.out.2 2 _ rfl
    try simp only [World.size_alloc] at lA0
    go_wp2_with fail
    refine (szAlgebra_yes _ _ _ _ _ _ _ (by omega) (by omega)).mono ?_
    rintro e w_10 ⟨rfl, h_10⟩
    clear lA0 qA00 qA01 qA02
    have A0_11 := Lib.hid (A0_6.out.ext h_10)
    clear A0_6
    have A1_12 := Lib.hid (A1_7.out.ext h_10)
    clear A1_7
    have A2_13 := Lib.hid (A2_8.out.ext h_10)
    clear A2_8
    have E_14 := Lib.hid (E_9.out.trans h_10)
    clear E_9
    have z_15 := Ext.le h_10
    try simp only [World.size_alloc] at z_15
    have Z_15 := Lib.hid z_15
    clear z_15
    clear h_10
    have hp1 : 0 ≤ 1048576 - (n0 : Int) := by omega
    have lA1 := A1_12.out.1
    have qA10 := A1_12.out.2 0 _ rfl
    have qA11 := A1_12.out.2 1 _ rfl
    have qA12 := A1_12.out.2 2 _ rfl
    try simp only [World.size_alloc] at lA1
    go_wp2_with fail
    refine (szAlgebra_no _ _ _ _ _ _ _ (by omega) (by omega) hm1 (by omega)).mono ?_
    rintro e w_16 ⟨rfl, h_16⟩
    clear lA1 qA10 qA11 qA12
    go_wp2
    go_ret
    exact ⟨rfl, E_14.out.trans h_16⟩
  by_cases hz2 : (n0 : Int) + (n1 : Int) + (n2 : Int) ≤ 1048576
  case neg =>
    go_enter Try.func13, Try.ntmps13
    have T0 := cells_new' w #[.int .i64 P0, .int .i64 D0, .slice a0 n0 c0] 24 (w.heap.size) (by simp)
    have T1 := cells_new' (w.alloc (.cells #[.int .i64 P0, .int .i64 D0, .slice a0 n0 c0] 24)) #[.int .i64 P1, .int .i64 D1, .slice a1 n1 c1] 24 (w.heap.size + 1) (by simp)
    have T2 := cells_new' ((w.alloc (.cells #[.int .i64 P0, .int .i64 D0, .slice a0 n0 c0] 24)).alloc (.cells #[.int .i64 P1, .int .i64 D1, .slice a1 n1 c1] 24)) #[.int .i64 P2, .int .i64 R2, .int .i64 C2, .slice a2 n2 c2] 34 (w.heap.size + 1 + 1) (by simp)
    have A0_17 := Lib.hid (T0.ext (((Ext.refl _).alloc (.cells #[.int .i64 P1, .int .i64 D1, .slice a1 n1 c1] 24)).alloc (.cells #[.int .i64 P2, .int .i64 R2, .int .i64 C2, .slice a2 n2 c2] 34)))
    clear T0
    have A1_18 := Lib.hid (T1.ext ((Ext.refl _).alloc (.cells #[.int .i64 P2, .int .i64 R2, .int .i64 C2, .slice a2 n2 c2] 34)))
    clear T1
    have A2_19 := Lib.hid (T2.ext (Ext.refl _))
    clear T2
    have E_20 := Lib.hid ((((Ext.refl w).alloc (.cells #[.int .i64 P0, .int .i64 D0, .slice a0 n0 c0] 24)).alloc (.cells #[.int .i64 P1, .int .i64 D1, .slice a1 n1 c1] 24)).alloc (.cells #[.int .i64 P2, .int .i64 R2, .int .i64 C2, .slice a2 n2 c2] 34))
    have lA0 := A0_17.out.1
    have qA00 := A0_17.out.2 0 _ rfl
    have qA01 := A0_17.out.2 1 _ rfl
    have qA02 := A0_17.out.2 2 _ rfl
    try simp only [World.size_alloc] at lA0
    go_wp2_with fail
    refine (szAlgebra_yes _ _ _ _ _ _ _ (by omega) (by omega)).mono ?_
    rintro e w_21 ⟨rfl, h_21⟩
    clear lA0 qA00 qA01 qA02
    have A0_22 := Lib.hid (A0_17.out.ext h_21)
    clear A0_17
    have A1_23 := Lib.hid (A1_18.out.ext h_21)
    clear A1_18
    have A2_24 := Lib.hid (A2_19.out.ext h_21)
    clear A2_19
    have E_25 := Lib.hid (E_20.out.trans h_21)
    clear E_20
    have z_26 := Ext.le h_21
    try simp only [World.size_alloc] at z_26
    have Z_26 := Lib.hid z_26
    clear z_26
    clear h_21
    have hp1 : 0 ≤ 1048576 - (n0 : Int) := by omega
    have lA1 := A1_23.out.1
    have qA10 := A1_23.out.2 0 _ rfl
    have qA11 := A1_23.out.2 1 _ rfl
    have qA12 := A1_23.out.2 2 _ rfl
    try simp only [World.size_alloc] at lA1
    go_wp2_with fail
    refine (szAlgebra_yes _ _ _ _ _ _ _ (by omega) (by omega)).mono ?_
    rintro e w_27 ⟨rfl, h_27⟩
    clear lA1 qA10 qA11 qA12
    have A0_28 := Lib.hid (A0_22.out.ext h_27)
    clear A0_22
    have A1_29 := Lib.hid (A1_23.out.ext h_27)
    clear A1_23
    have A2_30 := Lib.hid (A2_24.out.ext h_27)
    clear A2_24
    have E_31 := Lib.hid (E_25.out.trans h_27)
    clear E_25
    have z_32 := Ext.le h_27
    try simp only [World.size_alloc] at z_32
    have Z_32 := Lib.hid z_32
    clear z_32
    clear h_27
    have hp2 : 0 ≤ 1048576 - (n0 : Int) - (n1 : Int) := by omega
    have lA2 := A2_30.out.1
    have qA20 := A2_30.out.2 0 _ rfl
    have qA21 := A2_30.out.2 1 _ rfl
    have qA22 := A2_30.out.2 2 _ rfl
    have qA23 := A2_30.out.2 3 _ rfl
    try simp only [World.size_alloc] at lA2
    go_wp2_with fail
    refine (szMatrix_no _ _ _ _ _ _ _ _ (by omega) (by omega) hm2 (by omega)).mono ?_
    rintro e w_33 ⟨rfl, h_33⟩
    clear lA2 qA20 qA21 qA22 qA23
    go_wp2
    go_ret
    exact ⟨rfl, E_31.out.trans h_33⟩
  have hn0 : n0 ≤ 1048576 := by omega
  have hn1 : n1 ≤ 1048576 := by omega
  have hn2 : n2 ≤ 1048576 := by omega
  go_enter Try.func13, Try.ntmps13
  have T0 := cells_new' w #[.int .i64 P0, .int .i64 D0, .slice a0 n0 c0] 24 (w.heap.size) (by simp)
  have T1 := cells_new' (w.alloc (.cells #[.int .i64 P0, .int .i64 D0, .slice a0 n0 c0] 24)) #[.int .i64 P1, .int .i64 D1, .slice a1 n1 c1] 24 (w.heap.size + 1) (by simp)
  have T2 := cells_new' ((w.alloc (.cells #[.int .i64 P0, .int .i64 D0, .slice a0 n0 c0] 24)).alloc (.cells #[.int .i64 P1, .int .i64 D1, .slice a1 n1 c1] 24)) #[.int .i64 P2, .int .i64 R2, .int .i64 C2, .slice a2 n2 c2] 34 (w.heap.size + 1 + 1) (by simp)
  have A0_34 := Lib.hid (T0.ext (((Ext.refl _).alloc (.cells #[.int .i64 P1, .int .i64 D1, .slice a1 n1 c1] 24)).alloc (.cells #[.int .i64 P2, .int .i64 R2, .int .i64 C2, .slice a2 n2 c2] 34)))
  clear T0
  have A1_35 := Lib.hid (T1.ext ((Ext.refl _).alloc (.cells #[.int .i64 P2, .int .i64 R2, .int .i64 C2, .slice a2 n2 c2] 34)))
  clear T1
  have A2_36 := Lib.hid (T2.ext (Ext.refl _))
  clear T2
  have E_37 := Lib.hid ((((Ext.refl w).alloc (.cells #[.int .i64 P0, .int .i64 D0, .slice a0 n0 c0] 24)).alloc (.cells #[.int .i64 P1, .int .i64 D1, .slice a1 n1 c1] 24)).alloc (.cells #[.int .i64 P2, .int .i64 R2, .int .i64 C2, .slice a2 n2 c2] 34))
  have lA0 := A0_34.out.1
  have qA00 := A0_34.out.2 0 _ rfl
  have qA01 := A0_34.out.2 1 _ rfl
  have qA02 := A0_34.out.2 2 _ rfl
  try simp only [World.size_alloc] at lA0
  go_wp2_with fail
  refine (szAlgebra_yes _ _ _ _ _ _ _ (by omega) (by omega)).mono ?_
  rintro e w_38 ⟨rfl, h_38⟩
  clear lA0 qA00 qA01 qA02
  have A0_39 := Lib.hid (A0_34.out.ext h_38)
  clear A0_34
  have A1_40 := Lib.hid (A1_35.out.ext h_38)
  clear A1_35
  have A2_41 := Lib.hid (A2_36.out.ext h_38)
  clear A2_36
  have E_42 := Lib.hid (E_37.out.trans h_38)
  clear E_37
  have z_43 := Ext.le h_38
  try simp only [World.size_alloc] at z_43
  have Z_43 := Lib.hid z_43
  clear z_43
  clear h_38
  have hp1 : 0 ≤ 1048576 - (n0 : Int) := by omega
  have lA1 := A1_40.out.1
  have qA10 := A1_40.out.2 0 _ rfl
  have qA11 := A1_40.out.2 1 _ rfl
  have qA12 := A1_40.out.2 2 _ rfl
  try simp only [World.size_alloc] at lA1
  go_wp2_with fail
  refine (szAlgebra_yes _ _ _ _ _ _ _ (by omega) (by omega)).mono ?_
  rintro e w_44 ⟨rfl, h_44⟩
  clear lA1 qA10 qA11 qA12
  have A0_45 := Lib.hid (A0_39.out.ext h_44)
  clear A0_39
  have A1_46 := Lib.hid (A1_40.out.ext h_44)
  clear A1_40
  have A2_47 := Lib.hid (A2_41.out.ext h_44)
  clear A2_41
  have E_48 := Lib.hid (E_42.out.trans h_44)
  clear E_42
  have z_49 := Ext.le h_44
  try simp only [World.size_alloc] at z_49
  have Z_49 := Lib.hid z_49
  clear z_49
  clear h_44
  have hp2 : 0 ≤ 1048576 - (n0 : Int) - (n1 : Int) := by omega
  have lA2 := A2_47.out.1
  have qA20 := A2_47.out.2 0 _ rfl
  have qA21 := A2_47.out.2 1 _ rfl
  have qA22 := A2_47.out.2 2 _ rfl
  have qA23 := A2_47.out.2 3 _ rfl
  try simp only [World.size_alloc] at lA2
  go_wp2_with fail
  refine (szMatrix_yes _ _ _ _ _ _ _ _ (by omega) (by omega)).mono ?_
  rintro e w_50 ⟨rfl, h_50⟩
  clear lA2 qA20 qA21 qA22 qA23
  have A0_51 := Lib.hid (A0_45.out.ext h_50)
  clear A0_45
  have A1_52 := Lib.hid (A1_46.out.ext h_50)
  clear A1_46
  have A2_53 := Lib.hid (A2_47.out.ext h_50)
  clear A2_47
  have E_54 := Lib.hid (E_48.out.trans h_50)
  clear E_48
  have z_55 := Ext.le h_50
  try simp only [World.size_alloc] at z_55
  have Z_55 := Lib.hid z_55
  clear z_55
  clear h_50
  have hp : 0 ≤ 1048576 - (n0 : Int) - (n1 : Int) - (n2 : Int) := by omega
  have lA0 := A0_51.out.1
  have qA00 := A0_51.out.2 0 _ rfl
  have qA01 := A0_51.out.2 1 _ rfl
  have qA02 := A0_51.out.2 2 _ rfl
  have lA1 := A1_52.out.1
  have qA10 := A1_52.out.2 0 _ rfl
  have qA11 := A1_52.out.2 1 _ rfl
  have qA12 := A1_52.out.2 2 _ rfl
  have lA2 := A2_53.out.1
  have qA20 := A2_53.out.2 0 _ rfl
  have qA21 := A2_53.out.2 1 _ rfl
  have qA22 := A2_53.out.2 2 _ rfl
  have qA23 := A2_53.out.2 3 _ rfl
  try simp only [World.size_alloc] at lA0 lA1 lA2
  go_upto_region 11 with fail
  go_cut [8] (fun s0 wx => s0 = .bool i0 ∧ Hid (Ext w_50 wx))
  case first =>
    go_region_held3 (fun w' => Ext w_50 w' ∧ (∀ b o, b < w_50.heap.size → w'.cell? ⟨b, o, none⟩ = w_50.cell? ⟨b, o, none⟩)) (first | (with_reducible exact ext2 (Ext.trans (And.left ‹Ext w_50 _ ∧ _›) ‹Ext _ _›)) | (refine ext2 ?_; with_reducible repeat (first | exact Ext.refl _ | exact And.left ‹Ext w_50 _ ∧ _› | exact (((((Ext.refl _).drew).trans h_56).trans h_57).trans h_58).trans h_59 | refine Ext.drew ?_ | refine Ext.alloc ?_ _ | refine Ext.setCell ?_ (by have e0 : w_50.drew.heap.size = w_50.heap.size := rfl; simp <;> omega) _))) (first
      | (go_at_call_of 17 (Value.slice a0 n0 c0); refine (toAlgebra_law _ _ _ _ _ xs0 _ (HR0.out.ext (E_54.out.trans (And.left ‹Ext w_50 _ ∧ _›))) hn0).mono ?_; rintro e w_56 ⟨b_56, rfl, o_56, h_56⟩; have c_56 := h_56.cells; have f_56 := h_56.frees; have y_56 := h_56.le; have x_56 := fun k hk => Nat.lt_of_lt_of_le (n := k) hk h_56.le; (try simp only [World.size_drew] at y_56 x_56); (try simp only [World.size_alloc] at y_56 x_56); (try simp only [Nat.add_one_le_iff] at y_56); (try have z_56_0 : w_50.heap.size < w_56.heap.size := by omega); (try have z_56_2 : w_57.heap.size < w_56.heap.size := by omega); (try have z_56_3 : w_58.heap.size < w_56.heap.size := by omega); (try have z_56_4 : w_59.heap.size < w_56.heap.size := by omega))
      | (go_at_call_of 17 (Value.slice a1 n1 c1); refine (toAlgebra_law _ _ _ _ _ xs1 _ (HR1.out.ext (E_54.out.trans (And.left ‹Ext w_50 _ ∧ _›))) hn1).mono ?_; rintro e w_57 ⟨b_57, rfl, o_57, h_57⟩; have c_57 := h_57.cells; have f_57 := h_57.frees; have y_57 := h_57.le; have x_57 := fun k hk => Nat.lt_of_lt_of_le (n := k) hk h_57.le; (try simp only [World.size_drew] at y_57 x_57); (try simp only [World.size_alloc] at y_57 x_57); (try simp only [Nat.add_one_le_iff] at y_57); (try have z_57_0 : w_50.heap.size < w_57.heap.size := by omega); (try have z_57_1 : w_56.heap.size < w_57.heap.size := by omega); (try have z_57_3 : w_58.heap.size < w_57.heap.size := by omega); (try have z_57_4 : w_59.heap.size < w_57.heap.size := by omega))
      | (go_at_call_of 24 (Value.slice a2 n2 c2); refine (toMatrix_law _ _ _ _ _ _ xs2 _ (HR2.out.ext (E_54.out.trans (And.left ‹Ext w_50 _ ∧ _›))) hn2).mono ?_; rintro e w_58 ⟨b_58, rfl, o_58, h_58⟩; have c_58 := h_58.cells; have f_58 := h_58.frees; have y_58 := h_58.le; have x_58 := fun k hk => Nat.lt_of_lt_of_le (n := k) hk h_58.le; (try simp only [World.size_drew] at y_58 x_58); (try simp only [World.size_alloc] at y_58 x_58); (try simp only [Nat.add_one_le_iff] at y_58); (try have z_58_0 : w_50.heap.size < w_58.heap.size := by omega); (try have z_58_1 : w_56.heap.size < w_58.heap.size := by omega); (try have z_58_2 : w_57.heap.size < w_58.heap.size := by omega); (try have z_58_4 : w_59.heap.size < w_58.heap.size := by omega))
      | (go_at_call 45; refine (isHomomorphism_spec (Own.reads (Own.ext o_56 (by with_reducible first | exact (((Ext.refl _).trans h_57).trans h_58) | exact Ext.alloc (((Ext.refl _).trans h_57).trans h_58) _ | exact (((Ext.alloc (Ext.refl _) _).trans h_57).trans h_58) | exact ((Ext.alloc ((Ext.refl _).trans h_57) _).trans h_58)))) hn0 (Own.reads (Own.ext o_57 (by with_reducible first | exact ((Ext.refl _).trans h_58) | exact Ext.alloc ((Ext.refl _).trans h_58) _ | exact ((Ext.alloc (Ext.refl _) _).trans h_58)))) hn1 (Own.reads (Own.ext o_58 (by with_reducible first | exact Ext.refl _ | exact Ext.alloc (Ext.refl _) _))) hn2 hM.out).mono ?_; rintro e w_59 ⟨rfl, h_59⟩; have c_59 := h_59.cells; have f_59 := h_59.frees; have y_59 := h_59.le; have x_59 := fun k hk => Nat.lt_of_lt_of_le (n := k) hk h_59.le; (try simp only [World.size_drew] at y_59 x_59); (try simp only [World.size_alloc] at y_59 x_59); (try simp only [Nat.add_one_le_iff] at y_59); (try have z_59_0 : w_50.heap.size < w_59.heap.size := by omega); (try have z_59_1 : w_56.heap.size < w_59.heap.size := by omega); (try have z_59_2 : w_57.heap.size < w_59.heap.size := by omega); (try have z_59_3 : w_58.heap.size < w_59.heap.size := by omega)))
    all_goals (go_wp2_with fail; go_meet; with_reducible first
      | exact ⟨rfl, Lib.hid (And.left ‹Ext w_50 _ ∧ _›)⟩)
  case rest =>
    obtain ⟨rfl, h_60⟩ := hcut
    have hx_60 := h_60.out
    clear h_60
    clear lA0 qA00 qA01 qA02 lA1 qA10 qA11 qA12 lA2 qA20 qA21 qA22 qA23
    obtain ⟨w_60, rfl⟩ : ∃ wq : World, wq = wc := ⟨_, rfl⟩
    have A0_61 := Lib.hid (A0_51.out.ext hx_60)
    clear A0_51
    have A1_62 := Lib.hid (A1_52.out.ext hx_60)
    clear A1_52
    have A2_63 := Lib.hid (A2_53.out.ext hx_60)
    clear A2_53
    have E_64 := Lib.hid (E_54.out.trans hx_60)
    clear E_54
    have z_65 := Ext.le hx_60
    try simp only [World.size_alloc] at z_65
    have Z_65 := Lib.hid z_65
    clear z_65
    clear hx_60
    have lA0 := A0_61.out.1
    have qA00 := A0_61.out.2 0 _ rfl
    have qA01 := A0_61.out.2 1 _ rfl
    have qA02 := A0_61.out.2 2 _ rfl
    try simp only [World.size_alloc] at lA0
    go_wp2_with fail
    refine (toAlgebra_law _ _ _ _ _ xs0 _ (HR0.out.ext E_64.out) hn0).mono ?_
    rintro e w_66 ⟨b_66, rfl, o_66, h_66⟩
    clear lA0 qA00 qA01 qA02
    have A0_67 := Lib.hid (A0_61.out.ext h_66)
    clear A0_61
    have A1_68 := Lib.hid (A1_62.out.ext h_66)
    clear A1_62
    have A2_69 := Lib.hid (A2_63.out.ext h_66)
    clear A2_63
    have E_70 := Lib.hid (E_64.out.trans h_66)
    clear E_64
    have z_71 := Ext.le h_66
    try simp only [World.size_alloc] at z_71
    have Z_71 := Lib.hid z_71
    clear z_71
    try simp only [World.size_alloc] at o_66
    have X0_72 := Lib.hid (o_66)
    clear o_66 h_66
    have P_73 := (Ext.refl w_66).alloc (.cells #[.int .i64 P0, .int .i64 D0, .slice (some ⟨b_66, 0, none⟩) n0 n0] 26)
    have A0_74 := Lib.hid (A0_67.out.ext P_73)
    clear A0_67
    have A1_75 := Lib.hid (A1_68.out.ext P_73)
    clear A1_68
    have A2_76 := Lib.hid (A2_69.out.ext P_73)
    clear A2_69
    have X0_77 := Lib.hid (X0_72.out.ext P_73)
    clear X0_72
    have E_78 := Lib.hid (E_70.out.trans P_73)
    clear E_70
    clear P_73
    have XB0_79 := Lib.hid (cells_new w_66 #[.int .i64 P0, .int .i64 D0, .slice (some ⟨b_66, 0, none⟩) n0 n0] 26)
    have lA1 := A1_75.out.1
    have qA10 := A1_75.out.2 0 _ rfl
    have qA11 := A1_75.out.2 1 _ rfl
    have qA12 := A1_75.out.2 2 _ rfl
    try simp only [World.size_alloc] at lA1
    go_wp2_with fail
    refine (toAlgebra_law _ _ _ _ _ xs1 _ (HR1.out.ext E_78.out) hn1).mono ?_
    rintro e w_80 ⟨b_80, rfl, o_80, h_80⟩
    clear lA1 qA10 qA11 qA12
    have A0_81 := Lib.hid (A0_74.out.ext h_80)
    clear A0_74
    have A1_82 := Lib.hid (A1_75.out.ext h_80)
    clear A1_75
    have A2_83 := Lib.hid (A2_76.out.ext h_80)
    clear A2_76
    have X0_84 := Lib.hid (X0_77.out.ext h_80)
    clear X0_77
    have XB0_85 := Lib.hid (XB0_79.out.ext h_80)
    clear XB0_79
    have E_86 := Lib.hid (E_78.out.trans h_80)
    clear E_78
    have z_87 := Ext.le h_80
    try simp only [World.size_alloc] at z_87
    have Z_87 := Lib.hid z_87
    clear z_87
    try simp only [World.size_alloc] at o_80
    have X1_88 := Lib.hid (o_80)
    clear o_80 h_80
    have P_89 := (Ext.refl w_80).alloc (.cells #[.int .i64 P1, .int .i64 D1, .slice (some ⟨b_80, 0, none⟩) n1 n1] 26)
    have A0_90 := Lib.hid (A0_81.out.ext P_89)
    clear A0_81
    have A1_91 := Lib.hid (A1_82.out.ext P_89)
    clear A1_82
    have A2_92 := Lib.hid (A2_83.out.ext P_89)
    clear A2_83
    have X0_93 := Lib.hid (X0_84.out.ext P_89)
    clear X0_84
    have XB0_94 := Lib.hid (XB0_85.out.ext P_89)
    clear XB0_85
    have X1_95 := Lib.hid (X1_88.out.ext P_89)
    clear X1_88
    have E_96 := Lib.hid (E_86.out.trans P_89)
    clear E_86
    clear P_89
    have XB1_97 := Lib.hid (cells_new w_80 #[.int .i64 P1, .int .i64 D1, .slice (some ⟨b_80, 0, none⟩) n1 n1] 26)
    have lA2 := A2_92.out.1
    have qA20 := A2_92.out.2 0 _ rfl
    have qA21 := A2_92.out.2 1 _ rfl
    have qA22 := A2_92.out.2 2 _ rfl
    have qA23 := A2_92.out.2 3 _ rfl
    try simp only [World.size_alloc] at lA2
    go_wp2_with fail
    refine (toMatrix_law _ _ _ _ _ _ xs2 _ (HR2.out.ext E_96.out) hn2).mono ?_
    rintro e w_98 ⟨b_98, rfl, o_98, h_98⟩
    clear lA2 qA20 qA21 qA22 qA23
    have A0_99 := Lib.hid (A0_90.out.ext h_98)
    clear A0_90
    have A1_100 := Lib.hid (A1_91.out.ext h_98)
    clear A1_91
    have A2_101 := Lib.hid (A2_92.out.ext h_98)
    clear A2_92
    have X0_102 := Lib.hid (X0_93.out.ext h_98)
    clear X0_93
    have XB0_103 := Lib.hid (XB0_94.out.ext h_98)
    clear XB0_94
    have X1_104 := Lib.hid (X1_95.out.ext h_98)
    clear X1_95
    have XB1_105 := Lib.hid (XB1_97.out.ext h_98)
    clear XB1_97
    have E_106 := Lib.hid (E_96.out.trans h_98)
    clear E_96
    have z_107 := Ext.le h_98
    try simp only [World.size_alloc] at z_107
    have Z_107 := Lib.hid z_107
    clear z_107
    try simp only [World.size_alloc] at o_98
    have X2_108 := Lib.hid (o_98)
    clear o_98 h_98
    have P_109 := (Ext.refl w_98).alloc (.cells #[.int .i64 P2, .int .i64 R2, .int .i64 C2, .slice (some ⟨b_98, 0, none⟩) n2 n2] 36)
    have A0_110 := Lib.hid (A0_99.out.ext P_109)
    clear A0_99
    have A1_111 := Lib.hid (A1_100.out.ext P_109)
    clear A1_100
    have A2_112 := Lib.hid (A2_101.out.ext P_109)
    clear A2_101
    have X0_113 := Lib.hid (X0_102.out.ext P_109)
    clear X0_102
    have XB0_114 := Lib.hid (XB0_103.out.ext P_109)
    clear XB0_103
    have X1_115 := Lib.hid (X1_104.out.ext P_109)
    clear X1_104
    have XB1_116 := Lib.hid (XB1_105.out.ext P_109)
    clear XB1_105
    have X2_117 := Lib.hid (X2_108.out.ext P_109)
    clear X2_108
    have E_118 := Lib.hid (E_106.out.trans P_109)
    clear E_106
    clear P_109
    have XB2_119 := Lib.hid (cells_new w_98 #[.int .i64 P2, .int .i64 R2, .int .i64 C2, .slice (some ⟨b_98, 0, none⟩) n2 n2] 36)
    have lXB0 := XB0_114.out.1
    have qXB00 := XB0_114.out.2 0 _ rfl
    have qXB01 := XB0_114.out.2 1 _ rfl
    have qXB02 := XB0_114.out.2 2 _ rfl
    have lXB1 := XB1_116.out.1
    have qXB10 := XB1_116.out.2 0 _ rfl
    have qXB11 := XB1_116.out.2 1 _ rfl
    have qXB12 := XB1_116.out.2 2 _ rfl
    have lXB2 := XB2_119.out.1
    have qXB20 := XB2_119.out.2 0 _ rfl
    have qXB21 := XB2_119.out.2 1 _ rfl
    have qXB22 := XB2_119.out.2 2 _ rfl
    have qXB23 := XB2_119.out.2 3 _ rfl
    try simp only [World.size_alloc] at lXB0 lXB1 lXB2
    go_wp2_with fail
    refine (isHomomorphism_impl X0_113.out.reads hn0 X1_115.out.reads hn1 X2_117.out.reads hn2 hM.out).mono ?_
    rintro e w_120 ⟨rfl, h_120⟩
    clear lXB0 qXB00 qXB01 qXB02 lXB1 qXB10 qXB11 qXB12 lXB2 qXB20 qXB21 qXB22 qXB23
    have A0_121 := Lib.hid (A0_110.out.ext h_120)
    clear A0_110
    have A1_122 := Lib.hid (A1_111.out.ext h_120)
    clear A1_111
    have A2_123 := Lib.hid (A2_112.out.ext h_120)
    clear A2_112
    have X0_124 := Lib.hid (X0_113.out.ext h_120)
    clear X0_113
    have XB0_125 := Lib.hid (XB0_114.out.ext h_120)
    clear XB0_114
    have X1_126 := Lib.hid (X1_115.out.ext h_120)
    clear X1_115
    have XB1_127 := Lib.hid (XB1_116.out.ext h_120)
    clear XB1_116
    have X2_128 := Lib.hid (X2_117.out.ext h_120)
    clear X2_117
    have XB2_129 := Lib.hid (XB2_119.out.ext h_120)
    clear XB2_119
    have E_130 := Lib.hid (E_118.out.trans h_120)
    clear E_118
    have z_131 := Ext.le h_120
    try simp only [World.size_alloc] at z_131
    have Z_131 := Lib.hid z_131
    clear z_131
    clear h_120
    have lXB0 := XB0_125.out.1
    have qXB00 := XB0_125.out.2 0 _ rfl
    have qXB01 := XB0_125.out.2 1 _ rfl
    have qXB02 := XB0_125.out.2 2 _ rfl
    have lA0 := A0_121.out.1
    have qA00 := A0_121.out.2 0 _ rfl
    have qA01 := A0_121.out.2 1 _ rfl
    have qA02 := A0_121.out.2 2 _ rfl
    try simp only [World.size_alloc] at lXB0 lA0
    go_wp2_with fail
    go_region_held3 (fun w' => Ext w_120 w' ∧ (∀ b o, b < w_120.heap.size → w'.cell? ⟨b, o, none⟩ = w_120.cell? ⟨b, o, none⟩)) (first | (with_reducible exact ext2 (Ext.trans (And.left ‹Ext w_120 _ ∧ _›) ‹Ext _ _›)) | (refine ext2 ?_; with_reducible repeat (first | exact Ext.refl _ | refine Ext.drew ?_))) (first
      | (go_at_call 17; refine (toAlgebra_law _ _ _ _ _ xs0 _ (HR0.out.ext (E_130.out.trans (And.left ‹Ext w_120 _ ∧ _›))) hn0).mono ?_; rintro e w_132 ⟨b_132, rfl, o_132, h_132⟩)
      | (go_at_call 19; refine (eqAlgebra_law _ _ _ _ _ _ _ xs0 _ (Own.reads (Own.ext X0_124.out (And.left ‹Ext w_120 _ ∧ _›))) (Own.reads o_132) hn0).mono ?_; rintro e w_133 ⟨rfl, h_133⟩))
    clear lXB0 qXB00 qXB01 qXB02 lA0 qA00 qA01 qA02
    have hx_133 := And.left ‹Ext w_120 w_133 ∧ _›
    try clear h_132 h_133 o_132
    have A0_134 := Lib.hid (A0_121.out.ext hx_133)
    clear A0_121
    have A1_135 := Lib.hid (A1_122.out.ext hx_133)
    clear A1_122
    have A2_136 := Lib.hid (A2_123.out.ext hx_133)
    clear A2_123
    have X0_137 := Lib.hid (X0_124.out.ext hx_133)
    clear X0_124
    have XB0_138 := Lib.hid (XB0_125.out.ext hx_133)
    clear XB0_125
    have X1_139 := Lib.hid (X1_126.out.ext hx_133)
    clear X1_126
    have XB1_140 := Lib.hid (XB1_127.out.ext hx_133)
    clear XB1_127
    have X2_141 := Lib.hid (X2_128.out.ext hx_133)
    clear X2_128
    have XB2_142 := Lib.hid (XB2_129.out.ext hx_133)
    clear XB2_129
    have E_143 := Lib.hid (E_130.out.trans hx_133)
    clear E_130
    have z_144 := Ext.le hx_133
    try simp only [World.size_alloc] at z_144
    have Z_144 := Lib.hid z_144
    clear z_144
    clear hx_133
    have lXB1 := XB1_140.out.1
    have qXB10 := XB1_140.out.2 0 _ rfl
    have qXB11 := XB1_140.out.2 1 _ rfl
    have qXB12 := XB1_140.out.2 2 _ rfl
    have lA1 := A1_135.out.1
    have qA10 := A1_135.out.2 0 _ rfl
    have qA11 := A1_135.out.2 1 _ rfl
    have qA12 := A1_135.out.2 2 _ rfl
    try simp only [World.size_alloc] at lXB1 lA1
    go_wp2_with fail
    go_region_held3 (fun w' => Ext w_133 w' ∧ (∀ b o, b < w_133.heap.size → w'.cell? ⟨b, o, none⟩ = w_133.cell? ⟨b, o, none⟩)) (first | (with_reducible exact ext2 (Ext.trans (And.left ‹Ext w_133 _ ∧ _›) ‹Ext _ _›)) | (refine ext2 ?_; with_reducible repeat (first | exact Ext.refl _ | refine Ext.drew ?_))) (first
      | (go_at_call 17; refine (toAlgebra_law _ _ _ _ _ xs1 _ (HR1.out.ext (E_143.out.trans (And.left ‹Ext w_133 _ ∧ _›))) hn1).mono ?_; rintro e w_145 ⟨b_145, rfl, o_145, h_145⟩)
      | (go_at_call 19; refine (eqAlgebra_law _ _ _ _ _ _ _ xs1 _ (Own.reads (Own.ext X1_139.out (And.left ‹Ext w_133 _ ∧ _›))) (Own.reads o_145) hn1).mono ?_; rintro e w_146 ⟨rfl, h_146⟩))
    clear lXB1 qXB10 qXB11 qXB12 lA1 qA10 qA11 qA12
    have hx_146 := And.left ‹Ext w_133 w_146 ∧ _›
    try clear h_145 h_146 o_145
    have A0_147 := Lib.hid (A0_134.out.ext hx_146)
    clear A0_134
    have A1_148 := Lib.hid (A1_135.out.ext hx_146)
    clear A1_135
    have A2_149 := Lib.hid (A2_136.out.ext hx_146)
    clear A2_136
    have X0_150 := Lib.hid (X0_137.out.ext hx_146)
    clear X0_137
    have XB0_151 := Lib.hid (XB0_138.out.ext hx_146)
    clear XB0_138
    have X1_152 := Lib.hid (X1_139.out.ext hx_146)
    clear X1_139
    have XB1_153 := Lib.hid (XB1_140.out.ext hx_146)
    clear XB1_140
    have X2_154 := Lib.hid (X2_141.out.ext hx_146)
    clear X2_141
    have XB2_155 := Lib.hid (XB2_142.out.ext hx_146)
    clear XB2_142
    have E_156 := Lib.hid (E_143.out.trans hx_146)
    clear E_143
    have z_157 := Ext.le hx_146
    try simp only [World.size_alloc] at z_157
    have Z_157 := Lib.hid z_157
    clear z_157
    clear hx_146
    have lXB2 := XB2_155.out.1
    have qXB20 := XB2_155.out.2 0 _ rfl
    have qXB21 := XB2_155.out.2 1 _ rfl
    have qXB22 := XB2_155.out.2 2 _ rfl
    have qXB23 := XB2_155.out.2 3 _ rfl
    have lA2 := A2_149.out.1
    have qA20 := A2_149.out.2 0 _ rfl
    have qA21 := A2_149.out.2 1 _ rfl
    have qA22 := A2_149.out.2 2 _ rfl
    have qA23 := A2_149.out.2 3 _ rfl
    try simp only [World.size_alloc] at lXB2 lA2
    go_wp2_with fail
    go_region_held3 (fun w' => Ext w_146 w' ∧ (∀ b o, b < w_146.heap.size → w'.cell? ⟨b, o, none⟩ = w_146.cell? ⟨b, o, none⟩)) (first | (with_reducible exact ext2 (Ext.trans (And.left ‹Ext w_146 _ ∧ _›) ‹Ext _ _›)) | (refine ext2 ?_; with_reducible repeat (first | exact Ext.refl _ | refine Ext.drew ?_))) (first
      | (go_at_call 24; refine (toMatrix_law _ _ _ _ _ _ xs2 _ (HR2.out.ext (E_156.out.trans (And.left ‹Ext w_146 _ ∧ _›))) hn2).mono ?_; rintro e w_158 ⟨b_158, rfl, o_158, h_158⟩)
      | (go_at_call 26; refine (eqMatrix_law _ _ _ _ _ _ _ _ xs2 _ (Own.reads (Own.ext X2_154.out (And.left ‹Ext w_146 _ ∧ _›))) (Own.reads o_158) hn2).mono ?_; rintro e w_159 ⟨rfl, h_159⟩))
    clear lXB2 qXB20 qXB21 qXB22 qXB23 lA2 qA20 qA21 qA22 qA23
    have hx_159 := And.left ‹Ext w_146 w_159 ∧ _›
    try clear h_158 h_159 o_158
    have A0_160 := Lib.hid (A0_147.out.ext hx_159)
    clear A0_147
    have A1_161 := Lib.hid (A1_148.out.ext hx_159)
    clear A1_148
    have A2_162 := Lib.hid (A2_149.out.ext hx_159)
    clear A2_149
    have X0_163 := Lib.hid (X0_150.out.ext hx_159)
    clear X0_150
    have XB0_164 := Lib.hid (XB0_151.out.ext hx_159)
    clear XB0_151
    have X1_165 := Lib.hid (X1_152.out.ext hx_159)
    clear X1_152
    have XB1_166 := Lib.hid (XB1_153.out.ext hx_159)
    clear XB1_153
    have X2_167 := Lib.hid (X2_154.out.ext hx_159)
    clear X2_154
    have XB2_168 := Lib.hid (XB2_155.out.ext hx_159)
    clear XB2_155
    have E_169 := Lib.hid (E_156.out.trans hx_159)
    clear E_156
    have z_170 := Ext.le hx_159
    try simp only [World.size_alloc] at z_170
    have Z_170 := Lib.hid z_170
    clear z_170
    clear hx_159
    go_wp2
    go_ret
    exact ⟨rfl, E_169.out⟩

set_option maxRecDepth 100000 in
theorem lifted (os : Os) (started : os.Started) (H : Type) (enc : TypeId × Value → H) :
    ReturnsInHanded {} Try.checked os 13 .any (Rows.fnExactIsHomomorphismSpec.pre6 enc Try.prog Try.f13 Rows.fnExactIsHomomorphismRow.domain false) (Rows.fnExactIsHomomorphismSpec.post enc Try.prog Try.f13 false true false false) := by
  refine returnsInHanded_of_change (C := Try.checked) own started (by kernel_rfl) Try.func13
    (ChangeSpec.witness6 (enc := enc) (C := Try.checked) false ⟨#[], #[.agg #[.int .i64 0, .int .i64 0, .slice none 0 0], .agg #[.int .i64 0, .int .i64 0, .slice none 0 0], .agg #[.int .i64 0, .int .i64 0, .int .i64 0, .slice none 0 0]], []⟩ 8 (by kernel_rfl) (by kernel_rfl) (by kernel_rfl) (by kernel_rfl)) ?_
  intro W base args ds gs before hval0 hW hcnd _
  have hval : ∀ (j : Nat) t v, Try.f13.params[j]? = some t → args[j]? = some v → Value.okWide Try.prog W .any base t v := hval0
  have hW' := hW
  obtain ⟨p, q, hA0, hV, rfl, hfz, hnd⟩ := hW
  have hA : DataW.TrodAll enc Try.prog W 0 (fun _ => true) true Try.f13.params.toList args.toList ds p := hA0
  rw [Try.params13] at hA hval
  obtain ⟨v0, vs0, d0, ds0, p0, q0, hargs, rfl, rfl, h0, r0⟩ := trodAll_cons hA
  obtain ⟨v1, vs1, d1, ds1, p1, q1, rfl, rfl, rfl, h1, r1⟩ := trodAll_cons r0
  obtain ⟨v2, vs2, d2, ds2, p2, q2, rfl, rfl, rfl, h2, r2⟩ := trodAll_cons r1
  obtain ⟨rfl, rfl, rfl⟩ := trodAll_nil r2
  obtain rfl : args = #[v0, v1, v2] := by cases args; simp_all
  obtain ⟨rfl, rfl⟩ := trodVars_none hV
  have k0 := h0
  have lt0 : ∀ x ∈ p0, x.block < W.heap.size := by obtain ⟨m, hm⟩ := k0; exact DataW.trod_lt m _ _ _ hm
  obtain ⟨P0, D0, a0, n0, c0, xs0, rfl, w0⟩ := open_alg (hval 0 _ v0 rfl rfl) h0
  have k1 := h1
  have lt1 : ∀ x ∈ p1, x.block < W.heap.size := by obtain ⟨m, hm⟩ := k1; exact DataW.trod_lt m _ _ _ hm
  obtain ⟨P1, D1, a1, n1, c1, xs1, rfl, w1⟩ := open_alg (hval 1 _ v1 rfl rfl) h1
  have k2 := h2
  have lt2 : ∀ x ∈ p2, x.block < W.heap.size := by obtain ⟨m, hm⟩ := k2; exact DataW.trod_lt m _ _ _ hm
  obtain ⟨P2, R2, C2, a2, n2, c2, xs2, rfl, w2⟩ := open_mat (hval 2 _ v2 rfl rfl) h2
  clear hA0 hval0
  refine (walk P0 D0 a0 n0 c0 xs0 P1 D1 a1 n1 c1 xs1 P2 R2 C2 a2 n2 c2 xs2 W w0 w1 w2).mono fun e W' ⟨he, bel⟩ => ?_
  subst he
  exact ⟨_, rfl, _, _, _, [], _, [], hW', trodAll_mk1 (shut_bool Try.underlying4 _), (trodAll_cons_mk (Below.trod laidOut (by kernel_rfl) (of_decide_eq_true (by kernel_rfl)) k0 bel lt0) (trodAll_cons_mk (Below.trod laidOut (by kernel_rfl) (of_decide_eq_true (by kernel_rfl)) k1 bel lt1) (trodAll_cons_mk (Below.trod laidOut (by kernel_rfl) (of_decide_eq_true (by kernel_rfl)) k2 bel lt2) trodAll_mk0))), rfl, Below.frame bel _, fun h => by cases h⟩

theorem over : Rows.fnExactIsHomomorphismRow.holds Try.pinned (OpenSpec.ofChange Rows.fnExactIsHomomorphismSpec) :=
  OpenClaim.holds_of_wide 13 Try.f13 rfl rfl rfl rfl rfl rfl rfl ⟨rfl, rfl, rfl, rfl, rfl⟩ rfl rfl rfl rfl rfl (by kernel_rfl) Try.func13 (by kernel_rfl)
    (of_decide_eq_true (by kernel_rfl)) (by unfold Func.isWrapper; first | (rw [if_pos (by decide +kernel)]; kernel_rfl) | (rw [if_neg (by decide +kernel)]; exact ⟨rfl, rfl⟩))
    (fun os started H enc _ => lifted os started H enc)

/-- The statement. -/
theorem proved : Rows.FnExactIsHomomorphismSaid := over
#print axioms proved
end Go.Proofs.Ytgmipolgnpjmnaa.fnExactIsHomomorphism
