/-
  Proved: the statement given for the law FnExactOrthogonalOf: at every input the Go text returns true, with no panic, and the arguments read as they read before. No condition is added.
-/
import Derived.Test.YtgmipolgnpjmnaaFr
import Derived.Test.YtgmipolgnpjmnaaOrth
namespace Go.Proofs.Ytgmipolgnpjmnaa.fnExactOrthogonalOf
open Go.ChangeShapes Go.WideShapes Go.ChangeAt Go.RowKit
open Go.ChangeMaps (open_string shut_string)
set_option linter.unusedVariables false

set_option maxRecDepth 100000 in
set_option maxHeartbeats 3200000 in
/-- The walk: the Go text returns true, and nothing that was there has changed. -/
theorem walk (P0 D0 : Int) (a0 : Option Addr) (n0 c0 : Nat) (xs0 : List Int) (P1 R1 C1 : Int) (a1 : Option Addr) (n1 c1 : Nat) (xs1 : List Int) (P2 R2 C2 : Int) (a2 : Option Addr) (n2 c2 : Nat) (xs2 : List Int) (w : World) (w0 : Reads w a0 n0 xs0 ∧ n0 ≤ maxLen) (w1 : Reads w a1 n1 xs1 ∧ n1 ≤ maxLen) (w2 : Reads w a2 n2 xs2 ∧ n2 ≤ maxLen) :
    Calls Try.prog 6 #[.agg #[.int .i64 P0, .int .i64 D0, .slice a0 n0 c0], .agg #[.int .i64 P1, .int .i64 R1, .int .i64 C1, .slice a1 n1 c1], .agg #[.int .i64 P2, .int .i64 R2, .int .i64 C2, .slice a2 n2 c2]] w fun e w' => e = .returned (.bool true) ∧ Ext w w' := by
  obtain ⟨hr0, hm0⟩ := w0
  have HR0 := Lib.hid hr0
  clear hr0
  obtain ⟨hr1, hm1⟩ := w1
  have HR1 := Lib.hid hr1
  clear hr1
  obtain ⟨hr2, hm2⟩ := w2
  have HR2 := Lib.hid hr2
  clear hr2
  rcases hM0 : orthM P0 D0 xs0 P1 R1 C1 xs1 P2 R2 C2 xs2 with ⟨⟨pP0, pR0, pC0, d0⟩, i1⟩
  have hM := Lib.hid hM0
  clear hM0
  by_cases hz0 : (n0 : Int) ≤ 1048576
  case neg =>
    go_enter Try.func6, Try.ntmps6
    have T0 := cells_new' w #[.int .i64 P0, .int .i64 D0, .slice a0 n0 c0] 24 (w.heap.size) (by simp)
    have T1 := cells_new' (w.alloc (.cells #[.int .i64 P0, .int .i64 D0, .slice a0 n0 c0] 24)) #[.int .i64 P1, .int .i64 R1, .int .i64 C1, .slice a1 n1 c1] 34 (w.heap.size + 1) (by simp)
    have T2 := cells_new' ((w.alloc (.cells #[.int .i64 P0, .int .i64 D0, .slice a0 n0 c0] 24)).alloc (.cells #[.int .i64 P1, .int .i64 R1, .int .i64 C1, .slice a1 n1 c1] 34)) #[.int .i64 P2, .int .i64 R2, .int .i64 C2, .slice a2 n2 c2] 34 (w.heap.size + 1 + 1) (by simp)
    have A0_1 := Lib.hid (T0.ext (((Ext.refl _).alloc (.cells #[.int .i64 P1, .int .i64 R1, .int .i64 C1, .slice a1 n1 c1] 34)).alloc (.cells #[.int .i64 P2, .int .i64 R2, .int .i64 C2, .slice a2 n2 c2] 34)))
    clear T0
    have A1_2 := Lib.hid (T1.ext ((Ext.refl _).alloc (.cells #[.int .i64 P2, .int .i64 R2, .int .i64 C2, .slice a2 n2 c2] 34)))
    clear T1
    have A2_3 := Lib.hid (T2.ext (Ext.refl _))
    clear T2
    have E_4 := Lib.hid ((((Ext.refl w).alloc (.cells #[.int .i64 P0, .int .i64 D0, .slice a0 n0 c0] 24)).alloc (.cells #[.int .i64 P1, .int .i64 R1, .int .i64 C1, .slice a1 n1 c1] 34)).alloc (.cells #[.int .i64 P2, .int .i64 R2, .int .i64 C2, .slice a2 n2 c2] 34))
    have lA0 := A0_1.out.1
    have qA00 := A0_1.out.2 0 _ rfl
    have qA01 := A0_1.out.2 1 _ rfl
    have qA02 := A0_1.out.2 2 _ rfl
    try simp only [World.size_alloc] at lA0
    go_wp2_with fail
    refine (szAlgebra_no _ _ _ _ _ _ _ (by omega) (by omega) hm0 (by omega)).mono ?_
    rintro e w_5 ⟨rfl, h_5⟩
    clear lA0 qA00 qA01 qA02
    go_wp2
    go_ret
    exact ⟨rfl, E_4.out.trans h_5⟩
  by_cases hz1 : (n0 : Int) + (n1 : Int) ≤ 1048576
  case neg =>
    go_enter Try.func6, Try.ntmps6
    have T0 := cells_new' w #[.int .i64 P0, .int .i64 D0, .slice a0 n0 c0] 24 (w.heap.size) (by simp)
    have T1 := cells_new' (w.alloc (.cells #[.int .i64 P0, .int .i64 D0, .slice a0 n0 c0] 24)) #[.int .i64 P1, .int .i64 R1, .int .i64 C1, .slice a1 n1 c1] 34 (w.heap.size + 1) (by simp)
    have T2 := cells_new' ((w.alloc (.cells #[.int .i64 P0, .int .i64 D0, .slice a0 n0 c0] 24)).alloc (.cells #[.int .i64 P1, .int .i64 R1, .int .i64 C1, .slice a1 n1 c1] 34)) #[.int .i64 P2, .int .i64 R2, .int .i64 C2, .slice a2 n2 c2] 34 (w.heap.size + 1 + 1) (by simp)
    have A0_6 := Lib.hid (T0.ext (((Ext.refl _).alloc (.cells #[.int .i64 P1, .int .i64 R1, .int .i64 C1, .slice a1 n1 c1] 34)).alloc (.cells #[.int .i64 P2, .int .i64 R2, .int .i64 C2, .slice a2 n2 c2] 34)))
    clear T0
    have A1_7 := Lib.hid (T1.ext ((Ext.refl _).alloc (.cells #[.int .i64 P2, .int .i64 R2, .int .i64 C2, .slice a2 n2 c2] 34)))
    clear T1
    have A2_8 := Lib.hid (T2.ext (Ext.refl _))
    clear T2
    have E_9 := Lib.hid ((((Ext.refl w).alloc (.cells #[.int .i64 P0, .int .i64 D0, .slice a0 n0 c0] 24)).alloc (.cells #[.int .i64 P1, .int .i64 R1, .int .i64 C1, .slice a1 n1 c1] 34)).alloc (.cells #[.int .i64 P2, .int .i64 R2, .int .i64 C2, .slice a2 n2 c2] 34))
    have lA0 := A0_6.out.1
    have qA00 := A0_6.out.2 0 _ rfl
    have qA01 := A0_6.out.2 1 _ rfl
    have qA02 := A0_6.out.2 2 _ rfl
    try simp only [World.size_alloc] at lA0
    go_wp2_with fail
    refine (szAlgebra_yes _ _ _ _ _ _ _ (by omega) (by omega)).mono ?_
    rintro e w_10 ⟨rfl, h_10⟩
    clear lA0 qA00 qA01 qA02
    have A0_11 := Lib.hid (A0_6.out.ext h_10)
    clear A0_6
    have A1_12 := Lib.hid (A1_7.out.ext h_10)
    clear A1_7
    have A2_13 := Lib.hid (A2_8.out.ext h_10)
    clear A2_8
    have E_14 := Lib.hid (E_9.out.trans h_10)
    clear E_9
    have z_15 := Ext.le h_10
    try simp only [World.size_alloc] at z_15
    have Z_15 := Lib.hid z_15
    clear z_15
    clear h_10
    have hp1 : 0 ≤ 1048576 - (n0 : Int) := by omega
    have lA1 := A1_12.out.1
    have qA10 := A1_12.out.2 0 _ rfl
    have qA11 := A1_12.out.2 1 _ rfl
    have qA12 := A1_12.out.2 2 _ rfl
    have qA13 := A1_12.out.2 3 _ rfl
    try simp only [World.size_alloc] at lA1
    go_wp2_with fail
    refine (szMatrix_no _ _ _ _ _ _ _ _ (by omega) (by omega) hm1 (by omega)).mono ?_
    rintro e w_16 ⟨rfl, h_16⟩
    clear lA1 qA10 qA11 qA12 qA13
    go_wp2
    go_ret
    exact ⟨rfl, E_14.out.trans h_16⟩
  by_cases hz2 : (n0 : Int) + (n1 : Int) + (n2 : Int) ≤ 1048576
  case neg =>
    go_enter Try.func6, Try.ntmps6
    have T0 := cells_new' w #[.int .i64 P0, .int .i64 D0, .slice a0 n0 c0] 24 (w.heap.size) (by simp)
    have T1 := cells_new' (w.alloc (.cells #[.int .i64 P0, .int .i64 D0, .slice a0 n0 c0] 24)) #[.int .i64 P1, .int .i64 R1, .int .i64 C1, .slice a1 n1 c1] 34 (w.heap.size + 1) (by simp)
    have T2 := cells_new' ((w.alloc (.cells #[.int .i64 P0, .int .i64 D0, .slice a0 n0 c0] 24)).alloc (.cells #[.int .i64 P1, .int .i64 R1, .int .i64 C1, .slice a1 n1 c1] 34)) #[.int .i64 P2, .int .i64 R2, .int .i64 C2, .slice a2 n2 c2] 34 (w.heap.size + 1 + 1) (by simp)
    have A0_17 := Lib.hid (T0.ext (((Ext.refl _).alloc (.cells #[.int .i64 P1, .int .i64 R1, .int .i64 C1, .slice a1 n1 c1] 34)).alloc (.cells #[.int .i64 P2, .int .i64 R2, .int .i64 C2, .slice a2 n2 c2] 34)))
    clear T0
    have A1_18 := Lib.hid (T1.ext ((Ext.refl _).alloc (.cells #[.int .i64 P2, .int .i64 R2, .int .i64 C2, .slice a2 n2 c2] 34)))
    clear T1
    have A2_19 := Lib.hid (T2.ext (Ext.refl _))
    clear T2
    have E_20 := Lib.hid ((((Ext.refl w).alloc (.cells #[.int .i64 P0, .int .i64 D0, .slice a0 n0 c0] 24)).alloc (.cells #[.int .i64 P1, .int .i64 R1, .int .i64 C1, .slice a1 n1 c1] 34)).alloc (.cells #[.int .i64 P2, .int .i64 R2, .int .i64 C2, .slice a2 n2 c2] 34))
    have lA0 := A0_17.out.1
    have qA00 := A0_17.out.2 0 _ rfl
    have qA01 := A0_17.out.2 1 _ rfl
    have qA02 := A0_17.out.2 2 _ rfl
    try simp only [World.size_alloc] at lA0
    go_wp2_with fail
    refine (szAlgebra_yes _ _ _ _ _ _ _ (by omega) (by omega)).mono ?_
    rintro e w_21 ⟨rfl, h_21⟩
    clear lA0 qA00 qA01 qA02
    have A0_22 := Lib.hid (A0_17.out.ext h_21)
    clear A0_17
    have A1_23 := Lib.hid (A1_18.out.ext h_21)
    clear A1_18
    have A2_24 := Lib.hid (A2_19.out.ext h_21)
    clear A2_19
    have E_25 := Lib.hid (E_20.out.trans h_21)
    clear E_20
    have z_26 := Ext.le h_21
    try simp only [World.size_alloc] at z_26
    have Z_26 := Lib.hid z_26
    clear z_26
    clear h_21
    have hp1 : 0 ≤ 1048576 - (n0 : Int) := by omega
    have lA1 := A1_23.out.1
    have qA10 := A1_23.out.2 0 _ rfl
    have qA11 := A1_23.out.2 1 _ rfl
    have qA12 := A1_23.out.2 2 _ rfl
    have qA13 := A1_23.out.2 3 _ rfl
    try simp only [World.size_alloc] at lA1
    go_wp2_with fail
    refine (szMatrix_yes _ _ _ _ _ _ _ _ (by omega) (by omega)).mono ?_
    rintro e w_27 ⟨rfl, h_27⟩
    clear lA1 qA10 qA11 qA12 qA13
    have A0_28 := Lib.hid (A0_22.out.ext h_27)
    clear A0_22
    have A1_29 := Lib.hid (A1_23.out.ext h_27)
    clear A1_23
    have A2_30 := Lib.hid (A2_24.out.ext h_27)
    clear A2_24
    have E_31 := Lib.hid (E_25.out.trans h_27)
    clear E_25
    have z_32 := Ext.le h_27
    try simp only [World.size_alloc] at z_32
    have Z_32 := Lib.hid z_32
    clear z_32
    clear h_27
    have hp2 : 0 ≤ 1048576 - (n0 : Int) - (n1 : Int) := by omega
    have lA2 := A2_30.out.1
    have qA20 := A2_30.out.2 0 _ rfl
    have qA21 := A2_30.out.2 1 _ rfl
    have qA22 := A2_30.out.2 2 _ rfl
    have qA23 := A2_30.out.2 3 _ rfl
    try simp only [World.size_alloc] at lA2
    go_wp2_with fail
    refine (szMatrix_no _ _ _ _ _ _ _ _ (by omega) (by omega) hm2 (by omega)).mono ?_
    rintro e w_33 ⟨rfl, h_33⟩
    clear lA2 qA20 qA21 qA22 qA23
    go_wp2
    go_ret
    exact ⟨rfl, E_31.out.trans h_33⟩
  have hn0 : n0 ≤ 1048576 := by omega
  have hn1 : n1 ≤ 1048576 := by omega
  have hn2 : n2 ≤ 1048576 := by omega
  go_enter Try.func6, Try.ntmps6
  have T0 := cells_new' w #[.int .i64 P0, .int .i64 D0, .slice a0 n0 c0] 24 (w.heap.size) (by simp)
  have T1 := cells_new' (w.alloc (.cells #[.int .i64 P0, .int .i64 D0, .slice a0 n0 c0] 24)) #[.int .i64 P1, .int .i64 R1, .int .i64 C1, .slice a1 n1 c1] 34 (w.heap.size + 1) (by simp)
  have T2 := cells_new' ((w.alloc (.cells #[.int .i64 P0, .int .i64 D0, .slice a0 n0 c0] 24)).alloc (.cells #[.int .i64 P1, .int .i64 R1, .int .i64 C1, .slice a1 n1 c1] 34)) #[.int .i64 P2, .int .i64 R2, .int .i64 C2, .slice a2 n2 c2] 34 (w.heap.size + 1 + 1) (by simp)
  have A0_34 := Lib.hid (T0.ext (((Ext.refl _).alloc (.cells #[.int .i64 P1, .int .i64 R1, .int .i64 C1, .slice a1 n1 c1] 34)).alloc (.cells #[.int .i64 P2, .int .i64 R2, .int .i64 C2, .slice a2 n2 c2] 34)))
  clear T0
  have A1_35 := Lib.hid (T1.ext ((Ext.refl _).alloc (.cells #[.int .i64 P2, .int .i64 R2, .int .i64 C2, .slice a2 n2 c2] 34)))
  clear T1
  have A2_36 := Lib.hid (T2.ext (Ext.refl _))
  clear T2
  have E_37 := Lib.hid ((((Ext.refl w).alloc (.cells #[.int .i64 P0, .int .i64 D0, .slice a0 n0 c0] 24)).alloc (.cells #[.int .i64 P1, .int .i64 R1, .int .i64 C1, .slice a1 n1 c1] 34)).alloc (.cells #[.int .i64 P2, .int .i64 R2, .int .i64 C2, .slice a2 n2 c2] 34))
  have lA0 := A0_34.out.1
  have qA00 := A0_34.out.2 0 _ rfl
  have qA01 := A0_34.out.2 1 _ rfl
  have qA02 := A0_34.out.2 2 _ rfl
  try simp only [World.size_alloc] at lA0
  go_wp2_with fail
  refine (szAlgebra_yes _ _ _ _ _ _ _ (by omega) (by omega)).mono ?_
  rintro e w_38 ⟨rfl, h_38⟩
  clear lA0 qA00 qA01 qA02
  have A0_39 := Lib.hid (A0_34.out.ext h_38)
  clear A0_34
  have A1_40 := Lib.hid (A1_35.out.ext h_38)
  clear A1_35
  have A2_41 := Lib.hid (A2_36.out.ext h_38)
  clear A2_36
  have E_42 := Lib.hid (E_37.out.trans h_38)
  clear E_37
  have z_43 := Ext.le h_38
  try simp only [World.size_alloc] at z_43
  have Z_43 := Lib.hid z_43
  clear z_43
  clear h_38
  have hp1 : 0 ≤ 1048576 - (n0 : Int) := by omega
  have lA1 := A1_40.out.1
  have qA10 := A1_40.out.2 0 _ rfl
  have qA11 := A1_40.out.2 1 _ rfl
  have qA12 := A1_40.out.2 2 _ rfl
  have qA13 := A1_40.out.2 3 _ rfl
  try simp only [World.size_alloc] at lA1
  go_wp2_with fail
  refine (szMatrix_yes _ _ _ _ _ _ _ _ (by omega) (by omega)).mono ?_
  rintro e w_44 ⟨rfl, h_44⟩
  clear lA1 qA10 qA11 qA12 qA13
  have A0_45 := Lib.hid (A0_39.out.ext h_44)
  clear A0_39
  have A1_46 := Lib.hid (A1_40.out.ext h_44)
  clear A1_40
  have A2_47 := Lib.hid (A2_41.out.ext h_44)
  clear A2_41
  have E_48 := Lib.hid (E_42.out.trans h_44)
  clear E_42
  have z_49 := Ext.le h_44
  try simp only [World.size_alloc] at z_49
  have Z_49 := Lib.hid z_49
  clear z_49
  clear h_44
  have hp2 : 0 ≤ 1048576 - (n0 : Int) - (n1 : Int) := by omega
  have lA2 := A2_47.out.1
  have qA20 := A2_47.out.2 0 _ rfl
  have qA21 := A2_47.out.2 1 _ rfl
  have qA22 := A2_47.out.2 2 _ rfl
  have qA23 := A2_47.out.2 3 _ rfl
  try simp only [World.size_alloc] at lA2
  go_wp2_with fail
  refine (szMatrix_yes _ _ _ _ _ _ _ _ (by omega) (by omega)).mono ?_
  rintro e w_50 ⟨rfl, h_50⟩
  clear lA2 qA20 qA21 qA22 qA23
  have A0_51 := Lib.hid (A0_45.out.ext h_50)
  clear A0_45
  have A1_52 := Lib.hid (A1_46.out.ext h_50)
  clear A1_46
  have A2_53 := Lib.hid (A2_47.out.ext h_50)
  clear A2_47
  have E_54 := Lib.hid (E_48.out.trans h_50)
  clear E_48
  have z_55 := Ext.le h_50
  try simp only [World.size_alloc] at z_55
  have Z_55 := Lib.hid z_55
  clear z_55
  clear h_50
  have hp : 0 ≤ 1048576 - (n0 : Int) - (n1 : Int) - (n2 : Int) := by omega
  have lA0 := A0_51.out.1
  have qA00 := A0_51.out.2 0 _ rfl
  have qA01 := A0_51.out.2 1 _ rfl
  have qA02 := A0_51.out.2 2 _ rfl
  have lA1 := A1_52.out.1
  have qA10 := A1_52.out.2 0 _ rfl
  have qA11 := A1_52.out.2 1 _ rfl
  have qA12 := A1_52.out.2 2 _ rfl
  have qA13 := A1_52.out.2 3 _ rfl
  have lA2 := A2_53.out.1
  have qA20 := A2_53.out.2 0 _ rfl
  have qA21 := A2_53.out.2 1 _ rfl
  have qA22 := A2_53.out.2 2 _ rfl
  have qA23 := A2_53.out.2 3 _ rfl
  try simp only [World.size_alloc] at lA0 lA1 lA2
  go_upto_region 11 with fail
  go_cut [8, 9] (fun s0 s1 wx => ∃ B0 sa0 sn0 sc0, s0 = .pointer (some ⟨B0, 0, none⟩) ∧ s1 = .bool i1 ∧ Hid (Cells wx B0 [.int .i64 pP0, .int .i64 pR0, .int .i64 pC0, .slice sa0 sn0 sc0]) ∧ Hid (Own wx 0 wx.heap.size sa0 sn0 d0) ∧ sn0 ≤ 1048576 ∧ Hid (Ext w_50 wx))
  case first =>
    go_region_held3 (fun w' => Ext w_50 w' ∧ (∀ b o, b < w_50.heap.size → w'.cell? ⟨b, o, none⟩ = w_50.cell? ⟨b, o, none⟩)) (first | (with_reducible exact ext2 (Ext.trans (And.left ‹Ext w_50 _ ∧ _›) ‹Ext _ _›)) | (refine ext2 ?_; with_reducible repeat (first | exact Ext.refl _ | exact And.left ‹Ext w_50 _ ∧ _› | exact (((((Ext.refl _).drew).trans h_56).trans h_57).trans h_58).trans h_59 | refine Ext.drew ?_ | refine Ext.alloc ?_ _ | refine Ext.setCell ?_ (by have e0 : w_50.drew.heap.size = w_50.heap.size := rfl; simp <;> omega) _))) (first
      | (go_at_call_of 17 (Value.slice a0 n0 c0); refine (toAlgebra_law _ _ _ _ _ xs0 _ (HR0.out.ext (E_54.out.trans (And.left ‹Ext w_50 _ ∧ _›))) hn0).mono ?_; rintro e w_56 ⟨b_56, rfl, o_56, h_56⟩; have c_56 := h_56.cells; have f_56 := h_56.frees; have y_56 := h_56.le; have x_56 := fun k hk => Nat.lt_of_lt_of_le (n := k) hk h_56.le; (try simp only [World.size_drew] at y_56 x_56); (try simp only [World.size_alloc] at y_56 x_56); (try simp only [Nat.add_one_le_iff] at y_56); (try have z_56_0 : w_50.heap.size < w_56.heap.size := by omega); (try have z_56_2 : w_57.heap.size < w_56.heap.size := by omega); (try have z_56_3 : w_58.heap.size < w_56.heap.size := by omega); (try have z_56_4 : w_59.heap.size < w_56.heap.size := by omega))
      | (go_at_call_of 24 (Value.slice a1 n1 c1); refine (toMatrix_law _ _ _ _ _ _ xs1 _ (HR1.out.ext (E_54.out.trans (And.left ‹Ext w_50 _ ∧ _›))) hn1).mono ?_; rintro e w_57 ⟨b_57, rfl, o_57, h_57⟩; have c_57 := h_57.cells; have f_57 := h_57.frees; have y_57 := h_57.le; have x_57 := fun k hk => Nat.lt_of_lt_of_le (n := k) hk h_57.le; (try simp only [World.size_drew] at y_57 x_57); (try simp only [World.size_alloc] at y_57 x_57); (try simp only [Nat.add_one_le_iff] at y_57); (try have z_57_0 : w_50.heap.size < w_57.heap.size := by omega); (try have z_57_1 : w_56.heap.size < w_57.heap.size := by omega); (try have z_57_3 : w_58.heap.size < w_57.heap.size := by omega); (try have z_57_4 : w_59.heap.size < w_57.heap.size := by omega))
      | (go_at_call_of 24 (Value.slice a2 n2 c2); refine (toMatrix_law _ _ _ _ _ _ xs2 _ (HR2.out.ext (E_54.out.trans (And.left ‹Ext w_50 _ ∧ _›))) hn2).mono ?_; rintro e w_58 ⟨b_58, rfl, o_58, h_58⟩; have c_58 := h_58.cells; have f_58 := h_58.frees; have y_58 := h_58.le; have x_58 := fun k hk => Nat.lt_of_lt_of_le (n := k) hk h_58.le; (try simp only [World.size_drew] at y_58 x_58); (try simp only [World.size_alloc] at y_58 x_58); (try simp only [Nat.add_one_le_iff] at y_58); (try have z_58_0 : w_50.heap.size < w_58.heap.size := by omega); (try have z_58_1 : w_56.heap.size < w_58.heap.size := by omega); (try have z_58_2 : w_57.heap.size < w_58.heap.size := by omega); (try have z_58_4 : w_59.heap.size < w_58.heap.size := by omega))
      | (go_at_call 31; refine (orthogonalOf_spec (Own.reads (Own.ext o_56 (by with_reducible first | exact (((Ext.refl _).trans h_57).trans h_58) | exact Ext.alloc (((Ext.refl _).trans h_57).trans h_58) _ | exact (((Ext.alloc (Ext.refl _) _).trans h_57).trans h_58) | exact ((Ext.alloc ((Ext.refl _).trans h_57) _).trans h_58)))) hn0 (Own.reads (Own.ext o_57 (by with_reducible first | exact ((Ext.refl _).trans h_58) | exact Ext.alloc ((Ext.refl _).trans h_58) _ | exact ((Ext.alloc (Ext.refl _) _).trans h_58)))) hn1 (Own.reads (Own.ext o_58 (by with_reducible first | exact Ext.refl _ | exact Ext.alloc (Ext.refl _) _))) hn2 hM.out).mono ?_; rintro e w_59 ⟨v0, rfl, ⟨sa0, sn0, sc0, rfl, sO0, sm0⟩, h_59⟩; have c_59 := h_59.cells; have f_59 := h_59.frees; have y_59 := h_59.le; have x_59 := fun k hk => Nat.lt_of_lt_of_le (n := k) hk h_59.le; (try simp only [World.size_drew] at y_59 x_59); (try simp only [World.size_alloc] at y_59 x_59); (try simp only [Nat.add_one_le_iff] at y_59); (try have z_59_0 : w_50.heap.size < w_59.heap.size := by omega); (try have z_59_1 : w_56.heap.size < w_59.heap.size := by omega); (try have z_59_2 : w_57.heap.size < w_59.heap.size := by omega); (try have z_59_3 : w_58.heap.size < w_59.heap.size := by omega)))
    all_goals (go_wp2_with fail; go_meet; with_reducible first
      | exact ⟨w_59.heap.size, _, _, _, rfl, rfl, Lib.hid (cells_new w_59 #[.int .i64 pP0, .int .i64 pR0, .int .i64 pC0, .slice sa0 sn0 sc0] 36), Lib.hid (Own.any (Own.ext sO0 ((Ext.refl _).alloc _)) (by simp)), sm0, Lib.hid (And.left ‹Ext w_50 _ ∧ _›)⟩
      | exact ⟨w_58.heap.size, _, _, _, rfl, rfl, Lib.hid (early4 (lo := 0) ((cells_new w_58 _ _).ext h_59)), Lib.hid (Own.any (own4 sO0 (by have e0 : w_50.drew.heap.size = w_50.heap.size := rfl; simp <;> omega) _ _ _ _) (by simp)), sm0, Lib.hid (And.left ‹Ext w_50 _ ∧ _›)⟩
      | exact ⟨w_57.heap.size, _, _, _, rfl, rfl, Lib.hid (early4 (lo := 0) (((cells_new w_57 _ _).ext h_58).ext h_59)), Lib.hid (Own.any (own4 sO0 (by have e0 : w_50.drew.heap.size = w_50.heap.size := rfl; simp <;> omega) _ _ _ _) (by simp)), sm0, Lib.hid (And.left ‹Ext w_50 _ ∧ _›)⟩
      | exact ⟨w_56.heap.size, _, _, _, rfl, rfl, Lib.hid (early4 (lo := 0) ((((cells_new w_56 _ _).ext h_57).ext h_58).ext h_59)), Lib.hid (Own.any (own4 sO0 (by have e0 : w_50.drew.heap.size = w_50.heap.size := rfl; simp <;> omega) _ _ _ _) (by simp)), sm0, Lib.hid (And.left ‹Ext w_50 _ ∧ _›)⟩
      | exact ⟨w_50.heap.size, _, _, _, rfl, rfl, Lib.hid (early4 (lo := 0) ((((((cells_new w_50 _ _).ext (Ext.drew (Ext.refl _))).ext h_56).ext h_57).ext h_58).ext h_59)), Lib.hid (Own.any (own4 sO0 (by have e0 : w_50.drew.heap.size = w_50.heap.size := rfl; simp <;> omega) _ _ _ _) (by simp)), sm0, Lib.hid (And.left ‹Ext w_50 _ ∧ _›)⟩)
  case rest =>
    obtain ⟨B0, sa0, sn0, sc0, rfl, rfl, cB0, sO0, sm0, h_60⟩ := hcut
    have hx_60 := h_60.out
    clear h_60
    clear lA0 qA00 qA01 qA02 lA1 qA10 qA11 qA12 qA13 lA2 qA20 qA21 qA22 qA23
    obtain ⟨w_60, rfl⟩ : ∃ wq : World, wq = wc := ⟨_, rfl⟩
    have A0_61 := Lib.hid (A0_51.out.ext hx_60)
    clear A0_51
    have A1_62 := Lib.hid (A1_52.out.ext hx_60)
    clear A1_52
    have A2_63 := Lib.hid (A2_53.out.ext hx_60)
    clear A2_53
    have E_64 := Lib.hid (E_54.out.trans hx_60)
    clear E_54
    have z_65 := Ext.le hx_60
    try simp only [World.size_alloc] at z_65
    have Z_65 := Lib.hid z_65
    clear z_65
    clear hx_60
    have hsO0 := sO0.out
    clear sO0
    have S0_66 := Lib.hid (hsO0)
    clear hsO0
    have hcB0 := cB0.out
    clear cB0
    have ZcS0 := Lib.hid hcB0.1
    have SB0_67 := Lib.hid (hcB0)
    clear hcB0
    have lA0 := A0_61.out.1
    have qA00 := A0_61.out.2 0 _ rfl
    have qA01 := A0_61.out.2 1 _ rfl
    have qA02 := A0_61.out.2 2 _ rfl
    try simp only [World.size_alloc] at lA0
    go_wp2_with fail
    refine (toAlgebra_law _ _ _ _ _ xs0 _ (HR0.out.ext E_64.out) hn0).mono ?_
    rintro e w_68 ⟨b_68, rfl, o_68, h_68⟩
    clear lA0 qA00 qA01 qA02
    have A0_69 := Lib.hid (A0_61.out.ext h_68)
    clear A0_61
    have A1_70 := Lib.hid (A1_62.out.ext h_68)
    clear A1_62
    have A2_71 := Lib.hid (A2_63.out.ext h_68)
    clear A2_63
    have S0_72 := Lib.hid (S0_66.out.ext h_68)
    clear S0_66
    have SB0_73 := Lib.hid (SB0_67.out.ext h_68)
    clear SB0_67
    have E_74 := Lib.hid (E_64.out.trans h_68)
    clear E_64
    have z_75 := Ext.le h_68
    try simp only [World.size_alloc] at z_75
    have Z_75 := Lib.hid z_75
    clear z_75
    try simp only [World.size_alloc] at o_68
    have X0_76 := Lib.hid (o_68)
    clear o_68 h_68
    have P_77 := (Ext.refl w_68).alloc (.cells #[.int .i64 P0, .int .i64 D0, .slice (some ⟨b_68, 0, none⟩) n0 n0] 26)
    have A0_78 := Lib.hid (A0_69.out.ext P_77)
    clear A0_69
    have A1_79 := Lib.hid (A1_70.out.ext P_77)
    clear A1_70
    have A2_80 := Lib.hid (A2_71.out.ext P_77)
    clear A2_71
    have S0_81 := Lib.hid (S0_72.out.ext P_77)
    clear S0_72
    have SB0_82 := Lib.hid (SB0_73.out.ext P_77)
    clear SB0_73
    have X0_83 := Lib.hid (X0_76.out.ext P_77)
    clear X0_76
    have E_84 := Lib.hid (E_74.out.trans P_77)
    clear E_74
    clear P_77
    have XB0_85 := Lib.hid (cells_new w_68 #[.int .i64 P0, .int .i64 D0, .slice (some ⟨b_68, 0, none⟩) n0 n0] 26)
    have lA1 := A1_79.out.1
    have qA10 := A1_79.out.2 0 _ rfl
    have qA11 := A1_79.out.2 1 _ rfl
    have qA12 := A1_79.out.2 2 _ rfl
    have qA13 := A1_79.out.2 3 _ rfl
    try simp only [World.size_alloc] at lA1
    go_wp2_with fail
    refine (toMatrix_law _ _ _ _ _ _ xs1 _ (HR1.out.ext E_84.out) hn1).mono ?_
    rintro e w_86 ⟨b_86, rfl, o_86, h_86⟩
    clear lA1 qA10 qA11 qA12 qA13
    have A0_87 := Lib.hid (A0_78.out.ext h_86)
    clear A0_78
    have A1_88 := Lib.hid (A1_79.out.ext h_86)
    clear A1_79
    have A2_89 := Lib.hid (A2_80.out.ext h_86)
    clear A2_80
    have S0_90 := Lib.hid (S0_81.out.ext h_86)
    clear S0_81
    have SB0_91 := Lib.hid (SB0_82.out.ext h_86)
    clear SB0_82
    have X0_92 := Lib.hid (X0_83.out.ext h_86)
    clear X0_83
    have XB0_93 := Lib.hid (XB0_85.out.ext h_86)
    clear XB0_85
    have E_94 := Lib.hid (E_84.out.trans h_86)
    clear E_84
    have z_95 := Ext.le h_86
    try simp only [World.size_alloc] at z_95
    have Z_95 := Lib.hid z_95
    clear z_95
    try simp only [World.size_alloc] at o_86
    have X1_96 := Lib.hid (o_86)
    clear o_86 h_86
    have P_97 := (Ext.refl w_86).alloc (.cells #[.int .i64 P1, .int .i64 R1, .int .i64 C1, .slice (some ⟨b_86, 0, none⟩) n1 n1] 36)
    have A0_98 := Lib.hid (A0_87.out.ext P_97)
    clear A0_87
    have A1_99 := Lib.hid (A1_88.out.ext P_97)
    clear A1_88
    have A2_100 := Lib.hid (A2_89.out.ext P_97)
    clear A2_89
    have S0_101 := Lib.hid (S0_90.out.ext P_97)
    clear S0_90
    have SB0_102 := Lib.hid (SB0_91.out.ext P_97)
    clear SB0_91
    have X0_103 := Lib.hid (X0_92.out.ext P_97)
    clear X0_92
    have XB0_104 := Lib.hid (XB0_93.out.ext P_97)
    clear XB0_93
    have X1_105 := Lib.hid (X1_96.out.ext P_97)
    clear X1_96
    have E_106 := Lib.hid (E_94.out.trans P_97)
    clear E_94
    clear P_97
    have XB1_107 := Lib.hid (cells_new w_86 #[.int .i64 P1, .int .i64 R1, .int .i64 C1, .slice (some ⟨b_86, 0, none⟩) n1 n1] 36)
    have lA2 := A2_100.out.1
    have qA20 := A2_100.out.2 0 _ rfl
    have qA21 := A2_100.out.2 1 _ rfl
    have qA22 := A2_100.out.2 2 _ rfl
    have qA23 := A2_100.out.2 3 _ rfl
    try simp only [World.size_alloc] at lA2
    go_wp2_with fail
    refine (toMatrix_law _ _ _ _ _ _ xs2 _ (HR2.out.ext E_106.out) hn2).mono ?_
    rintro e w_108 ⟨b_108, rfl, o_108, h_108⟩
    clear lA2 qA20 qA21 qA22 qA23
    have A0_109 := Lib.hid (A0_98.out.ext h_108)
    clear A0_98
    have A1_110 := Lib.hid (A1_99.out.ext h_108)
    clear A1_99
    have A2_111 := Lib.hid (A2_100.out.ext h_108)
    clear A2_100
    have S0_112 := Lib.hid (S0_101.out.ext h_108)
    clear S0_101
    have SB0_113 := Lib.hid (SB0_102.out.ext h_108)
    clear SB0_102
    have X0_114 := Lib.hid (X0_103.out.ext h_108)
    clear X0_103
    have XB0_115 := Lib.hid (XB0_104.out.ext h_108)
    clear XB0_104
    have X1_116 := Lib.hid (X1_105.out.ext h_108)
    clear X1_105
    have XB1_117 := Lib.hid (XB1_107.out.ext h_108)
    clear XB1_107
    have E_118 := Lib.hid (E_106.out.trans h_108)
    clear E_106
    have z_119 := Ext.le h_108
    try simp only [World.size_alloc] at z_119
    have Z_119 := Lib.hid z_119
    clear z_119
    try simp only [World.size_alloc] at o_108
    have X2_120 := Lib.hid (o_108)
    clear o_108 h_108
    have P_121 := (Ext.refl w_108).alloc (.cells #[.int .i64 P2, .int .i64 R2, .int .i64 C2, .slice (some ⟨b_108, 0, none⟩) n2 n2] 36)
    have A0_122 := Lib.hid (A0_109.out.ext P_121)
    clear A0_109
    have A1_123 := Lib.hid (A1_110.out.ext P_121)
    clear A1_110
    have A2_124 := Lib.hid (A2_111.out.ext P_121)
    clear A2_111
    have S0_125 := Lib.hid (S0_112.out.ext P_121)
    clear S0_112
    have SB0_126 := Lib.hid (SB0_113.out.ext P_121)
    clear SB0_113
    have X0_127 := Lib.hid (X0_114.out.ext P_121)
    clear X0_114
    have XB0_128 := Lib.hid (XB0_115.out.ext P_121)
    clear XB0_115
    have X1_129 := Lib.hid (X1_116.out.ext P_121)
    clear X1_116
    have XB1_130 := Lib.hid (XB1_117.out.ext P_121)
    clear XB1_117
    have X2_131 := Lib.hid (X2_120.out.ext P_121)
    clear X2_120
    have E_132 := Lib.hid (E_118.out.trans P_121)
    clear E_118
    clear P_121
    have XB2_133 := Lib.hid (cells_new w_108 #[.int .i64 P2, .int .i64 R2, .int .i64 C2, .slice (some ⟨b_108, 0, none⟩) n2 n2] 36)
    have lXB0 := XB0_128.out.1
    have qXB00 := XB0_128.out.2 0 _ rfl
    have qXB01 := XB0_128.out.2 1 _ rfl
    have qXB02 := XB0_128.out.2 2 _ rfl
    have lXB1 := XB1_130.out.1
    have qXB10 := XB1_130.out.2 0 _ rfl
    have qXB11 := XB1_130.out.2 1 _ rfl
    have qXB12 := XB1_130.out.2 2 _ rfl
    have qXB13 := XB1_130.out.2 3 _ rfl
    have lXB2 := XB2_133.out.1
    have qXB20 := XB2_133.out.2 0 _ rfl
    have qXB21 := XB2_133.out.2 1 _ rfl
    have qXB22 := XB2_133.out.2 2 _ rfl
    have qXB23 := XB2_133.out.2 3 _ rfl
    try simp only [World.size_alloc] at lXB0 lXB1 lXB2
    go_wp2_with fail
    refine (orthogonalOf_impl X0_127.out.reads hn0 X1_129.out.reads hn1 X2_131.out.reads hn2 hM.out).mono ?_
    rintro e w_134 ⟨v0, rfl, ⟨ga0, gn0, gc0, rfl, gO0, gm0⟩, h_134⟩
    clear lXB0 qXB00 qXB01 qXB02 lXB1 qXB10 qXB11 qXB12 qXB13 lXB2 qXB20 qXB21 qXB22 qXB23
    have A0_135 := Lib.hid (A0_122.out.ext h_134)
    clear A0_122
    have A1_136 := Lib.hid (A1_123.out.ext h_134)
    clear A1_123
    have A2_137 := Lib.hid (A2_124.out.ext h_134)
    clear A2_124
    have S0_138 := Lib.hid (S0_125.out.ext h_134)
    clear S0_125
    have SB0_139 := Lib.hid (SB0_126.out.ext h_134)
    clear SB0_126
    have X0_140 := Lib.hid (X0_127.out.ext h_134)
    clear X0_127
    have XB0_141 := Lib.hid (XB0_128.out.ext h_134)
    clear XB0_128
    have X1_142 := Lib.hid (X1_129.out.ext h_134)
    clear X1_129
    have XB1_143 := Lib.hid (XB1_130.out.ext h_134)
    clear XB1_130
    have X2_144 := Lib.hid (X2_131.out.ext h_134)
    clear X2_131
    have XB2_145 := Lib.hid (XB2_133.out.ext h_134)
    clear XB2_133
    have E_146 := Lib.hid (E_132.out.trans h_134)
    clear E_132
    have z_147 := Ext.le h_134
    try simp only [World.size_alloc] at z_147
    have Z_147 := Lib.hid z_147
    clear z_147
    clear h_134
    try simp only [World.size_alloc] at gO0
    have G0_148 := Lib.hid (gO0)
    clear gO0
    have P_149 := (Ext.refl w_134).alloc (.cells #[.int .i64 pP0, .int .i64 pR0, .int .i64 pC0, .slice ga0 gn0 gc0] 36)
    have A0_150 := Lib.hid (A0_135.out.ext P_149)
    clear A0_135
    have A1_151 := Lib.hid (A1_136.out.ext P_149)
    clear A1_136
    have A2_152 := Lib.hid (A2_137.out.ext P_149)
    clear A2_137
    have S0_153 := Lib.hid (S0_138.out.ext P_149)
    clear S0_138
    have SB0_154 := Lib.hid (SB0_139.out.ext P_149)
    clear SB0_139
    have X0_155 := Lib.hid (X0_140.out.ext P_149)
    clear X0_140
    have XB0_156 := Lib.hid (XB0_141.out.ext P_149)
    clear XB0_141
    have X1_157 := Lib.hid (X1_142.out.ext P_149)
    clear X1_142
    have XB1_158 := Lib.hid (XB1_143.out.ext P_149)
    clear XB1_143
    have X2_159 := Lib.hid (X2_144.out.ext P_149)
    clear X2_144
    have XB2_160 := Lib.hid (XB2_145.out.ext P_149)
    clear XB2_145
    have G0_161 := Lib.hid (G0_148.out.ext P_149)
    clear G0_148
    have E_162 := Lib.hid (E_146.out.trans P_149)
    clear E_146
    clear P_149
    have GB0_163 := Lib.hid (cells_new w_134 #[.int .i64 pP0, .int .i64 pR0, .int .i64 pC0, .slice ga0 gn0 gc0] 36)
    obtain rfl : sn0 = gn0 := S0_153.out.len.symm.trans G0_161.out.len
    have lGB0 := GB0_163.out.1
    have qGB00 := GB0_163.out.2 0 _ rfl
    have qGB01 := GB0_163.out.2 1 _ rfl
    have qGB02 := GB0_163.out.2 2 _ rfl
    have qGB03 := GB0_163.out.2 3 _ rfl
    have lSB0 := SB0_154.out.1
    have qSB00 := SB0_154.out.2 0 _ rfl
    have qSB01 := SB0_154.out.2 1 _ rfl
    have qSB02 := SB0_154.out.2 2 _ rfl
    have qSB03 := SB0_154.out.2 3 _ rfl
    try simp only [World.size_alloc] at lGB0 lSB0
    go_wp2_with fail
    refine (eqMatrix_law _ _ _ _ _ _ _ _ d0 _ G0_161.out.reads S0_153.out.reads gm0).mono ?_
    rintro e w_164 ⟨rfl, h_164⟩
    clear lGB0 qGB00 qGB01 qGB02 qGB03 lSB0 qSB00 qSB01 qSB02 qSB03
    have A0_165 := Lib.hid (A0_150.out.ext h_164)
    clear A0_150
    have A1_166 := Lib.hid (A1_151.out.ext h_164)
    clear A1_151
    have A2_167 := Lib.hid (A2_152.out.ext h_164)
    clear A2_152
    have S0_168 := Lib.hid (S0_153.out.ext h_164)
    clear S0_153
    have SB0_169 := Lib.hid (SB0_154.out.ext h_164)
    clear SB0_154
    have X0_170 := Lib.hid (X0_155.out.ext h_164)
    clear X0_155
    have XB0_171 := Lib.hid (XB0_156.out.ext h_164)
    clear XB0_156
    have X1_172 := Lib.hid (X1_157.out.ext h_164)
    clear X1_157
    have XB1_173 := Lib.hid (XB1_158.out.ext h_164)
    clear XB1_158
    have X2_174 := Lib.hid (X2_159.out.ext h_164)
    clear X2_159
    have XB2_175 := Lib.hid (XB2_160.out.ext h_164)
    clear XB2_160
    have G0_176 := Lib.hid (G0_161.out.ext h_164)
    clear G0_161
    have GB0_177 := Lib.hid (GB0_163.out.ext h_164)
    clear GB0_163
    have E_178 := Lib.hid (E_162.out.trans h_164)
    clear E_162
    have z_179 := Ext.le h_164
    try simp only [World.size_alloc] at z_179
    have Z_179 := Lib.hid z_179
    clear z_179
    clear h_164
    have lXB0 := XB0_171.out.1
    have qXB00 := XB0_171.out.2 0 _ rfl
    have qXB01 := XB0_171.out.2 1 _ rfl
    have qXB02 := XB0_171.out.2 2 _ rfl
    have lA0 := A0_165.out.1
    have qA00 := A0_165.out.2 0 _ rfl
    have qA01 := A0_165.out.2 1 _ rfl
    have qA02 := A0_165.out.2 2 _ rfl
    try simp only [World.size_alloc] at lXB0 lA0
    go_wp2_with fail
    go_region_held3 (fun w' => Ext w_164 w' ∧ (∀ b o, b < w_164.heap.size → w'.cell? ⟨b, o, none⟩ = w_164.cell? ⟨b, o, none⟩)) (first | (with_reducible exact ext2 (Ext.trans (And.left ‹Ext w_164 _ ∧ _›) ‹Ext _ _›)) | (refine ext2 ?_; with_reducible repeat (first | exact Ext.refl _ | refine Ext.drew ?_))) (first
      | (go_at_call 17; refine (toAlgebra_law _ _ _ _ _ xs0 _ (HR0.out.ext (E_178.out.trans (And.left ‹Ext w_164 _ ∧ _›))) hn0).mono ?_; rintro e w_180 ⟨b_180, rfl, o_180, h_180⟩)
      | (go_at_call 19; refine (eqAlgebra_law _ _ _ _ _ _ _ xs0 _ (Own.reads (Own.ext X0_170.out (And.left ‹Ext w_164 _ ∧ _›))) (Own.reads o_180) hn0).mono ?_; rintro e w_181 ⟨rfl, h_181⟩))
    clear lXB0 qXB00 qXB01 qXB02 lA0 qA00 qA01 qA02
    have hx_181 := And.left ‹Ext w_164 w_181 ∧ _›
    try clear h_180 h_181 o_180
    have A0_182 := Lib.hid (A0_165.out.ext hx_181)
    clear A0_165
    have A1_183 := Lib.hid (A1_166.out.ext hx_181)
    clear A1_166
    have A2_184 := Lib.hid (A2_167.out.ext hx_181)
    clear A2_167
    have S0_185 := Lib.hid (S0_168.out.ext hx_181)
    clear S0_168
    have SB0_186 := Lib.hid (SB0_169.out.ext hx_181)
    clear SB0_169
    have X0_187 := Lib.hid (X0_170.out.ext hx_181)
    clear X0_170
    have XB0_188 := Lib.hid (XB0_171.out.ext hx_181)
    clear XB0_171
    have X1_189 := Lib.hid (X1_172.out.ext hx_181)
    clear X1_172
    have XB1_190 := Lib.hid (XB1_173.out.ext hx_181)
    clear XB1_173
    have X2_191 := Lib.hid (X2_174.out.ext hx_181)
    clear X2_174
    have XB2_192 := Lib.hid (XB2_175.out.ext hx_181)
    clear XB2_175
    have G0_193 := Lib.hid (G0_176.out.ext hx_181)
    clear G0_176
    have GB0_194 := Lib.hid (GB0_177.out.ext hx_181)
    clear GB0_177
    have E_195 := Lib.hid (E_178.out.trans hx_181)
    clear E_178
    have z_196 := Ext.le hx_181
    try simp only [World.size_alloc] at z_196
    have Z_196 := Lib.hid z_196
    clear z_196
    clear hx_181
    have lXB1 := XB1_190.out.1
    have qXB10 := XB1_190.out.2 0 _ rfl
    have qXB11 := XB1_190.out.2 1 _ rfl
    have qXB12 := XB1_190.out.2 2 _ rfl
    have qXB13 := XB1_190.out.2 3 _ rfl
    have lA1 := A1_183.out.1
    have qA10 := A1_183.out.2 0 _ rfl
    have qA11 := A1_183.out.2 1 _ rfl
    have qA12 := A1_183.out.2 2 _ rfl
    have qA13 := A1_183.out.2 3 _ rfl
    try simp only [World.size_alloc] at lXB1 lA1
    go_wp2_with fail
    go_region_held3 (fun w' => Ext w_181 w' ∧ (∀ b o, b < w_181.heap.size → w'.cell? ⟨b, o, none⟩ = w_181.cell? ⟨b, o, none⟩)) (first | (with_reducible exact ext2 (Ext.trans (And.left ‹Ext w_181 _ ∧ _›) ‹Ext _ _›)) | (refine ext2 ?_; with_reducible repeat (first | exact Ext.refl _ | refine Ext.drew ?_))) (first
      | (go_at_call 24; refine (toMatrix_law _ _ _ _ _ _ xs1 _ (HR1.out.ext (E_195.out.trans (And.left ‹Ext w_181 _ ∧ _›))) hn1).mono ?_; rintro e w_197 ⟨b_197, rfl, o_197, h_197⟩)
      | (go_at_call 26; refine (eqMatrix_law _ _ _ _ _ _ _ _ xs1 _ (Own.reads (Own.ext X1_189.out (And.left ‹Ext w_181 _ ∧ _›))) (Own.reads o_197) hn1).mono ?_; rintro e w_198 ⟨rfl, h_198⟩))
    clear lXB1 qXB10 qXB11 qXB12 qXB13 lA1 qA10 qA11 qA12 qA13
    have hx_198 := And.left ‹Ext w_181 w_198 ∧ _›
    try clear h_197 h_198 o_197
    have A0_199 := Lib.hid (A0_182.out.ext hx_198)
    clear A0_182
    have A1_200 := Lib.hid (A1_183.out.ext hx_198)
    clear A1_183
    have A2_201 := Lib.hid (A2_184.out.ext hx_198)
    clear A2_184
    have S0_202 := Lib.hid (S0_185.out.ext hx_198)
    clear S0_185
    have SB0_203 := Lib.hid (SB0_186.out.ext hx_198)
    clear SB0_186
    have X0_204 := Lib.hid (X0_187.out.ext hx_198)
    clear X0_187
    have XB0_205 := Lib.hid (XB0_188.out.ext hx_198)
    clear XB0_188
    have X1_206 := Lib.hid (X1_189.out.ext hx_198)
    clear X1_189
    have XB1_207 := Lib.hid (XB1_190.out.ext hx_198)
    clear XB1_190
    have X2_208 := Lib.hid (X2_191.out.ext hx_198)
    clear X2_191
    have XB2_209 := Lib.hid (XB2_192.out.ext hx_198)
    clear XB2_192
    have G0_210 := Lib.hid (G0_193.out.ext hx_198)
    clear G0_193
    have GB0_211 := Lib.hid (GB0_194.out.ext hx_198)
    clear GB0_194
    have E_212 := Lib.hid (E_195.out.trans hx_198)
    clear E_195
    have z_213 := Ext.le hx_198
    try simp only [World.size_alloc] at z_213
    have Z_213 := Lib.hid z_213
    clear z_213
    clear hx_198
    have lXB2 := XB2_209.out.1
    have qXB20 := XB2_209.out.2 0 _ rfl
    have qXB21 := XB2_209.out.2 1 _ rfl
    have qXB22 := XB2_209.out.2 2 _ rfl
    have qXB23 := XB2_209.out.2 3 _ rfl
    have lA2 := A2_201.out.1
    have qA20 := A2_201.out.2 0 _ rfl
    have qA21 := A2_201.out.2 1 _ rfl
    have qA22 := A2_201.out.2 2 _ rfl
    have qA23 := A2_201.out.2 3 _ rfl
    try simp only [World.size_alloc] at lXB2 lA2
    go_wp2_with fail
    go_region_held3 (fun w' => Ext w_198 w' ∧ (∀ b o, b < w_198.heap.size → w'.cell? ⟨b, o, none⟩ = w_198.cell? ⟨b, o, none⟩)) (first | (with_reducible exact ext2 (Ext.trans (And.left ‹Ext w_198 _ ∧ _›) ‹Ext _ _›)) | (refine ext2 ?_; with_reducible repeat (first | exact Ext.refl _ | refine Ext.drew ?_))) (first
      | (go_at_call 24; refine (toMatrix_law _ _ _ _ _ _ xs2 _ (HR2.out.ext (E_212.out.trans (And.left ‹Ext w_198 _ ∧ _›))) hn2).mono ?_; rintro e w_214 ⟨b_214, rfl, o_214, h_214⟩)
      | (go_at_call 26; refine (eqMatrix_law _ _ _ _ _ _ _ _ xs2 _ (Own.reads (Own.ext X2_208.out (And.left ‹Ext w_198 _ ∧ _›))) (Own.reads o_214) hn2).mono ?_; rintro e w_215 ⟨rfl, h_215⟩))
    clear lXB2 qXB20 qXB21 qXB22 qXB23 lA2 qA20 qA21 qA22 qA23
    have hx_215 := And.left ‹Ext w_198 w_215 ∧ _›
    try clear h_214 h_215 o_214
    have A0_216 := Lib.hid (A0_199.out.ext hx_215)
    clear A0_199
    have A1_217 := Lib.hid (A1_200.out.ext hx_215)
    clear A1_200
    have A2_218 := Lib.hid (A2_201.out.ext hx_215)
    clear A2_201
    have S0_219 := Lib.hid (S0_202.out.ext hx_215)
    clear S0_202
    have SB0_220 := Lib.hid (SB0_203.out.ext hx_215)
    clear SB0_203
    have X0_221 := Lib.hid (X0_204.out.ext hx_215)
    clear X0_204
    have XB0_222 := Lib.hid (XB0_205.out.ext hx_215)
    clear XB0_205
    have X1_223 := Lib.hid (X1_206.out.ext hx_215)
    clear X1_206
    have XB1_224 := Lib.hid (XB1_207.out.ext hx_215)
    clear XB1_207
    have X2_225 := Lib.hid (X2_208.out.ext hx_215)
    clear X2_208
    have XB2_226 := Lib.hid (XB2_209.out.ext hx_215)
    clear XB2_209
    have G0_227 := Lib.hid (G0_210.out.ext hx_215)
    clear G0_210
    have GB0_228 := Lib.hid (GB0_211.out.ext hx_215)
    clear GB0_211
    have E_229 := Lib.hid (E_212.out.trans hx_215)
    clear E_212
    have z_230 := Ext.le hx_215
    try simp only [World.size_alloc] at z_230
    have Z_230 := Lib.hid z_230
    clear z_230
    clear hx_215
    have X0_b231 := Lib.hid X0_221.out.blk
    have lXB0 := XB0_222.out.1
    have qXB00 := XB0_222.out.2 0 _ rfl
    have qXB01 := XB0_222.out.2 1 _ rfl
    have qXB02 := XB0_222.out.2 2 _ rfl
    try simp only [World.size_alloc] at lXB0
    go_wp2_with fail
    refine (markAlgebra_law _ _ _ _ _ _ _ _ _ _ X0_221.out hn0 (by omega) (by omega)).mono ?_
    rintro e w_232 ⟨rfl, o_232, g_232⟩
    clear lXB0 qXB00 qXB01 qXB02
    clear X0_221
    have A0_233 := Lib.hid (A0_216.out.grown g_232 (fun k hk => by have := X0_b231.out k hk; have := Z_43.out; have := Z_49.out; have := Z_55.out; have := Z_65.out; have := ZcS0.out; have := Z_75.out; have := Z_95.out; have := Z_119.out; have := Z_147.out; have := Z_179.out; have := Z_196.out; have := Z_213.out; have := Z_230.out; omega))
    clear A0_216
    have A1_234 := Lib.hid (A1_217.out.grown g_232 (fun k hk => by have := X0_b231.out k hk; have := Z_43.out; have := Z_49.out; have := Z_55.out; have := Z_65.out; have := ZcS0.out; have := Z_75.out; have := Z_95.out; have := Z_119.out; have := Z_147.out; have := Z_179.out; have := Z_196.out; have := Z_213.out; have := Z_230.out; omega))
    clear A1_217
    have A2_235 := Lib.hid (A2_218.out.grown g_232 (fun k hk => by have := X0_b231.out k hk; have := Z_43.out; have := Z_49.out; have := Z_55.out; have := Z_65.out; have := ZcS0.out; have := Z_75.out; have := Z_95.out; have := Z_119.out; have := Z_147.out; have := Z_179.out; have := Z_196.out; have := Z_213.out; have := Z_230.out; omega))
    clear A2_218
    have S0_236 := Lib.hid (S0_219.out.grown g_232 (fun k hk => by have := X0_b231.out k hk; have := Z_43.out; have := Z_49.out; have := Z_55.out; have := Z_65.out; have := ZcS0.out; have := Z_75.out; have := Z_95.out; have := Z_119.out; have := Z_147.out; have := Z_179.out; have := Z_196.out; have := Z_213.out; have := Z_230.out; omega))
    clear S0_219
    have SB0_237 := Lib.hid (SB0_220.out.grown g_232 (fun k hk => by have := X0_b231.out k hk; have := Z_43.out; have := Z_49.out; have := Z_55.out; have := Z_65.out; have := ZcS0.out; have := Z_75.out; have := Z_95.out; have := Z_119.out; have := Z_147.out; have := Z_179.out; have := Z_196.out; have := Z_213.out; have := Z_230.out; omega))
    clear SB0_220
    have XB0_238 := Lib.hid (XB0_222.out.grown g_232 (fun k hk => by have := X0_b231.out k hk; have := Z_43.out; have := Z_49.out; have := Z_55.out; have := Z_65.out; have := ZcS0.out; have := Z_75.out; have := Z_95.out; have := Z_119.out; have := Z_147.out; have := Z_179.out; have := Z_196.out; have := Z_213.out; have := Z_230.out; omega))
    clear XB0_222
    have X1_239 := Lib.hid (X1_223.out.grown g_232 (fun k hk => by have := X0_b231.out k hk; have := Z_43.out; have := Z_49.out; have := Z_55.out; have := Z_65.out; have := ZcS0.out; have := Z_75.out; have := Z_95.out; have := Z_119.out; have := Z_147.out; have := Z_179.out; have := Z_196.out; have := Z_213.out; have := Z_230.out; omega))
    clear X1_223
    have XB1_240 := Lib.hid (XB1_224.out.grown g_232 (fun k hk => by have := X0_b231.out k hk; have := Z_43.out; have := Z_49.out; have := Z_55.out; have := Z_65.out; have := ZcS0.out; have := Z_75.out; have := Z_95.out; have := Z_119.out; have := Z_147.out; have := Z_179.out; have := Z_196.out; have := Z_213.out; have := Z_230.out; omega))
    clear XB1_224
    have X2_241 := Lib.hid (X2_225.out.grown g_232 (fun k hk => by have := X0_b231.out k hk; have := Z_43.out; have := Z_49.out; have := Z_55.out; have := Z_65.out; have := ZcS0.out; have := Z_75.out; have := Z_95.out; have := Z_119.out; have := Z_147.out; have := Z_179.out; have := Z_196.out; have := Z_213.out; have := Z_230.out; omega))
    clear X2_225
    have XB2_242 := Lib.hid (XB2_226.out.grown g_232 (fun k hk => by have := X0_b231.out k hk; have := Z_43.out; have := Z_49.out; have := Z_55.out; have := Z_65.out; have := ZcS0.out; have := Z_75.out; have := Z_95.out; have := Z_119.out; have := Z_147.out; have := Z_179.out; have := Z_196.out; have := Z_213.out; have := Z_230.out; omega))
    clear XB2_226
    have G0_243 := Lib.hid (G0_227.out.grown g_232 (fun k hk => by have := X0_b231.out k hk; have := Z_43.out; have := Z_49.out; have := Z_55.out; have := Z_65.out; have := ZcS0.out; have := Z_75.out; have := Z_95.out; have := Z_119.out; have := Z_147.out; have := Z_179.out; have := Z_196.out; have := Z_213.out; have := Z_230.out; omega))
    clear G0_227
    have GB0_244 := Lib.hid (GB0_228.out.grown g_232 (fun k hk => by have := X0_b231.out k hk; have := Z_43.out; have := Z_49.out; have := Z_55.out; have := Z_65.out; have := ZcS0.out; have := Z_75.out; have := Z_95.out; have := Z_119.out; have := Z_147.out; have := Z_179.out; have := Z_196.out; have := Z_213.out; have := Z_230.out; omega))
    clear GB0_228
    have E_245 := Lib.hid (E_229.out.grown g_232 (fun k hk => by have := X0_b231.out k hk; have := Z_43.out; have := Z_49.out; have := Z_55.out; have := Z_65.out; have := ZcS0.out; have := Z_75.out; have := Z_95.out; have := Z_119.out; have := Z_147.out; have := Z_179.out; have := Z_196.out; have := Z_213.out; have := Z_230.out; omega))
    clear E_229
    have Z_246 := Lib.hid g_232.size
    clear g_232 X0_b231
    have X0_247 := Lib.hid (o_232)
    clear o_232
    clear X0_247
    clear XB0_238
    have X1_b248 := Lib.hid X1_239.out.blk
    have lXB1 := XB1_240.out.1
    have qXB10 := XB1_240.out.2 0 _ rfl
    have qXB11 := XB1_240.out.2 1 _ rfl
    have qXB12 := XB1_240.out.2 2 _ rfl
    have qXB13 := XB1_240.out.2 3 _ rfl
    try simp only [World.size_alloc] at lXB1
    go_wp2_with fail
    refine (markMatrix_law _ _ _ _ _ _ _ _ _ _ _ X1_239.out hn1 (by omega) (by omega)).mono ?_
    rintro e w_249 ⟨rfl, o_249, g_249⟩
    clear lXB1 qXB10 qXB11 qXB12 qXB13
    clear X1_239
    have A0_250 := Lib.hid (A0_233.out.grown g_249 (fun k hk => by have := X1_b248.out k hk; have := Z_43.out; have := Z_49.out; have := Z_55.out; have := Z_65.out; have := ZcS0.out; have := Z_75.out; have := Z_95.out; have := Z_119.out; have := Z_147.out; have := Z_179.out; have := Z_196.out; have := Z_213.out; have := Z_230.out; have := Z_246.out; omega))
    clear A0_233
    have A1_251 := Lib.hid (A1_234.out.grown g_249 (fun k hk => by have := X1_b248.out k hk; have := Z_43.out; have := Z_49.out; have := Z_55.out; have := Z_65.out; have := ZcS0.out; have := Z_75.out; have := Z_95.out; have := Z_119.out; have := Z_147.out; have := Z_179.out; have := Z_196.out; have := Z_213.out; have := Z_230.out; have := Z_246.out; omega))
    clear A1_234
    have A2_252 := Lib.hid (A2_235.out.grown g_249 (fun k hk => by have := X1_b248.out k hk; have := Z_43.out; have := Z_49.out; have := Z_55.out; have := Z_65.out; have := ZcS0.out; have := Z_75.out; have := Z_95.out; have := Z_119.out; have := Z_147.out; have := Z_179.out; have := Z_196.out; have := Z_213.out; have := Z_230.out; have := Z_246.out; omega))
    clear A2_235
    have S0_253 := Lib.hid (S0_236.out.grown g_249 (fun k hk => by have := X1_b248.out k hk; have := Z_43.out; have := Z_49.out; have := Z_55.out; have := Z_65.out; have := ZcS0.out; have := Z_75.out; have := Z_95.out; have := Z_119.out; have := Z_147.out; have := Z_179.out; have := Z_196.out; have := Z_213.out; have := Z_230.out; have := Z_246.out; omega))
    clear S0_236
    have SB0_254 := Lib.hid (SB0_237.out.grown g_249 (fun k hk => by have := X1_b248.out k hk; have := Z_43.out; have := Z_49.out; have := Z_55.out; have := Z_65.out; have := ZcS0.out; have := Z_75.out; have := Z_95.out; have := Z_119.out; have := Z_147.out; have := Z_179.out; have := Z_196.out; have := Z_213.out; have := Z_230.out; have := Z_246.out; omega))
    clear SB0_237
    have XB1_255 := Lib.hid (XB1_240.out.grown g_249 (fun k hk => by have := X1_b248.out k hk; have := Z_43.out; have := Z_49.out; have := Z_55.out; have := Z_65.out; have := ZcS0.out; have := Z_75.out; have := Z_95.out; have := Z_119.out; have := Z_147.out; have := Z_179.out; have := Z_196.out; have := Z_213.out; have := Z_230.out; have := Z_246.out; omega))
    clear XB1_240
    have X2_256 := Lib.hid (X2_241.out.grown g_249 (fun k hk => by have := X1_b248.out k hk; have := Z_43.out; have := Z_49.out; have := Z_55.out; have := Z_65.out; have := ZcS0.out; have := Z_75.out; have := Z_95.out; have := Z_119.out; have := Z_147.out; have := Z_179.out; have := Z_196.out; have := Z_213.out; have := Z_230.out; have := Z_246.out; omega))
    clear X2_241
    have XB2_257 := Lib.hid (XB2_242.out.grown g_249 (fun k hk => by have := X1_b248.out k hk; have := Z_43.out; have := Z_49.out; have := Z_55.out; have := Z_65.out; have := ZcS0.out; have := Z_75.out; have := Z_95.out; have := Z_119.out; have := Z_147.out; have := Z_179.out; have := Z_196.out; have := Z_213.out; have := Z_230.out; have := Z_246.out; omega))
    clear XB2_242
    have G0_258 := Lib.hid (G0_243.out.grown g_249 (fun k hk => by have := X1_b248.out k hk; have := Z_43.out; have := Z_49.out; have := Z_55.out; have := Z_65.out; have := ZcS0.out; have := Z_75.out; have := Z_95.out; have := Z_119.out; have := Z_147.out; have := Z_179.out; have := Z_196.out; have := Z_213.out; have := Z_230.out; have := Z_246.out; omega))
    clear G0_243
    have GB0_259 := Lib.hid (GB0_244.out.grown g_249 (fun k hk => by have := X1_b248.out k hk; have := Z_43.out; have := Z_49.out; have := Z_55.out; have := Z_65.out; have := ZcS0.out; have := Z_75.out; have := Z_95.out; have := Z_119.out; have := Z_147.out; have := Z_179.out; have := Z_196.out; have := Z_213.out; have := Z_230.out; have := Z_246.out; omega))
    clear GB0_244
    have E_260 := Lib.hid (E_245.out.grown g_249 (fun k hk => by have := X1_b248.out k hk; have := Z_43.out; have := Z_49.out; have := Z_55.out; have := Z_65.out; have := ZcS0.out; have := Z_75.out; have := Z_95.out; have := Z_119.out; have := Z_147.out; have := Z_179.out; have := Z_196.out; have := Z_213.out; have := Z_230.out; have := Z_246.out; omega))
    clear E_245
    have Z_261 := Lib.hid g_249.size
    clear g_249 X1_b248
    have X1_262 := Lib.hid (o_249)
    clear o_249
    clear X1_262
    clear XB1_255
    have X2_b263 := Lib.hid X2_256.out.blk
    have lXB2 := XB2_257.out.1
    have qXB20 := XB2_257.out.2 0 _ rfl
    have qXB21 := XB2_257.out.2 1 _ rfl
    have qXB22 := XB2_257.out.2 2 _ rfl
    have qXB23 := XB2_257.out.2 3 _ rfl
    try simp only [World.size_alloc] at lXB2
    go_wp2_with fail
    refine (markMatrix_law _ _ _ _ _ _ _ _ _ _ _ X2_256.out hn2 (by omega) (by omega)).mono ?_
    rintro e w_264 ⟨rfl, o_264, g_264⟩
    clear lXB2 qXB20 qXB21 qXB22 qXB23
    clear X2_256
    have A0_265 := Lib.hid (A0_250.out.grown g_264 (fun k hk => by have := X2_b263.out k hk; have := Z_43.out; have := Z_49.out; have := Z_55.out; have := Z_65.out; have := ZcS0.out; have := Z_75.out; have := Z_95.out; have := Z_119.out; have := Z_147.out; have := Z_179.out; have := Z_196.out; have := Z_213.out; have := Z_230.out; have := Z_246.out; have := Z_261.out; omega))
    clear A0_250
    have A1_266 := Lib.hid (A1_251.out.grown g_264 (fun k hk => by have := X2_b263.out k hk; have := Z_43.out; have := Z_49.out; have := Z_55.out; have := Z_65.out; have := ZcS0.out; have := Z_75.out; have := Z_95.out; have := Z_119.out; have := Z_147.out; have := Z_179.out; have := Z_196.out; have := Z_213.out; have := Z_230.out; have := Z_246.out; have := Z_261.out; omega))
    clear A1_251
    have A2_267 := Lib.hid (A2_252.out.grown g_264 (fun k hk => by have := X2_b263.out k hk; have := Z_43.out; have := Z_49.out; have := Z_55.out; have := Z_65.out; have := ZcS0.out; have := Z_75.out; have := Z_95.out; have := Z_119.out; have := Z_147.out; have := Z_179.out; have := Z_196.out; have := Z_213.out; have := Z_230.out; have := Z_246.out; have := Z_261.out; omega))
    clear A2_252
    have S0_268 := Lib.hid (S0_253.out.grown g_264 (fun k hk => by have := X2_b263.out k hk; have := Z_43.out; have := Z_49.out; have := Z_55.out; have := Z_65.out; have := ZcS0.out; have := Z_75.out; have := Z_95.out; have := Z_119.out; have := Z_147.out; have := Z_179.out; have := Z_196.out; have := Z_213.out; have := Z_230.out; have := Z_246.out; have := Z_261.out; omega))
    clear S0_253
    have SB0_269 := Lib.hid (SB0_254.out.grown g_264 (fun k hk => by have := X2_b263.out k hk; have := Z_43.out; have := Z_49.out; have := Z_55.out; have := Z_65.out; have := ZcS0.out; have := Z_75.out; have := Z_95.out; have := Z_119.out; have := Z_147.out; have := Z_179.out; have := Z_196.out; have := Z_213.out; have := Z_230.out; have := Z_246.out; have := Z_261.out; omega))
    clear SB0_254
    have XB2_270 := Lib.hid (XB2_257.out.grown g_264 (fun k hk => by have := X2_b263.out k hk; have := Z_43.out; have := Z_49.out; have := Z_55.out; have := Z_65.out; have := ZcS0.out; have := Z_75.out; have := Z_95.out; have := Z_119.out; have := Z_147.out; have := Z_179.out; have := Z_196.out; have := Z_213.out; have := Z_230.out; have := Z_246.out; have := Z_261.out; omega))
    clear XB2_257
    have G0_271 := Lib.hid (G0_258.out.grown g_264 (fun k hk => by have := X2_b263.out k hk; have := Z_43.out; have := Z_49.out; have := Z_55.out; have := Z_65.out; have := ZcS0.out; have := Z_75.out; have := Z_95.out; have := Z_119.out; have := Z_147.out; have := Z_179.out; have := Z_196.out; have := Z_213.out; have := Z_230.out; have := Z_246.out; have := Z_261.out; omega))
    clear G0_258
    have GB0_272 := Lib.hid (GB0_259.out.grown g_264 (fun k hk => by have := X2_b263.out k hk; have := Z_43.out; have := Z_49.out; have := Z_55.out; have := Z_65.out; have := ZcS0.out; have := Z_75.out; have := Z_95.out; have := Z_119.out; have := Z_147.out; have := Z_179.out; have := Z_196.out; have := Z_213.out; have := Z_230.out; have := Z_246.out; have := Z_261.out; omega))
    clear GB0_259
    have E_273 := Lib.hid (E_260.out.grown g_264 (fun k hk => by have := X2_b263.out k hk; have := Z_43.out; have := Z_49.out; have := Z_55.out; have := Z_65.out; have := ZcS0.out; have := Z_75.out; have := Z_95.out; have := Z_119.out; have := Z_147.out; have := Z_179.out; have := Z_196.out; have := Z_213.out; have := Z_230.out; have := Z_246.out; have := Z_261.out; omega))
    clear E_260
    have Z_274 := Lib.hid g_264.size
    clear g_264 X2_b263
    have X2_275 := Lib.hid (o_264)
    clear o_264
    clear X2_275
    clear XB2_270
    have hk : 0 ≤ 1 + (n0 : Int) + (n1 : Int) + (n2 : Int) := by omega
    have lGB0 := GB0_272.out.1
    have qGB00 := GB0_272.out.2 0 _ rfl
    have qGB01 := GB0_272.out.2 1 _ rfl
    have qGB02 := GB0_272.out.2 2 _ rfl
    have qGB03 := GB0_272.out.2 3 _ rfl
    have lSB0 := SB0_269.out.1
    have qSB00 := SB0_269.out.2 0 _ rfl
    have qSB01 := SB0_269.out.2 1 _ rfl
    have qSB02 := SB0_269.out.2 2 _ rfl
    have qSB03 := SB0_269.out.2 3 _ rfl
    try simp only [World.size_alloc] at lGB0 lSB0
    go_wp2_with fail
    refine (eqMatrix_law _ _ _ _ _ _ _ _ d0 _ G0_271.out.reads S0_268.out.reads gm0).mono ?_
    rintro e w_276 ⟨rfl, h_276⟩
    clear lGB0 qGB00 qGB01 qGB02 qGB03 lSB0 qSB00 qSB01 qSB02 qSB03
    have A0_277 := Lib.hid (A0_265.out.ext h_276)
    clear A0_265
    have A1_278 := Lib.hid (A1_266.out.ext h_276)
    clear A1_266
    have A2_279 := Lib.hid (A2_267.out.ext h_276)
    clear A2_267
    have S0_280 := Lib.hid (S0_268.out.ext h_276)
    clear S0_268
    have SB0_281 := Lib.hid (SB0_269.out.ext h_276)
    clear SB0_269
    have G0_282 := Lib.hid (G0_271.out.ext h_276)
    clear G0_271
    have GB0_283 := Lib.hid (GB0_272.out.ext h_276)
    clear GB0_272
    have E_284 := Lib.hid (E_273.out.trans h_276)
    clear E_273
    have z_285 := Ext.le h_276
    try simp only [World.size_alloc] at z_285
    have Z_285 := Lib.hid z_285
    clear z_285
    clear h_276
    clear hk
    have G0_b286 := Lib.hid G0_282.out.blk
    have lGB0 := GB0_283.out.1
    have qGB00 := GB0_283.out.2 0 _ rfl
    have qGB01 := GB0_283.out.2 1 _ rfl
    have qGB02 := GB0_283.out.2 2 _ rfl
    have qGB03 := GB0_283.out.2 3 _ rfl
    try simp only [World.size_alloc] at lGB0
    go_wp2_with fail
    refine (markMatrix_law _ _ _ _ _ _ _ _ _ _ _ G0_282.out gm0 (by omega) (by omega)).mono ?_
    rintro e w_287 ⟨rfl, o_287, g_287⟩
    clear lGB0 qGB00 qGB01 qGB02 qGB03
    clear G0_282
    have A0_288 := Lib.hid (A0_277.out.grown g_287 (fun k hk => by have := G0_b286.out k hk; have := Z_43.out; have := Z_49.out; have := Z_55.out; have := Z_65.out; have := ZcS0.out; have := Z_75.out; have := Z_95.out; have := Z_119.out; have := Z_147.out; have := Z_179.out; have := Z_196.out; have := Z_213.out; have := Z_230.out; have := Z_246.out; have := Z_261.out; have := Z_274.out; have := Z_285.out; omega))
    clear A0_277
    have A1_289 := Lib.hid (A1_278.out.grown g_287 (fun k hk => by have := G0_b286.out k hk; have := Z_43.out; have := Z_49.out; have := Z_55.out; have := Z_65.out; have := ZcS0.out; have := Z_75.out; have := Z_95.out; have := Z_119.out; have := Z_147.out; have := Z_179.out; have := Z_196.out; have := Z_213.out; have := Z_230.out; have := Z_246.out; have := Z_261.out; have := Z_274.out; have := Z_285.out; omega))
    clear A1_278
    have A2_290 := Lib.hid (A2_279.out.grown g_287 (fun k hk => by have := G0_b286.out k hk; have := Z_43.out; have := Z_49.out; have := Z_55.out; have := Z_65.out; have := ZcS0.out; have := Z_75.out; have := Z_95.out; have := Z_119.out; have := Z_147.out; have := Z_179.out; have := Z_196.out; have := Z_213.out; have := Z_230.out; have := Z_246.out; have := Z_261.out; have := Z_274.out; have := Z_285.out; omega))
    clear A2_279
    have S0_291 := Lib.hid (S0_280.out.grown g_287 (fun k hk => by have := G0_b286.out k hk; have := Z_43.out; have := Z_49.out; have := Z_55.out; have := Z_65.out; have := ZcS0.out; have := Z_75.out; have := Z_95.out; have := Z_119.out; have := Z_147.out; have := Z_179.out; have := Z_196.out; have := Z_213.out; have := Z_230.out; have := Z_246.out; have := Z_261.out; have := Z_274.out; have := Z_285.out; omega))
    clear S0_280
    have SB0_292 := Lib.hid (SB0_281.out.grown g_287 (fun k hk => by have := G0_b286.out k hk; have := Z_43.out; have := Z_49.out; have := Z_55.out; have := Z_65.out; have := ZcS0.out; have := Z_75.out; have := Z_95.out; have := Z_119.out; have := Z_147.out; have := Z_179.out; have := Z_196.out; have := Z_213.out; have := Z_230.out; have := Z_246.out; have := Z_261.out; have := Z_274.out; have := Z_285.out; omega))
    clear SB0_281
    have GB0_293 := Lib.hid (GB0_283.out.grown g_287 (fun k hk => by have := G0_b286.out k hk; have := Z_43.out; have := Z_49.out; have := Z_55.out; have := Z_65.out; have := ZcS0.out; have := Z_75.out; have := Z_95.out; have := Z_119.out; have := Z_147.out; have := Z_179.out; have := Z_196.out; have := Z_213.out; have := Z_230.out; have := Z_246.out; have := Z_261.out; have := Z_274.out; have := Z_285.out; omega))
    clear GB0_283
    have E_294 := Lib.hid (E_284.out.grown g_287 (fun k hk => by have := G0_b286.out k hk; have := Z_43.out; have := Z_49.out; have := Z_55.out; have := Z_65.out; have := ZcS0.out; have := Z_75.out; have := Z_95.out; have := Z_119.out; have := Z_147.out; have := Z_179.out; have := Z_196.out; have := Z_213.out; have := Z_230.out; have := Z_246.out; have := Z_261.out; have := Z_274.out; have := Z_285.out; omega))
    clear E_284
    have Z_295 := Lib.hid g_287.size
    clear g_287 G0_b286
    have G0_296 := Lib.hid (o_287)
    clear o_287
    have lGB0 := GB0_293.out.1
    have qGB00 := GB0_293.out.2 0 _ rfl
    have qGB01 := GB0_293.out.2 1 _ rfl
    have qGB02 := GB0_293.out.2 2 _ rfl
    have qGB03 := GB0_293.out.2 3 _ rfl
    try simp only [World.size_alloc] at lGB0
    go_wp2_with fail
    refine (heldMatrix_law _ _ _ _ _ _ _ _ G0_296.out.reads gm0 (by omega) (by omega)).mono ?_
    rintro e w_297 ⟨rfl, h_297⟩
    clear lGB0 qGB00 qGB01 qGB02 qGB03
    have hq297 : 0 ≤ 1 + (sn0 : Int) := by omega
    have A0_298 := Lib.hid (A0_288.out.ext h_297)
    clear A0_288
    have A1_299 := Lib.hid (A1_289.out.ext h_297)
    clear A1_289
    have A2_300 := Lib.hid (A2_290.out.ext h_297)
    clear A2_290
    have S0_301 := Lib.hid (S0_291.out.ext h_297)
    clear S0_291
    have SB0_302 := Lib.hid (SB0_292.out.ext h_297)
    clear SB0_292
    have GB0_303 := Lib.hid (GB0_293.out.ext h_297)
    clear GB0_293
    have G0_304 := Lib.hid (G0_296.out.ext h_297)
    clear G0_296
    have E_305 := Lib.hid (E_294.out.trans h_297)
    clear E_294
    have z_306 := Ext.le h_297
    try simp only [World.size_alloc] at z_306
    have Z_306 := Lib.hid z_306
    clear z_306
    clear h_297
    have lA0 := A0_298.out.1
    have qA00 := A0_298.out.2 0 _ rfl
    have qA01 := A0_298.out.2 1 _ rfl
    have qA02 := A0_298.out.2 2 _ rfl
    have lA1 := A1_299.out.1
    have qA10 := A1_299.out.2 0 _ rfl
    have qA11 := A1_299.out.2 1 _ rfl
    have qA12 := A1_299.out.2 2 _ rfl
    have qA13 := A1_299.out.2 3 _ rfl
    have lA2 := A2_300.out.1
    have qA20 := A2_300.out.2 0 _ rfl
    have qA21 := A2_300.out.2 1 _ rfl
    have qA22 := A2_300.out.2 2 _ rfl
    have qA23 := A2_300.out.2 3 _ rfl
    try simp only [World.size_alloc] at lA0 lA1 lA2
    go_upto_region 38 with fail
    go_cut [18, 19] (fun s0 s1 wx => ∃ B0 ta0 tn0 tc0, s0 = .pointer (some ⟨B0, 0, none⟩) ∧ s1 = .bool i1 ∧ Hid (Cells wx B0 [.int .i64 pP0, .int .i64 pR0, .int .i64 pC0, .slice ta0 tn0 tc0]) ∧ Hid (Own wx 0 wx.heap.size ta0 tn0 d0) ∧ tn0 ≤ 1048576 ∧ Hid (Ext w_297 wx))
    case first =>
      go_region_held3 (fun w' => Ext w_297 w' ∧ (∀ b o, b < w_297.heap.size → w'.cell? ⟨b, o, none⟩ = w_297.cell? ⟨b, o, none⟩)) (first | (with_reducible exact ext2 (Ext.trans (And.left ‹Ext w_297 _ ∧ _›) ‹Ext _ _›)) | (refine ext2 ?_; with_reducible repeat (first | exact Ext.refl _ | exact And.left ‹Ext w_297 _ ∧ _› | exact (((((Ext.refl _).drew).trans h_307).trans h_308).trans h_309).trans h_310 | refine Ext.drew ?_ | refine Ext.alloc ?_ _ | refine Ext.setCell ?_ (by have e0 : w_297.drew.heap.size = w_297.heap.size := rfl; simp <;> omega) _))) (first
        | (go_at_call_of 17 (Value.slice a0 n0 c0); refine (toAlgebra_law _ _ _ _ _ xs0 _ (HR0.out.ext (E_305.out.trans (And.left ‹Ext w_297 _ ∧ _›))) hn0).mono ?_; rintro e w_307 ⟨b_307, rfl, o_307, h_307⟩; have c_307 := h_307.cells; have f_307 := h_307.frees; have y_307 := h_307.le; have x_307 := fun k hk => Nat.lt_of_lt_of_le (n := k) hk h_307.le; (try simp only [World.size_drew] at y_307 x_307); (try simp only [World.size_alloc] at y_307 x_307); (try simp only [Nat.add_one_le_iff] at y_307); (try have z_307_0 : w_297.heap.size < w_307.heap.size := by omega); (try have z_307_2 : w_308.heap.size < w_307.heap.size := by omega); (try have z_307_3 : w_309.heap.size < w_307.heap.size := by omega); (try have z_307_4 : w_310.heap.size < w_307.heap.size := by omega))
        | (go_at_call_of 24 (Value.slice a1 n1 c1); refine (toMatrix_law _ _ _ _ _ _ xs1 _ (HR1.out.ext (E_305.out.trans (And.left ‹Ext w_297 _ ∧ _›))) hn1).mono ?_; rintro e w_308 ⟨b_308, rfl, o_308, h_308⟩; have c_308 := h_308.cells; have f_308 := h_308.frees; have y_308 := h_308.le; have x_308 := fun k hk => Nat.lt_of_lt_of_le (n := k) hk h_308.le; (try simp only [World.size_drew] at y_308 x_308); (try simp only [World.size_alloc] at y_308 x_308); (try simp only [Nat.add_one_le_iff] at y_308); (try have z_308_0 : w_297.heap.size < w_308.heap.size := by omega); (try have z_308_1 : w_307.heap.size < w_308.heap.size := by omega); (try have z_308_3 : w_309.heap.size < w_308.heap.size := by omega); (try have z_308_4 : w_310.heap.size < w_308.heap.size := by omega))
        | (go_at_call_of 24 (Value.slice a2 n2 c2); refine (toMatrix_law _ _ _ _ _ _ xs2 _ (HR2.out.ext (E_305.out.trans (And.left ‹Ext w_297 _ ∧ _›))) hn2).mono ?_; rintro e w_309 ⟨b_309, rfl, o_309, h_309⟩; have c_309 := h_309.cells; have f_309 := h_309.frees; have y_309 := h_309.le; have x_309 := fun k hk => Nat.lt_of_lt_of_le (n := k) hk h_309.le; (try simp only [World.size_drew] at y_309 x_309); (try simp only [World.size_alloc] at y_309 x_309); (try simp only [Nat.add_one_le_iff] at y_309); (try have z_309_0 : w_297.heap.size < w_309.heap.size := by omega); (try have z_309_1 : w_307.heap.size < w_309.heap.size := by omega); (try have z_309_2 : w_308.heap.size < w_309.heap.size := by omega); (try have z_309_4 : w_310.heap.size < w_309.heap.size := by omega))
        | (go_at_call 32; refine (orthogonalOf_impl (Own.reads (Own.ext o_307 (by with_reducible first | exact (((Ext.refl _).trans h_308).trans h_309) | exact Ext.alloc (((Ext.refl _).trans h_308).trans h_309) _ | exact (((Ext.alloc (Ext.refl _) _).trans h_308).trans h_309) | exact ((Ext.alloc ((Ext.refl _).trans h_308) _).trans h_309)))) hn0 (Own.reads (Own.ext o_308 (by with_reducible first | exact ((Ext.refl _).trans h_309) | exact Ext.alloc ((Ext.refl _).trans h_309) _ | exact ((Ext.alloc (Ext.refl _) _).trans h_309)))) hn1 (Own.reads (Own.ext o_309 (by with_reducible first | exact Ext.refl _ | exact Ext.alloc (Ext.refl _) _))) hn2 hM.out).mono ?_; rintro e w_310 ⟨v0, rfl, ⟨ta0, tn0, tc0, rfl, tO0, tm0⟩, h_310⟩; have c_310 := h_310.cells; have f_310 := h_310.frees; have y_310 := h_310.le; have x_310 := fun k hk => Nat.lt_of_lt_of_le (n := k) hk h_310.le; (try simp only [World.size_drew] at y_310 x_310); (try simp only [World.size_alloc] at y_310 x_310); (try simp only [Nat.add_one_le_iff] at y_310); (try have z_310_0 : w_297.heap.size < w_310.heap.size := by omega); (try have z_310_1 : w_307.heap.size < w_310.heap.size := by omega); (try have z_310_2 : w_308.heap.size < w_310.heap.size := by omega); (try have z_310_3 : w_309.heap.size < w_310.heap.size := by omega)))
      all_goals (go_wp2_with fail; go_meet; with_reducible first
        | exact ⟨w_310.heap.size, _, _, _, rfl, rfl, Lib.hid (cells_new w_310 #[.int .i64 pP0, .int .i64 pR0, .int .i64 pC0, .slice ta0 tn0 tc0] 36), Lib.hid (Own.any (Own.ext tO0 ((Ext.refl _).alloc _)) (by simp)), tm0, Lib.hid (And.left ‹Ext w_297 _ ∧ _›)⟩
        | exact ⟨w_309.heap.size, _, _, _, rfl, rfl, Lib.hid (early4 (lo := 0) ((cells_new w_309 _ _).ext h_310)), Lib.hid (Own.any (own4 tO0 (by have e0 : w_297.drew.heap.size = w_297.heap.size := rfl; simp <;> omega) _ _ _ _) (by simp)), tm0, Lib.hid (And.left ‹Ext w_297 _ ∧ _›)⟩
        | exact ⟨w_308.heap.size, _, _, _, rfl, rfl, Lib.hid (early4 (lo := 0) (((cells_new w_308 _ _).ext h_309).ext h_310)), Lib.hid (Own.any (own4 tO0 (by have e0 : w_297.drew.heap.size = w_297.heap.size := rfl; simp <;> omega) _ _ _ _) (by simp)), tm0, Lib.hid (And.left ‹Ext w_297 _ ∧ _›)⟩
        | exact ⟨w_307.heap.size, _, _, _, rfl, rfl, Lib.hid (early4 (lo := 0) ((((cells_new w_307 _ _).ext h_308).ext h_309).ext h_310)), Lib.hid (Own.any (own4 tO0 (by have e0 : w_297.drew.heap.size = w_297.heap.size := rfl; simp <;> omega) _ _ _ _) (by simp)), tm0, Lib.hid (And.left ‹Ext w_297 _ ∧ _›)⟩
        | exact ⟨w_297.heap.size, _, _, _, rfl, rfl, Lib.hid (early4 (lo := 0) ((((((cells_new w_297 _ _).ext (Ext.drew (Ext.refl _))).ext h_307).ext h_308).ext h_309).ext h_310)), Lib.hid (Own.any (own4 tO0 (by have e0 : w_297.drew.heap.size = w_297.heap.size := rfl; simp <;> omega) _ _ _ _) (by simp)), tm0, Lib.hid (And.left ‹Ext w_297 _ ∧ _›)⟩)
    case rest =>
      obtain ⟨B0, ta0, tn0, tc0, rfl, rfl, cB0, tO0, tm0, h_311⟩ := hcut
      have hx_311 := h_311.out
      clear h_311
      clear lA0 qA00 qA01 qA02 lA1 qA10 qA11 qA12 qA13 lA2 qA20 qA21 qA22 qA23
      obtain ⟨w_311, rfl⟩ : ∃ wq : World, wq = wc := ⟨_, rfl⟩
      have A0_312 := Lib.hid (A0_298.out.ext hx_311)
      clear A0_298
      have A1_313 := Lib.hid (A1_299.out.ext hx_311)
      clear A1_299
      have A2_314 := Lib.hid (A2_300.out.ext hx_311)
      clear A2_300
      have S0_315 := Lib.hid (S0_301.out.ext hx_311)
      clear S0_301
      have SB0_316 := Lib.hid (SB0_302.out.ext hx_311)
      clear SB0_302
      have GB0_317 := Lib.hid (GB0_303.out.ext hx_311)
      clear GB0_303
      have G0_318 := Lib.hid (G0_304.out.ext hx_311)
      clear G0_304
      have E_319 := Lib.hid (E_305.out.trans hx_311)
      clear E_305
      have z_320 := Ext.le hx_311
      try simp only [World.size_alloc] at z_320
      have Z_320 := Lib.hid z_320
      clear z_320
      clear hx_311
      have htO0 := tO0.out
      clear tO0
      have H0_321 := Lib.hid (htO0)
      clear htO0
      have hcB0 := cB0.out
      clear cB0
      have ZcH0 := Lib.hid hcB0.1
      have HB0_322 := Lib.hid (hcB0)
      clear hcB0
      obtain rfl : sn0 = tn0 := S0_315.out.len.symm.trans H0_321.out.len
      have lHB0 := HB0_322.out.1
      have qHB00 := HB0_322.out.2 0 _ rfl
      have qHB01 := HB0_322.out.2 1 _ rfl
      have qHB02 := HB0_322.out.2 2 _ rfl
      have qHB03 := HB0_322.out.2 3 _ rfl
      have lSB0 := SB0_316.out.1
      have qSB00 := SB0_316.out.2 0 _ rfl
      have qSB01 := SB0_316.out.2 1 _ rfl
      have qSB02 := SB0_316.out.2 2 _ rfl
      have qSB03 := SB0_316.out.2 3 _ rfl
      try simp only [World.size_alloc] at lHB0 lSB0
      go_wp2_with fail
      refine (eqMatrix_law _ _ _ _ _ _ _ _ d0 _ H0_321.out.reads S0_315.out.reads gm0).mono ?_
      rintro e w_323 ⟨rfl, h_323⟩
      clear lHB0 qHB00 qHB01 qHB02 qHB03 lSB0 qSB00 qSB01 qSB02 qSB03
      have A0_324 := Lib.hid (A0_312.out.ext h_323)
      clear A0_312
      have A1_325 := Lib.hid (A1_313.out.ext h_323)
      clear A1_313
      have A2_326 := Lib.hid (A2_314.out.ext h_323)
      clear A2_314
      have S0_327 := Lib.hid (S0_315.out.ext h_323)
      clear S0_315
      have SB0_328 := Lib.hid (SB0_316.out.ext h_323)
      clear SB0_316
      have GB0_329 := Lib.hid (GB0_317.out.ext h_323)
      clear GB0_317
      have G0_330 := Lib.hid (G0_318.out.ext h_323)
      clear G0_318
      have H0_331 := Lib.hid (H0_321.out.ext h_323)
      clear H0_321
      have HB0_332 := Lib.hid (HB0_322.out.ext h_323)
      clear HB0_322
      have E_333 := Lib.hid (E_319.out.trans h_323)
      clear E_319
      have z_334 := Ext.le h_323
      try simp only [World.size_alloc] at z_334
      have Z_334 := Lib.hid z_334
      clear z_334
      clear h_323
      have lGB0 := GB0_329.out.1
      have qGB00 := GB0_329.out.2 0 _ rfl
      have qGB01 := GB0_329.out.2 1 _ rfl
      have qGB02 := GB0_329.out.2 2 _ rfl
      have qGB03 := GB0_329.out.2 3 _ rfl
      try simp only [World.size_alloc] at lGB0
      go_wp2_with fail
      refine (heldMatrix_law _ _ _ _ _ _ _ _ G0_330.out.reads gm0 (by omega) (by omega)).mono ?_
      rintro e w_335 ⟨rfl, h_335⟩
      clear lGB0 qGB00 qGB01 qGB02 qGB03
      have hq335 : 0 ≤ 1 + (sn0 : Int) := by omega
      have A0_336 := Lib.hid (A0_324.out.ext h_335)
      clear A0_324
      have A1_337 := Lib.hid (A1_325.out.ext h_335)
      clear A1_325
      have A2_338 := Lib.hid (A2_326.out.ext h_335)
      clear A2_326
      have S0_339 := Lib.hid (S0_327.out.ext h_335)
      clear S0_327
      have SB0_340 := Lib.hid (SB0_328.out.ext h_335)
      clear SB0_328
      have GB0_341 := Lib.hid (GB0_329.out.ext h_335)
      clear GB0_329
      have G0_342 := Lib.hid (G0_330.out.ext h_335)
      clear G0_330
      have H0_343 := Lib.hid (H0_331.out.ext h_335)
      clear H0_331
      have HB0_344 := Lib.hid (HB0_332.out.ext h_335)
      clear HB0_332
      have E_345 := Lib.hid (E_333.out.trans h_335)
      clear E_333
      have z_346 := Ext.le h_335
      try simp only [World.size_alloc] at z_346
      have Z_346 := Lib.hid z_346
      clear z_346
      clear h_335
      go_wp2
      go_ret
      exact ⟨rfl, E_345.out⟩

set_option maxRecDepth 100000 in
theorem lifted (os : Os) (started : os.Started) (H : Type) (enc : TypeId × Value → H) :
    ReturnsInHanded {} Try.checked os 6 .any (Rows.fnExactOrthogonalOfSpec.pre6 enc Try.prog Try.f6 Rows.fnExactOrthogonalOfRow.domain false) (Rows.fnExactOrthogonalOfSpec.post enc Try.prog Try.f6 false true false false) := by
  refine returnsInHanded_of_change (C := Try.checked) own started (by kernel_rfl) Try.func6
    (ChangeSpec.witness6 (enc := enc) (C := Try.checked) false ⟨#[], #[.agg #[.int .i64 0, .int .i64 0, .slice none 0 0], .agg #[.int .i64 0, .int .i64 0, .int .i64 0, .slice none 0 0], .agg #[.int .i64 0, .int .i64 0, .int .i64 0, .slice none 0 0]], []⟩ 8 (by kernel_rfl) (by kernel_rfl) (by kernel_rfl) (by kernel_rfl)) ?_
  intro W base args ds gs before hval0 hW hcnd _
  have hval : ∀ (j : Nat) t v, Try.f6.params[j]? = some t → args[j]? = some v → Value.okWide Try.prog W .any base t v := hval0
  have hW' := hW
  obtain ⟨p, q, hA0, hV, rfl, hfz, hnd⟩ := hW
  have hA : DataW.TrodAll enc Try.prog W 0 (fun _ => true) true Try.f6.params.toList args.toList ds p := hA0
  rw [Try.params6] at hA hval
  obtain ⟨v0, vs0, d0, ds0, p0, q0, hargs, rfl, rfl, h0, r0⟩ := trodAll_cons hA
  obtain ⟨v1, vs1, d1, ds1, p1, q1, rfl, rfl, rfl, h1, r1⟩ := trodAll_cons r0
  obtain ⟨v2, vs2, d2, ds2, p2, q2, rfl, rfl, rfl, h2, r2⟩ := trodAll_cons r1
  obtain ⟨rfl, rfl, rfl⟩ := trodAll_nil r2
  obtain rfl : args = #[v0, v1, v2] := by cases args; simp_all
  obtain ⟨rfl, rfl⟩ := trodVars_none hV
  have k0 := h0
  have lt0 : ∀ x ∈ p0, x.block < W.heap.size := by obtain ⟨m, hm⟩ := k0; exact DataW.trod_lt m _ _ _ hm
  obtain ⟨P0, D0, a0, n0, c0, xs0, rfl, w0⟩ := open_alg (hval 0 _ v0 rfl rfl) h0
  have k1 := h1
  have lt1 : ∀ x ∈ p1, x.block < W.heap.size := by obtain ⟨m, hm⟩ := k1; exact DataW.trod_lt m _ _ _ hm
  obtain ⟨P1, R1, C1, a1, n1, c1, xs1, rfl, w1⟩ := open_mat (hval 1 _ v1 rfl rfl) h1
  have k2 := h2
  have lt2 : ∀ x ∈ p2, x.block < W.heap.size := by obtain ⟨m, hm⟩ := k2; exact DataW.trod_lt m _ _ _ hm
  obtain ⟨P2, R2, C2, a2, n2, c2, xs2, rfl, w2⟩ := open_mat (hval 2 _ v2 rfl rfl) h2
  clear hA0 hval0
  refine (walk P0 D0 a0 n0 c0 xs0 P1 R1 C1 a1 n1 c1 xs1 P2 R2 C2 a2 n2 c2 xs2 W w0 w1 w2).mono fun e W' ⟨he, bel⟩ => ?_
  subst he
  exact ⟨_, rfl, _, _, _, [], _, [], hW', trodAll_mk1 (shut_bool Try.underlying4 _), (trodAll_cons_mk (Below.trod laidOut (by kernel_rfl) (of_decide_eq_true (by kernel_rfl)) k0 bel lt0) (trodAll_cons_mk (Below.trod laidOut (by kernel_rfl) (of_decide_eq_true (by kernel_rfl)) k1 bel lt1) (trodAll_cons_mk (Below.trod laidOut (by kernel_rfl) (of_decide_eq_true (by kernel_rfl)) k2 bel lt2) trodAll_mk0))), rfl, Below.frame bel _, fun h => by cases h⟩

theorem over : Rows.fnExactOrthogonalOfRow.holds Try.pinned (OpenSpec.ofChange Rows.fnExactOrthogonalOfSpec) :=
  OpenClaim.holds_of_wide 6 Try.f6 rfl rfl rfl rfl rfl rfl rfl ⟨rfl, rfl, rfl, rfl, rfl⟩ rfl rfl rfl rfl rfl (by kernel_rfl) Try.func6 (by kernel_rfl)
    (of_decide_eq_true (by kernel_rfl)) (by unfold Func.isWrapper; first | (rw [if_pos (by decide +kernel)]; kernel_rfl) | (rw [if_neg (by decide +kernel)]; exact ⟨rfl, rfl⟩))
    (fun os started H enc _ => lifted os started H enc)

/-- The statement. -/
theorem proved : Rows.FnExactOrthogonalOfSaid := over
#print axioms proved
end Go.Proofs.Ytgmipolgnpjmnaa.fnExactOrthogonalOf
