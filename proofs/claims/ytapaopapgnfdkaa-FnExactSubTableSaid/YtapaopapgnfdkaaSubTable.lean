/-
  Proved: the statement given for the law FnExactSubTable: at every input the Go text returns true, with no panic, and the arguments read as they read before. No condition is added.
-/
import Derived.Test.YtapaopapgnfdkaaFr
import Derived.Test.YtapaopapgnfdkaaStS
import Derived.Test.YtapaopapgnfdkaaSeatF
namespace Go.Proofs.Ytapaopapgnfdkaa.fnExactSubTable
open Go.ChangeShapes Go.WideShapes Go.ChangeAt Go.RowKit
open Go.ChangeMaps (open_string shut_string)
set_option linter.unusedVariables false

set_option maxRecDepth 100000 in
set_option maxHeartbeats 3200000 in
/-- The walk: the Go text returns true, and nothing that was there has changed. -/
theorem walk (P0 D0 : Int) (a0 : Option Addr) (n0 c0 : Nat) (xs0 : List Int) (P1 R1 C1 : Int) (a1 : Option Addr) (n1 c1 : Nat) (xs1 : List Int) (w : World) (w0 : Reads w a0 n0 xs0 ∧ n0 ≤ maxLen) (w1 : Reads w a1 n1 xs1 ∧ n1 ≤ maxLen) :
    Calls Try.prog 10 #[.agg #[.int .i64 P0, .int .i64 D0, .slice a0 n0 c0], .agg #[.int .i64 P1, .int .i64 R1, .int .i64 C1, .slice a1 n1 c1]] w fun e w' => e = .returned (.bool true) ∧ Ext w w' := by
  obtain ⟨hr0, hm0⟩ := w0
  have HR0 := Lib.hid hr0
  clear hr0
  obtain ⟨hr1, hm1⟩ := w1
  have HR1 := Lib.hid hr1
  clear hr1
  rcases hM0 : stM P0 D0 xs0 P1 R1 C1 xs1 with ⟨⟨pP0, pD0, d0⟩, i1⟩
  have hM := Lib.hid hM0
  clear hM0
  by_cases hz0 : (n0 : Int) ≤ 1048576
  case neg =>
    go_enter Try.func10, Try.ntmps10
    have T0 := cells_new' w #[.int .i64 P0, .int .i64 D0, .slice a0 n0 c0] 24 (w.heap.size) (by simp)
    have T1 := cells_new' (w.alloc (.cells #[.int .i64 P0, .int .i64 D0, .slice a0 n0 c0] 24)) #[.int .i64 P1, .int .i64 R1, .int .i64 C1, .slice a1 n1 c1] 36 (w.heap.size + 1) (by simp)
    have A0_1 := Lib.hid (T0.ext ((Ext.refl _).alloc (.cells #[.int .i64 P1, .int .i64 R1, .int .i64 C1, .slice a1 n1 c1] 36)))
    clear T0
    have A1_2 := Lib.hid (T1.ext (Ext.refl _))
    clear T1
    have E_3 := Lib.hid (((Ext.refl w).alloc (.cells #[.int .i64 P0, .int .i64 D0, .slice a0 n0 c0] 24)).alloc (.cells #[.int .i64 P1, .int .i64 R1, .int .i64 C1, .slice a1 n1 c1] 36))
    have lA0 := A0_1.out.1
    have qA00 := A0_1.out.2 0 _ rfl
    have qA01 := A0_1.out.2 1 _ rfl
    have qA02 := A0_1.out.2 2 _ rfl
    try simp only [World.size_alloc] at lA0
    go_wp2_with fail
    refine (szAlgebra_no _ _ _ _ _ _ _ (by omega) (by omega) hm0 (by omega)).mono ?_
    rintro e w_4 ⟨rfl, h_4⟩
    clear lA0 qA00 qA01 qA02
    go_wp2
    go_ret
    exact ⟨rfl, E_3.out.trans h_4⟩
  by_cases hz1 : (n0 : Int) + (n1 : Int) ≤ 1048576
  case neg =>
    go_enter Try.func10, Try.ntmps10
    have T0 := cells_new' w #[.int .i64 P0, .int .i64 D0, .slice a0 n0 c0] 24 (w.heap.size) (by simp)
    have T1 := cells_new' (w.alloc (.cells #[.int .i64 P0, .int .i64 D0, .slice a0 n0 c0] 24)) #[.int .i64 P1, .int .i64 R1, .int .i64 C1, .slice a1 n1 c1] 36 (w.heap.size + 1) (by simp)
    have A0_5 := Lib.hid (T0.ext ((Ext.refl _).alloc (.cells #[.int .i64 P1, .int .i64 R1, .int .i64 C1, .slice a1 n1 c1] 36)))
    clear T0
    have A1_6 := Lib.hid (T1.ext (Ext.refl _))
    clear T1
    have E_7 := Lib.hid (((Ext.refl w).alloc (.cells #[.int .i64 P0, .int .i64 D0, .slice a0 n0 c0] 24)).alloc (.cells #[.int .i64 P1, .int .i64 R1, .int .i64 C1, .slice a1 n1 c1] 36))
    have lA0 := A0_5.out.1
    have qA00 := A0_5.out.2 0 _ rfl
    have qA01 := A0_5.out.2 1 _ rfl
    have qA02 := A0_5.out.2 2 _ rfl
    try simp only [World.size_alloc] at lA0
    go_wp2_with fail
    refine (szAlgebra_yes _ _ _ _ _ _ _ (by omega) (by omega)).mono ?_
    rintro e w_8 ⟨rfl, h_8⟩
    clear lA0 qA00 qA01 qA02
    have A0_9 := Lib.hid (A0_5.out.ext h_8)
    clear A0_5
    have A1_10 := Lib.hid (A1_6.out.ext h_8)
    clear A1_6
    have E_11 := Lib.hid (E_7.out.trans h_8)
    clear E_7
    have z_12 := Ext.le h_8
    try simp only [World.size_alloc] at z_12
    have Z_12 := Lib.hid z_12
    clear z_12
    clear h_8
    have hp1 : 0 ≤ 1048576 - (n0 : Int) := by omega
    have lA1 := A1_10.out.1
    have qA10 := A1_10.out.2 0 _ rfl
    have qA11 := A1_10.out.2 1 _ rfl
    have qA12 := A1_10.out.2 2 _ rfl
    have qA13 := A1_10.out.2 3 _ rfl
    try simp only [World.size_alloc] at lA1
    go_wp2_with fail
    refine (szMatrix_no _ _ _ _ _ _ _ _ (by omega) (by omega) hm1 (by omega)).mono ?_
    rintro e w_13 ⟨rfl, h_13⟩
    clear lA1 qA10 qA11 qA12 qA13
    go_wp2
    go_ret
    exact ⟨rfl, E_11.out.trans h_13⟩
  have hn0 : n0 ≤ 1048576 := by omega
  have hn1 : n1 ≤ 1048576 := by omega
  go_enter Try.func10, Try.ntmps10
  have T0 := cells_new' w #[.int .i64 P0, .int .i64 D0, .slice a0 n0 c0] 24 (w.heap.size) (by simp)
  have T1 := cells_new' (w.alloc (.cells #[.int .i64 P0, .int .i64 D0, .slice a0 n0 c0] 24)) #[.int .i64 P1, .int .i64 R1, .int .i64 C1, .slice a1 n1 c1] 36 (w.heap.size + 1) (by simp)
  have A0_14 := Lib.hid (T0.ext ((Ext.refl _).alloc (.cells #[.int .i64 P1, .int .i64 R1, .int .i64 C1, .slice a1 n1 c1] 36)))
  clear T0
  have A1_15 := Lib.hid (T1.ext (Ext.refl _))
  clear T1
  have E_16 := Lib.hid (((Ext.refl w).alloc (.cells #[.int .i64 P0, .int .i64 D0, .slice a0 n0 c0] 24)).alloc (.cells #[.int .i64 P1, .int .i64 R1, .int .i64 C1, .slice a1 n1 c1] 36))
  have lA0 := A0_14.out.1
  have qA00 := A0_14.out.2 0 _ rfl
  have qA01 := A0_14.out.2 1 _ rfl
  have qA02 := A0_14.out.2 2 _ rfl
  try simp only [World.size_alloc] at lA0
  go_wp2_with fail
  refine (szAlgebra_yes _ _ _ _ _ _ _ (by omega) (by omega)).mono ?_
  rintro e w_17 ⟨rfl, h_17⟩
  clear lA0 qA00 qA01 qA02
  have A0_18 := Lib.hid (A0_14.out.ext h_17)
  clear A0_14
  have A1_19 := Lib.hid (A1_15.out.ext h_17)
  clear A1_15
  have E_20 := Lib.hid (E_16.out.trans h_17)
  clear E_16
  have z_21 := Ext.le h_17
  try simp only [World.size_alloc] at z_21
  have Z_21 := Lib.hid z_21
  clear z_21
  clear h_17
  have hp1 : 0 ≤ 1048576 - (n0 : Int) := by omega
  have lA1 := A1_19.out.1
  have qA10 := A1_19.out.2 0 _ rfl
  have qA11 := A1_19.out.2 1 _ rfl
  have qA12 := A1_19.out.2 2 _ rfl
  have qA13 := A1_19.out.2 3 _ rfl
  try simp only [World.size_alloc] at lA1
  go_wp2_with fail
  refine (szMatrix_yes _ _ _ _ _ _ _ _ (by omega) (by omega)).mono ?_
  rintro e w_22 ⟨rfl, h_22⟩
  clear lA1 qA10 qA11 qA12 qA13
  have A0_23 := Lib.hid (A0_18.out.ext h_22)
  clear A0_18
  have A1_24 := Lib.hid (A1_19.out.ext h_22)
  clear A1_19
  have E_25 := Lib.hid (E_20.out.trans h_22)
  clear E_20
  have z_26 := Ext.le h_22
  try simp only [World.size_alloc] at z_26
  have Z_26 := Lib.hid z_26
  clear z_26
  clear h_22
  have hp : 0 ≤ 1048576 - (n0 : Int) - (n1 : Int) := by omega
  have lA0 := A0_23.out.1
  have qA00 := A0_23.out.2 0 _ rfl
  have qA01 := A0_23.out.2 1 _ rfl
  have qA02 := A0_23.out.2 2 _ rfl
  have lA1 := A1_24.out.1
  have qA10 := A1_24.out.2 0 _ rfl
  have qA11 := A1_24.out.2 1 _ rfl
  have qA12 := A1_24.out.2 2 _ rfl
  have qA13 := A1_24.out.2 3 _ rfl
  try simp only [World.size_alloc] at lA0 lA1
  go_upto_region 8 with fail
  go_cut [6, 7] (fun s0 s1 wx => ∃ B0 sa0 sn0 sc0, s0 = .pointer (some ⟨B0, 0, none⟩) ∧ s1 = .bool i1 ∧ Hid (Cells wx B0 [.int .i64 pP0, .int .i64 pD0, .slice sa0 sn0 sc0]) ∧ Hid (Own wx 0 wx.heap.size sa0 sn0 d0) ∧ sn0 ≤ 1048576 ∧ Hid (Ext w_22 wx))
  case first =>
    go_region_held3 (fun w' => Ext w_22 w' ∧ (∀ b o, b < w_22.heap.size → w'.cell? ⟨b, o, none⟩ = w_22.cell? ⟨b, o, none⟩)) (first | (with_reducible exact ext2 (Ext.trans (And.left ‹Ext w_22 _ ∧ _›) ‹Ext _ _›)) | (refine ext2 ?_; with_reducible repeat (first | exact Ext.refl _ | exact And.left ‹Ext w_22 _ ∧ _› | exact ((((Ext.refl _).drew).trans h_27).trans h_28).trans h_29 | refine Ext.drew ?_ | refine Ext.alloc ?_ _ | refine Ext.setCell ?_ (by have e0 : w_22.drew.heap.size = w_22.heap.size := rfl; simp <;> omega) _))) (first
      | (go_at_call_of 17 (Value.slice a0 n0 c0); refine (toAlgebra_law _ _ _ _ _ xs0 _ (HR0.out.ext (E_25.out.trans (And.left ‹Ext w_22 _ ∧ _›))) hn0).mono ?_; rintro e w_27 ⟨b_27, rfl, o_27, h_27⟩; have c_27 := h_27.cells; have f_27 := h_27.frees; have y_27 := h_27.le; have x_27 := fun k hk => Nat.lt_of_lt_of_le (n := k) hk h_27.le; (try simp only [World.size_drew] at y_27 x_27); (try simp only [World.size_alloc] at y_27 x_27); (try simp only [Nat.add_one_le_iff] at y_27))
      | (go_at_call_of 26 (Value.slice a1 n1 c1); refine (toMatrix_law _ _ _ _ _ _ xs1 _ (HR1.out.ext (E_25.out.trans (And.left ‹Ext w_22 _ ∧ _›))) hn1).mono ?_; rintro e w_28 ⟨b_28, rfl, o_28, h_28⟩; have c_28 := h_28.cells; have f_28 := h_28.frees; have y_28 := h_28.le; have x_28 := fun k hk => Nat.lt_of_lt_of_le (n := k) hk h_28.le; (try simp only [World.size_drew] at y_28 x_28); (try simp only [World.size_alloc] at y_28 x_28); (try simp only [Nat.add_one_le_iff] at y_28))
      | (go_at_call 45; refine (subTable_spec (Own.reads (Own.ext o_27 (by with_reducible first | exact ((Ext.refl _).trans h_28) | exact Ext.alloc ((Ext.refl _).trans h_28) _ | exact ((Ext.alloc (Ext.refl _) _).trans h_28)))) hn0 (Own.reads (Own.ext o_28 (by with_reducible first | exact Ext.refl _ | exact Ext.alloc (Ext.refl _) _))) hn1 hM.out).mono ?_; rintro e w_29 ⟨v0, rfl, ⟨sa0, sn0, sc0, rfl, sO0, sm0⟩, h_29⟩; have c_29 := h_29.cells; have f_29 := h_29.frees; have y_29 := h_29.le; have x_29 := fun k hk => Nat.lt_of_lt_of_le (n := k) hk h_29.le; (try simp only [World.size_drew] at y_29 x_29); (try simp only [World.size_alloc] at y_29 x_29); (try simp only [Nat.add_one_le_iff] at y_29)))
    all_goals (go_wp2_with fail; go_meet; with_reducible first
      | exact ⟨w_29.heap.size, _, _, _, rfl, rfl, Lib.hid (cells_new w_29 #[.int .i64 pP0, .int .i64 pD0, .slice sa0 sn0 sc0] 28), Lib.hid (Own.any (Own.ext sO0 ((Ext.refl _).alloc _)) (by simp)), sm0, Lib.hid (And.left ‹Ext w_22 _ ∧ _›)⟩
      | exact ⟨w_28.heap.size, _, _, _, rfl, rfl, Lib.hid (early3 (lo := 0) ((cells_new w_28 _ _).ext h_29)), Lib.hid (Own.any (own3 sO0 (by have e0 : w_22.drew.heap.size = w_22.heap.size := rfl; simp <;> omega) _ _ _) (by simp)), sm0, Lib.hid (And.left ‹Ext w_22 _ ∧ _›)⟩
      | exact ⟨w_27.heap.size, _, _, _, rfl, rfl, Lib.hid (early3 (lo := 0) (((cells_new w_27 _ _).ext h_28).ext h_29)), Lib.hid (Own.any (own3 sO0 (by have e0 : w_22.drew.heap.size = w_22.heap.size := rfl; simp <;> omega) _ _ _) (by simp)), sm0, Lib.hid (And.left ‹Ext w_22 _ ∧ _›)⟩
      | exact ⟨w_22.heap.size, _, _, _, rfl, rfl, Lib.hid (early3 (lo := 0) (((((cells_new w_22 _ _).ext (Ext.drew (Ext.refl _))).ext h_27).ext h_28).ext h_29)), Lib.hid (Own.any (own3 sO0 (by have e0 : w_22.drew.heap.size = w_22.heap.size := rfl; simp <;> omega) _ _ _) (by simp)), sm0, Lib.hid (And.left ‹Ext w_22 _ ∧ _›)⟩)
  case rest =>
    obtain ⟨B0, sa0, sn0, sc0, rfl, rfl, cB0, sO0, sm0, h_30⟩ := hcut
    have hx_30 := h_30.out
    clear h_30
    clear lA0 qA00 qA01 qA02 lA1 qA10 qA11 qA12 qA13
    obtain ⟨w_30, rfl⟩ : ∃ wq : World, wq = wc := ⟨_, rfl⟩
    have A0_31 := Lib.hid (A0_23.out.ext hx_30)
    clear A0_23
    have A1_32 := Lib.hid (A1_24.out.ext hx_30)
    clear A1_24
    have E_33 := Lib.hid (E_25.out.trans hx_30)
    clear E_25
    have z_34 := Ext.le hx_30
    try simp only [World.size_alloc] at z_34
    have Z_34 := Lib.hid z_34
    clear z_34
    clear hx_30
    have hsO0 := sO0.out
    clear sO0
    have S0_35 := Lib.hid (hsO0)
    clear hsO0
    have hcB0 := cB0.out
    clear cB0
    have ZcS0 := Lib.hid hcB0.1
    have SB0_36 := Lib.hid (hcB0)
    clear hcB0
    have lA0 := A0_31.out.1
    have qA00 := A0_31.out.2 0 _ rfl
    have qA01 := A0_31.out.2 1 _ rfl
    have qA02 := A0_31.out.2 2 _ rfl
    try simp only [World.size_alloc] at lA0
    go_wp2_with fail
    refine (toAlgebra_law _ _ _ _ _ xs0 _ (HR0.out.ext E_33.out) hn0).mono ?_
    rintro e w_37 ⟨b_37, rfl, o_37, h_37⟩
    clear lA0 qA00 qA01 qA02
    have A0_38 := Lib.hid (A0_31.out.ext h_37)
    clear A0_31
    have A1_39 := Lib.hid (A1_32.out.ext h_37)
    clear A1_32
    have S0_40 := Lib.hid (S0_35.out.ext h_37)
    clear S0_35
    have SB0_41 := Lib.hid (SB0_36.out.ext h_37)
    clear SB0_36
    have E_42 := Lib.hid (E_33.out.trans h_37)
    clear E_33
    have z_43 := Ext.le h_37
    try simp only [World.size_alloc] at z_43
    have Z_43 := Lib.hid z_43
    clear z_43
    try simp only [World.size_alloc] at o_37
    have X0_44 := Lib.hid (o_37)
    clear o_37 h_37
    have P_45 := (Ext.refl w_37).alloc (.cells #[.int .i64 P0, .int .i64 D0, .slice (some ⟨b_37, 0, none⟩) n0 n0] 28)
    have A0_46 := Lib.hid (A0_38.out.ext P_45)
    clear A0_38
    have A1_47 := Lib.hid (A1_39.out.ext P_45)
    clear A1_39
    have S0_48 := Lib.hid (S0_40.out.ext P_45)
    clear S0_40
    have SB0_49 := Lib.hid (SB0_41.out.ext P_45)
    clear SB0_41
    have X0_50 := Lib.hid (X0_44.out.ext P_45)
    clear X0_44
    have E_51 := Lib.hid (E_42.out.trans P_45)
    clear E_42
    clear P_45
    have XB0_52 := Lib.hid (cells_new w_37 #[.int .i64 P0, .int .i64 D0, .slice (some ⟨b_37, 0, none⟩) n0 n0] 28)
    have lA1 := A1_47.out.1
    have qA10 := A1_47.out.2 0 _ rfl
    have qA11 := A1_47.out.2 1 _ rfl
    have qA12 := A1_47.out.2 2 _ rfl
    have qA13 := A1_47.out.2 3 _ rfl
    try simp only [World.size_alloc] at lA1
    go_wp2_with fail
    refine (toMatrix_law _ _ _ _ _ _ xs1 _ (HR1.out.ext E_51.out) hn1).mono ?_
    rintro e w_53 ⟨b_53, rfl, o_53, h_53⟩
    clear lA1 qA10 qA11 qA12 qA13
    have A0_54 := Lib.hid (A0_46.out.ext h_53)
    clear A0_46
    have A1_55 := Lib.hid (A1_47.out.ext h_53)
    clear A1_47
    have S0_56 := Lib.hid (S0_48.out.ext h_53)
    clear S0_48
    have SB0_57 := Lib.hid (SB0_49.out.ext h_53)
    clear SB0_49
    have X0_58 := Lib.hid (X0_50.out.ext h_53)
    clear X0_50
    have XB0_59 := Lib.hid (XB0_52.out.ext h_53)
    clear XB0_52
    have E_60 := Lib.hid (E_51.out.trans h_53)
    clear E_51
    have z_61 := Ext.le h_53
    try simp only [World.size_alloc] at z_61
    have Z_61 := Lib.hid z_61
    clear z_61
    try simp only [World.size_alloc] at o_53
    have X1_62 := Lib.hid (o_53)
    clear o_53 h_53
    have P_63 := (Ext.refl w_53).alloc (.cells #[.int .i64 P1, .int .i64 R1, .int .i64 C1, .slice (some ⟨b_53, 0, none⟩) n1 n1] 40)
    have A0_64 := Lib.hid (A0_54.out.ext P_63)
    clear A0_54
    have A1_65 := Lib.hid (A1_55.out.ext P_63)
    clear A1_55
    have S0_66 := Lib.hid (S0_56.out.ext P_63)
    clear S0_56
    have SB0_67 := Lib.hid (SB0_57.out.ext P_63)
    clear SB0_57
    have X0_68 := Lib.hid (X0_58.out.ext P_63)
    clear X0_58
    have XB0_69 := Lib.hid (XB0_59.out.ext P_63)
    clear XB0_59
    have X1_70 := Lib.hid (X1_62.out.ext P_63)
    clear X1_62
    have E_71 := Lib.hid (E_60.out.trans P_63)
    clear E_60
    clear P_63
    have XB1_72 := Lib.hid (cells_new w_53 #[.int .i64 P1, .int .i64 R1, .int .i64 C1, .slice (some ⟨b_53, 0, none⟩) n1 n1] 40)
    have lXB0 := XB0_69.out.1
    have qXB00 := XB0_69.out.2 0 _ rfl
    have qXB01 := XB0_69.out.2 1 _ rfl
    have qXB02 := XB0_69.out.2 2 _ rfl
    have lXB1 := XB1_72.out.1
    have qXB10 := XB1_72.out.2 0 _ rfl
    have qXB11 := XB1_72.out.2 1 _ rfl
    have qXB12 := XB1_72.out.2 2 _ rfl
    have qXB13 := XB1_72.out.2 3 _ rfl
    try simp only [World.size_alloc] at lXB0 lXB1
    go_wp2_with fail
    refine (subTable_impl X0_68.out.reads hn0 X1_70.out.reads hn1 hM.out).mono ?_
    rintro e w_73 ⟨v0, rfl, ⟨ga0, gn0, gc0, rfl, gO0, gm0⟩, h_73⟩
    clear lXB0 qXB00 qXB01 qXB02 lXB1 qXB10 qXB11 qXB12 qXB13
    have A0_74 := Lib.hid (A0_64.out.ext h_73)
    clear A0_64
    have A1_75 := Lib.hid (A1_65.out.ext h_73)
    clear A1_65
    have S0_76 := Lib.hid (S0_66.out.ext h_73)
    clear S0_66
    have SB0_77 := Lib.hid (SB0_67.out.ext h_73)
    clear SB0_67
    have X0_78 := Lib.hid (X0_68.out.ext h_73)
    clear X0_68
    have XB0_79 := Lib.hid (XB0_69.out.ext h_73)
    clear XB0_69
    have X1_80 := Lib.hid (X1_70.out.ext h_73)
    clear X1_70
    have XB1_81 := Lib.hid (XB1_72.out.ext h_73)
    clear XB1_72
    have E_82 := Lib.hid (E_71.out.trans h_73)
    clear E_71
    have z_83 := Ext.le h_73
    try simp only [World.size_alloc] at z_83
    have Z_83 := Lib.hid z_83
    clear z_83
    clear h_73
    try simp only [World.size_alloc] at gO0
    have G0_84 := Lib.hid (gO0)
    clear gO0
    have P_85 := (Ext.refl w_73).alloc (.cells #[.int .i64 pP0, .int .i64 pD0, .slice ga0 gn0 gc0] 28)
    have A0_86 := Lib.hid (A0_74.out.ext P_85)
    clear A0_74
    have A1_87 := Lib.hid (A1_75.out.ext P_85)
    clear A1_75
    have S0_88 := Lib.hid (S0_76.out.ext P_85)
    clear S0_76
    have SB0_89 := Lib.hid (SB0_77.out.ext P_85)
    clear SB0_77
    have X0_90 := Lib.hid (X0_78.out.ext P_85)
    clear X0_78
    have XB0_91 := Lib.hid (XB0_79.out.ext P_85)
    clear XB0_79
    have X1_92 := Lib.hid (X1_80.out.ext P_85)
    clear X1_80
    have XB1_93 := Lib.hid (XB1_81.out.ext P_85)
    clear XB1_81
    have G0_94 := Lib.hid (G0_84.out.ext P_85)
    clear G0_84
    have E_95 := Lib.hid (E_82.out.trans P_85)
    clear E_82
    clear P_85
    have GB0_96 := Lib.hid (cells_new w_73 #[.int .i64 pP0, .int .i64 pD0, .slice ga0 gn0 gc0] 28)
    obtain rfl : sn0 = gn0 := S0_88.out.len.symm.trans G0_94.out.len
    have lGB0 := GB0_96.out.1
    have qGB00 := GB0_96.out.2 0 _ rfl
    have qGB01 := GB0_96.out.2 1 _ rfl
    have qGB02 := GB0_96.out.2 2 _ rfl
    have lSB0 := SB0_89.out.1
    have qSB00 := SB0_89.out.2 0 _ rfl
    have qSB01 := SB0_89.out.2 1 _ rfl
    have qSB02 := SB0_89.out.2 2 _ rfl
    try simp only [World.size_alloc] at lGB0 lSB0
    go_wp2_with fail
    refine (eqAlgebra_law _ _ _ _ _ _ _ d0 _ G0_94.out.reads S0_88.out.reads gm0).mono ?_
    rintro e w_97 ⟨rfl, h_97⟩
    clear lGB0 qGB00 qGB01 qGB02 lSB0 qSB00 qSB01 qSB02
    have A0_98 := Lib.hid (A0_86.out.ext h_97)
    clear A0_86
    have A1_99 := Lib.hid (A1_87.out.ext h_97)
    clear A1_87
    have S0_100 := Lib.hid (S0_88.out.ext h_97)
    clear S0_88
    have SB0_101 := Lib.hid (SB0_89.out.ext h_97)
    clear SB0_89
    have X0_102 := Lib.hid (X0_90.out.ext h_97)
    clear X0_90
    have XB0_103 := Lib.hid (XB0_91.out.ext h_97)
    clear XB0_91
    have X1_104 := Lib.hid (X1_92.out.ext h_97)
    clear X1_92
    have XB1_105 := Lib.hid (XB1_93.out.ext h_97)
    clear XB1_93
    have G0_106 := Lib.hid (G0_94.out.ext h_97)
    clear G0_94
    have GB0_107 := Lib.hid (GB0_96.out.ext h_97)
    clear GB0_96
    have E_108 := Lib.hid (E_95.out.trans h_97)
    clear E_95
    have z_109 := Ext.le h_97
    try simp only [World.size_alloc] at z_109
    have Z_109 := Lib.hid z_109
    clear z_109
    clear h_97
    have lXB0 := XB0_103.out.1
    have qXB00 := XB0_103.out.2 0 _ rfl
    have qXB01 := XB0_103.out.2 1 _ rfl
    have qXB02 := XB0_103.out.2 2 _ rfl
    have lA0 := A0_98.out.1
    have qA00 := A0_98.out.2 0 _ rfl
    have qA01 := A0_98.out.2 1 _ rfl
    have qA02 := A0_98.out.2 2 _ rfl
    try simp only [World.size_alloc] at lXB0 lA0
    go_wp2_with fail
    go_region_held3 (fun w' => Ext w_97 w' ∧ (∀ b o, b < w_97.heap.size → w'.cell? ⟨b, o, none⟩ = w_97.cell? ⟨b, o, none⟩)) (first | (with_reducible exact ext2 (Ext.trans (And.left ‹Ext w_97 _ ∧ _›) ‹Ext _ _›)) | (refine ext2 ?_; with_reducible repeat (first | exact Ext.refl _ | refine Ext.drew ?_))) (first
      | (go_at_call 17; refine (toAlgebra_law _ _ _ _ _ xs0 _ (HR0.out.ext (E_108.out.trans (And.left ‹Ext w_97 _ ∧ _›))) hn0).mono ?_; rintro e w_110 ⟨b_110, rfl, o_110, h_110⟩)
      | (go_at_call 20; refine (eqAlgebra_law _ _ _ _ _ _ _ xs0 _ (Own.reads (Own.ext X0_102.out (And.left ‹Ext w_97 _ ∧ _›))) (Own.reads o_110) hn0).mono ?_; rintro e w_111 ⟨rfl, h_111⟩))
    clear lXB0 qXB00 qXB01 qXB02 lA0 qA00 qA01 qA02
    have hx_111 := And.left ‹Ext w_97 w_111 ∧ _›
    try clear h_110 h_111 o_110
    have A0_112 := Lib.hid (A0_98.out.ext hx_111)
    clear A0_98
    have A1_113 := Lib.hid (A1_99.out.ext hx_111)
    clear A1_99
    have S0_114 := Lib.hid (S0_100.out.ext hx_111)
    clear S0_100
    have SB0_115 := Lib.hid (SB0_101.out.ext hx_111)
    clear SB0_101
    have X0_116 := Lib.hid (X0_102.out.ext hx_111)
    clear X0_102
    have XB0_117 := Lib.hid (XB0_103.out.ext hx_111)
    clear XB0_103
    have X1_118 := Lib.hid (X1_104.out.ext hx_111)
    clear X1_104
    have XB1_119 := Lib.hid (XB1_105.out.ext hx_111)
    clear XB1_105
    have G0_120 := Lib.hid (G0_106.out.ext hx_111)
    clear G0_106
    have GB0_121 := Lib.hid (GB0_107.out.ext hx_111)
    clear GB0_107
    have E_122 := Lib.hid (E_108.out.trans hx_111)
    clear E_108
    have z_123 := Ext.le hx_111
    try simp only [World.size_alloc] at z_123
    have Z_123 := Lib.hid z_123
    clear z_123
    clear hx_111
    have lXB1 := XB1_119.out.1
    have qXB10 := XB1_119.out.2 0 _ rfl
    have qXB11 := XB1_119.out.2 1 _ rfl
    have qXB12 := XB1_119.out.2 2 _ rfl
    have qXB13 := XB1_119.out.2 3 _ rfl
    have lA1 := A1_113.out.1
    have qA10 := A1_113.out.2 0 _ rfl
    have qA11 := A1_113.out.2 1 _ rfl
    have qA12 := A1_113.out.2 2 _ rfl
    have qA13 := A1_113.out.2 3 _ rfl
    try simp only [World.size_alloc] at lXB1 lA1
    go_wp2_with fail
    go_region_held3 (fun w' => Ext w_111 w' ∧ (∀ b o, b < w_111.heap.size → w'.cell? ⟨b, o, none⟩ = w_111.cell? ⟨b, o, none⟩)) (first | (with_reducible exact ext2 (Ext.trans (And.left ‹Ext w_111 _ ∧ _›) ‹Ext _ _›)) | (refine ext2 ?_; with_reducible repeat (first | exact Ext.refl _ | refine Ext.drew ?_))) (first
      | (go_at_call 26; refine (toMatrix_law _ _ _ _ _ _ xs1 _ (HR1.out.ext (E_122.out.trans (And.left ‹Ext w_111 _ ∧ _›))) hn1).mono ?_; rintro e w_124 ⟨b_124, rfl, o_124, h_124⟩)
      | (go_at_call 28; refine (eqMatrix_law _ _ _ _ _ _ _ _ xs1 _ (Own.reads (Own.ext X1_118.out (And.left ‹Ext w_111 _ ∧ _›))) (Own.reads o_124) hn1).mono ?_; rintro e w_125 ⟨rfl, h_125⟩))
    clear lXB1 qXB10 qXB11 qXB12 qXB13 lA1 qA10 qA11 qA12 qA13
    have hx_125 := And.left ‹Ext w_111 w_125 ∧ _›
    try clear h_124 h_125 o_124
    have A0_126 := Lib.hid (A0_112.out.ext hx_125)
    clear A0_112
    have A1_127 := Lib.hid (A1_113.out.ext hx_125)
    clear A1_113
    have S0_128 := Lib.hid (S0_114.out.ext hx_125)
    clear S0_114
    have SB0_129 := Lib.hid (SB0_115.out.ext hx_125)
    clear SB0_115
    have X0_130 := Lib.hid (X0_116.out.ext hx_125)
    clear X0_116
    have XB0_131 := Lib.hid (XB0_117.out.ext hx_125)
    clear XB0_117
    have X1_132 := Lib.hid (X1_118.out.ext hx_125)
    clear X1_118
    have XB1_133 := Lib.hid (XB1_119.out.ext hx_125)
    clear XB1_119
    have G0_134 := Lib.hid (G0_120.out.ext hx_125)
    clear G0_120
    have GB0_135 := Lib.hid (GB0_121.out.ext hx_125)
    clear GB0_121
    have E_136 := Lib.hid (E_122.out.trans hx_125)
    clear E_122
    have z_137 := Ext.le hx_125
    try simp only [World.size_alloc] at z_137
    have Z_137 := Lib.hid z_137
    clear z_137
    clear hx_125
    have X0_b138 := Lib.hid X0_130.out.blk
    have lXB0 := XB0_131.out.1
    have qXB00 := XB0_131.out.2 0 _ rfl
    have qXB01 := XB0_131.out.2 1 _ rfl
    have qXB02 := XB0_131.out.2 2 _ rfl
    try simp only [World.size_alloc] at lXB0
    go_wp2_with fail
    refine (markAlgebra_law _ _ _ _ _ _ _ _ _ _ X0_130.out hn0 (by omega) (by omega)).mono ?_
    rintro e w_139 ⟨rfl, o_139, g_139⟩
    clear lXB0 qXB00 qXB01 qXB02
    clear X0_130
    have A0_140 := Lib.hid (A0_126.out.grown g_139 (fun k hk => by have := X0_b138.out k hk; have := Z_21.out; have := Z_26.out; have := Z_34.out; have := ZcS0.out; have := Z_43.out; have := Z_61.out; have := Z_83.out; have := Z_109.out; have := Z_123.out; have := Z_137.out; omega))
    clear A0_126
    have A1_141 := Lib.hid (A1_127.out.grown g_139 (fun k hk => by have := X0_b138.out k hk; have := Z_21.out; have := Z_26.out; have := Z_34.out; have := ZcS0.out; have := Z_43.out; have := Z_61.out; have := Z_83.out; have := Z_109.out; have := Z_123.out; have := Z_137.out; omega))
    clear A1_127
    have S0_142 := Lib.hid (S0_128.out.grown g_139 (fun k hk => by have := X0_b138.out k hk; have := Z_21.out; have := Z_26.out; have := Z_34.out; have := ZcS0.out; have := Z_43.out; have := Z_61.out; have := Z_83.out; have := Z_109.out; have := Z_123.out; have := Z_137.out; omega))
    clear S0_128
    have SB0_143 := Lib.hid (SB0_129.out.grown g_139 (fun k hk => by have := X0_b138.out k hk; have := Z_21.out; have := Z_26.out; have := Z_34.out; have := ZcS0.out; have := Z_43.out; have := Z_61.out; have := Z_83.out; have := Z_109.out; have := Z_123.out; have := Z_137.out; omega))
    clear SB0_129
    have XB0_144 := Lib.hid (XB0_131.out.grown g_139 (fun k hk => by have := X0_b138.out k hk; have := Z_21.out; have := Z_26.out; have := Z_34.out; have := ZcS0.out; have := Z_43.out; have := Z_61.out; have := Z_83.out; have := Z_109.out; have := Z_123.out; have := Z_137.out; omega))
    clear XB0_131
    have X1_145 := Lib.hid (X1_132.out.grown g_139 (fun k hk => by have := X0_b138.out k hk; have := Z_21.out; have := Z_26.out; have := Z_34.out; have := ZcS0.out; have := Z_43.out; have := Z_61.out; have := Z_83.out; have := Z_109.out; have := Z_123.out; have := Z_137.out; omega))
    clear X1_132
    have XB1_146 := Lib.hid (XB1_133.out.grown g_139 (fun k hk => by have := X0_b138.out k hk; have := Z_21.out; have := Z_26.out; have := Z_34.out; have := ZcS0.out; have := Z_43.out; have := Z_61.out; have := Z_83.out; have := Z_109.out; have := Z_123.out; have := Z_137.out; omega))
    clear XB1_133
    have G0_147 := Lib.hid (G0_134.out.grown g_139 (fun k hk => by have := X0_b138.out k hk; have := Z_21.out; have := Z_26.out; have := Z_34.out; have := ZcS0.out; have := Z_43.out; have := Z_61.out; have := Z_83.out; have := Z_109.out; have := Z_123.out; have := Z_137.out; omega))
    clear G0_134
    have GB0_148 := Lib.hid (GB0_135.out.grown g_139 (fun k hk => by have := X0_b138.out k hk; have := Z_21.out; have := Z_26.out; have := Z_34.out; have := ZcS0.out; have := Z_43.out; have := Z_61.out; have := Z_83.out; have := Z_109.out; have := Z_123.out; have := Z_137.out; omega))
    clear GB0_135
    have E_149 := Lib.hid (E_136.out.grown g_139 (fun k hk => by have := X0_b138.out k hk; have := Z_21.out; have := Z_26.out; have := Z_34.out; have := ZcS0.out; have := Z_43.out; have := Z_61.out; have := Z_83.out; have := Z_109.out; have := Z_123.out; have := Z_137.out; omega))
    clear E_136
    have Z_150 := Lib.hid g_139.size
    clear g_139 X0_b138
    have X0_151 := Lib.hid (o_139)
    clear o_139
    clear X0_151
    clear XB0_144
    have X1_b152 := Lib.hid X1_145.out.blk
    have lXB1 := XB1_146.out.1
    have qXB10 := XB1_146.out.2 0 _ rfl
    have qXB11 := XB1_146.out.2 1 _ rfl
    have qXB12 := XB1_146.out.2 2 _ rfl
    have qXB13 := XB1_146.out.2 3 _ rfl
    try simp only [World.size_alloc] at lXB1
    go_wp2_with fail
    refine (markMatrix_law _ _ _ _ _ _ _ _ _ _ _ X1_145.out hn1 (by omega) (by omega)).mono ?_
    rintro e w_153 ⟨rfl, o_153, g_153⟩
    clear lXB1 qXB10 qXB11 qXB12 qXB13
    clear X1_145
    have A0_154 := Lib.hid (A0_140.out.grown g_153 (fun k hk => by have := X1_b152.out k hk; have := Z_21.out; have := Z_26.out; have := Z_34.out; have := ZcS0.out; have := Z_43.out; have := Z_61.out; have := Z_83.out; have := Z_109.out; have := Z_123.out; have := Z_137.out; have := Z_150.out; omega))
    clear A0_140
    have A1_155 := Lib.hid (A1_141.out.grown g_153 (fun k hk => by have := X1_b152.out k hk; have := Z_21.out; have := Z_26.out; have := Z_34.out; have := ZcS0.out; have := Z_43.out; have := Z_61.out; have := Z_83.out; have := Z_109.out; have := Z_123.out; have := Z_137.out; have := Z_150.out; omega))
    clear A1_141
    have S0_156 := Lib.hid (S0_142.out.grown g_153 (fun k hk => by have := X1_b152.out k hk; have := Z_21.out; have := Z_26.out; have := Z_34.out; have := ZcS0.out; have := Z_43.out; have := Z_61.out; have := Z_83.out; have := Z_109.out; have := Z_123.out; have := Z_137.out; have := Z_150.out; omega))
    clear S0_142
    have SB0_157 := Lib.hid (SB0_143.out.grown g_153 (fun k hk => by have := X1_b152.out k hk; have := Z_21.out; have := Z_26.out; have := Z_34.out; have := ZcS0.out; have := Z_43.out; have := Z_61.out; have := Z_83.out; have := Z_109.out; have := Z_123.out; have := Z_137.out; have := Z_150.out; omega))
    clear SB0_143
    have XB1_158 := Lib.hid (XB1_146.out.grown g_153 (fun k hk => by have := X1_b152.out k hk; have := Z_21.out; have := Z_26.out; have := Z_34.out; have := ZcS0.out; have := Z_43.out; have := Z_61.out; have := Z_83.out; have := Z_109.out; have := Z_123.out; have := Z_137.out; have := Z_150.out; omega))
    clear XB1_146
    have G0_159 := Lib.hid (G0_147.out.grown g_153 (fun k hk => by have := X1_b152.out k hk; have := Z_21.out; have := Z_26.out; have := Z_34.out; have := ZcS0.out; have := Z_43.out; have := Z_61.out; have := Z_83.out; have := Z_109.out; have := Z_123.out; have := Z_137.out; have := Z_150.out; omega))
    clear G0_147
    have GB0_160 := Lib.hid (GB0_148.out.grown g_153 (fun k hk => by have := X1_b152.out k hk; have := Z_21.out; have := Z_26.out; have := Z_34.out; have := ZcS0.out; have := Z_43.out; have := Z_61.out; have := Z_83.out; have := Z_109.out; have := Z_123.out; have := Z_137.out; have := Z_150.out; omega))
    clear GB0_148
    have E_161 := Lib.hid (E_149.out.grown g_153 (fun k hk => by have := X1_b152.out k hk; have := Z_21.out; have := Z_26.out; have := Z_34.out; have := ZcS0.out; have := Z_43.out; have := Z_61.out; have := Z_83.out; have := Z_109.out; have := Z_123.out; have := Z_137.out; have := Z_150.out; omega))
    clear E_149
    have Z_162 := Lib.hid g_153.size
    clear g_153 X1_b152
    have X1_163 := Lib.hid (o_153)
    clear o_153
    clear X1_163
    clear XB1_158
    have hk : 0 ≤ 1 + (n0 : Int) + (n1 : Int) := by omega
    have lGB0 := GB0_160.out.1
    have qGB00 := GB0_160.out.2 0 _ rfl
    have qGB01 := GB0_160.out.2 1 _ rfl
    have qGB02 := GB0_160.out.2 2 _ rfl
    have lSB0 := SB0_157.out.1
    have qSB00 := SB0_157.out.2 0 _ rfl
    have qSB01 := SB0_157.out.2 1 _ rfl
    have qSB02 := SB0_157.out.2 2 _ rfl
    try simp only [World.size_alloc] at lGB0 lSB0
    go_wp2_with fail
    refine (eqAlgebra_law _ _ _ _ _ _ _ d0 _ G0_159.out.reads S0_156.out.reads gm0).mono ?_
    rintro e w_164 ⟨rfl, h_164⟩
    clear lGB0 qGB00 qGB01 qGB02 lSB0 qSB00 qSB01 qSB02
    have A0_165 := Lib.hid (A0_154.out.ext h_164)
    clear A0_154
    have A1_166 := Lib.hid (A1_155.out.ext h_164)
    clear A1_155
    have S0_167 := Lib.hid (S0_156.out.ext h_164)
    clear S0_156
    have SB0_168 := Lib.hid (SB0_157.out.ext h_164)
    clear SB0_157
    have G0_169 := Lib.hid (G0_159.out.ext h_164)
    clear G0_159
    have GB0_170 := Lib.hid (GB0_160.out.ext h_164)
    clear GB0_160
    have E_171 := Lib.hid (E_161.out.trans h_164)
    clear E_161
    have z_172 := Ext.le h_164
    try simp only [World.size_alloc] at z_172
    have Z_172 := Lib.hid z_172
    clear z_172
    clear h_164
    clear hk
    have G0_b173 := Lib.hid G0_169.out.blk
    have lGB0 := GB0_170.out.1
    have qGB00 := GB0_170.out.2 0 _ rfl
    have qGB01 := GB0_170.out.2 1 _ rfl
    have qGB02 := GB0_170.out.2 2 _ rfl
    try simp only [World.size_alloc] at lGB0
    go_wp2_with fail
    refine (markAlgebra_law _ _ _ _ _ _ _ _ _ _ G0_169.out gm0 (by omega) (by omega)).mono ?_
    rintro e w_174 ⟨rfl, o_174, g_174⟩
    clear lGB0 qGB00 qGB01 qGB02
    clear G0_169
    have A0_175 := Lib.hid (A0_165.out.grown g_174 (fun k hk => by have := G0_b173.out k hk; have := Z_21.out; have := Z_26.out; have := Z_34.out; have := ZcS0.out; have := Z_43.out; have := Z_61.out; have := Z_83.out; have := Z_109.out; have := Z_123.out; have := Z_137.out; have := Z_150.out; have := Z_162.out; have := Z_172.out; omega))
    clear A0_165
    have A1_176 := Lib.hid (A1_166.out.grown g_174 (fun k hk => by have := G0_b173.out k hk; have := Z_21.out; have := Z_26.out; have := Z_34.out; have := ZcS0.out; have := Z_43.out; have := Z_61.out; have := Z_83.out; have := Z_109.out; have := Z_123.out; have := Z_137.out; have := Z_150.out; have := Z_162.out; have := Z_172.out; omega))
    clear A1_166
    have S0_177 := Lib.hid (S0_167.out.grown g_174 (fun k hk => by have := G0_b173.out k hk; have := Z_21.out; have := Z_26.out; have := Z_34.out; have := ZcS0.out; have := Z_43.out; have := Z_61.out; have := Z_83.out; have := Z_109.out; have := Z_123.out; have := Z_137.out; have := Z_150.out; have := Z_162.out; have := Z_172.out; omega))
    clear S0_167
    have SB0_178 := Lib.hid (SB0_168.out.grown g_174 (fun k hk => by have := G0_b173.out k hk; have := Z_21.out; have := Z_26.out; have := Z_34.out; have := ZcS0.out; have := Z_43.out; have := Z_61.out; have := Z_83.out; have := Z_109.out; have := Z_123.out; have := Z_137.out; have := Z_150.out; have := Z_162.out; have := Z_172.out; omega))
    clear SB0_168
    have GB0_179 := Lib.hid (GB0_170.out.grown g_174 (fun k hk => by have := G0_b173.out k hk; have := Z_21.out; have := Z_26.out; have := Z_34.out; have := ZcS0.out; have := Z_43.out; have := Z_61.out; have := Z_83.out; have := Z_109.out; have := Z_123.out; have := Z_137.out; have := Z_150.out; have := Z_162.out; have := Z_172.out; omega))
    clear GB0_170
    have E_180 := Lib.hid (E_171.out.grown g_174 (fun k hk => by have := G0_b173.out k hk; have := Z_21.out; have := Z_26.out; have := Z_34.out; have := ZcS0.out; have := Z_43.out; have := Z_61.out; have := Z_83.out; have := Z_109.out; have := Z_123.out; have := Z_137.out; have := Z_150.out; have := Z_162.out; have := Z_172.out; omega))
    clear E_171
    have Z_181 := Lib.hid g_174.size
    clear g_174 G0_b173
    have G0_182 := Lib.hid (o_174)
    clear o_174
    have lGB0 := GB0_179.out.1
    have qGB00 := GB0_179.out.2 0 _ rfl
    have qGB01 := GB0_179.out.2 1 _ rfl
    have qGB02 := GB0_179.out.2 2 _ rfl
    try simp only [World.size_alloc] at lGB0
    go_wp2_with fail
    refine (heldAlgebra_law _ _ _ _ _ _ _ G0_182.out.reads gm0 (by omega) (by omega)).mono ?_
    rintro e w_183 ⟨rfl, h_183⟩
    clear lGB0 qGB00 qGB01 qGB02
    have hq183 : 0 ≤ 1 + (sn0 : Int) := by omega
    have A0_184 := Lib.hid (A0_175.out.ext h_183)
    clear A0_175
    have A1_185 := Lib.hid (A1_176.out.ext h_183)
    clear A1_176
    have S0_186 := Lib.hid (S0_177.out.ext h_183)
    clear S0_177
    have SB0_187 := Lib.hid (SB0_178.out.ext h_183)
    clear SB0_178
    have GB0_188 := Lib.hid (GB0_179.out.ext h_183)
    clear GB0_179
    have G0_189 := Lib.hid (G0_182.out.ext h_183)
    clear G0_182
    have E_190 := Lib.hid (E_180.out.trans h_183)
    clear E_180
    have z_191 := Ext.le h_183
    try simp only [World.size_alloc] at z_191
    have Z_191 := Lib.hid z_191
    clear z_191
    clear h_183
    have lA0 := A0_184.out.1
    have qA00 := A0_184.out.2 0 _ rfl
    have qA01 := A0_184.out.2 1 _ rfl
    have qA02 := A0_184.out.2 2 _ rfl
    have lA1 := A1_185.out.1
    have qA10 := A1_185.out.2 0 _ rfl
    have qA11 := A1_185.out.2 1 _ rfl
    have qA12 := A1_185.out.2 2 _ rfl
    have qA13 := A1_185.out.2 3 _ rfl
    try simp only [World.size_alloc] at lA0 lA1
    go_upto_region 31 with fail
    go_cut [15, 16] (fun s0 s1 wx => ∃ B0 ta0 tn0 tc0, s0 = .pointer (some ⟨B0, 0, none⟩) ∧ s1 = .bool i1 ∧ Hid (Cells wx B0 [.int .i64 pP0, .int .i64 pD0, .slice ta0 tn0 tc0]) ∧ Hid (Own wx 0 wx.heap.size ta0 tn0 d0) ∧ tn0 ≤ 1048576 ∧ Hid (Ext w_183 wx))
    case first =>
      go_region_held3 (fun w' => Ext w_183 w' ∧ (∀ b o, b < w_183.heap.size → w'.cell? ⟨b, o, none⟩ = w_183.cell? ⟨b, o, none⟩)) (first | (with_reducible exact ext2 (Ext.trans (And.left ‹Ext w_183 _ ∧ _›) ‹Ext _ _›)) | (refine ext2 ?_; with_reducible repeat (first | exact Ext.refl _ | exact And.left ‹Ext w_183 _ ∧ _› | exact ((((Ext.refl _).drew).trans h_192).trans h_193).trans h_194 | refine Ext.drew ?_ | refine Ext.alloc ?_ _ | refine Ext.setCell ?_ (by have e0 : w_183.drew.heap.size = w_183.heap.size := rfl; simp <;> omega) _))) (first
        | (go_at_call_of 17 (Value.slice a0 n0 c0); refine (toAlgebra_law _ _ _ _ _ xs0 _ (HR0.out.ext (E_190.out.trans (And.left ‹Ext w_183 _ ∧ _›))) hn0).mono ?_; rintro e w_192 ⟨b_192, rfl, o_192, h_192⟩; have c_192 := h_192.cells; have f_192 := h_192.frees; have y_192 := h_192.le; have x_192 := fun k hk => Nat.lt_of_lt_of_le (n := k) hk h_192.le; (try simp only [World.size_drew] at y_192 x_192); (try simp only [World.size_alloc] at y_192 x_192); (try simp only [Nat.add_one_le_iff] at y_192))
        | (go_at_call_of 26 (Value.slice a1 n1 c1); refine (toMatrix_law _ _ _ _ _ _ xs1 _ (HR1.out.ext (E_190.out.trans (And.left ‹Ext w_183 _ ∧ _›))) hn1).mono ?_; rintro e w_193 ⟨b_193, rfl, o_193, h_193⟩; have c_193 := h_193.cells; have f_193 := h_193.frees; have y_193 := h_193.le; have x_193 := fun k hk => Nat.lt_of_lt_of_le (n := k) hk h_193.le; (try simp only [World.size_drew] at y_193 x_193); (try simp only [World.size_alloc] at y_193 x_193); (try simp only [Nat.add_one_le_iff] at y_193))
        | (go_at_call 46; refine (subTable_impl (Own.reads (Own.ext o_192 (by with_reducible first | exact ((Ext.refl _).trans h_193) | exact Ext.alloc ((Ext.refl _).trans h_193) _ | exact ((Ext.alloc (Ext.refl _) _).trans h_193)))) hn0 (Own.reads (Own.ext o_193 (by with_reducible first | exact Ext.refl _ | exact Ext.alloc (Ext.refl _) _))) hn1 hM.out).mono ?_; rintro e w_194 ⟨v0, rfl, ⟨ta0, tn0, tc0, rfl, tO0, tm0⟩, h_194⟩; have c_194 := h_194.cells; have f_194 := h_194.frees; have y_194 := h_194.le; have x_194 := fun k hk => Nat.lt_of_lt_of_le (n := k) hk h_194.le; (try simp only [World.size_drew] at y_194 x_194); (try simp only [World.size_alloc] at y_194 x_194); (try simp only [Nat.add_one_le_iff] at y_194)))
      all_goals (go_wp2_with fail; go_meet; with_reducible first
        | exact ⟨w_194.heap.size, _, _, _, rfl, rfl, Lib.hid (cells_new w_194 #[.int .i64 pP0, .int .i64 pD0, .slice ta0 tn0 tc0] 28), Lib.hid (Own.any (Own.ext tO0 ((Ext.refl _).alloc _)) (by simp)), tm0, Lib.hid (And.left ‹Ext w_183 _ ∧ _›)⟩
        | exact ⟨w_193.heap.size, _, _, _, rfl, rfl, Lib.hid (early3 (lo := 0) ((cells_new w_193 _ _).ext h_194)), Lib.hid (Own.any (own3 tO0 (by have e0 : w_183.drew.heap.size = w_183.heap.size := rfl; simp <;> omega) _ _ _) (by simp)), tm0, Lib.hid (And.left ‹Ext w_183 _ ∧ _›)⟩
        | exact ⟨w_192.heap.size, _, _, _, rfl, rfl, Lib.hid (early3 (lo := 0) (((cells_new w_192 _ _).ext h_193).ext h_194)), Lib.hid (Own.any (own3 tO0 (by have e0 : w_183.drew.heap.size = w_183.heap.size := rfl; simp <;> omega) _ _ _) (by simp)), tm0, Lib.hid (And.left ‹Ext w_183 _ ∧ _›)⟩
        | exact ⟨w_183.heap.size, _, _, _, rfl, rfl, Lib.hid (early3 (lo := 0) (((((cells_new w_183 _ _).ext (Ext.drew (Ext.refl _))).ext h_192).ext h_193).ext h_194)), Lib.hid (Own.any (own3 tO0 (by have e0 : w_183.drew.heap.size = w_183.heap.size := rfl; simp <;> omega) _ _ _) (by simp)), tm0, Lib.hid (And.left ‹Ext w_183 _ ∧ _›)⟩)
    case rest =>
      obtain ⟨B0, ta0, tn0, tc0, rfl, rfl, cB0, tO0, tm0, h_195⟩ := hcut
      have hx_195 := h_195.out
      clear h_195
      clear lA0 qA00 qA01 qA02 lA1 qA10 qA11 qA12 qA13
      obtain ⟨w_195, rfl⟩ : ∃ wq : World, wq = wc := ⟨_, rfl⟩
      have A0_196 := Lib.hid (A0_184.out.ext hx_195)
      clear A0_184
      have A1_197 := Lib.hid (A1_185.out.ext hx_195)
      clear A1_185
      have S0_198 := Lib.hid (S0_186.out.ext hx_195)
      clear S0_186
      have SB0_199 := Lib.hid (SB0_187.out.ext hx_195)
      clear SB0_187
      have GB0_200 := Lib.hid (GB0_188.out.ext hx_195)
      clear GB0_188
      have G0_201 := Lib.hid (G0_189.out.ext hx_195)
      clear G0_189
      have E_202 := Lib.hid (E_190.out.trans hx_195)
      clear E_190
      have z_203 := Ext.le hx_195
      try simp only [World.size_alloc] at z_203
      have Z_203 := Lib.hid z_203
      clear z_203
      clear hx_195
      have htO0 := tO0.out
      clear tO0
      have H0_204 := Lib.hid (htO0)
      clear htO0
      have hcB0 := cB0.out
      clear cB0
      have ZcH0 := Lib.hid hcB0.1
      have HB0_205 := Lib.hid (hcB0)
      clear hcB0
      obtain rfl : sn0 = tn0 := S0_198.out.len.symm.trans H0_204.out.len
      have lHB0 := HB0_205.out.1
      have qHB00 := HB0_205.out.2 0 _ rfl
      have qHB01 := HB0_205.out.2 1 _ rfl
      have qHB02 := HB0_205.out.2 2 _ rfl
      have lSB0 := SB0_199.out.1
      have qSB00 := SB0_199.out.2 0 _ rfl
      have qSB01 := SB0_199.out.2 1 _ rfl
      have qSB02 := SB0_199.out.2 2 _ rfl
      try simp only [World.size_alloc] at lHB0 lSB0
      go_wp2_with fail
      refine (eqAlgebra_law _ _ _ _ _ _ _ d0 _ H0_204.out.reads S0_198.out.reads gm0).mono ?_
      rintro e w_206 ⟨rfl, h_206⟩
      clear lHB0 qHB00 qHB01 qHB02 lSB0 qSB00 qSB01 qSB02
      have A0_207 := Lib.hid (A0_196.out.ext h_206)
      clear A0_196
      have A1_208 := Lib.hid (A1_197.out.ext h_206)
      clear A1_197
      have S0_209 := Lib.hid (S0_198.out.ext h_206)
      clear S0_198
      have SB0_210 := Lib.hid (SB0_199.out.ext h_206)
      clear SB0_199
      have GB0_211 := Lib.hid (GB0_200.out.ext h_206)
      clear GB0_200
      have G0_212 := Lib.hid (G0_201.out.ext h_206)
      clear G0_201
      have H0_213 := Lib.hid (H0_204.out.ext h_206)
      clear H0_204
      have HB0_214 := Lib.hid (HB0_205.out.ext h_206)
      clear HB0_205
      have E_215 := Lib.hid (E_202.out.trans h_206)
      clear E_202
      have z_216 := Ext.le h_206
      try simp only [World.size_alloc] at z_216
      have Z_216 := Lib.hid z_216
      clear z_216
      clear h_206
      have lGB0 := GB0_211.out.1
      have qGB00 := GB0_211.out.2 0 _ rfl
      have qGB01 := GB0_211.out.2 1 _ rfl
      have qGB02 := GB0_211.out.2 2 _ rfl
      try simp only [World.size_alloc] at lGB0
      go_wp2_with fail
      refine (heldAlgebra_law _ _ _ _ _ _ _ G0_212.out.reads gm0 (by omega) (by omega)).mono ?_
      rintro e w_217 ⟨rfl, h_217⟩
      clear lGB0 qGB00 qGB01 qGB02
      have hq217 : 0 ≤ 1 + (sn0 : Int) := by omega
      have A0_218 := Lib.hid (A0_207.out.ext h_217)
      clear A0_207
      have A1_219 := Lib.hid (A1_208.out.ext h_217)
      clear A1_208
      have S0_220 := Lib.hid (S0_209.out.ext h_217)
      clear S0_209
      have SB0_221 := Lib.hid (SB0_210.out.ext h_217)
      clear SB0_210
      have GB0_222 := Lib.hid (GB0_211.out.ext h_217)
      clear GB0_211
      have G0_223 := Lib.hid (G0_212.out.ext h_217)
      clear G0_212
      have H0_224 := Lib.hid (H0_213.out.ext h_217)
      clear H0_213
      have HB0_225 := Lib.hid (HB0_214.out.ext h_217)
      clear HB0_214
      have E_226 := Lib.hid (E_215.out.trans h_217)
      clear E_215
      have z_227 := Ext.le h_217
      try simp only [World.size_alloc] at z_227
      have Z_227 := Lib.hid z_227
      clear z_227
      clear h_217
      go_wp2
      go_ret
      exact ⟨rfl, E_226.out⟩

set_option maxRecDepth 100000 in
theorem lifted (os : Os) (started : os.Started) (H : Type) (enc : TypeId × Value → H) :
    ReturnsInHanded {} Try.checked os 10 .any (Rows.fnExactSubTableSpec.pre6 enc Try.prog Try.f10 Rows.fnExactSubTableRow.domain false) (Rows.fnExactSubTableSpec.post enc Try.prog Try.f10 false true false false) := by
  refine returnsInHanded_of_change (C := Try.checked) own started (by kernel_rfl) Try.func10
    (ChangeSpec.witness6 (enc := enc) (C := Try.checked) false ⟨#[], #[.agg #[.int .i64 0, .int .i64 0, .slice none 0 0], .agg #[.int .i64 0, .int .i64 0, .int .i64 0, .slice none 0 0]], []⟩ 8 (by kernel_rfl) (by kernel_rfl) (by kernel_rfl) (by kernel_rfl)) ?_
  intro W base args ds gs before hval0 hW hcnd _
  have hval : ∀ (j : Nat) t v, Try.f10.params[j]? = some t → args[j]? = some v → Value.okWide Try.prog W .any base t v := hval0
  have hW' := hW
  obtain ⟨p, q, hA0, hV, rfl, hfz, hnd⟩ := hW
  have hA : DataW.TrodAll enc Try.prog W 0 (fun _ => true) true Try.f10.params.toList args.toList ds p := hA0
  rw [Try.params10] at hA hval
  obtain ⟨v0, vs0, d0, ds0, p0, q0, hargs, rfl, rfl, h0, r0⟩ := trodAll_cons hA
  obtain ⟨v1, vs1, d1, ds1, p1, q1, rfl, rfl, rfl, h1, r1⟩ := trodAll_cons r0
  obtain ⟨rfl, rfl, rfl⟩ := trodAll_nil r1
  obtain rfl : args = #[v0, v1] := by cases args; simp_all
  obtain ⟨rfl, rfl⟩ := trodVars_none hV
  have k0 := h0
  have lt0 : ∀ x ∈ p0, x.block < W.heap.size := by obtain ⟨m, hm⟩ := k0; exact DataW.trod_lt m _ _ _ hm
  obtain ⟨P0, D0, a0, n0, c0, xs0, rfl, w0⟩ := open_alg (hval 0 _ v0 rfl rfl) h0
  have k1 := h1
  have lt1 : ∀ x ∈ p1, x.block < W.heap.size := by obtain ⟨m, hm⟩ := k1; exact DataW.trod_lt m _ _ _ hm
  obtain ⟨P1, R1, C1, a1, n1, c1, xs1, rfl, w1⟩ := open_mat (hval 1 _ v1 rfl rfl) h1
  clear hA0 hval0
  refine (walk P0 D0 a0 n0 c0 xs0 P1 R1 C1 a1 n1 c1 xs1 W w0 w1).mono fun e W' ⟨he, bel⟩ => ?_
  subst he
  exact ⟨_, rfl, _, _, _, [], _, [], hW', trodAll_mk1 (shut_bool Try.underlying4 _), (trodAll_cons_mk (Below.trod laidOut (by kernel_rfl) (of_decide_eq_true (by kernel_rfl)) k0 bel lt0) (trodAll_cons_mk (Below.trod laidOut (by kernel_rfl) (of_decide_eq_true (by kernel_rfl)) k1 bel lt1) trodAll_mk0)), rfl, Below.frame bel _, fun h => by cases h⟩

set_option maxRecDepth 1000000 in
set_option maxHeartbeats 40000000 in
theorem closed : joinedFacts Try.pinned.checked.prog 10 Try.f10 Rows.fnExactSubTableSpec Rows.fnExactSubTableRow = true := by
  unfold joinedFacts
  repeat' (with_reducible refine and2 ?_ ?_)
  all_goals (first | (with_reducible exact seat_laid) | (with_reducible exact seat_maps) | (with_reducible exact seat_heard) | (with_reducible exact seat_enter) | (with_reducible refine seat_lifts ?_; kernel_rfl) | (with_reducible refine seat_make ?_; kernel_rfl) | (with_reducible refine seat_plain ?_; kernel_rfl) | (as_aux_lemma => kernel_rfl))

theorem over : Rows.fnExactSubTableRow.holds Try.pinned (OpenSpec.ofChange Rows.fnExactSubTableSpec) :=
  OpenClaim.holds_of_wide 10 Try.f10 rfl rfl rfl rfl rfl rfl rfl ⟨rfl, rfl, rfl, rfl, rfl⟩ rfl rfl rfl rfl rfl (by kernel_rfl) Try.func10 closed
    (of_decide_eq_true (by kernel_rfl)) (by unfold Func.isWrapper; first | (rw [if_pos (by decide +kernel)]; kernel_rfl) | (rw [if_neg (by decide +kernel)]; exact ⟨rfl, rfl⟩))
    (fun os started H enc _ => lifted os started H enc)

/-- The statement. -/
theorem proved : Rows.FnExactSubTableSaid := over
#print axioms proved
end Go.Proofs.Ytapaopapgnfdkaa.fnExactSubTable
