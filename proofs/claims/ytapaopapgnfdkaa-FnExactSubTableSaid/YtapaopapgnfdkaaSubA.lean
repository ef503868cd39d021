/-
  Subalgebras and ideals: both texts.
-/
import Derived.Test.YtapaopapgnfdkaaTk
import Derived.Test.YtapaopapgnfdkaaPrS
import Derived.Test.YtapaopapgnfdkaaHs
import Derived.Test.YtapaopapgnfdkaaBr
namespace Go.Proofs.Ytapaopapgnfdkaa
open Go.ChangeShapes Go.WideShapes Go.ChangeAt Go.RowKit
set_option linter.unusedVariables false
set_option linter.unusedSimpArgs false

noncomputable def sbaM (P D : Int) (l : List Int) (P1 R1 C1 : Int) (ss : List Int) : Bool := algB P D l && (hsB P D P1 R1 C1 ss && inB2 P (R1.toNat * R1.toNat) R1.toNat D.toNat (pL P D.toNat l ss ss R1.toNat R1.toNat) ss)
noncomputable def idlM (P D : Int) (l : List Int) (P1 R1 C1 : Int) (ss : List Int) : Bool := algB P D l && (hsB P D P1 R1 C1 ss && inB2 P (D.toNat * R1.toNat) R1.toNat D.toNat (pL P D.toNat l (unitTo D.toNat D.toNat) ss R1.toNat D.toNat) ss)
theorem hsB_space {P : Int} {D : Nat} {r : Nat} {xs : List Int} (h : hsB P D P r D xs = true) : spaceM P r D xs = true := by
  simp only [hsB, Bool.and_eq_true] at h; exact h.1

set_option maxRecDepth 100000 in
set_option maxHeartbeats 3200000 in
theorem isSubalgebra_impl {P D : Int} {a0 oa n : Nat} {l : List Int} {P1 R1 C1 : Int} {s0 so n1 : Nat} {ss : List Int} {w : World} {i : Bool} (hT : Reads w (some ⟨a0, oa, none⟩) n l) (hm0 : n ≤ 1048576) (hS : Reads w (some ⟨s0, so, none⟩) n1 ss) (hm1 : n1 ≤ 1048576) (hM : sbaM P D l P1 R1 C1 ss = i) :
    Calls Try.prog 100 #[.agg #[.int .i64 P, .int .i64 D, .slice (some ⟨a0, oa, none⟩) n n], .agg #[.int .i64 P1, .int .i64 R1, .int .i64 C1, .slice (some ⟨s0, so, none⟩) n1 n1]] w fun e w' => e = .returned (.bool i) ∧ Ext w w' := by
  subst hM
  have HT := Lib.hid hT
  have HS := Lib.hid hS
  have HA : Hid (sbaM P D l P1 R1 C1 ss = (algB P D l && (hsB P D P1 R1 C1 ss && inB2 P (R1.toNat * R1.toNat) R1.toNat D.toNat (pL P D.toNat l ss ss R1.toNat R1.toNat) ss))) := rfl
  generalize sbaM P D l P1 R1 C1 ss = q at HA
  rcases h0 : algB P D l with _ | _
  · have HF : Hid (q = false) := by rw [Hid, HA.out, h0]; rfl
    have H0 := Lib.hid h0
    clear h0 hT hS HA
    go_enter Try.func100, Try.ntmps100
    have A0_1 := Lib.hid ((cells_new' w #[.int .i64 P, .int .i64 D, .slice (some ⟨a0, oa, none⟩) n n] 28 (w.heap.size) (by simp)).ext ((Ext.refl _).alloc (.cells #[.int .i64 P1, .int .i64 R1, .int .i64 C1, .slice (some ⟨s0, so, none⟩) n1 n1] 40)))
    have A1_2 := Lib.hid (cells_new' (w.alloc (.cells #[.int .i64 P, .int .i64 D, .slice (some ⟨a0, oa, none⟩) n n] 28)) #[.int .i64 P1, .int .i64 R1, .int .i64 C1, .slice (some ⟨s0, so, none⟩) n1 n1] 40 (w.heap.size + 1) (by simp))
    have E_3 := Lib.hid (((Ext.refl w).alloc (.cells #[.int .i64 P, .int .i64 D, .slice (some ⟨a0, oa, none⟩) n n] 28)).alloc (.cells #[.int .i64 P1, .int .i64 R1, .int .i64 C1, .slice (some ⟨s0, so, none⟩) n1 n1] 40))
    have lA0 := A0_1.out.1
    have qA00 := A0_1.out.2 0 _ rfl
    have qA01 := A0_1.out.2 1 _ rfl
    have qA02 := A0_1.out.2 2 _ rfl
    have lA1 := A1_2.out.1
    have qA10 := A1_2.out.2 0 _ rfl
    have qA11 := A1_2.out.2 1 _ rfl
    have qA12 := A1_2.out.2 2 _ rfl
    have qA13 := A1_2.out.2 3 _ rfl
    try simp only [World.size_alloc] at lA0 lA1
    go_wp2_with fail
    refine (wrap_impl P _ a0 oa n n l _ (HT.out.ext E_3.out) hm0 (Nat.le_refl _) (by unfold maxLen; omega)).mono ?_
    rintro e w_4 ⟨B, rfl, hb, hlo, h_4⟩
    clear lA0 qA00 qA01 qA02 lA1 qA10 qA11 qA12 qA13
    have A0_5 := Lib.hid (A0_1.out.ext h_4)
    clear A0_1
    have A1_6 := Lib.hid (A1_2.out.ext h_4)
    clear A1_2
    have E_7 := Lib.hid (E_3.out.trans h_4)
    clear E_3
    have B_8 := Lib.hid hb
    clear hb
    rw [H0.out]
    have lA0 := A0_5.out.1
    have qA00 := A0_5.out.2 0 _ rfl
    have qA01 := A0_5.out.2 1 _ rfl
    have qA02 := A0_5.out.2 2 _ rfl
    have lA1 := A1_6.out.1
    have qA10 := A1_6.out.2 0 _ rfl
    have qA11 := A1_6.out.2 1 _ rfl
    have qA12 := A1_6.out.2 2 _ rfl
    have qA13 := A1_6.out.2 3 _ rfl
    try simp only [World.size_alloc] at lA0 lA1
    have lB := B_8.out.1
    have qB0 := B_8.out.2 0 _ rfl
    have qB1 := B_8.out.2 1 _ rfl
    have qB2 := B_8.out.2 2 _ rfl
    try simp only [World.size_alloc] at lA0 lA1 lB
    go_wp2
    go_ret
    exact ⟨ret_bool HF.out.symm, E_7.out⟩
  have H0 := Lib.hid h0
  rcases h1 : hsB P D P1 R1 C1 ss with _ | _
  · have HF : Hid (q = false) := by rw [Hid, HA.out, h0, h1]; rfl
    have H1 := Lib.hid h1
    clear h0 h1 hT hS HA
    go_enter Try.func100, Try.ntmps100
    have A0_1 := Lib.hid ((cells_new' w #[.int .i64 P, .int .i64 D, .slice (some ⟨a0, oa, none⟩) n n] 28 (w.heap.size) (by simp)).ext ((Ext.refl _).alloc (.cells #[.int .i64 P1, .int .i64 R1, .int .i64 C1, .slice (some ⟨s0, so, none⟩) n1 n1] 40)))
    have A1_2 := Lib.hid (cells_new' (w.alloc (.cells #[.int .i64 P, .int .i64 D, .slice (some ⟨a0, oa, none⟩) n n] 28)) #[.int .i64 P1, .int .i64 R1, .int .i64 C1, .slice (some ⟨s0, so, none⟩) n1 n1] 40 (w.heap.size + 1) (by simp))
    have E_3 := Lib.hid (((Ext.refl w).alloc (.cells #[.int .i64 P, .int .i64 D, .slice (some ⟨a0, oa, none⟩) n n] 28)).alloc (.cells #[.int .i64 P1, .int .i64 R1, .int .i64 C1, .slice (some ⟨s0, so, none⟩) n1 n1] 40))
    have lA0 := A0_1.out.1
    have qA00 := A0_1.out.2 0 _ rfl
    have qA01 := A0_1.out.2 1 _ rfl
    have qA02 := A0_1.out.2 2 _ rfl
    have lA1 := A1_2.out.1
    have qA10 := A1_2.out.2 0 _ rfl
    have qA11 := A1_2.out.2 1 _ rfl
    have qA12 := A1_2.out.2 2 _ rfl
    have qA13 := A1_2.out.2 3 _ rfl
    try simp only [World.size_alloc] at lA0 lA1
    go_wp2_with fail
    refine (wrap_impl P _ a0 oa n n l _ (HT.out.ext E_3.out) hm0 (Nat.le_refl _) (by unfold maxLen; omega)).mono ?_
    rintro e w_4 ⟨B, rfl, hb, hlo, h_4⟩
    clear lA0 qA00 qA01 qA02 lA1 qA10 qA11 qA12 qA13
    have A0_5 := Lib.hid (A0_1.out.ext h_4)
    clear A0_1
    have A1_6 := Lib.hid (A1_2.out.ext h_4)
    clear A1_2
    have E_7 := Lib.hid (E_3.out.trans h_4)
    clear E_3
    have B_8 := Lib.hid hb
    clear hb
    rw [H0.out]
    have lA0 := A0_5.out.1
    have qA00 := A0_5.out.2 0 _ rfl
    have qA01 := A0_5.out.2 1 _ rfl
    have qA02 := A0_5.out.2 2 _ rfl
    have lA1 := A1_6.out.1
    have qA10 := A1_6.out.2 0 _ rfl
    have qA11 := A1_6.out.2 1 _ rfl
    have qA12 := A1_6.out.2 2 _ rfl
    have qA13 := A1_6.out.2 3 _ rfl
    have lB := B_8.out.1
    have qB0 := B_8.out.2 0 _ rfl
    have qB1 := B_8.out.2 1 _ rfl
    have qB2 := B_8.out.2 2 _ rfl
    try simp only [World.size_alloc] at lA0 lA1 lB
    go_wp2_with fail
    refine (hasSubspace_impl P _ _ _ _ B s0 so n1 _ ss _ (B_8.out.ext (Ext.refl _)) (HS.out.ext (E_7.out.trans (Ext.refl _))) hm1).mono ?_
    rintro e w_9 ⟨rfl, h_9⟩
    clear lA0 qA00 qA01 qA02 lA1 qA10 qA11 qA12 qA13 lB qB0 qB1 qB2
    have A0_10 := Lib.hid (A0_5.out.ext h_9)
    clear A0_5
    have A1_11 := Lib.hid (A1_6.out.ext h_9)
    clear A1_6
    have B_12 := Lib.hid (B_8.out.ext h_9)
    clear B_8
    have E_13 := Lib.hid (E_7.out.trans h_9)
    clear E_7
    rw [H1.out]
    have lA0 := A0_10.out.1
    have qA00 := A0_10.out.2 0 _ rfl
    have qA01 := A0_10.out.2 1 _ rfl
    have qA02 := A0_10.out.2 2 _ rfl
    have lA1 := A1_11.out.1
    have qA10 := A1_11.out.2 0 _ rfl
    have qA11 := A1_11.out.2 1 _ rfl
    have qA12 := A1_11.out.2 2 _ rfl
    have qA13 := A1_11.out.2 3 _ rfl
    try simp only [World.size_alloc] at lA0 lA1
    have lB := B_12.out.1
    have qB0 := B_12.out.2 0 _ rfl
    have qB1 := B_12.out.2 1 _ rfl
    have qB2 := B_12.out.2 2 _ rfl
    try simp only [World.size_alloc] at lA0 lA1 lB
    go_wp2
    go_ret
    exact ⟨ret_bool HF.out.symm, E_13.out⟩
  have H1 := Lib.hid h1
  have hz0 := h0
  have hz1 := h1
  rw [hz0, hz1, Bool.true_and, Bool.true_and] at HA
  obtain ⟨D, rfl, hA⟩ := algB_parts hz0 hT.1
  obtain ⟨r, rfl, rfl, rfl, hr, hn1, hx1⟩ := hsB_parts hz1 hS.1
  simp only [Int.toNat_natCast] at HA
  have HPR := Lib.hid hA.pr
  have hip := isP_iff.1 hA.pr
  have hp := isP_lo hA.pr
  have hp2 := isP_hi hA.pr
  have hD := hA.dim
  have hsp := hsB_space hz1
  obtain ⟨_, hss, _, hls, _, _⟩ := spaceM_parts hsp
  have hr28 : r ≤ 28 := by omega
  have h784 : r * r ≤ 784 := Nat.mul_le_mul hr28 hr28
  have hul : (unitTo D D).length = D * D := unitTo_length D D
  have hux : Res (unitTo D D) P1 := unitTo_res2 P1 hp D D
  have hsq : D * D ≤ 784 := Nat.mul_le_mul hD hD
  have cT : ∀ w1 B, Ext w w1 → Cells w1 B [.int .i64 P1, .int .i64 D, .slice (some ⟨a0, oa, none⟩) n n] → Calls Try.prog 183 #[.pointer (some ⟨B, 0, none⟩), .agg #[.int .i64 P1, .int .i64 r, .int .i64 D, .slice (some ⟨s0, so, none⟩) n1 n1], .agg #[.int .i64 P1, .int .i64 r, .int .i64 D, .slice (some ⟨s0, so, none⟩) n1 n1], .agg #[.int .i64 P1, .int .i64 r, .int .i64 D, .slice (some ⟨s0, so, none⟩) n1 n1]] w1 fun e w' => e = .returned (.bool q) ∧ Ext w1 w' := fun w1 B h hb => by
    rw [HA.out]
    exact takesInto_impl P1 D r r r n1 n1 n1 B a0 oa n n s0 so s0 so s0 so l ss ss ss w1 hb hD hr28 hr28 hA.len hn1 hn1 (Nat.le_refl _) (by unfold maxLen; omega) (hT.ext h) (hS.ext h) (hS.ext h) (hS.ext h) hsp hA.res hx1 hx1
  clear hT hS hA hz0 hz1 hsp hss hls hx1 hul hux hip HA hn1 h0 h1
  go_enter Try.func100, Try.ntmps100
  have A0_1 := Lib.hid ((cells_new' w #[.int .i64 P1, .int .i64 D, .slice (some ⟨a0, oa, none⟩) n n] 28 (w.heap.size) (by simp)).ext ((Ext.refl _).alloc (.cells #[.int .i64 P1, .int .i64 r, .int .i64 D, .slice (some ⟨s0, so, none⟩) n1 n1] 40)))
  have A1_2 := Lib.hid (cells_new' (w.alloc (.cells #[.int .i64 P1, .int .i64 D, .slice (some ⟨a0, oa, none⟩) n n] 28)) #[.int .i64 P1, .int .i64 r, .int .i64 D, .slice (some ⟨s0, so, none⟩) n1 n1] 40 (w.heap.size + 1) (by simp))
  have E_3 := Lib.hid (((Ext.refl w).alloc (.cells #[.int .i64 P1, .int .i64 D, .slice (some ⟨a0, oa, none⟩) n n] 28)).alloc (.cells #[.int .i64 P1, .int .i64 r, .int .i64 D, .slice (some ⟨s0, so, none⟩) n1 n1] 40))
  have lA0 := A0_1.out.1
  have qA00 := A0_1.out.2 0 _ rfl
  have qA01 := A0_1.out.2 1 _ rfl
  have qA02 := A0_1.out.2 2 _ rfl
  have lA1 := A1_2.out.1
  have qA10 := A1_2.out.2 0 _ rfl
  have qA11 := A1_2.out.2 1 _ rfl
  have qA12 := A1_2.out.2 2 _ rfl
  have qA13 := A1_2.out.2 3 _ rfl
  try simp only [World.size_alloc] at lA0 lA1
  go_wp2_with fail
  refine (wrap_impl P1 _ a0 oa n n l _ (HT.out.ext E_3.out) hm0 (Nat.le_refl _) (by unfold maxLen; omega)).mono ?_
  rintro e w_4 ⟨B, rfl, hb, hlo, h_4⟩
  clear lA0 qA00 qA01 qA02 lA1 qA10 qA11 qA12 qA13
  have A0_5 := Lib.hid (A0_1.out.ext h_4)
  clear A0_1
  have A1_6 := Lib.hid (A1_2.out.ext h_4)
  clear A1_2
  have E_7 := Lib.hid (E_3.out.trans h_4)
  clear E_3
  have B_8 := Lib.hid hb
  clear hb
  rw [H0.out]
  have lA0 := A0_5.out.1
  have qA00 := A0_5.out.2 0 _ rfl
  have qA01 := A0_5.out.2 1 _ rfl
  have qA02 := A0_5.out.2 2 _ rfl
  have lA1 := A1_6.out.1
  have qA10 := A1_6.out.2 0 _ rfl
  have qA11 := A1_6.out.2 1 _ rfl
  have qA12 := A1_6.out.2 2 _ rfl
  have qA13 := A1_6.out.2 3 _ rfl
  have lB := B_8.out.1
  have qB0 := B_8.out.2 0 _ rfl
  have qB1 := B_8.out.2 1 _ rfl
  have qB2 := B_8.out.2 2 _ rfl
  try simp only [World.size_alloc] at lA0 lA1 lB
  go_wp2_with fail
  refine (hasSubspace_impl P1 _ _ _ _ B s0 so n1 _ ss _ (B_8.out.ext (Ext.refl _)) (HS.out.ext (E_7.out.trans (Ext.refl _))) hm1).mono ?_
  rintro e w_9 ⟨rfl, h_9⟩
  clear lA0 qA00 qA01 qA02 lA1 qA10 qA11 qA12 qA13 lB qB0 qB1 qB2
  have A0_10 := Lib.hid (A0_5.out.ext h_9)
  clear A0_5
  have A1_11 := Lib.hid (A1_6.out.ext h_9)
  clear A1_6
  have B_12 := Lib.hid (B_8.out.ext h_9)
  clear B_8
  have E_13 := Lib.hid (E_7.out.trans h_9)
  clear E_7
  rw [H1.out]
  have lA0 := A0_10.out.1
  have qA00 := A0_10.out.2 0 _ rfl
  have qA01 := A0_10.out.2 1 _ rfl
  have qA02 := A0_10.out.2 2 _ rfl
  have lA1 := A1_11.out.1
  have qA10 := A1_11.out.2 0 _ rfl
  have qA11 := A1_11.out.2 1 _ rfl
  have qA12 := A1_11.out.2 2 _ rfl
  have qA13 := A1_11.out.2 3 _ rfl
  have lB := B_12.out.1
  have qB0 := B_12.out.2 0 _ rfl
  have qB1 := B_12.out.2 1 _ rfl
  have qB2 := B_12.out.2 2 _ rfl
  try simp only [World.size_alloc] at lA0 lA1 lB
  go_wp2_with fail
  refine (cT _ B E_13.out B_12.out).mono ?_
  rintro e w_14 ⟨rfl, h_14⟩
  clear lA0 qA00 qA01 qA02 lA1 qA10 qA11 qA12 qA13 lB qB0 qB1 qB2
  have A0_15 := Lib.hid (A0_10.out.ext h_14)
  clear A0_10
  have A1_16 := Lib.hid (A1_11.out.ext h_14)
  clear A1_11
  have B_17 := Lib.hid (B_12.out.ext h_14)
  clear B_12
  have E_18 := Lib.hid (E_13.out.trans h_14)
  clear E_13
  have lA0 := A0_15.out.1
  have qA00 := A0_15.out.2 0 _ rfl
  have qA01 := A0_15.out.2 1 _ rfl
  have qA02 := A0_15.out.2 2 _ rfl
  have lA1 := A1_16.out.1
  have qA10 := A1_16.out.2 0 _ rfl
  have qA11 := A1_16.out.2 1 _ rfl
  have qA12 := A1_16.out.2 2 _ rfl
  have qA13 := A1_16.out.2 3 _ rfl
  try simp only [World.size_alloc] at lA0 lA1
  have lB := B_17.out.1
  have qB0 := B_17.out.2 0 _ rfl
  have qB1 := B_17.out.2 1 _ rfl
  have qB2 := B_17.out.2 2 _ rfl
  try simp only [World.size_alloc] at lA0 lA1 lB
  go_wp2
  go_ret
  exact ⟨rfl, E_18.out⟩

set_option maxRecDepth 100000 in
set_option maxHeartbeats 3200000 in
theorem isSubalgebra_spec {P D : Int} {a0 oa n : Nat} {l : List Int} {P1 R1 C1 : Int} {s0 so n1 : Nat} {ss : List Int} {w : World} {i : Bool} (hT : Reads w (some ⟨a0, oa, none⟩) n l) (hm0 : n ≤ 1048576) (hS : Reads w (some ⟨s0, so, none⟩) n1 ss) (hm1 : n1 ≤ 1048576) (hM : sbaM P D l P1 R1 C1 ss = i) :
    Calls Try.prog 97 #[.agg #[.int .i64 P, .int .i64 D, .slice (some ⟨a0, oa, none⟩) n n], .agg #[.int .i64 P1, .int .i64 R1, .int .i64 C1, .slice (some ⟨s0, so, none⟩) n1 n1]] w fun e w' => e = .returned (.bool i) ∧ Ext w w' := by
  subst hM
  have HT := Lib.hid hT
  have HS := Lib.hid hS
  have HA : Hid (sbaM P D l P1 R1 C1 ss = (algB P D l && (hsB P D P1 R1 C1 ss && inB2 P (R1.toNat * R1.toNat) R1.toNat D.toNat (pL P D.toNat l ss ss R1.toNat R1.toNat) ss))) := rfl
  generalize sbaM P D l P1 R1 C1 ss = q at HA
  rcases h1 : (algB P D l && hsB P D P1 R1 C1 ss) with _ | _
  · have HF : Hid (q = false) := by rw [Hid, HA.out, ← Bool.and_assoc, h1]; rfl
    have H1 := Lib.hid h1
    clear h1 hT hS HA
    go_enter Try.func97, Try.ntmps97
    have A0_1 := Lib.hid ((cells_new' w #[.int .i64 P, .int .i64 D, .slice (some ⟨a0, oa, none⟩) n n] 28 (w.heap.size) (by simp)).ext ((Ext.refl _).alloc (.cells #[.int .i64 P1, .int .i64 R1, .int .i64 C1, .slice (some ⟨s0, so, none⟩) n1 n1] 40)))
    have A1_2 := Lib.hid (cells_new' (w.alloc (.cells #[.int .i64 P, .int .i64 D, .slice (some ⟨a0, oa, none⟩) n n] 28)) #[.int .i64 P1, .int .i64 R1, .int .i64 C1, .slice (some ⟨s0, so, none⟩) n1 n1] 40 (w.heap.size + 1) (by simp))
    have E_3 := Lib.hid (((Ext.refl w).alloc (.cells #[.int .i64 P, .int .i64 D, .slice (some ⟨a0, oa, none⟩) n n] 28)).alloc (.cells #[.int .i64 P1, .int .i64 R1, .int .i64 C1, .slice (some ⟨s0, so, none⟩) n1 n1] 40))
    go_wp2_with fail
    generalize ((w.alloc (.cells #[.int .i64 P, .int .i64 D, .slice (some ⟨a0, oa, none⟩) n n] 28)).alloc (.cells #[.int .i64 P1, .int .i64 R1, .int .i64 C1, .slice (some ⟨s0, so, none⟩) n1 n1] 40)) = W1 at *
    have lA0 := A0_1.out.1
    have qA00 := A0_1.out.2 0 _ rfl
    have qA01 := A0_1.out.2 1 _ rfl
    have qA02 := A0_1.out.2 2 _ rfl
    have lA1 := A1_2.out.1
    have qA10 := A1_2.out.2 0 _ rfl
    have qA11 := A1_2.out.2 1 _ rfl
    have qA12 := A1_2.out.2 2 _ rfl
    have qA13 := A1_2.out.2 3 _ rfl
    refine wp_region_held_drew (S := (fun w' => Ext W1 w' ∧ (∀ b o, b < W1.heap.size → w'.cell? ⟨b, o, none⟩ = W1.cell? ⟨b, o, none⟩))) (by kernel_rfl) (ext2 (Ext.refl _).drew) (fun hHeld => ?_)
    refine wpAnyH_take (i := 0) (v := ?v1) rfl (by kernel_rfl) (by kernel_rfl) (by kernel_rfl) (fun _ _ _ h => h) (Or.inl ⟨by rfl, ?hy1⟩) hHeld ?rest1
    case hy1 => (intro wz hSw; (try dsimp only at hSw); go_simp; (try with_reducible rfl))
    (try simp only [Act.put, List.getElem_toArray, List.getElem_cons_succ, List.getElem_cons_zero]); (try simp only [List.setIfInBounds_toArray]); (try simp only [List.set_cons_succ]); (try simp only [List.set_cons_zero])
    refine wpAnyH_take (i := 1) (v := ?v2) rfl (by kernel_rfl) (by kernel_rfl) (by kernel_rfl) (fun _ _ _ h => h) (Or.inl ⟨by rfl, ?hy2⟩) hHeld ?rest2
    case hy2 => (intro wz hSw; (try dsimp only at hSw); go_simp; (try with_reducible rfl))
    (try simp only [Act.put, List.getElem_toArray, List.getElem_cons_succ, List.getElem_cons_zero]); (try simp only [List.setIfInBounds_toArray]); (try simp only [List.set_cons_succ]); (try simp only [List.set_cons_zero])
    refine wpAnyH_ready (rs := [2]) (by kernel_rfl) (by simp) ?_
    refine AllReadyH.cons rfl (fun K' hK => ?_) AllReadyH.nil
    go_simp
    refine (l2Space_spec P _ _ _ _ a0 oa n s0 so n1 l ss _ (HT.out.ext (E_3.out.trans (Ext.refl _).drew)) hm0 (HS.out.ext (E_3.out.trans (Ext.refl _).drew)) hm1).mono ?_
    rintro e w4 ⟨rfl, h4⟩
    rw [H1.out]
    dsimp only
    refine hK.out _ _ (ext2 ((Ext.drew (Ext.refl _)).trans h4)) (fun hHeld => ?_)
    clear hK
    refine wpAnyH_take (i := 3) (v := ?v3) rfl (by kernel_rfl) (by kernel_rfl) (by kernel_rfl) (fun _ _ _ h => h) (Or.inl ⟨by rfl, ?hy3⟩) hHeld ?rest3
    case hy3 => (intro wz hSw; (try dsimp only at hSw); go_simp; (try with_reducible rfl))
    (try simp only [Act.put, List.getElem_toArray, List.getElem_cons_succ, List.getElem_cons_zero]); (try simp only [List.setIfInBounds_toArray]); (try simp only [List.set_cons_succ]); (try simp only [List.set_cons_zero])
    refine wpAnyH_take (i := 4) (v := undef) rfl (by kernel_rfl) (by kernel_rfl) (by kernel_rfl) (fun _ _ _ h => h) (Or.inr ⟨by rfl, rfl⟩) hHeld ?rest4
    (try simp only [Act.put, List.getElem_toArray, List.getElem_cons_succ, List.getElem_cons_zero]); (try simp only [List.setIfInBounds_toArray]); (try simp only [List.set_cons_succ]); (try simp only [List.set_cons_zero])
    refine wpAnyH_take (i := 5) (v := undef) rfl (by kernel_rfl) (by kernel_rfl) (by kernel_rfl) (fun _ _ _ h => h) (Or.inr ⟨by rfl, rfl⟩) hHeld ?rest5
    (try simp only [Act.put, List.getElem_toArray, List.getElem_cons_succ, List.getElem_cons_zero]); (try simp only [List.setIfInBounds_toArray]); (try simp only [List.set_cons_succ]); (try simp only [List.set_cons_zero])
    refine wpAnyH_take (i := 6) (v := undef) rfl (by kernel_rfl) (by kernel_rfl) (by kernel_rfl) (fun _ _ _ h => h) (Or.inr ⟨by rfl, rfl⟩) hHeld ?rest6
    (try simp only [Act.put, List.getElem_toArray, List.getElem_cons_succ, List.getElem_cons_zero]); (try simp only [List.setIfInBounds_toArray]); (try simp only [List.set_cons_succ]); (try simp only [List.set_cons_zero])
    refine wpAnyH_take (i := 7) (v := undef) rfl (by kernel_rfl) (by kernel_rfl) (by kernel_rfl) (fun _ _ _ h => h) (Or.inr ⟨by rfl, rfl⟩) hHeld ?rest7
    (try simp only [Act.put, List.getElem_toArray, List.getElem_cons_succ, List.getElem_cons_zero]); (try simp only [List.setIfInBounds_toArray]); (try simp only [List.set_cons_succ]); (try simp only [List.set_cons_zero])
    refine wpAnyH_take (i := 8) (v := undef) rfl (by kernel_rfl) (by kernel_rfl) (by kernel_rfl) (fun _ _ _ h => h) (Or.inr ⟨by rfl, rfl⟩) hHeld ?rest8
    (try simp only [Act.put, List.getElem_toArray, List.getElem_cons_succ, List.getElem_cons_zero]); (try simp only [List.setIfInBounds_toArray]); (try simp only [List.set_cons_succ]); (try simp only [List.set_cons_zero])
    refine wpAnyH_take (i := 9) (v := undef) rfl (by kernel_rfl) (by kernel_rfl) (by kernel_rfl) (fun _ _ _ h => h) (Or.inr ⟨by rfl, rfl⟩) hHeld ?rest9
    (try simp only [Act.put, List.getElem_toArray, List.getElem_cons_succ, List.getElem_cons_zero]); (try simp only [List.setIfInBounds_toArray]); (try simp only [List.set_cons_succ]); (try simp only [List.set_cons_zero])
    refine wpAnyH_take (i := 10) (v := ?v10) rfl (by kernel_rfl) (by kernel_rfl) (by kernel_rfl) (fun _ _ _ h => h) (Or.inl ⟨by rfl, ?hy10⟩) hHeld ?rest10
    case hy10 => (intro wz hSw; (try dsimp only at hSw); go_simp; (try with_reducible rfl))
    (try simp only [Act.put, List.getElem_toArray, List.getElem_cons_succ, List.getElem_cons_zero]); (try simp only [List.setIfInBounds_toArray]); (try simp only [List.set_cons_succ]); (try simp only [List.set_cons_zero])
    refine wpAnyH_take (i := 11) (v := ?v11) rfl (by kernel_rfl) (by kernel_rfl) (by kernel_rfl) (fun _ _ _ h => h) (Or.inl ⟨by rfl, ?hy11⟩) hHeld ?rest11
    case hy11 => (intro wz hSw; (try dsimp only at hSw); go_simp; (try with_reducible rfl))
    (try simp only [Act.put, List.getElem_toArray, List.getElem_cons_succ, List.getElem_cons_zero]); (try simp only [List.setIfInBounds_toArray]); (try simp only [List.set_cons_succ]); (try simp only [List.set_cons_zero])
    refine wpAnyH_done (by kernel_rfl) ?_ _
    have E9 := Lib.hid (E_3.out.trans ((Ext.drew (Ext.refl _)).trans h4))
    clear hHeld
    go_wp2
    go_ret
    exact ⟨ret_bool HF.out.symm, E9.out⟩
  have H1 := Lib.hid h1
  have hz0 : algB P D l = true := by simp only [Bool.and_eq_true] at h1; exact h1.1
  have hz1 : hsB P D P1 R1 C1 ss = true := by simp only [Bool.and_eq_true] at h1; exact h1.2
  rw [hz0, hz1, Bool.true_and, Bool.true_and] at HA
  obtain ⟨D, rfl, hA⟩ := algB_parts hz0 hT.1
  obtain ⟨r, rfl, rfl, rfl, hr, hn1, hx1⟩ := hsB_parts hz1 hS.1
  simp only [Int.toNat_natCast] at HA
  have HPR := Lib.hid hA.pr
  have hip := isP_iff.1 hA.pr
  have hp := isP_lo hA.pr
  have hp2 := isP_hi hA.pr
  have hD := hA.dim
  have hsp := hsB_space hz1
  obtain ⟨_, hss, _, hls, _, _⟩ := spaceM_parts hsp
  have hr28 : r ≤ 28 := by omega
  have h784 : r * r ≤ 784 := Nat.mul_le_mul hr28 hr28
  have hul : (unitTo D D).length = D * D := unitTo_length D D
  have hux : Res (unitTo D D) P1 := unitTo_res2 P1 hp D D
  have hsq : D * D ≤ 784 := Nat.mul_le_mul hD hD
  have hpl : (pL P1 D l ss ss r r).length = r * r * D := by rw [pL_length, Nat.mul_assoc]
  have hpx : Res (pL P1 D l ss ss r r) P1 := pL_res (by omega) _ _ _ _
  obtain ⟨K, hK⟩ : ∃ K, K = (redM P1 (r * r) D (pL P1 D l ss ss r r)).pv.length := ⟨_, rfl⟩
  have hKD : K ≤ D := by rw [hK]; exact redM_k.2
  have hkl : (spanL P1 (r * r) D (pL P1 D l ss ss r r)).length = K * D := by rw [hK]; exact spanL_length hpl
  have hkx : Res (spanL P1 (r * r) D (pL P1 D l ss ss r r)) P1 := spanL_res hp hpx
  have cP : ∀ w1, Ext w w1 → Calls Try.prog 137 #[.agg #[.int .i64 P1, .int .i64 D, .slice (some ⟨a0, oa, none⟩) n n], .agg #[.int .i64 P1, .int .i64 r, .int .i64 D, .slice (some ⟨s0, so, none⟩) n1 n1], .agg #[.int .i64 P1, .int .i64 r, .int .i64 D, .slice (some ⟨s0, so, none⟩) n1 n1]] w1 fun e w' => ∃ bK cK, e = .returned (.agg #[.int .i64 P1, .int .i64 (K : Nat), .int .i64 D, .slice (some ⟨bK, 0, none⟩) (K * D) cK]) ∧ Has w' bK (spanL P1 (r * r) D (pL P1 D l ss ss r r)) ∧ Ext w1 w' ∧ K * D ≤ cK := fun w1 h => by
    refine (l2Product_spec P1 D a0 oa n n r r s0 so n1 n1 s0 so n1 n1 l ss ss w1 (hT.ext h) (hS.ext h) (hS.ext h) hD hr28 hr28 hA.len hn1 hn1 (Nat.le_refl _) (by unfold maxLen; omega) (Nat.le_refl _) (by unfold maxLen; omega) hA.pr hA.res hx1 hx1).mono ?_
    rw [hK]
    rintro e w' ⟨b, c', rfl, g1, g2, g3, g4, g5⟩
    exact ⟨b, c', rfl, g3, g4, g5⟩
  have cW : ∀ w1 bK cK, Ext w w1 → Has w1 bK (spanL P1 (r * r) D (pL P1 D l ss ss r r)) → K * D ≤ cK → Calls Try.prog 178 #[.agg #[.int .i64 P1, .int .i64 (K : Nat), .int .i64 D, .slice (some ⟨bK, 0, none⟩) (K * D) cK], .agg #[.int .i64 P1, .int .i64 r, .int .i64 D, .slice (some ⟨s0, so, none⟩) n1 n1]] w1 fun e w' => e = .returned (.bool q) ∧ Ext w1 w' := fun w1 bK cK h hk hc => by
    have e9 : q = withB P1 K r D (spanL P1 (r * r) D (pL P1 D l ss ss r r)) ss := by rw [HA.out, with_in hip hkl hls hkx hx1, hK, in_span hip hpl hpx]
    rw [e9]
    exact l1Within_spec P1 K r D bK 0 (K * D) cK n1 n1 _ _ ss w1 hA.pr (hk.reads hkl) (hS.ext h) rfl hn1 (by omega) (by omega) (by omega) hkx hx1 hc
  generalize spanL P1 (r * r) D (pL P1 D l ss ss r r) = SPL at *
  clear hpl hpx hK hkl hkx
  clear hT hS hA hz0 hz1 hsp hss hls hx1 hul hux hip HA hn1 h1
  go_enter Try.func97, Try.ntmps97
  have A0_1 := Lib.hid ((cells_new' w #[.int .i64 P1, .int .i64 D, .slice (some ⟨a0, oa, none⟩) n n] 28 (w.heap.size) (by simp)).ext ((Ext.refl _).alloc (.cells #[.int .i64 P1, .int .i64 r, .int .i64 D, .slice (some ⟨s0, so, none⟩) n1 n1] 40)))
  have A1_2 := Lib.hid (cells_new' (w.alloc (.cells #[.int .i64 P1, .int .i64 D, .slice (some ⟨a0, oa, none⟩) n n] 28)) #[.int .i64 P1, .int .i64 r, .int .i64 D, .slice (some ⟨s0, so, none⟩) n1 n1] 40 (w.heap.size + 1) (by simp))
  have E_3 := Lib.hid (((Ext.refl w).alloc (.cells #[.int .i64 P1, .int .i64 D, .slice (some ⟨a0, oa, none⟩) n n] 28)).alloc (.cells #[.int .i64 P1, .int .i64 r, .int .i64 D, .slice (some ⟨s0, so, none⟩) n1 n1] 40))
  go_wp2_with fail
  generalize ((w.alloc (.cells #[.int .i64 P1, .int .i64 D, .slice (some ⟨a0, oa, none⟩) n n] 28)).alloc (.cells #[.int .i64 P1, .int .i64 r, .int .i64 D, .slice (some ⟨s0, so, none⟩) n1 n1] 40)) = W1 at *
  have lA0 := A0_1.out.1
  have qA00 := A0_1.out.2 0 _ rfl
  have qA01 := A0_1.out.2 1 _ rfl
  have qA02 := A0_1.out.2 2 _ rfl
  have lA1 := A1_2.out.1
  have qA10 := A1_2.out.2 0 _ rfl
  have qA11 := A1_2.out.2 1 _ rfl
  have qA12 := A1_2.out.2 2 _ rfl
  have qA13 := A1_2.out.2 3 _ rfl
  go_region_held3 (fun w' => Ext W1 w' ∧ (∀ b o, b < W1.heap.size → w'.cell? ⟨b, o, none⟩ = W1.cell? ⟨b, o, none⟩)) (first | assumption | (with_reducible exact ext2 (Ext.trans (And.left ‹Ext W1 _ ∧ _›) ‹Ext _ _›)) | (refine ext2 ?_; with_reducible repeat (first | exact Ext.refl _ | exact And.left ‹Ext W1 _ ∧ _› | refine Ext.drew ?_ | refine Ext.drewN ?_ _))) (first
    | (go_at_call 177; (with_reducible refine (l2Space_spec P1 _ _ _ _ a0 oa n s0 so n1 l ss _ (HT.out.ext (E_3.out.trans (And.left ‹Ext W1 _ ∧ _›))) hm0 (HS.out.ext (E_3.out.trans (And.left ‹Ext W1 _ ∧ _›))) hm1).mono ?_); rintro e w4 ⟨rfl, h4⟩; rw [H1.out])
    | (go_at_call 137; (with_reducible refine (cP _ (E_3.out.trans (And.left ‹Ext W1 _ ∧ _›))).mono ?_); rintro e wK ⟨bK, cK, rfl, kK, EK, hcK⟩)
    | (go_at_call 178; (with_reducible refine (cW _ _ _ (E_3.out.trans (And.left ‹Ext W1 _ ∧ _›)) kK hcK).mono ?_); rintro e w9 ⟨rfl, h9⟩))
  all_goals
    have E9 := Lib.hid (E_3.out.trans (And.left ‹Ext W1 w9 ∧ _›))
    go_wp2
    go_ret
    exact ⟨rfl, E9.out⟩

set_option maxRecDepth 100000 in
set_option maxHeartbeats 3200000 in
theorem isIdeal_impl {P D : Int} {a0 oa n : Nat} {l : List Int} {P1 R1 C1 : Int} {s0 so n1 : Nat} {ss : List Int} {w : World} {i : Bool} (hT : Reads w (some ⟨a0, oa, none⟩) n l) (hm0 : n ≤ 1048576) (hS : Reads w (some ⟨s0, so, none⟩) n1 ss) (hm1 : n1 ≤ 1048576) (hM : idlM P D l P1 R1 C1 ss = i) :
    Calls Try.prog 109 #[.agg #[.int .i64 P, .int .i64 D, .slice (some ⟨a0, oa, none⟩) n n], .agg #[.int .i64 P1, .int .i64 R1, .int .i64 C1, .slice (some ⟨s0, so, none⟩) n1 n1]] w fun e w' => e = .returned (.bool i) ∧ Ext w w' := by
  subst hM
  have HT := Lib.hid hT
  have HS := Lib.hid hS
  have HA : Hid (idlM P D l P1 R1 C1 ss = (algB P D l && (hsB P D P1 R1 C1 ss && inB2 P (D.toNat * R1.toNat) R1.toNat D.toNat (pL P D.toNat l (unitTo D.toNat D.toNat) ss R1.toNat D.toNat) ss))) := rfl
  generalize idlM P D l P1 R1 C1 ss = q at HA
  rcases h0 : algB P D l with _ | _
  · have HF : Hid (q = false) := by rw [Hid, HA.out, h0]; rfl
    have H0 := Lib.hid h0
    clear h0 hT hS HA
    go_enter Try.func109, Try.ntmps109
    have A0_1 := Lib.hid ((cells_new' w #[.int .i64 P, .int .i64 D, .slice (some ⟨a0, oa, none⟩) n n] 28 (w.heap.size) (by simp)).ext ((Ext.refl _).alloc (.cells #[.int .i64 P1, .int .i64 R1, .int .i64 C1, .slice (some ⟨s0, so, none⟩) n1 n1] 40)))
    have A1_2 := Lib.hid (cells_new' (w.alloc (.cells #[.int .i64 P, .int .i64 D, .slice (some ⟨a0, oa, none⟩) n n] 28)) #[.int .i64 P1, .int .i64 R1, .int .i64 C1, .slice (some ⟨s0, so, none⟩) n1 n1] 40 (w.heap.size + 1) (by simp))
    have E_3 := Lib.hid (((Ext.refl w).alloc (.cells #[.int .i64 P, .int .i64 D, .slice (some ⟨a0, oa, none⟩) n n] 28)).alloc (.cells #[.int .i64 P1, .int .i64 R1, .int .i64 C1, .slice (some ⟨s0, so, none⟩) n1 n1] 40))
    have lA0 := A0_1.out.1
    have qA00 := A0_1.out.2 0 _ rfl
    have qA01 := A0_1.out.2 1 _ rfl
    have qA02 := A0_1.out.2 2 _ rfl
    have lA1 := A1_2.out.1
    have qA10 := A1_2.out.2 0 _ rfl
    have qA11 := A1_2.out.2 1 _ rfl
    have qA12 := A1_2.out.2 2 _ rfl
    have qA13 := A1_2.out.2 3 _ rfl
    try simp only [World.size_alloc] at lA0 lA1
    go_wp2_with fail
    refine (wrap_impl P _ a0 oa n n l _ (HT.out.ext E_3.out) hm0 (Nat.le_refl _) (by unfold maxLen; omega)).mono ?_
    rintro e w_4 ⟨B, rfl, hb, hlo, h_4⟩
    clear lA0 qA00 qA01 qA02 lA1 qA10 qA11 qA12 qA13
    have A0_5 := Lib.hid (A0_1.out.ext h_4)
    clear A0_1
    have A1_6 := Lib.hid (A1_2.out.ext h_4)
    clear A1_2
    have E_7 := Lib.hid (E_3.out.trans h_4)
    clear E_3
    have B_8 := Lib.hid hb
    clear hb
    rw [H0.out]
    generalize w_4 = W1 at *
    have lA0 := A0_5.out.1
    have qA00 := A0_5.out.2 0 _ rfl
    have qA01 := A0_5.out.2 1 _ rfl
    have qA02 := A0_5.out.2 2 _ rfl
    have lA1 := A1_6.out.1
    have qA10 := A1_6.out.2 0 _ rfl
    have qA11 := A1_6.out.2 1 _ rfl
    have qA12 := A1_6.out.2 2 _ rfl
    have qA13 := A1_6.out.2 3 _ rfl
    have lB := B_8.out.1
    have qB0 := B_8.out.2 0 _ rfl
    have qB1 := B_8.out.2 1 _ rfl
    have qB2 := B_8.out.2 2 _ rfl
    go_wp2_with fail
    refine wp_region_held_drew (S := (fun w' => Ext W1 w' ∧ (∀ b o, b < W1.heap.size → w'.cell? ⟨b, o, none⟩ = W1.cell? ⟨b, o, none⟩))) (by kernel_rfl) (ext2 (Ext.refl _).drew) (fun hHeld => ?_)
    refine wpAnyH_take (i := 0) (v := ?v12) rfl (by kernel_rfl) (by kernel_rfl) (by kernel_rfl) (fun _ _ _ h => h) (Or.inl ⟨by rfl, ?hy12⟩) hHeld ?rest12
    case hy12 => (intro wz hSw; (try dsimp only at hSw); go_simp; (try with_reducible rfl))
    (try simp only [Act.put, List.getElem_toArray, List.getElem_cons_succ, List.getElem_cons_zero]); (try simp only [List.setIfInBounds_toArray]); (try simp only [List.set_cons_succ]); (try simp only [List.set_cons_zero])
    refine wpAnyH_take (i := 1) (v := ?v13) rfl (by kernel_rfl) (by kernel_rfl) (by kernel_rfl) (fun _ _ _ h => h) (Or.inl ⟨by rfl, ?hy13⟩) hHeld ?rest13
    case hy13 => (intro wz hSw; (try dsimp only at hSw); go_simp; (try with_reducible rfl))
    (try simp only [Act.put, List.getElem_toArray, List.getElem_cons_succ, List.getElem_cons_zero]); (try simp only [List.setIfInBounds_toArray]); (try simp only [List.set_cons_succ]); (try simp only [List.set_cons_zero])
    refine wpAnyH_take (i := 2) (v := undef) rfl (by kernel_rfl) (by kernel_rfl) (by kernel_rfl) (fun _ _ _ h => h) (Or.inr ⟨by rfl, rfl⟩) hHeld ?rest14
    (try simp only [Act.put, List.getElem_toArray, List.getElem_cons_succ, List.getElem_cons_zero]); (try simp only [List.setIfInBounds_toArray]); (try simp only [List.set_cons_succ]); (try simp only [List.set_cons_zero])
    refine wpAnyH_take (i := 3) (v := undef) rfl (by kernel_rfl) (by kernel_rfl) (by kernel_rfl) (fun _ _ _ h => h) (Or.inr ⟨by rfl, rfl⟩) hHeld ?rest15
    (try simp only [Act.put, List.getElem_toArray, List.getElem_cons_succ, List.getElem_cons_zero]); (try simp only [List.setIfInBounds_toArray]); (try simp only [List.set_cons_succ]); (try simp only [List.set_cons_zero])
    refine wpAnyH_take (i := 4) (v := undef) rfl (by kernel_rfl) (by kernel_rfl) (by kernel_rfl) (fun _ _ _ h => h) (Or.inr ⟨by rfl, rfl⟩) hHeld ?rest16
    (try simp only [Act.put, List.getElem_toArray, List.getElem_cons_succ, List.getElem_cons_zero]); (try simp only [List.setIfInBounds_toArray]); (try simp only [List.set_cons_succ]); (try simp only [List.set_cons_zero])
    refine wpAnyH_take (i := 5) (v := ?v17) rfl (by kernel_rfl) (by kernel_rfl) (by kernel_rfl) (fun _ _ _ h => h) (Or.inl ⟨by rfl, ?hy17⟩) hHeld ?rest17
    case hy17 => (intro wz hSw; (try dsimp only at hSw); go_simp; (try with_reducible rfl))
    (try simp only [Act.put, List.getElem_toArray, List.getElem_cons_succ, List.getElem_cons_zero]); (try simp only [List.setIfInBounds_toArray]); (try simp only [List.set_cons_succ]); (try simp only [List.set_cons_zero])
    refine wpAnyH_take (i := 6) (v := ?v18) rfl (by kernel_rfl) (by kernel_rfl) (by kernel_rfl) (fun _ _ _ h => h) (Or.inl ⟨by rfl, ?hy18⟩) hHeld ?rest18
    case hy18 => (intro wz hSw; (try dsimp only at hSw); go_simp; (try with_reducible rfl))
    (try simp only [Act.put, List.getElem_toArray, List.getElem_cons_succ, List.getElem_cons_zero]); (try simp only [List.setIfInBounds_toArray]); (try simp only [List.set_cons_succ]); (try simp only [List.set_cons_zero])
    refine wpAnyH_take (i := 7) (v := undef) rfl (by kernel_rfl) (by kernel_rfl) (by kernel_rfl) (fun _ _ _ h => h) (Or.inr ⟨by rfl, rfl⟩) hHeld ?rest19
    (try simp only [Act.put, List.getElem_toArray, List.getElem_cons_succ, List.getElem_cons_zero]); (try simp only [List.setIfInBounds_toArray]); (try simp only [List.set_cons_succ]); (try simp only [List.set_cons_zero])
    refine wpAnyH_take (i := 8) (v := undef) rfl (by kernel_rfl) (by kernel_rfl) (by kernel_rfl) (fun _ _ _ h => h) (Or.inr ⟨by rfl, rfl⟩) hHeld ?rest20
    (try simp only [Act.put, List.getElem_toArray, List.getElem_cons_succ, List.getElem_cons_zero]); (try simp only [List.setIfInBounds_toArray]); (try simp only [List.set_cons_succ]); (try simp only [List.set_cons_zero])
    refine wpAnyH_take (i := 9) (v := undef) rfl (by kernel_rfl) (by kernel_rfl) (by kernel_rfl) (fun _ _ _ h => h) (Or.inr ⟨by rfl, rfl⟩) hHeld ?rest21
    (try simp only [Act.put, List.getElem_toArray, List.getElem_cons_succ, List.getElem_cons_zero]); (try simp only [List.setIfInBounds_toArray]); (try simp only [List.set_cons_succ]); (try simp only [List.set_cons_zero])
    refine wpAnyH_take (i := 10) (v := undef) rfl (by kernel_rfl) (by kernel_rfl) (by kernel_rfl) (fun _ _ _ h => h) (Or.inr ⟨by rfl, rfl⟩) hHeld ?rest22
    (try simp only [Act.put, List.getElem_toArray, List.getElem_cons_succ, List.getElem_cons_zero]); (try simp only [List.setIfInBounds_toArray]); (try simp only [List.set_cons_succ]); (try simp only [List.set_cons_zero])
    refine wpAnyH_take (i := 11) (v := undef) rfl (by kernel_rfl) (by kernel_rfl) (by kernel_rfl) (fun _ _ _ h => h) (Or.inr ⟨by rfl, rfl⟩) hHeld ?rest23
    (try simp only [Act.put, List.getElem_toArray, List.getElem_cons_succ, List.getElem_cons_zero]); (try simp only [List.setIfInBounds_toArray]); (try simp only [List.set_cons_succ]); (try simp only [List.set_cons_zero])
    refine wpAnyH_take (i := 12) (v := undef) rfl (by kernel_rfl) (by kernel_rfl) (by kernel_rfl) (fun _ _ _ h => h) (Or.inr ⟨by rfl, rfl⟩) hHeld ?rest24
    (try simp only [Act.put, List.getElem_toArray, List.getElem_cons_succ, List.getElem_cons_zero]); (try simp only [List.setIfInBounds_toArray]); (try simp only [List.set_cons_succ]); (try simp only [List.set_cons_zero])
    refine wpAnyH_take (i := 13) (v := ?v25) rfl (by kernel_rfl) (by kernel_rfl) (by kernel_rfl) (fun _ _ _ h => h) (Or.inl ⟨by rfl, ?hy25⟩) hHeld ?rest25
    case hy25 => (intro wz hSw; (try dsimp only at hSw); go_simp; (try with_reducible rfl))
    (try simp only [Act.put, List.getElem_toArray, List.getElem_cons_succ, List.getElem_cons_zero]); (try simp only [List.setIfInBounds_toArray]); (try simp only [List.set_cons_succ]); (try simp only [List.set_cons_zero])
    refine wpAnyH_take (i := 14) (v := ?v26) rfl (by kernel_rfl) (by kernel_rfl) (by kernel_rfl) (fun _ _ _ h => h) (Or.inl ⟨by rfl, ?hy26⟩) hHeld ?rest26
    case hy26 => (intro wz hSw; (try dsimp only at hSw); go_simp; (try with_reducible rfl))
    (try simp only [Act.put, List.getElem_toArray, List.getElem_cons_succ, List.getElem_cons_zero]); (try simp only [List.setIfInBounds_toArray]); (try simp only [List.set_cons_succ]); (try simp only [List.set_cons_zero])
    refine wpAnyH_done (by kernel_rfl) ?_ _
    have E9 := Lib.hid (E_7.out.trans (Ext.drew (Ext.refl _)))
    clear hHeld
    go_wp2
    go_ret
    exact ⟨ret_bool HF.out.symm, E9.out⟩
  have H0 := Lib.hid h0
  rcases h1 : hsB P D P1 R1 C1 ss with _ | _
  · have HF : Hid (q = false) := by rw [Hid, HA.out, h0, h1]; rfl
    have H1 := Lib.hid h1
    clear h0 h1 hT hS HA
    go_enter Try.func109, Try.ntmps109
    have A0_1 := Lib.hid ((cells_new' w #[.int .i64 P, .int .i64 D, .slice (some ⟨a0, oa, none⟩) n n] 28 (w.heap.size) (by simp)).ext ((Ext.refl _).alloc (.cells #[.int .i64 P1, .int .i64 R1, .int .i64 C1, .slice (some ⟨s0, so, none⟩) n1 n1] 40)))
    have A1_2 := Lib.hid (cells_new' (w.alloc (.cells #[.int .i64 P, .int .i64 D, .slice (some ⟨a0, oa, none⟩) n n] 28)) #[.int .i64 P1, .int .i64 R1, .int .i64 C1, .slice (some ⟨s0, so, none⟩) n1 n1] 40 (w.heap.size + 1) (by simp))
    have E_3 := Lib.hid (((Ext.refl w).alloc (.cells #[.int .i64 P, .int .i64 D, .slice (some ⟨a0, oa, none⟩) n n] 28)).alloc (.cells #[.int .i64 P1, .int .i64 R1, .int .i64 C1, .slice (some ⟨s0, so, none⟩) n1 n1] 40))
    have lA0 := A0_1.out.1
    have qA00 := A0_1.out.2 0 _ rfl
    have qA01 := A0_1.out.2 1 _ rfl
    have qA02 := A0_1.out.2 2 _ rfl
    have lA1 := A1_2.out.1
    have qA10 := A1_2.out.2 0 _ rfl
    have qA11 := A1_2.out.2 1 _ rfl
    have qA12 := A1_2.out.2 2 _ rfl
    have qA13 := A1_2.out.2 3 _ rfl
    try simp only [World.size_alloc] at lA0 lA1
    go_wp2_with fail
    refine (wrap_impl P _ a0 oa n n l _ (HT.out.ext E_3.out) hm0 (Nat.le_refl _) (by unfold maxLen; omega)).mono ?_
    rintro e w_4 ⟨B, rfl, hb, hlo, h_4⟩
    clear lA0 qA00 qA01 qA02 lA1 qA10 qA11 qA12 qA13
    have A0_5 := Lib.hid (A0_1.out.ext h_4)
    clear A0_1
    have A1_6 := Lib.hid (A1_2.out.ext h_4)
    clear A1_2
    have E_7 := Lib.hid (E_3.out.trans h_4)
    clear E_3
    have B_8 := Lib.hid hb
    clear hb
    rw [H0.out]
    generalize w_4 = W1 at *
    have lA0 := A0_5.out.1
    have qA00 := A0_5.out.2 0 _ rfl
    have qA01 := A0_5.out.2 1 _ rfl
    have qA02 := A0_5.out.2 2 _ rfl
    have lA1 := A1_6.out.1
    have qA10 := A1_6.out.2 0 _ rfl
    have qA11 := A1_6.out.2 1 _ rfl
    have qA12 := A1_6.out.2 2 _ rfl
    have qA13 := A1_6.out.2 3 _ rfl
    have lB := B_8.out.1
    have qB0 := B_8.out.2 0 _ rfl
    have qB1 := B_8.out.2 1 _ rfl
    have qB2 := B_8.out.2 2 _ rfl
    go_wp2_with fail
    refine wp_region_held_drew (S := (fun w' => Ext W1 w' ∧ (∀ b o, b < W1.heap.size → w'.cell? ⟨b, o, none⟩ = W1.cell? ⟨b, o, none⟩))) (by kernel_rfl) (ext2 (Ext.refl _).drew) (fun hHeld => ?_)
    refine wpAnyH_take (i := 0) (v := ?v27) rfl (by kernel_rfl) (by kernel_rfl) (by kernel_rfl) (fun _ _ _ h => h) (Or.inl ⟨by rfl, ?hy27⟩) hHeld ?rest27
    case hy27 => (intro wz hSw; (try dsimp only at hSw); go_simp; (try with_reducible rfl))
    (try simp only [Act.put, List.getElem_toArray, List.getElem_cons_succ, List.getElem_cons_zero]); (try simp only [List.setIfInBounds_toArray]); (try simp only [List.set_cons_succ]); (try simp only [List.set_cons_zero])
    refine wpAnyH_take (i := 1) (v := ?v28) rfl (by kernel_rfl) (by kernel_rfl) (by kernel_rfl) (fun _ _ _ h => h) (Or.inl ⟨by rfl, ?hy28⟩) hHeld ?rest28
    case hy28 => (intro wz hSw; (try dsimp only at hSw); go_simp; (try with_reducible rfl))
    (try simp only [Act.put, List.getElem_toArray, List.getElem_cons_succ, List.getElem_cons_zero]); (try simp only [List.setIfInBounds_toArray]); (try simp only [List.set_cons_succ]); (try simp only [List.set_cons_zero])
    refine wpAnyH_take (i := 2) (v := ?v29) rfl (by kernel_rfl) (by kernel_rfl) (by kernel_rfl) (fun _ _ _ h => h) (Or.inl ⟨by rfl, ?hy29⟩) hHeld ?rest29
    case hy29 => (intro wz hSw; (try dsimp only at hSw); go_simp; (try with_reducible rfl))
    (try simp only [Act.put, List.getElem_toArray, List.getElem_cons_succ, List.getElem_cons_zero]); (try simp only [List.setIfInBounds_toArray]); (try simp only [List.set_cons_succ]); (try simp only [List.set_cons_zero])
    refine wpAnyH_take (i := 3) (v := ?v30) rfl (by kernel_rfl) (by kernel_rfl) (by kernel_rfl) (fun _ _ _ h => h) (Or.inl ⟨by rfl, ?hy30⟩) hHeld ?rest30
    case hy30 => (intro wz hSw; (try dsimp only at hSw); go_simp; (try with_reducible rfl))
    (try simp only [Act.put, List.getElem_toArray, List.getElem_cons_succ, List.getElem_cons_zero]); (try simp only [List.setIfInBounds_toArray]); (try simp only [List.set_cons_succ]); (try simp only [List.set_cons_zero])
    refine wpAnyH_ready (rs := [4]) (by kernel_rfl) (by simp) ?_
    refine AllReadyH.cons rfl (fun K' hK => ?_) AllReadyH.nil
    go_simp
    refine (hasSubspace_impl P _ _ _ _ B s0 so n1 _ ss _ (B_8.out.ext (Ext.refl _).drew) (HS.out.ext (E_7.out.trans (Ext.refl _).drew)) hm1).mono ?_
    rintro e w4 ⟨rfl, h4⟩
    rw [H1.out]
    dsimp only
    refine hK.out _ _ (ext2 ((Ext.drew (Ext.refl _)).trans h4)) (fun hHeld => ?_)
    clear hK
    refine wpAnyH_take (i := 5) (v := ?v31) rfl (by kernel_rfl) (by kernel_rfl) (by kernel_rfl) (fun _ _ _ h => h) (Or.inl ⟨by rfl, ?hy31⟩) hHeld ?rest31
    case hy31 => (intro wz hSw; (try dsimp only at hSw); go_simp; (try with_reducible rfl))
    (try simp only [Act.put, List.getElem_toArray, List.getElem_cons_succ, List.getElem_cons_zero]); (try simp only [List.setIfInBounds_toArray]); (try simp only [List.set_cons_succ]); (try simp only [List.set_cons_zero])
    refine wpAnyH_take (i := 6) (v := ?v32) rfl (by kernel_rfl) (by kernel_rfl) (by kernel_rfl) (fun _ _ _ h => h) (Or.inl ⟨by rfl, ?hy32⟩) hHeld ?rest32
    case hy32 => (intro wz hSw; (try dsimp only at hSw); go_simp; (try with_reducible rfl))
    (try simp only [Act.put, List.getElem_toArray, List.getElem_cons_succ, List.getElem_cons_zero]); (try simp only [List.setIfInBounds_toArray]); (try simp only [List.set_cons_succ]); (try simp only [List.set_cons_zero])
    refine wpAnyH_take (i := 7) (v := undef) rfl (by kernel_rfl) (by kernel_rfl) (by kernel_rfl) (fun _ _ _ h => h) (Or.inr ⟨by rfl, rfl⟩) hHeld ?rest33
    (try simp only [Act.put, List.getElem_toArray, List.getElem_cons_succ, List.getElem_cons_zero]); (try simp only [List.setIfInBounds_toArray]); (try simp only [List.set_cons_succ]); (try simp only [List.set_cons_zero])
    refine wpAnyH_take (i := 8) (v := undef) rfl (by kernel_rfl) (by kernel_rfl) (by kernel_rfl) (fun _ _ _ h => h) (Or.inr ⟨by rfl, rfl⟩) hHeld ?rest34
    (try simp only [Act.put, List.getElem_toArray, List.getElem_cons_succ, List.getElem_cons_zero]); (try simp only [List.setIfInBounds_toArray]); (try simp only [List.set_cons_succ]); (try simp only [List.set_cons_zero])
    refine wpAnyH_take (i := 9) (v := undef) rfl (by kernel_rfl) (by kernel_rfl) (by kernel_rfl) (fun _ _ _ h => h) (Or.inr ⟨by rfl, rfl⟩) hHeld ?rest35
    (try simp only [Act.put, List.getElem_toArray, List.getElem_cons_succ, List.getElem_cons_zero]); (try simp only [List.setIfInBounds_toArray]); (try simp only [List.set_cons_succ]); (try simp only [List.set_cons_zero])
    refine wpAnyH_take (i := 10) (v := undef) rfl (by kernel_rfl) (by kernel_rfl) (by kernel_rfl) (fun _ _ _ h => h) (Or.inr ⟨by rfl, rfl⟩) hHeld ?rest36
    (try simp only [Act.put, List.getElem_toArray, List.getElem_cons_succ, List.getElem_cons_zero]); (try simp only [List.setIfInBounds_toArray]); (try simp only [List.set_cons_succ]); (try simp only [List.set_cons_zero])
    refine wpAnyH_take (i := 11) (v := undef) rfl (by kernel_rfl) (by kernel_rfl) (by kernel_rfl) (fun _ _ _ h => h) (Or.inr ⟨by rfl, rfl⟩) hHeld ?rest37
    (try simp only [Act.put, List.getElem_toArray, List.getElem_cons_succ, List.getElem_cons_zero]); (try simp only [List.setIfInBounds_toArray]); (try simp only [List.set_cons_succ]); (try simp only [List.set_cons_zero])
    refine wpAnyH_take (i := 12) (v := undef) rfl (by kernel_rfl) (by kernel_rfl) (by kernel_rfl) (fun _ _ _ h => h) (Or.inr ⟨by rfl, rfl⟩) hHeld ?rest38
    (try simp only [Act.put, List.getElem_toArray, List.getElem_cons_succ, List.getElem_cons_zero]); (try simp only [List.setIfInBounds_toArray]); (try simp only [List.set_cons_succ]); (try simp only [List.set_cons_zero])
    refine wpAnyH_take (i := 13) (v := ?v39) rfl (by kernel_rfl) (by kernel_rfl) (by kernel_rfl) (fun _ _ _ h => h) (Or.inl ⟨by rfl, ?hy39⟩) hHeld ?rest39
    case hy39 => (intro wz hSw; (try dsimp only at hSw); go_simp; (try with_reducible rfl))
    (try simp only [Act.put, List.getElem_toArray, List.getElem_cons_succ, List.getElem_cons_zero]); (try simp only [List.setIfInBounds_toArray]); (try simp only [List.set_cons_succ]); (try simp only [List.set_cons_zero])
    refine wpAnyH_take (i := 14) (v := ?v40) rfl (by kernel_rfl) (by kernel_rfl) (by kernel_rfl) (fun _ _ _ h => h) (Or.inl ⟨by rfl, ?hy40⟩) hHeld ?rest40
    case hy40 => (intro wz hSw; (try dsimp only at hSw); go_simp; (try with_reducible rfl))
    (try simp only [Act.put, List.getElem_toArray, List.getElem_cons_succ, List.getElem_cons_zero]); (try simp only [List.setIfInBounds_toArray]); (try simp only [List.set_cons_succ]); (try simp only [List.set_cons_zero])
    refine wpAnyH_done (by kernel_rfl) ?_ _
    have E9 := Lib.hid (E_7.out.trans ((Ext.drew (Ext.refl _)).trans h4))
    clear hHeld
    go_wp2
    go_ret
    exact ⟨ret_bool HF.out.symm, E9.out⟩
  have H1 := Lib.hid h1
  have hz0 := h0
  have hz1 := h1
  rw [hz0, hz1, Bool.true_and, Bool.true_and] at HA
  obtain ⟨D, rfl, hA⟩ := algB_parts hz0 hT.1
  obtain ⟨r, rfl, rfl, rfl, hr, hn1, hx1⟩ := hsB_parts hz1 hS.1
  simp only [Int.toNat_natCast] at HA
  have HPR := Lib.hid hA.pr
  have hip := isP_iff.1 hA.pr
  have hp := isP_lo hA.pr
  have hp2 := isP_hi hA.pr
  have hD := hA.dim
  have hsp := hsB_space hz1
  obtain ⟨_, hss, _, hls, _, _⟩ := spaceM_parts hsp
  have hr28 : r ≤ 28 := by omega
  have h784 : D * r ≤ 784 := Nat.mul_le_mul hD hr28
  have hul : (unitTo D D).length = D * D := unitTo_length D D
  have hux : Res (unitTo D D) P1 := unitTo_res2 P1 hp D D
  have hsq : D * D ≤ 784 := Nat.mul_le_mul hD hD
  have cT : ∀ w1 B bU, Ext w w1 → Has w1 bU (unitTo D D) → Cells w1 B [.int .i64 P1, .int .i64 D, .slice (some ⟨a0, oa, none⟩) n n] → Calls Try.prog 183 #[.pointer (some ⟨B, 0, none⟩), .agg #[.int .i64 P1, .int .i64 D, .int .i64 D, .slice (some ⟨bU, 0, none⟩) (D * D) (D * D)], .agg #[.int .i64 P1, .int .i64 r, .int .i64 D, .slice (some ⟨s0, so, none⟩) n1 n1], .agg #[.int .i64 P1, .int .i64 r, .int .i64 D, .slice (some ⟨s0, so, none⟩) n1 n1]] w1 fun e w' => e = .returned (.bool q) ∧ Ext w1 w' := fun w1 B bU h hk hb => by
    rw [HA.out]
    exact takesInto_impl P1 D D r r (D * D) n1 n1 B a0 oa n n bU 0 s0 so s0 so l (unitTo D D) ss ss w1 hb hD hD hr28 hA.len rfl hn1 (Nat.le_refl _) (by unfold maxLen; omega) (hT.ext h) (hk.reads hul) (hS.ext h) (hS.ext h) hsp hA.res hux hx1
  clear hT hS hA hz0 hz1 hsp hss hls hx1 hul hux hip HA hn1 h0 h1
  go_enter Try.func109, Try.ntmps109
  have A0_1 := Lib.hid ((cells_new' w #[.int .i64 P1, .int .i64 D, .slice (some ⟨a0, oa, none⟩) n n] 28 (w.heap.size) (by simp)).ext ((Ext.refl _).alloc (.cells #[.int .i64 P1, .int .i64 r, .int .i64 D, .slice (some ⟨s0, so, none⟩) n1 n1] 40)))
  have A1_2 := Lib.hid (cells_new' (w.alloc (.cells #[.int .i64 P1, .int .i64 D, .slice (some ⟨a0, oa, none⟩) n n] 28)) #[.int .i64 P1, .int .i64 r, .int .i64 D, .slice (some ⟨s0, so, none⟩) n1 n1] 40 (w.heap.size + 1) (by simp))
  have E_3 := Lib.hid (((Ext.refl w).alloc (.cells #[.int .i64 P1, .int .i64 D, .slice (some ⟨a0, oa, none⟩) n n] 28)).alloc (.cells #[.int .i64 P1, .int .i64 r, .int .i64 D, .slice (some ⟨s0, so, none⟩) n1 n1] 40))
  have lA0 := A0_1.out.1
  have qA00 := A0_1.out.2 0 _ rfl
  have qA01 := A0_1.out.2 1 _ rfl
  have qA02 := A0_1.out.2 2 _ rfl
  have lA1 := A1_2.out.1
  have qA10 := A1_2.out.2 0 _ rfl
  have qA11 := A1_2.out.2 1 _ rfl
  have qA12 := A1_2.out.2 2 _ rfl
  have qA13 := A1_2.out.2 3 _ rfl
  try simp only [World.size_alloc] at lA0 lA1
  go_wp2_with fail
  refine (wrap_impl P1 _ a0 oa n n l _ (HT.out.ext E_3.out) hm0 (Nat.le_refl _) (by unfold maxLen; omega)).mono ?_
  rintro e w_4 ⟨B, rfl, hb, hlo, h_4⟩
  clear lA0 qA00 qA01 qA02 lA1 qA10 qA11 qA12 qA13
  have A0_5 := Lib.hid (A0_1.out.ext h_4)
  clear A0_1
  have A1_6 := Lib.hid (A1_2.out.ext h_4)
  clear A1_2
  have E_7 := Lib.hid (E_3.out.trans h_4)
  clear E_3
  have B_8 := Lib.hid hb
  clear hb
  rw [H0.out]
  generalize w_4 = W1 at *
  have lA0 := A0_5.out.1
  have qA00 := A0_5.out.2 0 _ rfl
  have qA01 := A0_5.out.2 1 _ rfl
  have qA02 := A0_5.out.2 2 _ rfl
  have lA1 := A1_6.out.1
  have qA10 := A1_6.out.2 0 _ rfl
  have qA11 := A1_6.out.2 1 _ rfl
  have qA12 := A1_6.out.2 2 _ rfl
  have qA13 := A1_6.out.2 3 _ rfl
  have lB := B_8.out.1
  have qB0 := B_8.out.2 0 _ rfl
  have qB1 := B_8.out.2 1 _ rfl
  have qB2 := B_8.out.2 2 _ rfl
  go_wp2_with fail
  go_region_held3 (fun w' => Ext W1 w' ∧ (∀ b o, b < W1.heap.size → w'.cell? ⟨b, o, none⟩ = W1.cell? ⟨b, o, none⟩)) (first | assumption | (with_reducible exact ext2 (Ext.trans (And.left ‹Ext W1 _ ∧ _›) ‹Ext _ _›)) | (refine ext2 ?_; with_reducible repeat (first | exact Ext.refl _ | exact And.left ‹Ext W1 _ ∧ _› | refine Ext.drew ?_ | refine Ext.drewN ?_ _))) (first
    | (go_at_call 182; (with_reducible refine (hasSubspace_impl P1 _ _ _ _ B s0 so n1 _ ss _ (B_8.out.ext (And.left ‹Ext W1 _ ∧ _›)) (HS.out.ext (E_7.out.trans (And.left ‹Ext W1 _ ∧ _›))) hm1).mono ?_); rintro e w4 ⟨rfl, h4⟩; rw [H1.out])
    | (go_at_call 64; (with_reducible refine (all_impl P1 D B _ _ (B_8.out.ext (And.left ‹Ext W1 _ ∧ _›)) hD).mono ?_); rintro e wU ⟨bU, rfl, bU1, bU2, kU, EU⟩)
    | (go_at_call 183; (with_reducible refine (cT _ B _ (E_7.out.trans (And.left ‹Ext W1 _ ∧ _›)) (kU) (B_8.out.ext (And.left ‹Ext W1 _ ∧ _›))).mono ?_); rintro e w9 ⟨rfl, h9⟩))
  all_goals
    have E9 := Lib.hid (E_7.out.trans (And.left ‹Ext W1 w9 ∧ _›))
    go_wp2
    go_ret
    exact ⟨rfl, E9.out⟩

set_option maxRecDepth 100000 in
set_option maxHeartbeats 3200000 in
theorem isIdeal_spec {P D : Int} {a0 oa n : Nat} {l : List Int} {P1 R1 C1 : Int} {s0 so n1 : Nat} {ss : List Int} {w : World} {i : Bool} (hT : Reads w (some ⟨a0, oa, none⟩) n l) (hm0 : n ≤ 1048576) (hS : Reads w (some ⟨s0, so, none⟩) n1 ss) (hm1 : n1 ≤ 1048576) (hM : idlM P D l P1 R1 C1 ss = i) :
    Calls Try.prog 105 #[.agg #[.int .i64 P, .int .i64 D, .slice (some ⟨a0, oa, none⟩) n n], .agg #[.int .i64 P1, .int .i64 R1, .int .i64 C1, .slice (some ⟨s0, so, none⟩) n1 n1]] w fun e w' => e = .returned (.bool i) ∧ Ext w w' := by
  subst hM
  have HT := Lib.hid hT
  have HS := Lib.hid hS
  have HA : Hid (idlM P D l P1 R1 C1 ss = (algB P D l && (hsB P D P1 R1 C1 ss && inB2 P (D.toNat * R1.toNat) R1.toNat D.toNat (pL P D.toNat l (unitTo D.toNat D.toNat) ss R1.toNat D.toNat) ss))) := rfl
  generalize idlM P D l P1 R1 C1 ss = q at HA
  rcases h1 : (algB P D l && hsB P D P1 R1 C1 ss) with _ | _
  · have HF : Hid (q = false) := by rw [Hid, HA.out, ← Bool.and_assoc, h1]; rfl
    have H1 := Lib.hid h1
    clear h1 hT hS HA
    go_enter Try.func105, Try.ntmps105
    have A0_1 := Lib.hid ((cells_new' w #[.int .i64 P, .int .i64 D, .slice (some ⟨a0, oa, none⟩) n n] 28 (w.heap.size) (by simp)).ext ((Ext.refl _).alloc (.cells #[.int .i64 P1, .int .i64 R1, .int .i64 C1, .slice (some ⟨s0, so, none⟩) n1 n1] 40)))
    have A1_2 := Lib.hid (cells_new' (w.alloc (.cells #[.int .i64 P, .int .i64 D, .slice (some ⟨a0, oa, none⟩) n n] 28)) #[.int .i64 P1, .int .i64 R1, .int .i64 C1, .slice (some ⟨s0, so, none⟩) n1 n1] 40 (w.heap.size + 1) (by simp))
    have E_3 := Lib.hid (((Ext.refl w).alloc (.cells #[.int .i64 P, .int .i64 D, .slice (some ⟨a0, oa, none⟩) n n] 28)).alloc (.cells #[.int .i64 P1, .int .i64 R1, .int .i64 C1, .slice (some ⟨s0, so, none⟩) n1 n1] 40))
    go_wp2_with fail
    generalize ((w.alloc (.cells #[.int .i64 P, .int .i64 D, .slice (some ⟨a0, oa, none⟩) n n] 28)).alloc (.cells #[.int .i64 P1, .int .i64 R1, .int .i64 C1, .slice (some ⟨s0, so, none⟩) n1 n1] 40)) = W1 at *
    have lA0 := A0_1.out.1
    have qA00 := A0_1.out.2 0 _ rfl
    have qA01 := A0_1.out.2 1 _ rfl
    have qA02 := A0_1.out.2 2 _ rfl
    have lA1 := A1_2.out.1
    have qA10 := A1_2.out.2 0 _ rfl
    have qA11 := A1_2.out.2 1 _ rfl
    have qA12 := A1_2.out.2 2 _ rfl
    have qA13 := A1_2.out.2 3 _ rfl
    refine wp_region_held_drew (S := (fun w' => Ext W1 w' ∧ (∀ b o, b < W1.heap.size → w'.cell? ⟨b, o, none⟩ = W1.cell? ⟨b, o, none⟩))) (by kernel_rfl) (ext2 (Ext.refl _).drew) (fun hHeld => ?_)
    refine wpAnyH_take (i := 0) (v := ?v41) rfl (by kernel_rfl) (by kernel_rfl) (by kernel_rfl) (fun _ _ _ h => h) (Or.inl ⟨by rfl, ?hy41⟩) hHeld ?rest41
    case hy41 => (intro wz hSw; (try dsimp only at hSw); go_simp; (try with_reducible rfl))
    (try simp only [Act.put, List.getElem_toArray, List.getElem_cons_succ, List.getElem_cons_zero]); (try simp only [List.setIfInBounds_toArray]); (try simp only [List.set_cons_succ]); (try simp only [List.set_cons_zero])
    refine wpAnyH_take (i := 1) (v := ?v42) rfl (by kernel_rfl) (by kernel_rfl) (by kernel_rfl) (fun _ _ _ h => h) (Or.inl ⟨by rfl, ?hy42⟩) hHeld ?rest42
    case hy42 => (intro wz hSw; (try dsimp only at hSw); go_simp; (try with_reducible rfl))
    (try simp only [Act.put, List.getElem_toArray, List.getElem_cons_succ, List.getElem_cons_zero]); (try simp only [List.setIfInBounds_toArray]); (try simp only [List.set_cons_succ]); (try simp only [List.set_cons_zero])
    refine wpAnyH_ready (rs := [2]) (by kernel_rfl) (by simp) ?_
    refine AllReadyH.cons rfl (fun K' hK => ?_) AllReadyH.nil
    go_simp
    refine (l2Space_spec P _ _ _ _ a0 oa n s0 so n1 l ss _ (HT.out.ext (E_3.out.trans (Ext.refl _).drew)) hm0 (HS.out.ext (E_3.out.trans (Ext.refl _).drew)) hm1).mono ?_
    rintro e w4 ⟨rfl, h4⟩
    rw [H1.out]
    dsimp only
    refine hK.out _ _ (ext2 ((Ext.drew (Ext.refl _)).trans h4)) (fun hHeld => ?_)
    clear hK
    refine wpAnyH_take (i := 3) (v := ?v43) rfl (by kernel_rfl) (by kernel_rfl) (by kernel_rfl) (fun _ _ _ h => h) (Or.inl ⟨by rfl, ?hy43⟩) hHeld ?rest43
    case hy43 => (intro wz hSw; (try dsimp only at hSw); go_simp; (try with_reducible rfl))
    (try simp only [Act.put, List.getElem_toArray, List.getElem_cons_succ, List.getElem_cons_zero]); (try simp only [List.setIfInBounds_toArray]); (try simp only [List.set_cons_succ]); (try simp only [List.set_cons_zero])
    refine wpAnyH_take (i := 4) (v := undef) rfl (by kernel_rfl) (by kernel_rfl) (by kernel_rfl) (fun _ _ _ h => h) (Or.inr ⟨by rfl, rfl⟩) hHeld ?rest44
    (try simp only [Act.put, List.getElem_toArray, List.getElem_cons_succ, List.getElem_cons_zero]); (try simp only [List.setIfInBounds_toArray]); (try simp only [List.set_cons_succ]); (try simp only [List.set_cons_zero])
    refine wpAnyH_take (i := 5) (v := undef) rfl (by kernel_rfl) (by kernel_rfl) (by kernel_rfl) (fun _ _ _ h => h) (Or.inr ⟨by rfl, rfl⟩) hHeld ?rest45
    (try simp only [Act.put, List.getElem_toArray, List.getElem_cons_succ, List.getElem_cons_zero]); (try simp only [List.setIfInBounds_toArray]); (try simp only [List.set_cons_succ]); (try simp only [List.set_cons_zero])
    refine wpAnyH_take (i := 6) (v := undef) rfl (by kernel_rfl) (by kernel_rfl) (by kernel_rfl) (fun _ _ _ h => h) (Or.inr ⟨by rfl, rfl⟩) hHeld ?rest46
    (try simp only [Act.put, List.getElem_toArray, List.getElem_cons_succ, List.getElem_cons_zero]); (try simp only [List.setIfInBounds_toArray]); (try simp only [List.set_cons_succ]); (try simp only [List.set_cons_zero])
    refine wpAnyH_take (i := 7) (v := undef) rfl (by kernel_rfl) (by kernel_rfl) (by kernel_rfl) (fun _ _ _ h => h) (Or.inr ⟨by rfl, rfl⟩) hHeld ?rest47
    (try simp only [Act.put, List.getElem_toArray, List.getElem_cons_succ, List.getElem_cons_zero]); (try simp only [List.setIfInBounds_toArray]); (try simp only [List.set_cons_succ]); (try simp only [List.set_cons_zero])
    refine wpAnyH_take (i := 8) (v := undef) rfl (by kernel_rfl) (by kernel_rfl) (by kernel_rfl) (fun _ _ _ h => h) (Or.inr ⟨by rfl, rfl⟩) hHeld ?rest48
    (try simp only [Act.put, List.getElem_toArray, List.getElem_cons_succ, List.getElem_cons_zero]); (try simp only [List.setIfInBounds_toArray]); (try simp only [List.set_cons_succ]); (try simp only [List.set_cons_zero])
    refine wpAnyH_take (i := 9) (v := undef) rfl (by kernel_rfl) (by kernel_rfl) (by kernel_rfl) (fun _ _ _ h => h) (Or.inr ⟨by rfl, rfl⟩) hHeld ?rest49
    (try simp only [Act.put, List.getElem_toArray, List.getElem_cons_succ, List.getElem_cons_zero]); (try simp only [List.setIfInBounds_toArray]); (try simp only [List.set_cons_succ]); (try simp only [List.set_cons_zero])
    refine wpAnyH_take (i := 10) (v := undef) rfl (by kernel_rfl) (by kernel_rfl) (by kernel_rfl) (fun _ _ _ h => h) (Or.inr ⟨by rfl, rfl⟩) hHeld ?rest50
    (try simp only [Act.put, List.getElem_toArray, List.getElem_cons_succ, List.getElem_cons_zero]); (try simp only [List.setIfInBounds_toArray]); (try simp only [List.set_cons_succ]); (try simp only [List.set_cons_zero])
    refine wpAnyH_take (i := 11) (v := ?v51) rfl (by kernel_rfl) (by kernel_rfl) (by kernel_rfl) (fun _ _ _ h => h) (Or.inl ⟨by rfl, ?hy51⟩) hHeld ?rest51
    case hy51 => (intro wz hSw; (try dsimp only at hSw); go_simp; (try with_reducible rfl))
    (try simp only [Act.put, List.getElem_toArray, List.getElem_cons_succ, List.getElem_cons_zero]); (try simp only [List.setIfInBounds_toArray]); (try simp only [List.set_cons_succ]); (try simp only [List.set_cons_zero])
    refine wpAnyH_take (i := 12) (v := ?v52) rfl (by kernel_rfl) (by kernel_rfl) (by kernel_rfl) (fun _ _ _ h => h) (Or.inl ⟨by rfl, ?hy52⟩) hHeld ?rest52
    case hy52 => (intro wz hSw; (try dsimp only at hSw); go_simp; (try with_reducible rfl))
    (try simp only [Act.put, List.getElem_toArray, List.getElem_cons_succ, List.getElem_cons_zero]); (try simp only [List.setIfInBounds_toArray]); (try simp only [List.set_cons_succ]); (try simp only [List.set_cons_zero])
    refine wpAnyH_done (by kernel_rfl) ?_ _
    have E9 := Lib.hid (E_3.out.trans ((Ext.drew (Ext.refl _)).trans h4))
    clear hHeld
    go_wp2
    go_ret
    exact ⟨ret_bool HF.out.symm, E9.out⟩
  have H1 := Lib.hid h1
  have hz0 : algB P D l = true := by simp only [Bool.and_eq_true] at h1; exact h1.1
  have hz1 : hsB P D P1 R1 C1 ss = true := by simp only [Bool.and_eq_true] at h1; exact h1.2
  rw [hz0, hz1, Bool.true_and, Bool.true_and] at HA
  obtain ⟨D, rfl, hA⟩ := algB_parts hz0 hT.1
  obtain ⟨r, rfl, rfl, rfl, hr, hn1, hx1⟩ := hsB_parts hz1 hS.1
  simp only [Int.toNat_natCast] at HA
  have HPR := Lib.hid hA.pr
  have hip := isP_iff.1 hA.pr
  have hp := isP_lo hA.pr
  have hp2 := isP_hi hA.pr
  have hD := hA.dim
  have hsp := hsB_space hz1
  obtain ⟨_, hss, _, hls, _, _⟩ := spaceM_parts hsp
  have hr28 : r ≤ 28 := by omega
  have h784 : D * r ≤ 784 := Nat.mul_le_mul hD hr28
  have hul : (unitTo D D).length = D * D := unitTo_length D D
  have hux : Res (unitTo D D) P1 := unitTo_res2 P1 hp D D
  have hsq : D * D ≤ 784 := Nat.mul_le_mul hD hD
  have hpl : (pL P1 D l (unitTo D D) ss r D).length = D * r * D := by rw [pL_length, Nat.mul_assoc]
  have hpx : Res (pL P1 D l (unitTo D D) ss r D) P1 := pL_res (by omega) _ _ _ _
  obtain ⟨K, hK⟩ : ∃ K, K = (redM P1 (D * r) D (pL P1 D l (unitTo D D) ss r D)).pv.length := ⟨_, rfl⟩
  have hKD : K ≤ D := by rw [hK]; exact redM_k.2
  have hkl : (spanL P1 (D * r) D (pL P1 D l (unitTo D D) ss r D)).length = K * D := by rw [hK]; exact spanL_length hpl
  have hkx : Res (spanL P1 (D * r) D (pL P1 D l (unitTo D D) ss r D)) P1 := spanL_res hp hpx
  have cP : ∀ w1 bU, Ext w w1 → Has w1 bU (unitTo D D) → Calls Try.prog 137 #[.agg #[.int .i64 P1, .int .i64 D, .slice (some ⟨a0, oa, none⟩) n n], .agg #[.int .i64 P1, .int .i64 D, .int .i64 D, .slice (some ⟨bU, 0, none⟩) (D * D) (D * D)], .agg #[.int .i64 P1, .int .i64 r, .int .i64 D, .slice (some ⟨s0, so, none⟩) n1 n1]] w1 fun e w' => ∃ bK cK, e = .returned (.agg #[.int .i64 P1, .int .i64 (K : Nat), .int .i64 D, .slice (some ⟨bK, 0, none⟩) (K * D) cK]) ∧ Has w' bK (spanL P1 (D * r) D (pL P1 D l (unitTo D D) ss r D)) ∧ Ext w1 w' ∧ K * D ≤ cK := fun w1 bU h hk => by
    refine (l2Product_spec P1 D a0 oa n n D r bU 0 (D * D) (D * D) s0 so n1 n1 l (unitTo D D) ss w1 (hT.ext h) (hk.reads hul) (hS.ext h) hD hD hr28 hA.len rfl hn1 (Nat.le_refl _) (by unfold maxLen; omega) (Nat.le_refl _) (by unfold maxLen; omega) hA.pr hA.res hux hx1).mono ?_
    rw [hK]
    rintro e w' ⟨b, c', rfl, g1, g2, g3, g4, g5⟩
    exact ⟨b, c', rfl, g3, g4, g5⟩
  have cW : ∀ w1 bK cK, Ext w w1 → Has w1 bK (spanL P1 (D * r) D (pL P1 D l (unitTo D D) ss r D)) → K * D ≤ cK → Calls Try.prog 178 #[.agg #[.int .i64 P1, .int .i64 (K : Nat), .int .i64 D, .slice (some ⟨bK, 0, none⟩) (K * D) cK], .agg #[.int .i64 P1, .int .i64 r, .int .i64 D, .slice (some ⟨s0, so, none⟩) n1 n1]] w1 fun e w' => e = .returned (.bool q) ∧ Ext w1 w' := fun w1 bK cK h hk hc => by
    have e9 : q = withB P1 K r D (spanL P1 (D * r) D (pL P1 D l (unitTo D D) ss r D)) ss := by rw [HA.out, with_in hip hkl hls hkx hx1, hK, in_span hip hpl hpx]
    rw [e9]
    exact l1Within_spec P1 K r D bK 0 (K * D) cK n1 n1 _ _ ss w1 hA.pr (hk.reads hkl) (hS.ext h) rfl hn1 (by omega) (by omega) (by omega) hkx hx1 hc
  generalize spanL P1 (D * r) D (pL P1 D l (unitTo D D) ss r D) = SPL at *
  clear hpl hpx hK hkl hkx
  clear hT hS hA hz0 hz1 hsp hss hls hx1 hul hux hip HA hn1 h1
  go_enter Try.func105, Try.ntmps105
  have A0_1 := Lib.hid ((cells_new' w #[.int .i64 P1, .int .i64 D, .slice (some ⟨a0, oa, none⟩) n n] 28 (w.heap.size) (by simp)).ext ((Ext.refl _).alloc (.cells #[.int .i64 P1, .int .i64 r, .int .i64 D, .slice (some ⟨s0, so, none⟩) n1 n1] 40)))
  have A1_2 := Lib.hid (cells_new' (w.alloc (.cells #[.int .i64 P1, .int .i64 D, .slice (some ⟨a0, oa, none⟩) n n] 28)) #[.int .i64 P1, .int .i64 r, .int .i64 D, .slice (some ⟨s0, so, none⟩) n1 n1] 40 (w.heap.size + 1) (by simp))
  have E_3 := Lib.hid (((Ext.refl w).alloc (.cells #[.int .i64 P1, .int .i64 D, .slice (some ⟨a0, oa, none⟩) n n] 28)).alloc (.cells #[.int .i64 P1, .int .i64 r, .int .i64 D, .slice (some ⟨s0, so, none⟩) n1 n1] 40))
  go_wp2_with fail
  generalize ((w.alloc (.cells #[.int .i64 P1, .int .i64 D, .slice (some ⟨a0, oa, none⟩) n n] 28)).alloc (.cells #[.int .i64 P1, .int .i64 r, .int .i64 D, .slice (some ⟨s0, so, none⟩) n1 n1] 40)) = W1 at *
  have lA0 := A0_1.out.1
  have qA00 := A0_1.out.2 0 _ rfl
  have qA01 := A0_1.out.2 1 _ rfl
  have qA02 := A0_1.out.2 2 _ rfl
  have lA1 := A1_2.out.1
  have qA10 := A1_2.out.2 0 _ rfl
  have qA11 := A1_2.out.2 1 _ rfl
  have qA12 := A1_2.out.2 2 _ rfl
  have qA13 := A1_2.out.2 3 _ rfl
  go_region_held3 (fun w' => Ext W1 w' ∧ (∀ b o, b < W1.heap.size → w'.cell? ⟨b, o, none⟩ = W1.cell? ⟨b, o, none⟩)) (first | assumption | (with_reducible exact ext2 (Ext.trans (And.left ‹Ext W1 _ ∧ _›) ‹Ext _ _›)) | (refine ext2 ?_; with_reducible repeat (first | exact Ext.refl _ | exact And.left ‹Ext W1 _ ∧ _› | refine Ext.drew ?_ | refine Ext.drewN ?_ _))) (first
    | (go_at_call 177; (with_reducible refine (l2Space_spec P1 _ _ _ _ a0 oa n s0 so n1 l ss _ (HT.out.ext (E_3.out.trans (And.left ‹Ext W1 _ ∧ _›))) hm0 (HS.out.ext (E_3.out.trans (And.left ‹Ext W1 _ ∧ _›))) hm1).mono ?_); rintro e w4 ⟨rfl, h4⟩; rw [H1.out])
    | (go_at_call 138; (with_reducible refine (l2All_spec P1 D a0 oa n n _ hD).mono ?_); rintro e wU ⟨bU, rfl, bU1, bU2, kU, EU⟩)
    | (go_at_call 137; (with_reducible refine (cP _ _ (E_3.out.trans (And.left ‹Ext W1 _ ∧ _›)) kU).mono ?_); rintro e wK ⟨bK, cK, rfl, kK, EK, hcK⟩)
    | (go_at_call 178; (with_reducible refine (cW _ _ _ (E_3.out.trans (And.left ‹Ext W1 _ ∧ _›)) kK hcK).mono ?_); rintro e w9 ⟨rfl, h9⟩))
  all_goals
    have E9 := Lib.hid (E_3.out.trans (And.left ‹Ext W1 w9 ∧ _›))
    go_wp2
    go_ret
    exact ⟨rfl, E9.out⟩
end Go.Proofs.Ytapaopapgnfdkaa
