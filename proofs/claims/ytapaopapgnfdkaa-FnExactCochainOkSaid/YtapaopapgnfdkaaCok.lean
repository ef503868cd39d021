/-
  Cochains: what wraps them, their sizes, and whether a list is one.
-/
import Derived.Test.YtapaopapgnfdkaaPls
import Derived.Test.YtapaopapgnfdkaaSbs
import Derived.Test.YtapaopapgnfdkaaAo
namespace Go.Proofs.Ytapaopapgnfdkaa
open Go.ChangeShapes Go.WideShapes Go.ChangeAt Go.RowKit
set_option linter.unusedVariables false
set_option linter.unusedSimpArgs false

noncomputable def cokM (P D : Int) (l : List Int) (k : Int) (vs : List Int) : Bool := algB P D l && (decide (D ≤ 7) && (inB k 0 D && ((((vs.length : Nat) : Int) == (((subsM D k).length : Nat) : Int)) && resB vs P)))
theorem subsN_pos (n : Nat) : ∀ (k a : Nat), a + k ≤ n → 0 < (subsN n k a).length
  | 0, _, _ => by simp [subsN]
  | k + 1, a, h => by
    have h1 := subsN_pos n k (a + 1) (by omega)
    rw [subsN, show n - a = (n - a - 1) + 1 by omega, List.range'_succ]
    simp only [List.flatMap_cons, List.length_append, List.length_map]
    omega
theorem subsM_pos {D : Nat} {k : Int} (hD : D ≤ 7) : 0 < (subsM D k).length ↔ inB k 0 D = true := by
  have h0 : inB (D : Int) 0 7 = true := inB_iff.2 ⟨by omega, by omega⟩
  unfold subsM
  rw [h0, Bool.true_and]
  split
  · next h =>
    rw [inB_iff] at h
    simp only [Int.toNat_natCast]
    exact ⟨fun _ => inB_iff.2 h, fun _ => subsN_pos D k.toNat 0 (by omega)⟩
  · next h => simp [h]

set_option maxRecDepth 100000 in
set_option maxHeartbeats 1600000 in
theorem wrapCochains_no (P D : Int) (a0 oa n : Nat) (l : List Int) (w : World) (hT : Reads w (some ⟨a0, oa, none⟩) n l) (hm0 : n ≤ 1048576) (h0 : 7 < D ∨ algB P D l = false) :
    Calls Try.prog 132 #[.agg #[.int .i64 P, .int .i64 D, .slice (some ⟨a0, oa, none⟩) n n]] w fun e w' => e = .returned (.tuple #[.pointer none, .bool false]) ∧ Ext w w' := by
  have HT := Lib.hid hT
  by_cases h7 : 7 < D
  · clear h0 hT
    go_enter Try.func132, Try.ntmps132
    have A0_1 := Lib.hid (cells_new' w #[.int .i64 P, .int .i64 D, .slice (some ⟨a0, oa, none⟩) n n] 28 (w.heap.size) (by simp))
    have E_2 := Lib.hid ((Ext.refl w).alloc (.cells #[.int .i64 P, .int .i64 D, .slice (some ⟨a0, oa, none⟩) n n] 28))
    have lA0 := A0_1.out.1
    have qA00 := A0_1.out.2 0 _ rfl
    have qA01 := A0_1.out.2 1 _ rfl
    have qA02 := A0_1.out.2 2 _ rfl
    try simp only [World.size_alloc] at lA0
    go_wp2
    go_ret2
    exact ⟨rfl, E_2.out⟩
  · have H0 : Hid (algB P D l = false) := h0.resolve_left h7
    clear h0 hT
    go_enter Try.func132, Try.ntmps132
    have A0_1 := Lib.hid (cells_new' w #[.int .i64 P, .int .i64 D, .slice (some ⟨a0, oa, none⟩) n n] 28 (w.heap.size) (by simp))
    have E_2 := Lib.hid ((Ext.refl w).alloc (.cells #[.int .i64 P, .int .i64 D, .slice (some ⟨a0, oa, none⟩) n n] 28))
    have lA0 := A0_1.out.1
    have qA00 := A0_1.out.2 0 _ rfl
    have qA01 := A0_1.out.2 1 _ rfl
    have qA02 := A0_1.out.2 2 _ rfl
    try simp only [World.size_alloc] at lA0
    go_wp2_with fail
    refine (wrap_impl P _ a0 oa n n l _ (HT.out.ext E_2.out) hm0 (Nat.le_refl _) (by unfold maxLen; omega)).mono ?_
    rintro e w_3 ⟨B, rfl, hb, hlo, h_3⟩
    clear lA0 qA00 qA01 qA02
    have A0_4 := Lib.hid (A0_1.out.ext h_3)
    clear A0_1
    have E_5 := Lib.hid (E_2.out.trans h_3)
    clear E_2
    clear hb hlo
    rw [H0.out]
    go_wp2
    go_ret2
    exact ⟨rfl, E_5.out⟩

set_option maxRecDepth 100000 in
set_option maxHeartbeats 1600000 in
theorem wrapCochains_yes (P : Int) (D a0 oa n : Nat) (l : List Int) (w : World) (hT : Reads w (some ⟨a0, oa, none⟩) n l) (hm0 : n ≤ 1048576) (h0 : algB P D l = true) (hD : D ≤ 7) :
    Calls Try.prog 132 #[.agg #[.int .i64 P, .int .i64 D, .slice (some ⟨a0, oa, none⟩) n n]] w fun e w' => ∃ CB B M c, e = .returned (.tuple #[.pointer (some ⟨CB, 0, none⟩), .bool true]) ∧ Cells w' CB [.pointer (some ⟨B, 0, none⟩), .map (some M)] ∧ Cells w' B [.int .i64 P, .int .i64 D, .slice (some ⟨a0, oa, none⟩) n n] ∧ World.ownsMap w' Try.prog 3 (plainElem Try.prog 3) M c (plK D (D + 1)) ∧ w.heap.size ≤ CB ∧ Ext w w' := by
  have HT := Lib.hid hT
  have H0 := Lib.hid h0
  have h7 : ¬ (7 : Int) < (D : Int) := by omega
  have HPS := Lib.hid (fun w1 => placesOfSubsets_impl D w1 hD)
  clear h0 hT
  go_enter Try.func132, Try.ntmps132
  have A0_1 := Lib.hid (cells_new' w #[.int .i64 P, .int .i64 D, .slice (some ⟨a0, oa, none⟩) n n] 28 (w.heap.size) (by simp))
  have E_2 := Lib.hid ((Ext.refl w).alloc (.cells #[.int .i64 P, .int .i64 D, .slice (some ⟨a0, oa, none⟩) n n] 28))
  have lA0 := A0_1.out.1
  have qA00 := A0_1.out.2 0 _ rfl
  have qA01 := A0_1.out.2 1 _ rfl
  have qA02 := A0_1.out.2 2 _ rfl
  try simp only [World.size_alloc] at lA0
  go_wp2_with fail
  refine (wrap_impl P _ a0 oa n n l _ (HT.out.ext E_2.out) hm0 (Nat.le_refl _) (by unfold maxLen; omega)).mono ?_
  rintro e w_3 ⟨B, rfl, hb, hlo, h_3⟩
  clear lA0 qA00 qA01 qA02
  have A0_4 := Lib.hid (A0_1.out.ext h_3)
  clear A0_1
  have E_5 := Lib.hid (E_2.out.trans h_3)
  clear E_2
  have B_6 := Lib.hid hb
  clear hb hlo
  rw [H0.out]
  have lB := B_6.out.1
  have qB0 := B_6.out.2 0 _ rfl
  have qB1 := B_6.out.2 1 _ rfl
  have qB2 := B_6.out.2 2 _ rfl
  try simp only [World.size_alloc] at lB
  go_wp2_with fail
  refine (HPS.out _).mono ?_
  rintro e w_7 ⟨M, c, rfl, hM, hlo, h_7⟩
  clear lB qB0 qB1 qB2
  have A0_8 := Lib.hid (A0_4.out.ext h_7)
  clear A0_4
  have B_9 := Lib.hid (B_6.out.ext h_7)
  clear B_6
  have E_10 := Lib.hid (E_5.out.trans h_7)
  clear E_5
  have HM := Lib.hid hM
  clear hM hlo
  have HMA := Lib.hid (HM.out.alloc (.cells #[.pointer (some ⟨B, 0, none⟩), .map (some M)] 144))
  have hle := E_10.out.le
  have P_9 := (Ext.refl w_7).alloc (.cells #[.pointer (some ⟨B, 0, none⟩), .map (some M)] 144)
  have A0_11 := Lib.hid (A0_8.out.ext P_9)
  clear A0_8
  have B_12 := Lib.hid (B_9.out.ext P_9)
  clear B_9
  have E_13 := Lib.hid (E_10.out.trans P_9)
  clear E_10
  clear P_9
  have C_14 := Lib.hid (cells_new w_7 #[.pointer (some ⟨B, 0, none⟩), .map (some M)] 144)
  go_wp2
  go_ret2
  exact ⟨w_7.heap.size, B, M, c, rfl, C_14.out, B_12.out, HMA.out, hle, E_13.out⟩

set_option maxRecDepth 100000 in
set_option maxHeartbeats 1600000 in
theorem degreeSize_impl (P D k : Int) (CB B : Nat) (v0 v1 : Value) (w : World) (hc : Cells w CB [.pointer (some ⟨B, 0, none⟩), v0]) (hb : Cells w B [.int .i64 P, .int .i64 D, v1]) :
    Calls Try.prog 199 #[.pointer (some ⟨CB, 0, none⟩), .int .i64 k] w fun e w' => e = .returned (.int .i64 ((subsM D k).length : Nat)) ∧ Ext w w' := by
  have lC := hc.1
  have c0 := hc.2 0 _ rfl
  have lB := hb.1
  have b1 := hb.2 1 _ rfl
  clear hc hb
  go_enter Try.func199, Try.ntmps199
  go_wp2_with fail
  refine (subsetsOf_impl (n := D) (k := k) (d := subsM D k) rfl).mono ?_
  rintro e w2 ⟨v, rfl, ⟨a, m, cv, rfl, hR, hm⟩, h2⟩
  have HL : Hid ((subsM D k).length = m) := hR.1
  clear hR lC c0 lB b1
  go_wp2
  go_ret
  rw [HL.out]
  exact ⟨rfl, h2⟩

set_option maxRecDepth 100000 in
set_option maxHeartbeats 1600000 in
theorem hasCochain_impl (P D k : Int) (CB B nv cv : Nat) (av : Option Addr) (vs : List Int) (v0 v1 : Value) (w : World) (hc : Cells w CB [.pointer (some ⟨B, 0, none⟩), v0]) (hb : Cells w B [.int .i64 P, .int .i64 D, v1]) (hv : Reads w av nv vs) (hm : nv ≤ maxLen) :
    Calls Try.prog 133 #[.pointer (some ⟨CB, 0, none⟩), .int .i64 k, .slice av nv cv] w fun e w' => e = .returned (.bool (decide (0 < (subsM D k).length) && (((nv : Int) == (((subsM D k).length : Nat) : Int)) && resB vs P))) ∧ Ext w w' := by
  have HC := Lib.hid hc
  have HB := Lib.hid hb
  have HV := Lib.hid hv
  have HDS := Lib.hid (degreeSize_impl P D k CB B v0 v1 w hc hb)
  clear hc hb hv
  generalize (subsM D k).length = z at *
  go_enter Try.func133, Try.ntmps133
  go_wp2_with fail
  refine HDS.out.mono ?_
  rintro e w2 ⟨rfl, h2⟩
  have C2 := HC.out.ext h2
  have B2 := HB.out.ext h2
  have lC := C2.1
  have c0 := C2.2 0 _ rfl
  have lB := B2.1
  have b0 := B2.2 0 _ rfl
  have V2 := Lib.hid (HV.out.ext h2)
  clear C2 B2
  by_cases hz : 0 < z
  · have hz2 : (0 : Int) < (z : Int) := by omega
    have HF : Hid ((decide (0 < z) && (((nv : Int) == ((z : Nat) : Int)) && resB vs P)) = (((nv : Int) == ((z : Nat) : Int)) && resB vs P)) := by rw [Hid, decide_eq_true hz, Bool.true_and]
    clear hz
    go_wp2_with fail
    refine (isVector_impl av nv cv vs z P _ V2.out hm).mono ?_
    rintro e w3 ⟨rfl, rfl⟩
    go_wp2
    go_ret
    rw [HF.out]
    exact ⟨rfl, h2⟩
  · have hz2 : ¬ (0 : Int) < (z : Int) := by omega
    have HF : Hid ((decide (0 < z) && (((nv : Int) == ((z : Nat) : Int)) && resB vs P)) = false) := by rw [Hid, decide_eq_false hz, Bool.false_and]
    clear hz
    go_wp2
    go_ret
    rw [HF.out]
    exact ⟨rfl, h2⟩

set_option maxRecDepth 100000 in
set_option maxHeartbeats 3200000 in
theorem cochainOk_impl {P D k : Int} {a0 oa n b0 o0 nv : Nat} {l vs : List Int} {w : World} {i : Bool} (hT : Reads w (some ⟨a0, oa, none⟩) n l) (hm0 : n ≤ 1048576) (hV : Reads w (some ⟨b0, o0, none⟩) nv vs) (hm1 : nv ≤ 1048576) (hM : cokM P D l k vs = i) :
    Calls Try.prog 57 #[.agg #[.int .i64 P, .int .i64 D, .slice (some ⟨a0, oa, none⟩) n n], .int .i64 k, .slice (some ⟨b0, o0, none⟩) nv nv] w fun e w' => e = .returned (.bool i) ∧ Ext w w' := by
  subst hM
  have HT := Lib.hid hT
  have HV := Lib.hid hV
  have hmx : nv ≤ maxLen := by unfold maxLen; omega
  have HVL : Hid (vs.length = nv) := hV.1
  have HA : Hid (cokM P D l k vs = (algB P D l && (decide (D ≤ 7) && (inB k 0 D && ((((vs.length : Nat) : Int) == (((subsM D k).length : Nat) : Int)) && resB vs P))))) := rfl
  generalize cokM P D l k vs = q at HA
  by_cases hno : 7 < D ∨ algB P D l = false
  · have HF : Hid (q = false) := by
      rw [Hid, HA.out]
      rcases hno with h | h
      · rw [decide_eq_false (show ¬ D ≤ 7 by omega), Bool.false_and, Bool.and_false]
      · rw [h, Bool.false_and]
    have HN := Lib.hid hno
    clear hno hT hV HA
    go_enter Try.func57, Try.ntmps57
    have A0_1 := Lib.hid (cells_new' w #[.int .i64 P, .int .i64 D, .slice (some ⟨a0, oa, none⟩) n n] 28 (w.heap.size) (by simp))
    have E_2 := Lib.hid ((Ext.refl w).alloc (.cells #[.int .i64 P, .int .i64 D, .slice (some ⟨a0, oa, none⟩) n n] 28))
    have lA0 := A0_1.out.1
    have qA00 := A0_1.out.2 0 _ rfl
    have qA01 := A0_1.out.2 1 _ rfl
    have qA02 := A0_1.out.2 2 _ rfl
    try simp only [World.size_alloc] at lA0
    go_wp2_with fail
    refine (wrapCochains_no P D a0 oa n l _ (HT.out.ext E_2.out) hm0 HN.out).mono ?_
    rintro e w_3 ⟨rfl, h_3⟩
    clear lA0 qA00 qA01 qA02
    have A0_4 := Lib.hid (A0_1.out.ext h_3)
    clear A0_1
    have E_5 := Lib.hid (E_2.out.trans h_3)
    clear E_2
    go_wp2
    go_ret
    exact ⟨ret_bool HF.out.symm, E_5.out⟩
  have h0 : algB P D l = true := by
    rcases h : algB P D l with _ | _
    · exact absurd (Or.inr h) hno
    · rfl
  have h7 : D ≤ 7 := by
    apply Classical.byContradiction
    intro h; exact hno (Or.inl (by omega))
  obtain ⟨D, rfl, hA⟩ := algB_parts h0 hT.1
  have hD7 : D ≤ 7 := by omega
  have H0 := Lib.hid h0
  have HF : Hid (q = (decide (0 < (subsM D k).length) && (((nv : Int) == (((subsM D k).length : Nat) : Int)) && resB vs P))) := by
    rw [Hid, HA.out, h0, decide_eq_true h7, HVL.out]
    have e : inB k 0 D = decide (0 < (subsM D k).length) := by
      rw [Bool.eq_iff_iff, decide_eq_true_eq]; exact (subsM_pos hD7).symm
    rw [e]; simp
  clear h0 h7 hno hT hV HA hA
  go_enter Try.func57, Try.ntmps57
  have A0_1 := Lib.hid (cells_new' w #[.int .i64 P, .int .i64 D, .slice (some ⟨a0, oa, none⟩) n n] 28 (w.heap.size) (by simp))
  have E_2 := Lib.hid ((Ext.refl w).alloc (.cells #[.int .i64 P, .int .i64 D, .slice (some ⟨a0, oa, none⟩) n n] 28))
  have lA0 := A0_1.out.1
  have qA00 := A0_1.out.2 0 _ rfl
  have qA01 := A0_1.out.2 1 _ rfl
  have qA02 := A0_1.out.2 2 _ rfl
  try simp only [World.size_alloc] at lA0
  go_wp2_with fail
  refine (wrapCochains_yes P D a0 oa n l _ (HT.out.ext E_2.out) hm0 H0.out hD7).mono ?_
  rintro e w_3 ⟨CB, B, M, c, rfl, hC, hB, hMM, hlo, h_3⟩
  clear lA0 qA00 qA01 qA02
  have A0_4 := Lib.hid (A0_1.out.ext h_3)
  clear A0_1
  have E_5 := Lib.hid (E_2.out.trans h_3)
  clear E_2
  have HCC := Lib.hid hC
  have HBB := Lib.hid hB
  clear hC hB hMM hlo
  go_wp2_with fail
  refine (hasCochain_impl P D k CB B nv nv _ vs _ _ _ HCC.out HBB.out (HV.out.ext E_5.out) hmx).mono ?_
  rintro e w_6 ⟨rfl, h_6⟩
  have A0_7 := Lib.hid (A0_4.out.ext h_6)
  clear A0_4
  have E_8 := Lib.hid (E_5.out.trans h_6)
  clear E_5
  go_wp2
  go_ret
  exact ⟨ret_bool HF.out.symm, E_8.out⟩

set_option maxRecDepth 100000 in
set_option maxHeartbeats 1600000 in
theorem l4Small_spec (P D : Int) (a0 oa n : Nat) (l : List Int) (w : World) (hT : Reads w (some ⟨a0, oa, none⟩) n l) (hm0 : n ≤ 1048576) :
    Calls Try.prog 128 #[.agg #[.int .i64 P, .int .i64 D, .slice (some ⟨a0, oa, none⟩) n n]] w fun e w' => e = .returned (.bool (algB P D l && decide (D ≤ 7))) ∧ Ext w w' := by
  have HT := Lib.hid hT
  rcases h0 : algB P D l with _ | _
  · have H0 := Lib.hid h0
    clear h0 hT
    go_enter Try.func128, Try.ntmps128
    have A0_1 := Lib.hid (cells_new' w #[.int .i64 P, .int .i64 D, .slice (some ⟨a0, oa, none⟩) n n] 28 (w.heap.size) (by simp))
    have E_2 := Lib.hid ((Ext.refl w).alloc (.cells #[.int .i64 P, .int .i64 D, .slice (some ⟨a0, oa, none⟩) n n] 28))
    have lA0 := A0_1.out.1
    have qA00 := A0_1.out.2 0 _ rfl
    have qA01 := A0_1.out.2 1 _ rfl
    have qA02 := A0_1.out.2 2 _ rfl
    try simp only [World.size_alloc] at lA0
    go_wp2_with fail
    refine (algebraOk_spec (HT.out.ext E_2.out) hm0 H0.out).mono ?_
    rintro e w_3 ⟨rfl, h_3⟩
    clear lA0 qA00 qA01 qA02
    have A0_4 := Lib.hid (A0_1.out.ext h_3)
    clear A0_1
    have E_5 := Lib.hid (E_2.out.trans h_3)
    clear E_2
    have lA0 := A0_4.out.1
    have qA00 := A0_4.out.2 0 _ rfl
    have qA01 := A0_4.out.2 1 _ rfl
    have qA02 := A0_4.out.2 2 _ rfl
    try simp only [World.size_alloc] at lA0
    go_wp2
    go_ret
    exact ⟨rfl, E_5.out⟩
  · have H0 := Lib.hid h0
    clear h0 hT
    go_enter Try.func128, Try.ntmps128
    have A0_1 := Lib.hid (cells_new' w #[.int .i64 P, .int .i64 D, .slice (some ⟨a0, oa, none⟩) n n] 28 (w.heap.size) (by simp))
    have E_2 := Lib.hid ((Ext.refl w).alloc (.cells #[.int .i64 P, .int .i64 D, .slice (some ⟨a0, oa, none⟩) n n] 28))
    have lA0 := A0_1.out.1
    have qA00 := A0_1.out.2 0 _ rfl
    have qA01 := A0_1.out.2 1 _ rfl
    have qA02 := A0_1.out.2 2 _ rfl
    try simp only [World.size_alloc] at lA0
    go_wp2_with fail
    refine (algebraOk_spec (HT.out.ext E_2.out) hm0 H0.out).mono ?_
    rintro e w_3 ⟨rfl, h_3⟩
    clear lA0 qA00 qA01 qA02
    have A0_4 := Lib.hid (A0_1.out.ext h_3)
    clear A0_1
    have E_5 := Lib.hid (E_2.out.trans h_3)
    clear E_2
    have lA0 := A0_4.out.1
    have qA00 := A0_4.out.2 0 _ rfl
    have qA01 := A0_4.out.2 1 _ rfl
    have qA02 := A0_4.out.2 2 _ rfl
    try simp only [World.size_alloc] at lA0
    go_wp2
    go_ret
    rw [Bool.true_and]
    exact ⟨rfl, E_5.out⟩

set_option maxRecDepth 100000 in
set_option maxHeartbeats 3200000 in
theorem cochainOk_spec {P D k : Int} {a0 oa n b0 o0 nv : Nat} {l vs : List Int} {w : World} {i : Bool} (hT : Reads w (some ⟨a0, oa, none⟩) n l) (hm0 : n ≤ 1048576) (hV : Reads w (some ⟨b0, o0, none⟩) nv vs) (hm1 : nv ≤ 1048576) (hM : cokM P D l k vs = i) :
    Calls Try.prog 55 #[.agg #[.int .i64 P, .int .i64 D, .slice (some ⟨a0, oa, none⟩) n n], .int .i64 k, .slice (some ⟨b0, o0, none⟩) nv nv] w fun e w' => e = .returned (.bool i) ∧ Ext w w' := by
  subst hM
  have HT := Lib.hid hT
  have HV := Lib.hid hV
  have hmx : nv ≤ maxLen := by unfold maxLen; omega
  have HVL : Hid (vs.length = nv) := hV.1
  have HA : Hid (cokM P D l k vs = (algB P D l && (decide (D ≤ 7) && (inB k 0 D && ((((vs.length : Nat) : Int) == (((subsM D k).length : Nat) : Int)) && resB vs P))))) := rfl
  generalize cokM P D l k vs = q at HA
  rcases h1 : (algB P D l && decide (D ≤ 7)) with _ | _
  · have HF : Hid (q = false) := by rw [Hid, HA.out, ← Bool.and_assoc, h1, Bool.false_and]
    have H1 := Lib.hid h1
    clear h1 hT hV HA
    go_enter Try.func55, Try.ntmps55
    have A0_1 := Lib.hid (cells_new' w #[.int .i64 P, .int .i64 D, .slice (some ⟨a0, oa, none⟩) n n] 28 (w.heap.size) (by simp))
    have E_2 := Lib.hid ((Ext.refl w).alloc (.cells #[.int .i64 P, .int .i64 D, .slice (some ⟨a0, oa, none⟩) n n] 28))
    have lA0 := A0_1.out.1
    have qA00 := A0_1.out.2 0 _ rfl
    have qA01 := A0_1.out.2 1 _ rfl
    have qA02 := A0_1.out.2 2 _ rfl
    try simp only [World.size_alloc] at lA0
    go_wp2_with fail
    refine (l4Small_spec P D a0 oa n l _ (HT.out.ext E_2.out) hm0).mono ?_
    rintro e w_3 ⟨rfl, h_3⟩
    clear lA0 qA00 qA01 qA02
    have A0_4 := Lib.hid (A0_1.out.ext h_3)
    clear A0_1
    have E_5 := Lib.hid (E_2.out.trans h_3)
    clear E_2
    rw [H1.out]
    have lA0 := A0_4.out.1
    have qA00 := A0_4.out.2 0 _ rfl
    have qA01 := A0_4.out.2 1 _ rfl
    have qA02 := A0_4.out.2 2 _ rfl
    try simp only [World.size_alloc] at lA0
    go_wp2
    go_ret
    exact ⟨ret_bool HF.out.symm, E_5.out⟩
  have H1 := Lib.hid h1
  rcases hi : inB k 0 D with _ | _
  · have HF : Hid (q = false) := by rw [Hid, HA.out, hi]; simp
    have HI := Lib.hid hi
    clear h1 hT hV HA hi
    go_enter Try.func55, Try.ntmps55
    have A0_1 := Lib.hid (cells_new' w #[.int .i64 P, .int .i64 D, .slice (some ⟨a0, oa, none⟩) n n] 28 (w.heap.size) (by simp))
    have E_2 := Lib.hid ((Ext.refl w).alloc (.cells #[.int .i64 P, .int .i64 D, .slice (some ⟨a0, oa, none⟩) n n] 28))
    have lA0 := A0_1.out.1
    have qA00 := A0_1.out.2 0 _ rfl
    have qA01 := A0_1.out.2 1 _ rfl
    have qA02 := A0_1.out.2 2 _ rfl
    try simp only [World.size_alloc] at lA0
    go_wp2_with fail
    refine (l4Small_spec P D a0 oa n l _ (HT.out.ext E_2.out) hm0).mono ?_
    rintro e w_3 ⟨rfl, h_3⟩
    clear lA0 qA00 qA01 qA02
    have A0_4 := Lib.hid (A0_1.out.ext h_3)
    clear A0_1
    have E_5 := Lib.hid (E_2.out.trans h_3)
    clear E_2
    rw [H1.out]
    have lA0 := A0_4.out.1
    have qA00 := A0_4.out.2 0 _ rfl
    have qA01 := A0_4.out.2 1 _ rfl
    have qA02 := A0_4.out.2 2 _ rfl
    try simp only [World.size_alloc] at lA0
    go_wp2_with fail
    refine (l1In_spec _ _ _ _).mono ?_
    rintro e w_6 ⟨rfl, rfl⟩
    rw [HI.out]
    go_wp2
    go_ret
    exact ⟨ret_bool HF.out.symm, E_5.out⟩
  have HI := Lib.hid hi
  have h0 : algB P D l = true := by rw [Bool.and_eq_true] at h1; exact h1.1
  have h7 : D ≤ 7 := by rw [Bool.and_eq_true, decide_eq_true_eq] at h1; exact h1.2
  obtain ⟨D, rfl, hA⟩ := algB_parts h0 hT.1
  have hD7 : D ≤ 7 := by omega
  obtain ⟨hk0, hk1⟩ := inB_iff.1 hi
  obtain ⟨k, rfl⟩ := Int.eq_ofNat_of_zero_le hk0
  have hk7 : k ≤ 8 := by omega
  have eS : subsM D k = subsN D k 0 := by
    unfold subsM
    rw [if_pos (by rw [Bool.and_eq_true]; exact ⟨inB_iff.2 ⟨by omega, by omega⟩, hi⟩)]
    simp only [Int.toNat_natCast]
  have HF : Hid (q = (((nv : Int) == (((subsN D k 0).length : Nat) : Int)) && resB vs P)) := by
    rw [Hid, HA.out, h0, decide_eq_true h7, hi, HVL.out, eS]; simp
  have HSB := Lib.hid (fun w1 => l4Subsets_spec D hD7 k hk7 0 (Nat.zero_le _) w1)
  clear h0 h7 h1 hi hT hV HA hA hk0 hk1 eS
  generalize (subsN D k 0).length = z at *
  generalize row (subsN D k 0) = rz at *
  rcases hz : ((nv : Int) == (z : Int)) with _ | _
  all_goals rw [hz] at HF
  · go_enter Try.func55, Try.ntmps55
    have A0_1 := Lib.hid (cells_new' w #[.int .i64 P, .int .i64 D, .slice (some ⟨a0, oa, none⟩) n n] 28 (w.heap.size) (by simp))
    have E_2 := Lib.hid ((Ext.refl w).alloc (.cells #[.int .i64 P, .int .i64 D, .slice (some ⟨a0, oa, none⟩) n n] 28))
    have lA0 := A0_1.out.1
    have qA00 := A0_1.out.2 0 _ rfl
    have qA01 := A0_1.out.2 1 _ rfl
    have qA02 := A0_1.out.2 2 _ rfl
    try simp only [World.size_alloc] at lA0
    go_wp2_with fail
    refine (l4Small_spec P D a0 oa n l _ (HT.out.ext E_2.out) hm0).mono ?_
    rintro e w_3 ⟨rfl, h_3⟩
    clear lA0 qA00 qA01 qA02
    have A0_4 := Lib.hid (A0_1.out.ext h_3)
    clear A0_1
    have E_5 := Lib.hid (E_2.out.trans h_3)
    clear E_2
    rw [H1.out]
    have lA0 := A0_4.out.1
    have qA00 := A0_4.out.2 0 _ rfl
    have qA01 := A0_4.out.2 1 _ rfl
    have qA02 := A0_4.out.2 2 _ rfl
    try simp only [World.size_alloc] at lA0
    go_wp2_with fail
    refine (l1In_spec _ _ _ _).mono ?_
    rintro e w_6 ⟨rfl, rfl⟩
    rw [HI.out]
    go_wp2_with fail
    refine (HSB.out _).mono ?_
    rintro e w9 ⟨v, rfl, hRS, h9⟩
    obtain ⟨av, cv, rfl⟩ : ∃ av cv, v = .slice av z cv := RowsS.shape hRS
    have E9 := Lib.hid (E_5.out.trans h9)
    clear lA0 qA00 qA01 qA02
    have A9 := A0_4.out.ext h9
    have lA9 := A9.1
    have a90 := A9.2 0 _ rfl
    clear hRS h9 A9
    go_wp2
    go_ret
    exact ⟨by rw [HF.out]; simp, E9.out⟩
  · go_enter Try.func55, Try.ntmps55
    have A0_1 := Lib.hid (cells_new' w #[.int .i64 P, .int .i64 D, .slice (some ⟨a0, oa, none⟩) n n] 28 (w.heap.size) (by simp))
    have E_2 := Lib.hid ((Ext.refl w).alloc (.cells #[.int .i64 P, .int .i64 D, .slice (some ⟨a0, oa, none⟩) n n] 28))
    have lA0 := A0_1.out.1
    have qA00 := A0_1.out.2 0 _ rfl
    have qA01 := A0_1.out.2 1 _ rfl
    have qA02 := A0_1.out.2 2 _ rfl
    try simp only [World.size_alloc] at lA0
    go_wp2_with fail
    refine (l4Small_spec P D a0 oa n l _ (HT.out.ext E_2.out) hm0).mono ?_
    rintro e w_3 ⟨rfl, h_3⟩
    clear lA0 qA00 qA01 qA02
    have A0_4 := Lib.hid (A0_1.out.ext h_3)
    clear A0_1
    have E_5 := Lib.hid (E_2.out.trans h_3)
    clear E_2
    rw [H1.out]
    have lA0 := A0_4.out.1
    have qA00 := A0_4.out.2 0 _ rfl
    have qA01 := A0_4.out.2 1 _ rfl
    have qA02 := A0_4.out.2 2 _ rfl
    try simp only [World.size_alloc] at lA0
    go_wp2_with fail
    refine (l1In_spec _ _ _ _).mono ?_
    rintro e w_6 ⟨rfl, rfl⟩
    rw [HI.out]
    go_wp2_with fail
    refine (HSB.out _).mono ?_
    rintro e w9 ⟨v, rfl, hRS, h9⟩
    obtain ⟨av, cv, rfl⟩ : ∃ av cv, v = .slice av z cv := RowsS.shape hRS
    have E9 := Lib.hid (E_5.out.trans h9)
    clear lA0 qA00 qA01 qA02
    have A9 := A0_4.out.ext h9
    have lA9 := A9.1
    have a90 := A9.2 0 _ rfl
    clear hRS h9 A9
    go_wp2_with fail
    refine (l1Residues_spec _ nv nv vs P _ (HV.out.ext E9.out) hmx).mono ?_
    rintro e w8 ⟨rfl, rfl⟩
    go_wp2
    go_ret
    exact ⟨by rw [HF.out, Bool.true_and]; rfl, E9.out⟩
end Go.Proofs.Ytapaopapgnfdkaa
