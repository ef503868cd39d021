/-
  The inner derivations, listed.
-/
import Derived.Test.YtkbpigpanookjaaLst
import Derived.Test.YtkbpigpanookjaaRwR
import Derived.Test.YtkbpigpanookjaaFrmS
import Derived.Test.YtkbpigpanookjaaPrS
import Derived.Test.YtkbpigpanookjaaRi
namespace Go.Proofs.Ytkbpigpanookjaa
open Go.ChangeShapes Go.WideShapes Go.ChangeAt Go.RowKit
set_option linter.unusedVariables false
set_option linter.unusedSimpArgs false

/-- The model. -/
noncomputable def innM (P D : Int) (l : List Int) : List (List Int) := if algB P D l && decide (D ≤ 8) then rowsF (rowL (D.toNat * D.toNat) (spanL P D.toNat (D.toNat * D.toNat) l)) (redM P D.toNat (D.toNat * D.toNat) l).pv.length else []
theorem rowsF_flat (C : Nat) (xs : List Int) : ∀ k : Nat, (rowsF (rowL C xs) k).flatten = xs.take (k * C)
  | 0 => by simp [rowsF]
  | k + 1 => by
    have e : rowsF (rowL C xs) (k + 1) = rowsF (rowL C xs) k ++ [rowL C xs k] := by simp [rowsF, List.range_succ]
    rw [e, List.flatten_append, rowsF_flat C xs k, Nat.add_mul, Nat.one_mul, List.take_add]
    simp [rowL]
theorem rowsF_succ (f : Nat → List Int) (k : Nat) : rowsF f (k + 1) = rowsF f k ++ [f k] := by simp [rowsF, List.range_succ]
/-- What the list is cut from. -/
structure InnP (P : Int) (D C K n : Nat) (l S : List Int) : Prop where
  alg : AlgP P D n l
  dim : D ≤ 8
  cc : D * D = C
  kk : (redM P D C l).pv.length = K
  ss : spanL P D C l = S
theorem InnP.cle {P : Int} {D C K n : Nat} {l S : List Int} (h : InnP P D C K n l S) : C ≤ 64 := by rw [← h.cc]; exact Nat.mul_le_mul h.dim h.dim
theorem InnP.nn {P : Int} {D C K n : Nat} {l S : List Int} (h : InnP P D C K n l S) : n = D * C := by rw [← h.cc, h.alg.len, Nat.mul_assoc]
theorem InnP.nle {P : Int} {D C K n : Nat} {l S : List Int} (h : InnP P D C K n l S) : n ≤ 512 := by rw [h.nn]; exact Nat.mul_le_mul h.dim h.cle
theorem InnP.kle {P : Int} {D C K n : Nat} {l S : List Int} (h : InnP P D C K n l S) : K ≤ 8 := by
  have := (redTo_pv (P := P) (R := D) (C := C) (xs := l) C).2.1
  rw [← h.kk]
  exact Nat.le_trans this h.dim
theorem InnP.kc {P : Int} {D C K n : Nat} {l S : List Int} (h : InnP P D C K n l S) : K * C ≤ 512 := Nat.mul_le_mul h.kle h.cle
theorem InnP.sl {P : Int} {D C K n : Nat} {l S : List Int} (h : InnP P D C K n l S) (hl : l.length = n) : S.length = K * C := by rw [← h.ss, ← h.kk, spanL_length (by rw [hl, h.nn])]
theorem InnP.tot {P : Int} {D C K n : Nat} {l S : List Int} (h : InnP P D C K n l S) : (rowsF (rowL C S) K).flatten.length ≤ 1048576 := by
  rw [rowsF_flat, List.length_take]
  have := h.kc
  omega
theorem innM_cases {P D : Int} {l : List Int} {n : Nat} (hn : l.length = n) : (algB P D l = false ∧ innM P D l = []) ∨ (algB P D l = true ∧ ¬ D ≤ 8 ∧ innM P D l = []) ∨ ∃ (d C K : Nat) (S : List Int), D = d ∧ algB P d l = true ∧ InnP P d C K n l S ∧ innM P d l = rowsF (rowL C S) K := by
  rcases h0 : algB P D l with _ | _
  · exact .inl ⟨rfl, by simp [innM, h0]⟩
  · by_cases h8 : D ≤ 8
    · obtain ⟨d, rfl, hA⟩ := algB_parts h0 hn
      exact .inr (.inr ⟨d, _, _, _, rfl, h0, ⟨hA, by omega, rfl, rfl, rfl⟩, by simp [innM, h0, h8]⟩)
    · exact .inr (.inl ⟨rfl, h8, by simp [innM, h0, h8]⟩)

set_option maxRecDepth 100000 in
set_option maxHeartbeats 1600000 in
theorem wrapListed_impl (P D : Int) (a0 oa n : Nat) (l : List Int) (w : World) (hT : Reads w (some ⟨a0, oa, none⟩) n l) (hm0 : n ≤ 1048576) :
    Calls Try.prog 84 #[.agg #[.int .i64 P, .int .i64 D, .slice (some ⟨a0, oa, none⟩) n n]] w (WrapPost w P D (.slice (some ⟨a0, oa, none⟩) n n) (algB P D l && decide (D ≤ 8))) := by
  have HT := Lib.hid hT
  clear hT
  rcases h0 : algB P D l with _ | _
  all_goals
    have H0 := Lib.hid h0
    clear h0
    go_enter Try.func84, Try.ntmps84
    have A0_1 := Lib.hid (cells_new' w #[.int .i64 P, .int .i64 D, .slice (some ⟨a0, oa, none⟩) n n] 27 (w.heap.size) (by simp))
    have E_2 := Lib.hid ((Ext.refl w).alloc (.cells #[.int .i64 P, .int .i64 D, .slice (some ⟨a0, oa, none⟩) n n] 27))
    have lA0 := A0_1.out.1
    have qA00 := A0_1.out.2 0 _ rfl
    have qA01 := A0_1.out.2 1 _ rfl
    have qA02 := A0_1.out.2 2 _ rfl
    try simp only [World.size_alloc] at lA0
    go_wp2_with fail
    refine (wrap_impl P _ a0 oa n n l _ (HT.out.ext E_2.out) hm0 (Nat.le_refl _) (by unfold maxLen; omega)).mono ?_
    rintro e w_3 ⟨B, rfl, hb, hlo, h_3⟩
    clear lA0 qA00 qA01 qA02
    have A0_4 := Lib.hid (A0_1.out.ext h_3)
    clear A0_1
    have E_5 := Lib.hid (E_2.out.trans h_3)
    clear E_2
    have B_6 := Lib.hid hb
    have HLO := Lib.hid hlo
    clear hb hlo
    rw [H0.out]
    have H9 := Lib.hid E_5.out.le
    have lB := B_6.out.1
    have qB0 := B_6.out.2 0 _ rfl
    have qB1 := B_6.out.2 1 _ rfl
    have qB2 := B_6.out.2 2 _ rfl
    try simp only [World.size_alloc] at lB
    go_wp2_with fail
    go_quiet (fail)
    go_wp2
    go_ret2
    exact ⟨B, by simp, B_6.out.ext (by with_reducible repeat (first | exact Ext.refl _ | refine Ext.drewN ?_ _)), by have := HLO.out; simp at this; omega, E_5.out.trans (by with_reducible repeat (first | exact Ext.refl _ | refine Ext.drewN ?_ _))⟩

set_option maxRecDepth 100000 in
set_option maxHeartbeats 3200000 in
theorem innerDerivations_impl {P D : Int} {a0 oa n : Nat} {l : List Int} {w : World} {d : List (List Int)} (hT : Reads w (some ⟨a0, oa, none⟩) n l) (hm0 : n ≤ 1048576) (hM : innM P D l = d) :
    Calls Try.prog 40 #[.agg #[.int .i64 P, .int .i64 D, .slice (some ⟨a0, oa, none⟩) n n]] w fun e w' => ∃ v, e = .returned v ∧ Rrows w w' v d ∧ Ext w w' := by
  have HT := Lib.hid hT
  have hcs := innM_cases (P := P) (D := D) hT.1
  rw [hM] at hcs
  have hno : (algB P D l && decide (D ≤ 8)) = false → Calls Try.prog 40 #[.agg #[.int .i64 P, .int .i64 D, .slice (some ⟨a0, oa, none⟩) n n]] w fun e w' => e = .returned (.slice none 0 0) ∧ Ext w w' := fun hq => by
    have HQ := Lib.hid hq
    clear hq hcs hM hT
    go_enter Try.func40, Try.ntmps40
    have A0_1 := Lib.hid (cells_new' w #[.int .i64 P, .int .i64 D, .slice (some ⟨a0, oa, none⟩) n n] 27 (w.heap.size) (by simp))
    have E_2 := Lib.hid ((Ext.refl w).alloc (.cells #[.int .i64 P, .int .i64 D, .slice (some ⟨a0, oa, none⟩) n n] 27))
    have lA0 := A0_1.out.1
    have qA00 := A0_1.out.2 0 _ rfl
    have qA01 := A0_1.out.2 1 _ rfl
    have qA02 := A0_1.out.2 2 _ rfl
    try simp only [World.size_alloc] at lA0
    go_wp2_with fail
    refine (wrapListed_impl P _ a0 oa n l _ (HT.out.ext E_2.out) hm0).mono ?_
    rintro e w_3 ⟨B, rfl, hb, hlo, h_3⟩
    clear lA0 qA00 qA01 qA02
    have A0_4 := Lib.hid (A0_1.out.ext h_3)
    clear A0_1
    have E_5 := Lib.hid (E_2.out.trans h_3)
    clear E_2
    have B_6 := Lib.hid hb
    clear hb hlo
    rw [HQ.out]
    go_wp2
    go_ret
    exact ⟨rfl, E_5.out⟩
  have hnil : d = [] → (algB P D l && decide (D ≤ 8)) = false → Calls Try.prog 40 #[.agg #[.int .i64 P, .int .i64 D, .slice (some ⟨a0, oa, none⟩) n n]] w fun e w' => ∃ v, e = .returned v ∧ Rrows w w' v d ∧ Ext w w' := fun hd hq => by
    refine (hno hq).mono ?_
    rintro e w' ⟨rfl, hE⟩
    subst hd
    exact ⟨_, rfl, ⟨none, 0, 0, rfl, rowsR_nil _ _ _ _, by omega⟩, hE⟩
  rcases hcs with ⟨h0, hd⟩ | ⟨h0, h8, hd⟩ | ⟨D, C, K, S, rfl, h0, hI, hd⟩
  · exact hnil hd (by rw [h0]; rfl)
  · exact hnil hd (by rw [h0]; simp [h8])
  clear hno hnil
  have HQ : Hid ((algB P D l && decide ((D : Int) ≤ 8)) = true) := by
    have := hI.dim
    rw [Hid, h0, Bool.true_and, decide_eq_true_eq]; omega
  have HI := Lib.hid hI
  have hp := isP_lo hI.alg.pr
  have hp2 := isP_hi hI.alg.pr
  have hD := hI.dim
  have hC := hI.cle
  have hK := hI.kle
  have hn := hI.nle
  have hkc := hI.kc
  have HAR : Hid (∀ w1 B, Cells w1 B [.int .i64 P, .int .i64 D, .slice (some ⟨a0, oa, none⟩) n n] → Calls Try.prog 86 #[.pointer (some ⟨B, 0, none⟩)] w1 fun e w' => e = .returned (.agg #[.int .i64 P, .int .i64 D, .int .i64 C, .slice (some ⟨a0, oa, none⟩) n n]) ∧ Ext w1 w') := fun w1 B hc => by
    have h9 := adjointRows_impl P D B a0 oa n n w1 hc (by omega)
    rw [HI.out.cc] at h9
    exact h9
  have HSP : Hid (∀ w1, Ext w w1 → Calls Try.prog 67 #[.agg #[.int .i64 P, .int .i64 D, .int .i64 C, .slice (some ⟨a0, oa, none⟩) n n]] w1 fun e w' => ∃ b, e = .returned (.agg #[.int .i64 P, .int .i64 K, .int .i64 C, .slice (some ⟨b, 0, none⟩) (K * C) (K * C)]) ∧ Has w' b S ∧ Ext w1 w') := fun w1 h => by
    have h9 := span_impl P D C n n (some ⟨a0, oa, none⟩) l w1 (HT.out.ext h) HI.out.nn (by omega) (by omega) (by omega) hp hp2 HI.out.alg.res
    rw [HI.out.kk, HI.out.ss] at h9
    refine h9.mono ?_
    rintro e w' ⟨b, rfl, h1, h2, h3, h4⟩
    exact ⟨b, rfl, h3, h4⟩
  have HLR : Hid (∀ b w1, Has w1 b S → Calls Try.prog 85 #[.agg #[.int .i64 P, .int .i64 K, .int .i64 C, .slice (some ⟨b, 0, none⟩) (K * C) (K * C)]] w1 fun e w' => ∃ g, e = .returned (.slice (some ⟨g, 0, none⟩) K K) ∧ w1.heap.size ≤ g ∧ RowsB w' (w1.heap.size + 1) w'.heap.size g K (rowL C S) K ∧ g < w'.heap.size ∧ Ext w1 w') := fun b w1 h =>
    listRows_impl P K C b (K * C) S w1 h (HI.out.sl HT.out.1) (by omega) (by omega) (by omega) (Nat.le_refl _) (by unfold maxLen; omega)
  have HD := Lib.hid (hM.symm.trans hd)
  clear hT hI hd h0 hM
  go_enter Try.func40, Try.ntmps40
  have A0_1 := Lib.hid (cells_new' w #[.int .i64 P, .int .i64 (D : Int), .slice (some ⟨a0, oa, none⟩) n n] 27 (w.heap.size) (by simp))
  have E_2 := Lib.hid ((Ext.refl w).alloc (.cells #[.int .i64 P, .int .i64 (D : Int), .slice (some ⟨a0, oa, none⟩) n n] 27))
  have lA0 := A0_1.out.1
  have qA00 := A0_1.out.2 0 _ rfl
  have qA01 := A0_1.out.2 1 _ rfl
  have qA02 := A0_1.out.2 2 _ rfl
  try simp only [World.size_alloc] at lA0
  go_wp2_with fail
  refine (wrapListed_impl P _ a0 oa n l _ (HT.out.ext E_2.out) hm0).mono ?_
  rintro e w_3 ⟨B, rfl, hb, hlo, h_3⟩
  clear lA0 qA00 qA01 qA02
  have A0_4 := Lib.hid (A0_1.out.ext h_3)
  clear A0_1
  have E_5 := Lib.hid (E_2.out.trans h_3)
  clear E_2
  have B_6 := Lib.hid hb
  clear hb hlo
  rw [HQ.out]
  go_wp2_with fail
  refine (HAR.out _ _ B_6.out).mono ?_
  rintro e w_7 ⟨rfl, h_7⟩
  have A0_8 := Lib.hid (A0_4.out.ext h_7)
  clear A0_4
  have B_9 := Lib.hid (B_6.out.ext h_7)
  clear B_6
  have E_10 := Lib.hid (E_5.out.trans h_7)
  clear E_5
  go_wp2_with fail
  refine (HSP.out _ E_10.out).mono ?_
  rintro e w_11 ⟨b, rfl, hs, h_11⟩
  have HS := Lib.hid hs
  clear hs
  have A0_12 := Lib.hid (A0_8.out.ext h_11)
  clear A0_8
  have B_13 := Lib.hid (B_9.out.ext h_11)
  clear B_9
  have E_14 := Lib.hid (E_10.out.trans h_11)
  clear E_10
  have hsz := E_14.out.le
  go_wp2_with fail
  refine (HLR.out _ _ HS.out).mono ?_
  rintro e w_15 ⟨gb, rfl, hg, hrb, hgl, h_15⟩
  have HRB := Lib.hid hrb
  clear hrb
  have A0_16 := Lib.hid (A0_12.out.ext h_15)
  clear A0_12
  have B_17 := Lib.hid (B_13.out.ext h_15)
  clear B_13
  have E_18 := Lib.hid (E_14.out.trans h_15)
  clear E_14
  go_wp2
  go_ret
  exact ⟨_, rfl, ⟨some ⟨gb, 0, none⟩, K, K, rfl, by rw [HD.out]; exact HRB.out.toR (by omega) hgl (by omega) (Nat.le_refl _) HI.out.tot, by omega⟩, E_18.out⟩

set_option maxRecDepth 100000 in
set_option maxHeartbeats 3200000 in
theorem InnerDerivations_no {P D : Int} {a0 oa n : Nat} {l : List Int} {w : World} {q : Bool} (hT : Reads w (some ⟨a0, oa, none⟩) n l) (hm0 : n ≤ 1048576) (h0 : algB P D l = q) (h8 : q = true → ¬ D ≤ 8) :
    Calls Try.prog 39 #[.agg #[.int .i64 P, .int .i64 D, .slice (some ⟨a0, oa, none⟩) n n]] w fun e w' => e = .returned (.slice none 0 0) ∧ Ext w w' := by
  have HT := Lib.hid hT
  have H0 := Lib.hid h0
  clear hT h0
  rcases q with _ | _
  · clear h8
    go_enter Try.func39, Try.ntmps39
    have A0_1 := Lib.hid (cells_new' w #[.int .i64 P, .int .i64 D, .slice (some ⟨a0, oa, none⟩) n n] 27 (w.heap.size) (by simp))
    have E_2 := Lib.hid ((Ext.refl w).alloc (.cells #[.int .i64 P, .int .i64 D, .slice (some ⟨a0, oa, none⟩) n n] 27))
    have lA0 := A0_1.out.1
    have qA00 := A0_1.out.2 0 _ rfl
    have qA01 := A0_1.out.2 1 _ rfl
    have qA02 := A0_1.out.2 2 _ rfl
    try simp only [World.size_alloc] at lA0
    go_wp2_with fail
    refine (algebraOk_spec (HT.out.ext E_2.out) hm0 H0.out).mono ?_
    rintro e w_3 ⟨rfl, h_3⟩
    clear lA0 qA00 qA01 qA02
    have A0_4 := Lib.hid (A0_1.out.ext h_3)
    clear A0_1
    have E_5 := Lib.hid (E_2.out.trans h_3)
    clear E_2
    go_wp2
    go_ret
    exact ⟨rfl, E_5.out⟩
  · have h9 : 8 < D := by have := h8 rfl; omega
    clear h8
    go_enter Try.func39, Try.ntmps39
    have A0_1 := Lib.hid (cells_new' w #[.int .i64 P, .int .i64 D, .slice (some ⟨a0, oa, none⟩) n n] 27 (w.heap.size) (by simp))
    have E_2 := Lib.hid ((Ext.refl w).alloc (.cells #[.int .i64 P, .int .i64 D, .slice (some ⟨a0, oa, none⟩) n n] 27))
    have lA0 := A0_1.out.1
    have qA00 := A0_1.out.2 0 _ rfl
    have qA01 := A0_1.out.2 1 _ rfl
    have qA02 := A0_1.out.2 2 _ rfl
    try simp only [World.size_alloc] at lA0
    go_wp2_with fail
    refine (algebraOk_spec (HT.out.ext E_2.out) hm0 H0.out).mono ?_
    rintro e w_3 ⟨rfl, h_3⟩
    clear lA0 qA00 qA01 qA02
    have A0_4 := Lib.hid (A0_1.out.ext h_3)
    clear A0_1
    have E_5 := Lib.hid (E_2.out.trans h_3)
    clear E_2
    have lA0 := A0_4.out.1
    have qA00 := A0_4.out.2 0 _ rfl
    have qA01 := A0_4.out.2 1 _ rfl
    have qA02 := A0_4.out.2 2 _ rfl
    try simp only [World.size_alloc] at lA0
    go_wp2
    go_ret
    exact ⟨rfl, E_5.out⟩
set_option maxRecDepth 100000 in
set_option maxHeartbeats 3200000 in
theorem InnerDerivations_yes {P : Int} {D C K a0 oa n : Nat} {l S : List Int} {w : World} (hT : Reads w (some ⟨a0, oa, none⟩) n l) (hm0 : n ≤ 1048576) (h0 : algB P D l = true) (hI : InnP P D C K n l S) :
    Calls Try.prog 39 #[.agg #[.int .i64 P, .int .i64 D, .slice (some ⟨a0, oa, none⟩) n n]] w fun e w' => ∃ v, e = .returned v ∧ Rrows w w' v (rowsF (rowL C S) K) ∧ Ext w w' := by
  have HT := Lib.hid hT
  have HI := Lib.hid hI
  have H0 := Lib.hid h0
  have hp := isP_lo hI.alg.pr
  have hp2 := isP_hi hI.alg.pr
  have hD := hI.dim
  have hC := hI.cle
  have hK := hI.kle
  have hn := hI.nle
  have hkc := hI.kc
  have e1 : (D : Int) * (D : Int) = (C : Int) := by rw [← hI.cc]; simp
  have g2 : IntKind.i64.wrap ((D : Int) * (D : Int)) = (C : Int) := by rw [e1]; exact IntWalk.i64_in _ ⟨by omega, by omega⟩
  have HCC := Lib.hid e1
  have HAD : Hid (∀ i, i < D → ∀ w1 bx, Ext w w1 → Has w1 bx (basL D i) → Calls Try.prog 55 #[.agg #[.int .i64 P, .int .i64 D, .slice (some ⟨a0, oa, none⟩) n n], .slice (some ⟨bx, 0, none⟩) D D] w1 fun e w' => ∃ b c, e = .returned (.agg #[.int .i64 P, .int .i64 D, .int .i64 D, .slice (some ⟨b, 0, none⟩) C c]) ∧ Own w' w1.heap.size w'.heap.size (some ⟨b, 0, none⟩) C (rowL C l i) ∧ Ext w1 w') := fun i hi w1 bx h kb => by
    refine (l2Adjoint_spec P D a0 oa n n D _ l (basL D i) w1 (HT.out.ext h) (kb.reads (by simp [basL])) (by omega) HI.out.alg.len hp hp2 HI.out.alg.res (fun j hj => by
      have : j < D := by simpa [basL] using hj
      rw [gi_basL hi]; split <;> omega)).mono ?_
    rintro e w' ⟨a, c, rfl, ho, hE⟩
    rw [adTo_bas HI.out.alg.res (by rw [HT.out.1, HI.out.alg.len]) hi, HI.out.cc] at ho
    rw [HI.out.cc]
    have hpos : 0 < C := by rw [← HI.out.cc]; exact Nat.mul_pos (by omega) (by omega)
    rcases ho with ⟨h1, h2 | ⟨b, rfl, h3⟩⟩
    · have := h2.2; omega
    · exact ⟨b, c, rfl, ⟨h1, .inr ⟨b, rfl, h3⟩⟩, hE⟩
  have HRW : Hid (∀ va vc base wr, RowsG wr base (.slice va D vc) (rowsF (rowL C l) D) → Calls Try.prog 83 #[.int .i64 P, .int .i64 C, .slice va D vc] wr (RowsPost wr P C D l)) := fun va vc base wr h => by
    have e9 : (rowsF (rowL C l) D).flatten = l := by rw [rowsF_flat, List.take_of_length_le (by rw [HT.out.1, HI.out.nn]; omega)]
    have h9 := l1Rows_spec P C D base vc va (rowsF (rowL C l) D) wr h (by omega) (by rw [e9, HT.out.1]; omega)
    rw [e9] at h9
    exact h9
  have HSP : Hid (∀ w1 ra rc, (ra = none → l.length = 0 ∧ rc = 0) → Reads w1 ra l.length l → Calls Try.prog 82 #[.agg #[.int .i64 P, .int .i64 D, .int .i64 C, .slice ra l.length rc]] w1 fun e w' => ∃ b c, e = .returned (.agg #[.int .i64 P, .int .i64 K, .int .i64 C, .slice (some ⟨b, 0, none⟩) (K * C) c]) ∧ Has w' b S ∧ Ext w1 w' ∧ K * C ≤ c) := fun w1 ra rc hz hr => by
    have hln := HT.out.1
    have h9 := l1Span_spec P D C l.length rc ra l w1 hr (by rw [hln, HI.out.nn]) (by omega) (by omega) (by omega) HI.out.alg.pr HI.out.alg.res hz
    rw [HI.out.kk, HI.out.ss] at h9
    refine h9.mono ?_
    rintro e w' ⟨b, c, rfl, h1, h2, h3, h4, h5⟩
    exact ⟨b, c, rfl, h3, h4, h5⟩
  have HLS : Hid (∀ b c w1, Has w1 b S → K * C ≤ c → Calls Try.prog 81 #[.agg #[.int .i64 P, .int .i64 K, .int .i64 C, .slice (some ⟨b, 0, none⟩) (K * C) c]] w1 fun e w' => ∃ v, e = .returned v ∧ RowsS w' w1.heap.size w'.heap.size v (rowL C S) K ∧ Ext w1 w') := fun b c w1 h hc =>
    l3Lists_spec P K C b c S w1 h (HI.out.sl HT.out.1) (by omega) (by omega) (by omega) hc
  clear hT hI h0 e1
  go_enter Try.func39, Try.ntmps39
  have A0_1 := Lib.hid (cells_new' w #[.int .i64 P, .int .i64 D, .slice (some ⟨a0, oa, none⟩) n n] 27 (w.heap.size) (by simp))
  have E_2 := Lib.hid ((Ext.refl w).alloc (.cells #[.int .i64 P, .int .i64 D, .slice (some ⟨a0, oa, none⟩) n n] 27))
  have lA0 := A0_1.out.1
  have qA00 := A0_1.out.2 0 _ rfl
  have qA01 := A0_1.out.2 1 _ rfl
  have qA02 := A0_1.out.2 2 _ rfl
  try simp only [World.size_alloc] at lA0
  go_wp2_with fail
  refine (algebraOk_spec (HT.out.ext E_2.out) hm0 H0.out).mono ?_
  rintro e w_3 ⟨rfl, h_3⟩
  clear lA0 qA00 qA01 qA02
  have A0_4 := Lib.hid (A0_1.out.ext h_3)
  clear A0_1
  have E_5 := Lib.hid (E_2.out.trans h_3)
  clear E_2
  have lA0 := A0_4.out.1
  have qA00 := A0_4.out.2 0 _ rfl
  have qA01 := A0_4.out.2 1 _ rfl
  have qA02 := A0_4.out.2 2 _ rfl
  try simp only [World.size_alloc] at lA0
  go_wp2_with fail
  clear lA0 qA00 qA01 qA02
  have G0 := Lib.hid (rows_lit w_3 w_3.heap.size (Nat.le_refl _))
  have hW2 : (w_3.alloc (.cells #[] 22)).heap.size = w_3.heap.size + 1 := by simp
  have E00 := Lib.hid ((Ext.refl _).alloc (.cells #[] 22) : Ext w_3 (w_3.alloc (.cells #[] 22)))
  generalize (w_3.alloc (.cells #[] 22)) = W2 at *
  clear hW2
  go_loopw [3, 4] (fun v z wr => ∃ k : Nat, k ≤ D ∧ z = .int .i64 k ∧ Hid (RowsG wr w_3.heap.size v (rowsF (rowL C l) k)) ∧ Hid (Ext w_3 wr)) (fun _ z _ => D - (intOf z).toNat)
  case atStart => exact ⟨0, by omega, rfl, G0, E00⟩
  case round =>
    clear G0 E00
    obtain ⟨k, hk, rfl, hG, hE⟩ := hrel
    have lW := A0_4.out.1
    have u0 := A0_4.out.2 0 _ rfl
    have u1 := A0_4.out.2 1 _ rfl
    have u2 := A0_4.out.2 2 _ rfl
    have AX := A0_4.out.ext hE.out
    have lX := AX.1
    have x0 := AX.2 0 _ rfl
    have x1 := AX.2 1 _ rfl
    have x2 := AX.2 2 _ rfl
    clear AX
    have HKL : Hid ((rowsF (rowL C l) k).length = k) := rowsF_length k
    have EW := Lib.hid (E_5.out.trans hE.out)
    obtain ⟨va, vc, rfl, _⟩ := hG.out.shape
    by_cases hlt : k < D
    · have HA1 := Lib.hid (HAD.out k hlt)
      generalize hRS : rowsF (rowL C l) k = RS at *
      have HRO := Lib.hid hRS
      clear hRS
      have hfd := run_fieldM
      go_wp2_with fail
      go_region_held3 (fun w' => Ext w_3 w' ∧ (∀ b o, b < w_3.heap.size → w'.cell? ⟨b, o, none⟩ = w_3.cell? ⟨b, o, none⟩)) (first | assumption | (with_reducible exact ext2 (Ext.trans (And.left ‹Ext w_3 _ ∧ _›) ‹Ext _ _›)) | (refine ext2 ?_; with_reducible repeat (first | exact Ext.refl _ | exact And.left ‹Ext w_3 _ ∧ _› | exact hE.out | refine Ext.drew ?_ | refine Ext.drewN ?_ _ | refine Ext.alloc ?_ _))) (first
        | (go_at_call 56; (with_reducible refine (l2Basis_spec D k _ (by omega) hlt).mono ?_); rintro e w3 ⟨b, rfl, kb, h3⟩)
        | (go_at_call 55; (with_reducible refine (HA1.out _ _ (E_5.out.trans (And.left ‹Ext w_3 _ ∧ _›)) kb).mono ?_); rintro e w4 ⟨b4, c4, rfl, kr, h4⟩)
        | (have e34 : Ext wr w4 := Ext.trans (Ext.trans (Ext.drew (Ext.refl _)) h3) h4
           have sz0 := hE.out.le
           have sz1 := (Ext.trans (Ext.drew (Ext.refl wr)) h3).le
           have sz2 := h4.le
           have sz3 := HKL.out
           have sz7 : (w4.alloc (.cells #[.slice (some ⟨b4, 0, none⟩) C c4] 22)).heap.size = w4.heap.size + 1 := by simp
           have HRow : Own (w4.alloc (.cells #[.slice (some ⟨b4, 0, none⟩) C c4] 22)) w_3.heap.size (w4.alloc (.cells #[.slice (some ⟨b4, 0, none⟩) C c4] 22)).heap.size (some ⟨b4, 0, none⟩) C (rowL C l k) := (kr.ext ((Ext.refl _).alloc _)).mono (by omega) (by omega)
           have hcl : (w4.alloc (.cells #[.slice (some ⟨b4, 0, none⟩) C c4] 22)).cell? ⟨w4.heap.size, 0, none⟩ = some (.slice (some ⟨b4, 0, none⟩) C c4) := by rw [World.cell?_alloc_at _ _ _ _ rfl]; rfl
           refine step_appendRow rfl (.tmp 20) (.tmp 28) rfl (base := w_3.heap.size) (.slice va RS.length vc) RS rfl (RowsG.ext (RowsG.ext hG.out e34) ((Ext.refl _).alloc _)) w4.heap.size b4 C c4 1 (rowL C l k) rfl hcl HRow (by omega) (by omega) ?_
           intro v6 w6 hG6 hg6
           have E6 : Ext w_3 w6 := Ext.grown (Ext.alloc (Ext.trans hE.out e34) _) hg6 (fun z hz => by have := hG.out.blk z hz; omega)
           have E62 := ext2 E6))
      all_goals
        have G6 : Hid (RowsG w6 w_3.heap.size v6 (rowsF (rowL C l) (k + 1))) := by rw [Hid, rowsF_succ, HRO.out]; exact hG6
        have E7 := Lib.hid E6
        clear hG hE hG6 hg6 E6 E62 HRow kr h3 h4 e34 hfd
        go_wp2
        exact ⟨⟨k + 1, by omega, by simp, G6, E7⟩, by simp [intOf]; omega⟩
    · obtain rfl : D = k := by omega
      have hG2 : Hid (RowsG wr w_3.heap.size (.slice va D vc) (rowsF (rowL C l) D)) := by have := hG.out; rw [HKL.out] at this; exact this
      clear hG
      rw [HKL.out]
      go_wp2_with fail
      try rw [g2]
      refine (HRW.out _ _ _ _ hG2.out).mono ?_
      rintro e w5 ⟨ra, rc, rfl, hnil, ho, h5⟩
      have HO := Lib.hid ho.reads
      have HNIL := Lib.hid hnil
      have E5 := Lib.hid (EW.out.trans h5)
      clear ho hnil h5
      go_wp2_with fail
      refine (HSP.out _ _ _ HNIL.out HO.out).mono ?_
      rintro e w6 ⟨b6, c6, rfl, hs, h6, hc6⟩
      have HS := Lib.hid hs
      have E6 := Lib.hid (E5.out.trans h6)
      clear hs h6
      go_wp2_with fail
      refine (HLS.out _ _ _ HS.out hc6).mono ?_
      rintro e w7 ⟨v, rfl, hR, h7⟩
      have hsz := E6.out.le
      obtain ⟨a, c, rfl, hRR⟩ := hR.toR hsz (Nat.le_refl _) (Nat.le_refl _) HI.out.tot
      have HRR := Lib.hid hRR
      have E7 := Lib.hid (E6.out.trans h7)
      clear hR hRR h7
      go_wp2
      go_ret
      exact ⟨_, rfl, ⟨a, K, c, rfl, HRR.out, by omega⟩, E7.out⟩
set_option maxHeartbeats 800000 in
theorem innerDerivations_spec {P D : Int} {a0 oa n : Nat} {l : List Int} {w : World} {d : List (List Int)} (hT : Reads w (some ⟨a0, oa, none⟩) n l) (hm0 : n ≤ 1048576) (hM : innM P D l = d) :
    Calls Try.prog 39 #[.agg #[.int .i64 P, .int .i64 D, .slice (some ⟨a0, oa, none⟩) n n]] w fun e w' => ∃ v, e = .returned v ∧ Rrows w w' v d ∧ Ext w w' := by
  have hcs := innM_cases (P := P) (D := D) hT.1
  rw [hM] at hcs
  rcases hcs with ⟨h0, hd⟩ | ⟨h0, h8, hd⟩ | ⟨D, C, K, S, rfl, h0, hI, hd⟩
  · refine (InnerDerivations_no hT hm0 h0 (by simp)).mono ?_
    rintro e w' ⟨rfl, hE⟩
    subst hd
    exact ⟨_, rfl, ⟨none, 0, 0, rfl, rowsR_nil _ _ _ _, by omega⟩, hE⟩
  · refine (InnerDerivations_no hT hm0 h0 (fun _ => h8)).mono ?_
    rintro e w' ⟨rfl, hE⟩
    subst hd
    exact ⟨_, rfl, ⟨none, 0, 0, rfl, rowsR_nil _ _ _ _, by omega⟩, hE⟩
  · rw [← hM, hd]
    exact InnerDerivations_yes hT hm0 h0 hI
end Go.Proofs.Ytkbpigpanookjaa
