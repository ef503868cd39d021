/-
  Tables of quotients, in the specification.
-/
import Derived.Test.YtapaopapgnfdkaaQtI
import Derived.Test.YtapaopapgnfdkaaInS
import Derived.Maps.AppendAt
import Derived.Deep.RegionLaw
namespace Go.Proofs.Ytapaopapgnfdkaa
open Go.ChangeShapes Go.WideShapes Go.ChangeAt Go.RowKit
set_option linter.unusedVariables false
set_option linter.unusedSimpArgs false

/-- append of one number, as a step of a region, with what is known of the block. -/
theorem step_append1at {ops : Array Oper} {o : Oper} {a : Act} {w : World} {K : Act → World → Prop} {Q : Exit → Act → World → Prop} {E : Prop} (hgd : o.guard = none) (s x : Operand)
    (ho : o.op = .call { callee := .builtin .append, args := #[s, x], argTypes := #[22, 22] }) (base : Nat)
    (v : Value) (n : Nat) (xs : List Int) (y : Int) (c g : Nat) (hs : a.eval s = v) (hx : a.eval x = .slice (some ⟨g, 0, none⟩) 1 c) (hown : Grows w base v n xs) (hy : w.cell? ⟨g, 0, none⟩ = some (.int .i64 y)) (hb : n + 1 ≤ 1048577) (hbase : base ≤ w.heap.size)
    (h : ∀ v' w', Grows w' base v' (n + 1) (xs ++ [y]) → w.grownBy w' v.ownBlock → (v'.ownBlock = v.ownBlock ∨ v'.ownBlock = some w.heap.size) → K (a.put o.dst v') w') :
    if Region.wanted o (yielded ops a.tmps) = true then Oper.wp Try.prog o a w K Q else E := by
  obtain ⟨i0, hi, hz0, hz1, hz2⟩ := info_parts Try.infoInt
  have hw : Region.wanted o (yielded ops a.tmps) = true := by simp [Region.wanted, hgd]
  rw [if_pos hw]
  obtain ⟨v', w', hr, h2, h3, h4, h5⟩ := run_append_own_at (P := Try.prog) w base 22 o.type 3 i0 (.int .i64 0) 1 8 Try.underlying22 hi hz0 hz1 hz2 rfl (by decide) v n (xs.map (Value.int .i64)) hown ⟨g, 0, none⟩ 1 c [.int .i64 y] rfl (fun j u hu => by
    obtain rfl : j = 0 := by have := (List.getElem?_eq_some_iff.1 hu).1; simp at this; omega
    simp at hu
    subst hu
    exact hy) (fun u hu => by simp at hu; subst hu; rfl) (by unfold maxLen; omega) (by omega) hbase
  unfold Oper.wp execOp
  simp only [ho, resolve, invoke, builtin, Sem.run_bind, Sem.run_pure, Result.andThen_ok, List.map_toArray, List.map_cons, List.map_nil, hs, hx, hr]
  exact h v' w' (by simpa [Grows] using h2) h3 h5
theorem take_one (l : List Int) (k : Nat) (hk : k < l.length) : l.take (k + 1) = l.take k ++ [gi l k] := by
  rw [List.take_add_one, List.getElem?_eq_getElem hk]
  simp [gi, List.getD_eq_getElem?_getD, hk]
theorem Grows.keepNe {w w' : World} {base n b : Nat} {v : Value} {xs : List Int} (h : Grows w base v n xs) (hg : w.grownBy w' (some b)) (hne : ∀ z, v.ownBlock = some z → z ≠ b) : Grows w' base v n xs := by
  obtain ⟨h1, h2⟩ := h
  refine ⟨h1, ?_⟩
  rcases h2 with h2 | ⟨g, cap, cur, rfl, h3, h4, h5⟩
  · exact .inl h2
  · refine .inr ⟨g, cap, cur, rfl, h3, ?_, h5⟩
    rw [hg.block g (Array.getElem?_eq_some_iff.1 h4).1 (fun e => hne g rfl (by injection e))]
    exact h4
theorem Has.grNe {w w' : World} {b : Nat} {xs : List Int} {row : Option Nat} (h : Has w b xs) (hg : w.grownBy w' row) (hne : row ≠ some b) : Has w' b xs := by
  obtain ⟨r, h1, h2⟩ := h
  exact ⟨r, by rw [hg.block b (Array.getElem?_eq_some_iff.1 h1).1 (fun e => hne e.symm)]; exact h1, h2⟩

set_option maxRecDepth 100000 in
set_option maxHeartbeats 6400000 in
theorem quotientTable_spec {P D : Int} {a0 oa n : Nat} {l : List Int} {P1 R1 C1 : Int} {s0 so n1 : Nat} {ss : List Int} {w : World} {p d : Int} {xs : List Int} {ok : Bool} (hT : Reads w (some ⟨a0, oa, none⟩) n l) (hm0 : n ≤ 1048576) (hS : Reads w (some ⟨s0, so, none⟩) n1 ss) (hm1 : n1 ≤ 1048576) (hM : qtM P D l P1 R1 C1 ss = (⟨p, d, xs⟩, ok)) :
    Calls Try.prog 47 #[.agg #[.int .i64 P, .int .i64 D, .slice (some ⟨a0, oa, none⟩) n n], .agg #[.int .i64 P1, .int .i64 R1, .int .i64 C1, .slice (some ⟨s0, so, none⟩) n1 n1]] w fun e w' => ∃ v, e = .returned (.tuple #[v, .bool ok]) ∧ Ralg w w' v p d xs ∧ Ext w w' := by
  have HT := Lib.hid hT
  have HS := Lib.hid hS
  rcases h1 : idlM P D l P1 R1 C1 ss with _ | _
  · simp only [qtM, h1, noAlg, Bool.false_eq_true, if_false, Prod.mk.injEq, Alg.mk.injEq] at hM
    obtain ⟨⟨rfl, rfl, rfl⟩, rfl⟩ := hM
    have H1 := Lib.hid h1
    clear h1 hT hS
    go_enter Try.func47, Try.ntmps47
    have A0_1 := Lib.hid (((cells_new' w #[.int .i64 P, .int .i64 D, .slice (some ⟨a0, oa, none⟩) n n] 28 (w.heap.size) (by simp)).ext ((Ext.refl _).alloc (.cells #[.int .i64 P1, .int .i64 R1, .int .i64 C1, .slice (some ⟨s0, so, none⟩) n1 n1] 40))).ext ((Ext.refl _).alloc (.cells #[.int .i64 0, .int .i64 0, .slice none 0 0] 28)))
    have A1_2 := Lib.hid ((cells_new' (w.alloc (.cells #[.int .i64 P, .int .i64 D, .slice (some ⟨a0, oa, none⟩) n n] 28)) #[.int .i64 P1, .int .i64 R1, .int .i64 C1, .slice (some ⟨s0, so, none⟩) n1 n1] 40 (w.heap.size + 1) (by simp)).ext ((Ext.refl _).alloc (.cells #[.int .i64 0, .int .i64 0, .slice none 0 0] 28)))
    have R_3 := Lib.hid (cells_new' ((w.alloc (.cells #[.int .i64 P, .int .i64 D, .slice (some ⟨a0, oa, none⟩) n n] 28)).alloc (.cells #[.int .i64 P1, .int .i64 R1, .int .i64 C1, .slice (some ⟨s0, so, none⟩) n1 n1] 40)) #[.int .i64 0, .int .i64 0, .slice none 0 0] 28 (w.heap.size + 1 + 1) (by simp))
    have E_4 := Lib.hid ((((Ext.refl w).alloc (.cells #[.int .i64 P, .int .i64 D, .slice (some ⟨a0, oa, none⟩) n n] 28)).alloc (.cells #[.int .i64 P1, .int .i64 R1, .int .i64 C1, .slice (some ⟨s0, so, none⟩) n1 n1] 40)).alloc (.cells #[.int .i64 0, .int .i64 0, .slice none 0 0] 28))
    have lA0 := A0_1.out.1
    have qA00 := A0_1.out.2 0 _ rfl
    have qA01 := A0_1.out.2 1 _ rfl
    have qA02 := A0_1.out.2 2 _ rfl
    have lA1 := A1_2.out.1
    have qA10 := A1_2.out.2 0 _ rfl
    have qA11 := A1_2.out.2 1 _ rfl
    have qA12 := A1_2.out.2 2 _ rfl
    have qA13 := A1_2.out.2 3 _ rfl
    try simp only [World.size_alloc] at lA0 lA1
    go_wp2_with fail
    refine (isIdeal_spec (HT.out.ext E_4.out) hm0 (HS.out.ext E_4.out) hm1 H1.out).mono ?_
    rintro e w_5 ⟨rfl, h_5⟩
    clear lA0 qA00 qA01 qA02 lA1 qA10 qA11 qA12 qA13
    have A0_6 := Lib.hid (A0_1.out.ext h_5)
    clear A0_1
    have A1_7 := Lib.hid (A1_2.out.ext h_5)
    clear A1_2
    have R_8 := Lib.hid (R_3.out.ext h_5)
    clear R_3
    have E_9 := Lib.hid (E_4.out.trans h_5)
    clear E_4
    have lA0 := A0_6.out.1
    have qA00 := A0_6.out.2 0 _ rfl
    have qA01 := A0_6.out.2 1 _ rfl
    have qA02 := A0_6.out.2 2 _ rfl
    have lA1 := A1_7.out.1
    have qA10 := A1_7.out.2 0 _ rfl
    have qA11 := A1_7.out.2 1 _ rfl
    have qA12 := A1_7.out.2 2 _ rfl
    have qA13 := A1_7.out.2 3 _ rfl
    try simp only [World.size_alloc] at lA0 lA1
    have r0 := R_8.out.2 0 _ rfl
    have r1 := R_8.out.2 1 _ rfl
    have r2 := R_8.out.2 2 _ rfl
    have tR := R_8.out.3
    have lR := R_8.out.1
    go_wp2
    refine bodyPost_ret (v := .tuple #[.agg #[.int .i64 0, .int .i64 0, .slice none 0 0], .bool false]) (by simp [results, Try.results47, go_sem, r0, r1, r2]) rfl ⟨_, rfl, ⟨_, _, _, rfl, own_nil _ _ _, by omega⟩, ext3 E_9.out (by omega) _ _ _⟩
  have H1 := Lib.hid h1
  have hz0 : algB P D l = true := by simp only [idlM, Bool.and_eq_true] at h1; exact h1.1
  have hz1 : hsB P D P1 R1 C1 ss = true := by simp only [idlM, Bool.and_eq_true] at h1; exact h1.2.1
  simp only [qtM, h1, if_true, Prod.mk.injEq, Alg.mk.injEq] at hM
  obtain ⟨⟨rfl, rfl, rfl⟩, rfl⟩ := hM
  obtain ⟨D, rfl, hA⟩ := algB_parts hz0 hT.1
  obtain ⟨r, rfl, rfl, rfl, hrD, hn1, hx1⟩ := hsB_parts hz1 hS.1
  simp only [Int.toNat_natCast]
  have hsp := hsB_space hz1
  obtain ⟨hpr, hsS, _, hls, hk40, hC40⟩ := spaceM_parts hsp
  have hIP := isP_iff.1 hpr
  have hD := hA.dim
  have hp := isP_lo hA.pr
  have hp2 := isP_hi hA.pr
  have hrr := hsS.rref hIP hls hx1
  have hfl : (freeTo (redM P1 r D ss).pv D).length ≤ D := freeTo_le _ _
  have hfr : ∀ j, j < (freeTo (redM P1 r D ss).pv D).length → (freeTo (redM P1 r D ss).pv D).getD j 0 < D := fun j hj => (free_at hj).1
  have hpvl : ∀ t, t < (redM P1 r D ss).pv.length → (redM P1 r D ss).pv.getD t 0 < D := hrr.lt
  have HFR : Hid (∀ w1, Ext w w1 → Calls Try.prog 106 #[.agg #[.int .i64 P1, .int .i64 (r : Nat), .int .i64 D, .slice (some ⟨s0, so, none⟩) n1 n1]] w1 fun e w' => ∃ af cf, e = .returned (.slice af (freeTo (redM P1 r D ss).pv D).length cf) ∧ Own w' w1.heap.size w'.heap.size af (freeTo (redM P1 r D ss).pv D).length (pvI (freeTo (redM P1 r D ss).pv D)) ∧ Ext w1 w') := fun w1 h => by
    refine (l2Free_spec P1 r D n1 n1 (some ⟨s0, so, none⟩) ss w1 hpr (hS.ext h) hn1 hk40 hC40 hx1 (fun h => by simp at h)).mono ?_
    rintro e w' ⟨af, cf, he, ho, hE⟩
    exact ⟨af, cf, he, ho, hE⟩
  have HLR : Hid (∀ w1 (fi fj : Nat), fi < D → fj < D → Calls Try.prog 108 #[.agg #[.int .i64 P1, .int .i64 D, .slice (some ⟨a0, oa, none⟩) n n], .int .i64 fi, .int .i64 fj] w1 fun e w' => e = .returned (.slice (some ⟨a0, oa + (fi * D + fj) * D, none⟩) D (n - (fi * D + fj) * D)) ∧ Ext w1 w') := fun w1 fi fj hi hj => l2Row_spec P1 D a0 oa n n fi fj w1 hD hA.len (Nat.le_refl _) (by unfold maxLen; omega) hi hj
  have HMD : Hid (∀ w1 (fi fj : Nat), fi < D → fj < D → Ext w w1 → Calls Try.prog 107 #[.agg #[.int .i64 P1, .int .i64 (r : Nat), .int .i64 D, .slice (some ⟨s0, so, none⟩) n1 n1], .slice (some ⟨a0, oa + (fi * D + fj) * D, none⟩) D (n - (fi * D + fj) * D)] w1 fun e w' => ∃ b cb, e = .returned (.slice (some ⟨b, 0, none⟩) D cb) ∧ w1.heap.size ≤ b ∧ b < w'.heap.size ∧ Has w' b (mdL P1 D ss (redM P1 r D ss).pv (rowT D l fi fj)) ∧ Ext w1 w') := fun w1 fi fj hi hj h =>
    l2Modulo_spec P1 r D n1 n1 _ (some ⟨s0, so, none⟩) _ ss (rowT D l fi fj) w1 hpr (hS.ext h) hn1 hk40 hC40 hx1 (fun h => by simp at h) hsS (rowT_reads (hT.ext h) hA.len hi hj) (rowT_res (by omega) hA.res _ _) (fun h => by simp at h)
  have hqt : ∀ i j k, i < (freeTo (redM P1 r D ss).pv D).length → j < (freeTo (redM P1 r D ss).pv D).length → k < (freeTo (redM P1 r D ss).pv D).length → gi (qtT P1 D l ss (redM P1 r D ss).pv (freeTo (redM P1 r D ss).pv D) (freeTo (redM P1 r D ss).pv D).length) (i * ((freeTo (redM P1 r D ss).pv D).length * (freeTo (redM P1 r D ss).pv D).length) + (j * (freeTo (redM P1 r D ss).pv D).length + k)) = gi (mdL P1 D ss (redM P1 r D ss).pv (rowT D l ((freeTo (redM P1 r D ss).pv D).getD i 0) ((freeTo (redM P1 r D ss).pv D).getD j 0))) ((freeTo (redM P1 r D ss).pv D).getD k 0) := fun i j k hi hj hk => by
    rw [gi_qtT hp hA.res hfr hpvl hi hj hk, gi_mdL _ (hfr k hk)]; rfl
  have hqtl : (qtT P1 D l ss (redM P1 r D ss).pv (freeTo (redM P1 r D ss).pv D) (freeTo (redM P1 r D ss).pv D).length).length = (freeTo (redM P1 r D ss).pv D).length * ((freeTo (redM P1 r D ss).pv D).length * (freeTo (redM P1 r D ss).pv D).length) := qtT_length
  have hmdl : ∀ v, (mdL P1 D ss (redM P1 r D ss).pv v).length = D := fun v => mdL_length v
  have HMDL := Lib.hid hmdl
  clear hmdl hpvl hrr
  generalize qtT P1 D l ss (redM P1 r D ss).pv (freeTo (redM P1 r D ss).pv D) (freeTo (redM P1 r D ss).pv D).length = QT at *
  generalize freeTo (redM P1 r D ss).pv D = fr at *
  generalize mdL P1 D ss (redM P1 r D ss).pv = md at *
  have HFRL := Lib.hid hfr
  obtain ⟨K, hKe⟩ : ∃ K, fr.length = K := ⟨_, rfl⟩
  rw [hKe] at hfl HFR HFRL hfr hqt hqtl ⊢
  have hK : K ≤ 28 := by omega
  have hK3 : K * (K * K) ≤ 21952 := by rw [← Nat.mul_assoc]; exact cube28 hK
  have HQT := Lib.hid hqt
  have HQL := Lib.hid hqtl
  clear hT hS h1 hz0 hz1 hn1 hx1 hsp hpr hsS hls hk40 hC40 hIP hA hKe hfr hqt hqtl
  go_enter Try.func47, Try.ntmps47
  have A0_1 := Lib.hid (((cells_new' w #[.int .i64 P1, .int .i64 D, .slice (some ⟨a0, oa, none⟩) n n] 28 (w.heap.size) (by simp)).ext ((Ext.refl _).alloc (.cells #[.int .i64 P1, .int .i64 (r : Nat), .int .i64 D, .slice (some ⟨s0, so, none⟩) n1 n1] 40))).ext ((Ext.refl _).alloc (.cells #[.int .i64 0, .int .i64 0, .slice none 0 0] 28)))
  have A1_2 := Lib.hid ((cells_new' (w.alloc (.cells #[.int .i64 P1, .int .i64 D, .slice (some ⟨a0, oa, none⟩) n n] 28)) #[.int .i64 P1, .int .i64 (r : Nat), .int .i64 D, .slice (some ⟨s0, so, none⟩) n1 n1] 40 (w.heap.size + 1) (by simp)).ext ((Ext.refl _).alloc (.cells #[.int .i64 0, .int .i64 0, .slice none 0 0] 28)))
  have R_3 := Lib.hid (cells_new' ((w.alloc (.cells #[.int .i64 P1, .int .i64 D, .slice (some ⟨a0, oa, none⟩) n n] 28)).alloc (.cells #[.int .i64 P1, .int .i64 (r : Nat), .int .i64 D, .slice (some ⟨s0, so, none⟩) n1 n1] 40)) #[.int .i64 0, .int .i64 0, .slice none 0 0] 28 (w.heap.size + 1 + 1) (by simp))
  have E_4 := Lib.hid ((((Ext.refl w).alloc (.cells #[.int .i64 P1, .int .i64 D, .slice (some ⟨a0, oa, none⟩) n n] 28)).alloc (.cells #[.int .i64 P1, .int .i64 (r : Nat), .int .i64 D, .slice (some ⟨s0, so, none⟩) n1 n1] 40)).alloc (.cells #[.int .i64 0, .int .i64 0, .slice none 0 0] 28))
  have lA0 := A0_1.out.1
  have qA00 := A0_1.out.2 0 _ rfl
  have qA01 := A0_1.out.2 1 _ rfl
  have qA02 := A0_1.out.2 2 _ rfl
  have lA1 := A1_2.out.1
  have qA10 := A1_2.out.2 0 _ rfl
  have qA11 := A1_2.out.2 1 _ rfl
  have qA12 := A1_2.out.2 2 _ rfl
  have qA13 := A1_2.out.2 3 _ rfl
  try simp only [World.size_alloc] at lA0 lA1
  go_wp2_with fail
  refine (isIdeal_spec (HT.out.ext E_4.out) hm0 (HS.out.ext E_4.out) hm1 H1.out).mono ?_
  rintro e w_5 ⟨rfl, h_5⟩
  clear lA0 qA00 qA01 qA02 lA1 qA10 qA11 qA12 qA13
  have A0_6 := Lib.hid (A0_1.out.ext h_5)
  clear A0_1
  have A1_7 := Lib.hid (A1_2.out.ext h_5)
  clear A1_2
  have R_8 := Lib.hid (R_3.out.ext h_5)
  clear R_3
  have E_9 := Lib.hid (E_4.out.trans h_5)
  clear E_4
  have lA1 := A1_7.out.1
  have qA10 := A1_7.out.2 0 _ rfl
  have qA11 := A1_7.out.2 1 _ rfl
  have qA12 := A1_7.out.2 2 _ rfl
  have qA13 := A1_7.out.2 3 _ rfl
  try simp only [World.size_alloc] at lA1
  go_wp2_with fail
  refine (HFR.out _ E_9.out).mono ?_
  rintro e w_10 ⟨af, cf, rfl, hO, h_10⟩
  clear lA1 qA10 qA11 qA12 qA13
  have HO := Lib.hid hO
  have hlo := hO.blk
  clear hO
  have A0_11 := Lib.hid (A0_6.out.ext h_10)
  clear A0_6
  have A1_12 := Lib.hid (A1_7.out.ext h_10)
  clear A1_7
  have R_13 := Lib.hid (R_8.out.ext h_10)
  clear R_8
  have E_14 := Lib.hid (E_9.out.trans h_10)
  clear E_9
  have hEw := E_14.out.le
  have lRx := R_13.out.1
  have lA := A0_11.out.1
  have a0' := A0_11.out.2 0 _ rfl
  generalize w_10 = WX at *
  have G0 : Hid (Grows ((WX.alloc (.cells #[] 3)).alloc (.cells #[.int .i64 P1, .int .i64 (K : Nat), .slice (some ⟨WX.heap.size, 0, none⟩) 0 0] 28)) WX.heap.size (.slice (some ⟨WX.heap.size, 0, none⟩) (0 * (K * K)) 0) (0 * (K * K)) (QT.take (0 * (K * K)))) := by
    rw [Nat.zero_mul, List.take_zero]; exact (grows_lit WX WX.heap.size (Nat.le_refl _)).ext ((Ext.refl _).alloc _)
  have C0 : Hid (Cells ((WX.alloc (.cells #[] 3)).alloc (.cells #[.int .i64 P1, .int .i64 (K : Nat), .slice (some ⟨WX.heap.size, 0, none⟩) 0 0] 28)) (WX.heap.size + 1) [.int .i64 P1, .int .i64 (K : Nat), .slice (some ⟨WX.heap.size, 0, none⟩) (0 * (K * K)) 0]) := by
    rw [Nat.zero_mul]; exact cells_new' (WX.alloc (.cells #[] 3)) #[.int .i64 P1, .int .i64 (K : Nat), .slice (some ⟨WX.heap.size, 0, none⟩) 0 0] 28 (WX.heap.size + 1) (by simp)
  have E0 : Hid (Ext WX ((WX.alloc (.cells #[] 3)).alloc (.cells #[.int .i64 P1, .int .i64 (K : Nat), .slice (some ⟨WX.heap.size, 0, none⟩) 0 0] 28))) := ((Ext.refl _).alloc _).alloc _
  have N0 : Hid (∀ z, (Value.slice (some ⟨WX.heap.size, 0, none⟩) (0 * (K * K)) 0).ownBlock = some z → z ≠ WX.heap.size + 1) := fun z hz => by simp [Value.ownBlock] at hz; omega
  go_wp2_with fail
  clear lA a0'
  go_loopw [9, 10, 11, 12] (fun z _ _ _ wr => ∃ (i : Nat) (va : Option Addr) (vc : Nat), i ≤ K ∧ z = .int .i64 i ∧ Hid (Cells wr (WX.heap.size + 1) [.int .i64 P1, .int .i64 (K : Nat), .slice va (i * (K * K)) vc]) ∧ Hid (Grows wr WX.heap.size (.slice va (i * (K * K)) vc) (i * (K * K)) (QT.take (i * (K * K)))) ∧ Hid (Ext WX wr) ∧ Hid (∀ z, (Value.slice va (i * (K * K)) vc).ownBlock = some z → z ≠ WX.heap.size + 1)) (fun z _ _ _ _ => K - (intOf z).toNat)
  case atStart => exact ⟨0, some ⟨WX.heap.size, 0, none⟩, 0, by omega, rfl, C0, G0, E0, N0⟩
  case round =>
    clear G0 C0 E0 N0
    obtain ⟨i, va, vc, hi, rfl, hC, hG, hE, hN⟩ := hrel
    by_cases hlt : i < K
    · have hC1 : Hid (Cells wr (WX.heap.size + 1) [.int .i64 P1, .int .i64 (K : Nat), .slice va (i * (K * K) + 0 * K) vc]) := by rw [Hid, Nat.zero_mul]; exact hC.out
      have hG1 : Hid (Grows wr WX.heap.size (.slice va (i * (K * K) + 0 * K) vc) (i * (K * K) + 0 * K) (QT.take (i * (K * K) + 0 * K))) := by rw [Hid, Nat.zero_mul]; exact hG.out
      have hN1 : Hid (∀ z, (Value.slice va (i * (K * K) + 0 * K) vc).ownBlock = some z → z ≠ WX.heap.size + 1) := by rw [Hid, Nat.zero_mul]; exact hN.out
      clear hC hG hN
      go_wp2_with fail
      go_loopw [10, 11, 12] (fun z _ _ wr => ∃ (j : Nat) (va : Option Addr) (vc : Nat), j ≤ K ∧ z = .int .i64 j ∧ Hid (Cells wr (WX.heap.size + 1) [.int .i64 P1, .int .i64 (K : Nat), .slice va (i * (K * K) + j * K) vc]) ∧ Hid (Grows wr WX.heap.size (.slice va (i * (K * K) + j * K) vc) (i * (K * K) + j * K) (QT.take (i * (K * K) + j * K))) ∧ Hid (Ext WX wr) ∧ Hid (∀ z, (Value.slice va (i * (K * K) + j * K) vc).ownBlock = some z → z ≠ WX.heap.size + 1)) (fun z _ _ _ => K - (intOf z).toNat)
      case atStart => exact ⟨0, va, vc, by omega, rfl, hC1, hG1, hE, hN1⟩
      case round =>
        clear hC1 hG1 hE hN1
        obtain ⟨j, va, vc, hj, rfl, hC, hG, hE, hN⟩ := hrel
        by_cases hlt2 : j < K
        · have HRD := Lib.hid HO.out.reads
          rcases (HO.out.reads.ext hE.out).2 with h | ⟨bf, of, rfl, hbf, hcf⟩
          · omega
          have x1 := Reads.atc (HRD.out.ext hE.out) hlt
          have x2 := Reads.atc (HRD.out.ext hE.out) hlt2
          rw [gi_pvI] at x1 x2
          have hfi := HFRL.out i hlt
          have hfj := HFRL.out j hlt2
          have HLR1 := Lib.hid (fun w1 => HLR.out w1 _ _ hfi hfj)
          have HMD1 := Lib.hid (fun w1 => HMD.out w1 _ _ hfi hfj)
          have HQ1 := Lib.hid (fun k hk => HQT.out i j k hlt hlt2 hk)
          have HML := Lib.hid (HMDL.out (rowT D l (fr.getD i 0) (fr.getD j 0)))
          generalize md (rowT D l (fr.getD i 0) (fr.getD j 0)) = mr at *
          generalize fr.getD i 0 = fi at *
          generalize fr.getD j 0 = fj at *
          have a1 := Lib.hid (A1_12.out.ext hE.out)
          have lM := a1.out.1
          have m0 := a1.out.2 0 _ rfl
          have m1 := a1.out.2 1 _ rfl
          have m2 := a1.out.2 2 _ rfl
          have m3 := a1.out.2 3 _ rfl
          have a0' := Lib.hid (A0_11.out.ext hE.out)
          have lA := a0'.out.1
          have g0 := a0'.out.2 0 _ rfl
          have g1 := a0'.out.2 1 _ rfl
          have g2 := a0'.out.2 2 _ rfl
          clear a1 a0' hcf
          have hlt' : (i : Int) < (K : Int) := by omega
          have hlt2' : (j : Int) < (K : Int) := by omega
          have hCB := hC.out.1
          have hgb := Lib.hid hG.out.blk
          go_wp2_with fail
          go_region_held3 (fun w' => Ext wr w' ∧ (∀ b o, b < wr.heap.size → w'.cell? ⟨b, o, none⟩ = wr.cell? ⟨b, o, none⟩)) (first | assumption | (with_reducible exact ext2 (Ext.trans (And.left ‹Ext wr _ ∧ _›) ‹Ext _ _›)) | (refine ext2 ?_; with_reducible repeat (first | exact Ext.refl _ | exact And.left ‹Ext wr _ ∧ _› | refine Ext.drew ?_ | refine Ext.drewN ?_ _))) (first
            | (go_at_call 108; (with_reducible refine (HLR1.out _).mono ?_); rintro e w3 ⟨rfl, h3⟩)
            | (go_at_call 107; (with_reducible refine (HMD1.out _ ((E_14.out.trans hE.out).trans (And.left ‹Ext wr _ ∧ _›))).mono ?_); rintro e w4 ⟨b, cb, rfl, hb1, hb2, kb, h4⟩; have hbw : wr.heap.size ≤ b := Nat.le_trans (And.left ‹Ext wr _ ∧ _›).le hb1))
          all_goals
            have E4 := Lib.hid (And.left ‹Ext wr w4 ∧ _›)
            have C4 := Lib.hid (hC.out.ext E4.out)
            have G4 := Lib.hid (hG.out.ext E4.out)
            have X4 := Lib.hid (hE.out.trans E4.out)
            have H4 := Lib.hid kb
            have hbc : b ≠ WX.heap.size + 1 := by omega
            have N4 : Hid (∀ z, (Value.slice va (i * (K * K) + (j * K + 0)) vc).ownBlock = some z → z ≠ WX.heap.size + 1 ∧ z ≠ b) := fun z hz => ⟨hN.out z hz, by have := (hgb.out z hz).2; omega⟩
            clear kb hbw hb1 hb2 h4 h3 E4 hC hG hE hN x1 x2 lM m0 m1 m2 m3 lA g0 g1 g2 hCB hgb HLR1 HMD1 hfi hfj hbf
            try clear ‹Ext wr w4 ∧ _›
            try clear ‹Ext wr w3 ∧ _›
            go_wp2_with fail
            go_loopw [12] (fun z wr => ∃ (k : Nat) (va : Option Addr) (vc : Nat), k ≤ K ∧ z = .int .i64 k ∧ Hid (Cells wr (WX.heap.size + 1) [.int .i64 P1, .int .i64 (K : Nat), .slice va (i * (K * K) + (j * K + k)) vc]) ∧ Hid (Grows wr WX.heap.size (.slice va (i * (K * K) + (j * K + k)) vc) (i * (K * K) + (j * K + k)) (QT.take (i * (K * K) + (j * K + k)))) ∧ Hid (Ext WX wr) ∧ Hid (∀ z, (Value.slice va (i * (K * K) + (j * K + k)) vc).ownBlock = some z → z ≠ WX.heap.size + 1 ∧ z ≠ b) ∧ Hid (Has wr b mr)) (fun z _ => K - (intOf z).toNat)
            case atStart => exact ⟨0, va, vc, by omega, rfl, C4, G4, X4, N4, H4⟩
            case round =>
              clear C4 G4 X4 N4 H4
              obtain ⟨k, va, vc, hk, rfl, hC, hG, hE, hN, hH⟩ := hrel
              by_cases hlt3 : k < K
              · have x1 := Reads.atc (HRD.out.ext hE.out) hlt3
                rw [gi_pvI] at x1
                have hfk := HFRL.out k hlt3
                have HQ2 := Lib.hid (HQ1.out k hlt3)
                generalize fr.getD k 0 = fk at *
                have x2 := hH.out.cell fk (by rw [HML.out]; exact hfk)
                have hpl : Hid (i * (K * K) + (j * K + k) < K * (K * K)) := place_lt hlt (place_lt hlt2 hlt3)
                have HTK : Hid (QT.take (i * (K * K) + (j * K + k) + 1) = QT.take (i * (K * K) + (j * K + k)) ++ [gi mr fk]) := by
                  rw [Hid, ← HQ2.out]; exact take_one QT _ (by rw [HQL.out]; exact hpl.out)
                generalize gi mr fk = y at *
                have lC := hC.out.1
                have q0 := hC.out.2 0 _ rfl
                have q1 := hC.out.2 1 _ rfl
                have q2 := hC.out.2 2 _ rfl
                have tC := hC.out.3
                have hbl := hH.out.lt
                have hle := hE.out.le
                have hlt3' : (k : Int) < (K : Int) := by omega
                have hfk' : (fk : Int) < (D : Int) := by omega
                have hTm : i * (K * K) + (j * K + k) + 1 ≤ 1048577 := by have := hpl.out; omega
                have HBK := Lib.hid hG.out.blk
                have HTm := Lib.hid hTm
                clear hTm HQ2
                generalize hL : QT.take (i * (K * K) + (j * K + k)) = L at *
                obtain ⟨T, hT⟩ : ∃ T, i * (K * K) + (j * K + k) = T := ⟨_, rfl⟩
                rw [hT] at hC hG hN q2 HTK HTm HBK
                have HT' := Lib.hid hT
                have HL' := Lib.hid hL
                clear hT hL
                go_wp2_with fail
                go_region_law (refine step_append1at rfl (.tmp 55) (.tmp 63) rfl WX.heap.size (.slice va T vc) T L y 1 wr.heap.size rfl rfl (hG.out.ext ((Ext.refl _).drew.alloc _)) ((cells_new wr.drew #[.int .i64 y] 3).2 0 _ rfl) HTm.out (by simp; omega) ?_; intro v2 w2 hG2 hg2 hn2; obtain ⟨a2, cap2, rfl, ho2⟩ := hG2.shape; have HG2 := Lib.hid hG2; clear ho2 hG2; have B2 := (hC.out.ext ((Ext.refl wr).drew.alloc (.cells #[.int .i64 y] 3))).grown hg2 (fun z hz => (hN.out z hz).1); have l2 := B2.1; have y2 := B2.2 2 _ rfl; have f2 := B2.3)
                all_goals
                  have N2 : Hid (∀ z, (Value.slice a2 (T + 1) cap2).ownBlock = some z → z ≠ WX.heap.size + 1 ∧ z ≠ b) := fun z hz => by
                    rcases hn2 with e | e
                    · exact hN.out z (e.symm.trans hz)
                    · rw [e] at hz
                      injection hz with hz
                      simp at hz
                      omega
                  have C3 := Lib.hid (B2.put 2 (by simp) (.slice a2 (T + 1) cap2))
                  have G3 := Lib.hid (HG2.out.keepNe (grownBy_set (p := ⟨WX.heap.size + 1, 2, none⟩) (grownBy_refl _ _) rfl (.slice a2 (T + 1) cap2)) (fun z hz => (N2.out z hz).1))
                  have H3 := Lib.hid (((hH.out.ext ((Ext.refl wr).drew.alloc (.cells #[.int .i64 y] 3))).grNe hg2 (fun e => (hN.out b e).2 rfl)).setOther (p := ⟨WX.heap.size + 1, 2, none⟩) (fun e => hbc e.symm) (.slice a2 (T + 1) cap2))
                  have E3 := Lib.hid (((hE.out.trans ((Ext.refl wr).drew.alloc (.cells #[.int .i64 y] 3))).grown hg2 (fun z hz => (HBK.out z hz).1)).setCell (p := ⟨WX.heap.size + 1, 2, none⟩) (Nat.le_succ _) (.slice a2 (T + 1) cap2))
                  rw [← HTK.out] at G3
                  clear hn2 hg2 HG2 B2 l2 y2 f2 lC q0 q1 q2 tC x1 x2 hC hG hE hN hH HTK HBK HTm
                  have HT2 := HT'.out
                  subst HT2
                  go_wp2
                  exact ⟨⟨k + 1, a2, cap2, by omega, by simp, C3, G3, E3, N2, H3⟩, by simp [intOf]; omega⟩
              · obtain rfl : K = k := by omega
                have hC2 : Hid (Cells wr (WX.heap.size + 1) [.int .i64 P1, .int .i64 (K : Nat), .slice va (i * (K * K) + (j + 1) * K) vc]) := by rw [Hid, Nat.add_mul, Nat.one_mul]; exact hC.out
                have hG2 : Hid (Grows wr WX.heap.size (.slice va (i * (K * K) + (j + 1) * K) vc) (i * (K * K) + (j + 1) * K) (QT.take (i * (K * K) + (j + 1) * K))) := by rw [Hid, Nat.add_mul, Nat.one_mul]; exact hG.out
                have hN2 : Hid (∀ z, (Value.slice va (i * (K * K) + (j + 1) * K) vc).ownBlock = some z → z ≠ WX.heap.size + 1) := by rw [Hid, Nat.add_mul, Nat.one_mul]; exact fun z hz => (hN.out z hz).1
                clear hC hG hN hH HQ1 HML
                go_wp2
                exact ⟨⟨j + 1, va, vc, by omega, by simp, hC2, hG2, hE, hN2⟩, by simp [intOf]; omega⟩
        · obtain rfl : K = j := by omega
          have hC2 : Hid (Cells wr (WX.heap.size + 1) [.int .i64 P1, .int .i64 (K : Nat), .slice va ((i + 1) * (K * K)) vc]) := by rw [Hid, Nat.add_mul, Nat.one_mul]; exact hC.out
          have hG2 : Hid (Grows wr WX.heap.size (.slice va ((i + 1) * (K * K)) vc) ((i + 1) * (K * K)) (QT.take ((i + 1) * (K * K)))) := by rw [Hid, Nat.add_mul, Nat.one_mul]; exact hG.out
          have hN2 : Hid (∀ z, (Value.slice va ((i + 1) * (K * K)) vc).ownBlock = some z → z ≠ WX.heap.size + 1) := by rw [Hid, Nat.add_mul, Nat.one_mul]; exact hN.out
          clear hC hG hN
          go_wp2
          exact ⟨⟨i + 1, va, vc, by omega, by simp, hC2, hG2, hE, hN2⟩, by simp [intOf]; omega⟩
    · obtain rfl : K = i := by omega
      obtain ⟨av, cv, hav, ho⟩ := hG.out.shape
      obtain ⟨rfl, rfl⟩ : va = av ∧ vc = cv := by simpa using hav
      rw [List.take_of_length_le (by rw [HQL.out]; exact Nat.le_refl _)] at ho
      have HO2 := Lib.hid ho
      have R6 := Lib.hid (R_13.out.ext hE.out)
      have E6 := Lib.hid (E_14.out.trans hE.out)
      have lC := hC.out.1
      have q0 := hC.out.2 0 _ rfl
      have q1 := hC.out.2 1 _ rfl
      have q2 := hC.out.2 2 _ rfl
      have r0 := R6.out.2 0 _ rfl
      have r1 := R6.out.2 1 _ rfl
      have r2 := R6.out.2 2 _ rfl
      have tR := R6.out.3
      have lR := R6.out.1
      clear ho hav hC hG hN
      generalize K * (K * K) = M at *
      go_wp2
      refine bodyPost_ret (v := .tuple #[.agg #[.int .i64 P1, .int .i64 (K : Nat), .slice va M vc], .bool true]) (by simp [results, Try.results47, go_sem, r0, r1, r2]) rfl ⟨_, rfl, ⟨va, M, vc, rfl, ?_, by omega⟩, ext3 E6.out (by omega) _ _ _⟩
      exact Own.mono (own3 HO2.out (by omega) _ _ _) (by omega) (by simp)
end Go.Proofs.Ytapaopapgnfdkaa
