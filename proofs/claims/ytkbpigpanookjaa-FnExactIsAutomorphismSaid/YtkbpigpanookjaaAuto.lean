/-
  Whether a map is an automorphism: both texts.
-/
import Derived.Test.YtkbpigpanookjaaHom
import Derived.Test.YtkbpigpanookjaaInvI
import Derived.Test.YtkbpigpanookjaaR1
namespace Go.Proofs.Ytkbpigpanookjaa
open Go.ChangeShapes Go.WideShapes Go.ChangeAt Go.RowKit
set_option linter.unusedVariables false
set_option linter.unusedSimpArgs false

/-- The first columns of a matrix are reduced as if they were all. -/
theorem redTo_left {P : Int} {R C E : Nat} {xs ys : List Int} (hp : IsP P) (hCE : C ≤ E) (hl : xs.length = R * E) (hx : Res xs P) (hl' : ys.length = R * C) (hy : Res ys P) (he : ∀ i, i < R → ∀ c, c < C → at2 E xs i c = at2 C ys i c) :
    (redTo P R E xs C).pv = (redM P R C ys).pv := by
  have h := half_redTo hp hl hx C hCE
  have hs := redTo_same hp hl hx C hCE
  have hP : 0 < P := by have := hp.1; omega
  have left : ∀ {k k' : Nat} {M N : Nat → Nat → Int}, SameSp P E k M k' N → SameSp P C k M k' N := fun h => ⟨fun i hi => (h.1 i hi).imp (fun a ha c hc => ha c (by omega)), fun i hi => (h.2 i hi).imp (fun a ha c hc => ha c (by omega))⟩
  generalize redTo P R E xs C = s at *
  have hr : Rref P C (at2 E s.m) s.pv := ⟨h.lt, h.up, h.one, fun i j hi hj hne => h.only i j hi (by have := h.le; omega) hne, h.zero, fun i _ c _ => at2_res h.res hP i c⟩
  have h1 : SameSp P C R (at2 E s.m) s.pv.length (at2 E s.m) := by
    refine ⟨fun i hi => ?_, fun i hi => InSp.row (by have := h.le; omega)⟩
    by_cases e : i < s.pv.length
    · exact InSp.row e
    · exact InSp.zero.congr (fun c hc => by rw [h.rest i (by omega) hi c hc]; exact Eqm.refl _)
  have h2 : SameSp P C R (at2 C ys) R (at2 E xs) := SameSp.congr (fun i hi c hc => he i hi c hc)
  have h3 : SameSp P C s.pv.length (at2 E s.m) (redM P R C ys).pv.length (at2 C (redM P R C ys).m) := ((h1.symm.trans (left hs).symm).trans h2.symm).trans (redM_same hp hl' hy)
  exact (hr.unique (redM_rref hp hl' hy) hp.1 h3).1
theorem invOk_rank {P : Int} {n : Nat} {xs : List Int} (hp : IsP P) (hl : xs.length = n * n) (hx : Res xs P) : invOk P n xs = ((redM P n n xs).pv.length == n) := by
  rw [invOk, invS, redTo_left (C := n) hp (by omega) (wideL_length hl) (jmTo_res hp.1 hx (unitTo_res2 P hp.1 n n) n) hl hx (fun i hi c hc => by
    rw [wideL, at2_jmTo hl (unitTo_length n n) n (Nat.le_refl _) i c hi (by omega), if_pos hc])]
noncomputable def autM (P D : Int) (l : List Int) (P2 R2 C2 : Int) (ms : List Int) : Bool := homM P D l P D l P2 R2 C2 ms && (rankM P2 R2 C2 ms == D)
theorem aut_inv {P D : Int} {l : List Int} {P2 R2 C2 : Int} {ms : List Int} (h : homM P D l P D l P2 R2 C2 ms = true) : (invertM P2 R2 C2 ms).2 = (rankM P2 R2 C2 ms == D) := by
  simp only [homM, mapsB, Bool.and_eq_true, beq_iff_eq] at h
  obtain ⟨⟨_, _, hmo, rfl, _, rfl, rfl⟩, _⟩ := h
  have hmo' := hmo
  obtain ⟨h1, h2, h3, h4, h5⟩ := mok_iff.1 hmo'
  have h6 := inB_iff.1 h2
  obtain ⟨d, rfl⟩ := Int.eq_ofNat_of_zero_le h6.1
  rw [invertM, rankM, hmo]
  simp only [BEq.rfl, Bool.and_self, if_true, Int.toNat_natCast]
  rw [invOk_rank (isP_iff.1 h1) (by exact_mod_cast h4) (resB_iff.1 h5)]
  by_cases e : (redM P2 d d ms).pv.length = d
  · simp [e]
  · have e2 : ¬ ((redM P2 d d ms).pv.length : Int) = (d : Int) := by exact_mod_cast e
    simp [e, e2]
theorem aut_rank {P D : Int} {l : List Int} {P2 R2 C2 : Int} {ms : List Int} : autM P D l P2 R2 C2 ms = ((invertM P2 R2 C2 ms).2 && homM P D l P D l P2 R2 C2 ms) := by
  rw [autM]
  rcases h : homM P D l P D l P2 R2 C2 ms with _ | _
  · simp
  · rw [aut_inv h]; simp

set_option maxRecDepth 100000 in
set_option maxHeartbeats 3200000 in
theorem isAutomorphism_impl {P D : Int} {a0 oa n : Nat} {l : List Int} {P2 R2 C2 : Int} {m0 om nm : Nat} {ms : List Int} {w : World} {i : Bool} (hT : Reads w (some ⟨a0, oa, none⟩) n l) (hm0 : n ≤ 1048576) (hX : Reads w (some ⟨m0, om, none⟩) nm ms) (hm2 : nm ≤ 1048576) (hM : autM P D l P2 R2 C2 ms = i) :
    Calls Try.prog 37 #[.agg #[.int .i64 P, .int .i64 D, .slice (some ⟨a0, oa, none⟩) n n], .agg #[.int .i64 P2, .int .i64 R2, .int .i64 C2, .slice (some ⟨m0, om, none⟩) nm nm]] w fun e w' => e = .returned (.bool i) ∧ Ext w w' := by
  subst hM
  have HT := Lib.hid hT
  have HX := Lib.hid hX
  clear hT hX
  have HA : Hid (autM P D l P2 R2 C2 ms = ((invertM P2 R2 C2 ms).2 && homM P D l P D l P2 R2 C2 ms)) := aut_rank
  generalize autM P D l P2 R2 C2 ms = q at HA
  rcases hi : invertM P2 R2 C2 ms with ⟨⟨ip, ir, ic, id⟩, iok⟩
  have HI := Lib.hid hi
  rw [hi] at HA
  dsimp only at HA
  clear hi
  rcases hh : homM P D l P D l P2 R2 C2 ms with _ | _
  all_goals
    have HH := Lib.hid hh
    rw [hh] at HA
    clear hh
    cases iok
    all_goals
      have HF := Lib.hid HA.out
      simp only [Bool.and_true, Bool.and_false, Bool.true_and, Bool.false_and, Bool.and_self] at HF
      clear HA
      go_enter Try.func37, Try.ntmps37
      have A0_1 := Lib.hid ((cells_new' w #[.int .i64 P, .int .i64 D, .slice (some ⟨a0, oa, none⟩) n n] 27 (w.heap.size) (by simp)).ext ((Ext.refl _).alloc (.cells #[.int .i64 P2, .int .i64 R2, .int .i64 C2, .slice (some ⟨m0, om, none⟩) nm nm] 41)))
      have A1_2 := Lib.hid (cells_new' (w.alloc (.cells #[.int .i64 P, .int .i64 D, .slice (some ⟨a0, oa, none⟩) n n] 27)) #[.int .i64 P2, .int .i64 R2, .int .i64 C2, .slice (some ⟨m0, om, none⟩) nm nm] 41 (w.heap.size + 1) (by simp))
      have E_3 := Lib.hid (((Ext.refl w).alloc (.cells #[.int .i64 P, .int .i64 D, .slice (some ⟨a0, oa, none⟩) n n] 27)).alloc (.cells #[.int .i64 P2, .int .i64 R2, .int .i64 C2, .slice (some ⟨m0, om, none⟩) nm nm] 41))
      have lA0 := A0_1.out.1
      have qA00 := A0_1.out.2 0 _ rfl
      have qA01 := A0_1.out.2 1 _ rfl
      have qA02 := A0_1.out.2 2 _ rfl
      have lA1 := A1_2.out.1
      have qA10 := A1_2.out.2 0 _ rfl
      have qA11 := A1_2.out.2 1 _ rfl
      have qA12 := A1_2.out.2 2 _ rfl
      have qA13 := A1_2.out.2 3 _ rfl
      try simp only [World.size_alloc] at lA0 lA1
      go_wp2_with fail
      refine (inverseMatrix_impl (HX.out.ext E_3.out) hm2 HI.out).mono ?_
      rintro e w_4 ⟨v, rfl, hv, h_4⟩
      clear lA0 qA00 qA01 qA02 lA1 qA10 qA11 qA12 qA13
      have A0_5 := Lib.hid (A0_1.out.ext h_4)
      clear A0_1
      have A1_6 := Lib.hid (A1_2.out.ext h_4)
      clear A1_2
      have E_7 := Lib.hid (E_3.out.trans h_4)
      clear E_3
      obtain ⟨va, vn, vc, rfl, hv1, hv2⟩ := hv
      clear hv1 hv2
      have lA0 := A0_5.out.1
      have qA00 := A0_5.out.2 0 _ rfl
      have qA01 := A0_5.out.2 1 _ rfl
      have qA02 := A0_5.out.2 2 _ rfl
      have lA1 := A1_6.out.1
      have qA10 := A1_6.out.2 0 _ rfl
      have qA11 := A1_6.out.2 1 _ rfl
      have qA12 := A1_6.out.2 2 _ rfl
      have qA13 := A1_6.out.2 3 _ rfl
      try simp only [World.size_alloc] at lA0 lA1
      first
        | (go_wp2_with fail; (with_reducible refine (isHomomorphism_impl (HT.out.ext (E_7.out.alloc _)) hm0 (HT.out.ext (E_7.out.alloc _)) hm0 (HX.out.ext (E_7.out.alloc _)) hm2 HH.out).mono ?_); rintro e w9 ⟨rfl, h9⟩; have E9 := Lib.hid ((E_7.out.alloc _).trans h9); clear h9; go_wp2; go_ret; exact ⟨ret_bool HF.out.symm, E9.out⟩)
        | (go_wp2; go_ret; exact ⟨ret_bool HF.out.symm, E_7.out.alloc _⟩)


set_option maxRecDepth 100000 in
set_option maxHeartbeats 3200000 in
theorem isAutomorphism_spec {P D : Int} {a0 oa n : Nat} {l : List Int} {P2 R2 C2 : Int} {m0 om nm : Nat} {ms : List Int} {w : World} {i : Bool} (hT : Reads w (some ⟨a0, oa, none⟩) n l) (hm0 : n ≤ 1048576) (hX : Reads w (some ⟨m0, om, none⟩) nm ms) (hm2 : nm ≤ 1048576) (hM : autM P D l P2 R2 C2 ms = i) :
    Calls Try.prog 35 #[.agg #[.int .i64 P, .int .i64 D, .slice (some ⟨a0, oa, none⟩) n n], .agg #[.int .i64 P2, .int .i64 R2, .int .i64 C2, .slice (some ⟨m0, om, none⟩) nm nm]] w fun e w' => e = .returned (.bool i) ∧ Ext w w' := by
  subst hM
  have HT := Lib.hid hT
  have HX := Lib.hid hX
  clear hT hX
  have HA : Hid (autM P D l P2 R2 C2 ms = (homM P D l P D l P2 R2 C2 ms && (rankM P2 R2 C2 ms == D))) := rfl
  generalize autM P D l P2 R2 C2 ms = q at HA
  rcases hh : homM P D l P D l P2 R2 C2 ms with _ | _
  · have HF : Hid (q = false) := by rw [Hid, HA.out, hh]; rfl
    have HH := Lib.hid hh
    clear hh HA
    go_enter Try.func35, Try.ntmps35
    have A0_1 := Lib.hid ((cells_new' w #[.int .i64 P, .int .i64 D, .slice (some ⟨a0, oa, none⟩) n n] 27 (w.heap.size) (by simp)).ext ((Ext.refl _).alloc (.cells #[.int .i64 P2, .int .i64 R2, .int .i64 C2, .slice (some ⟨m0, om, none⟩) nm nm] 41)))
    have A1_2 := Lib.hid (cells_new' (w.alloc (.cells #[.int .i64 P, .int .i64 D, .slice (some ⟨a0, oa, none⟩) n n] 27)) #[.int .i64 P2, .int .i64 R2, .int .i64 C2, .slice (some ⟨m0, om, none⟩) nm nm] 41 (w.heap.size + 1) (by simp))
    have E_3 := Lib.hid (((Ext.refl w).alloc (.cells #[.int .i64 P, .int .i64 D, .slice (some ⟨a0, oa, none⟩) n n] 27)).alloc (.cells #[.int .i64 P2, .int .i64 R2, .int .i64 C2, .slice (some ⟨m0, om, none⟩) nm nm] 41))
    go_wp2_with fail
    generalize ((w.alloc (.cells #[.int .i64 P, .int .i64 D, .slice (some ⟨a0, oa, none⟩) n n] 27)).alloc (.cells #[.int .i64 P2, .int .i64 R2, .int .i64 C2, .slice (some ⟨m0, om, none⟩) nm nm] 41)) = W1 at *
    have lA0 := A0_1.out.1
    have qA00 := A0_1.out.2 0 _ rfl
    have qA01 := A0_1.out.2 1 _ rfl
    have qA02 := A0_1.out.2 2 _ rfl
    have lA1 := A1_2.out.1
    have qA10 := A1_2.out.2 0 _ rfl
    have qA11 := A1_2.out.2 1 _ rfl
    have qA12 := A1_2.out.2 2 _ rfl
    have qA13 := A1_2.out.2 3 _ rfl

    refine wp_region_held_drew (S := (fun w' => Ext W1 w' ∧ (∀ b o, b < W1.heap.size → w'.cell? ⟨b, o, none⟩ = W1.cell? ⟨b, o, none⟩))) (by kernel_rfl) (ext2 (Ext.refl _).drew) (fun hHeld => ?_)
    refine wpAnyH_take (i := 0) (v := ?v1) rfl (by kernel_rfl) (by kernel_rfl) (by kernel_rfl) (fun _ _ _ h => h) (Or.inl ⟨by rfl, ?hy1⟩) hHeld ?rest1
    case hy1 => (intro wz hSw; (try dsimp only at hSw); go_simp; (try with_reducible rfl))
    (try simp only [Act.put, List.getElem_toArray, List.getElem_cons_succ, List.getElem_cons_zero]); (try simp only [List.setIfInBounds_toArray]); (try simp only [List.set_cons_succ]); (try simp only [List.set_cons_zero])
    refine wpAnyH_take (i := 1) (v := ?v2) rfl (by kernel_rfl) (by kernel_rfl) (by kernel_rfl) (fun _ _ _ h => h) (Or.inl ⟨by rfl, ?hy2⟩) hHeld ?rest2
    case hy2 => (intro wz hSw; (try dsimp only at hSw); go_simp; (try with_reducible rfl))
    (try simp only [Act.put, List.getElem_toArray, List.getElem_cons_succ, List.getElem_cons_zero]); (try simp only [List.setIfInBounds_toArray]); (try simp only [List.set_cons_succ]); (try simp only [List.set_cons_zero])
    refine wpAnyH_take (i := 2) (v := ?v3) rfl (by kernel_rfl) (by kernel_rfl) (by kernel_rfl) (fun _ _ _ h => h) (Or.inl ⟨by rfl, ?hy3⟩) hHeld ?rest3
    case hy3 => (intro wz hSw; (try dsimp only at hSw); go_simp; (try with_reducible rfl))
    (try simp only [Act.put, List.getElem_toArray, List.getElem_cons_succ, List.getElem_cons_zero]); (try simp only [List.setIfInBounds_toArray]); (try simp only [List.set_cons_succ]); (try simp only [List.set_cons_zero])
    refine wpAnyH_ready (rs := [3]) (by kernel_rfl) (by simp) ?_
    refine AllReadyH.cons rfl (fun K' hK => ?_) AllReadyH.nil
    go_simp
    refine (isHomomorphism_spec (HT.out.ext (E_3.out.trans (Ext.refl _).drew)) hm0 (HT.out.ext (E_3.out.trans (Ext.refl _).drew)) hm0 (HX.out.ext (E_3.out.trans (Ext.refl _).drew)) hm2 HH.out).mono ?_
    rintro e w4 ⟨rfl, h4⟩
    dsimp only
    refine hK _ _ (ext2 ((Ext.drew (Ext.refl _)).trans h4)) (fun hHeld => ?_)
    clear hK
    refine wpAnyH_take (i := 4) (v := ?v4) rfl (by kernel_rfl) (by kernel_rfl) (by kernel_rfl) (fun _ _ _ h => h) (Or.inl ⟨by rfl, ?hy4⟩) hHeld ?rest4
    case hy4 => (intro wz hSw; (try dsimp only at hSw); go_simp; (try with_reducible rfl))
    (try simp only [Act.put, List.getElem_toArray, List.getElem_cons_succ, List.getElem_cons_zero]); (try simp only [List.setIfInBounds_toArray]); (try simp only [List.set_cons_succ]); (try simp only [List.set_cons_zero])
    refine wpAnyH_take (i := 5) (v := undef) rfl (by kernel_rfl) (by kernel_rfl) (by kernel_rfl) (fun _ _ _ h => h) (Or.inr ⟨by rfl, rfl⟩) hHeld ?rest5
    (try simp only [Act.put, List.getElem_toArray, List.getElem_cons_succ, List.getElem_cons_zero]); (try simp only [List.setIfInBounds_toArray]); (try simp only [List.set_cons_succ]); (try simp only [List.set_cons_zero])
    refine wpAnyH_take (i := 6) (v := undef) rfl (by kernel_rfl) (by kernel_rfl) (by kernel_rfl) (fun _ _ _ h => h) (Or.inr ⟨by rfl, rfl⟩) hHeld ?rest6
    (try simp only [Act.put, List.getElem_toArray, List.getElem_cons_succ, List.getElem_cons_zero]); (try simp only [List.setIfInBounds_toArray]); (try simp only [List.set_cons_succ]); (try simp only [List.set_cons_zero])
    refine wpAnyH_take (i := 7) (v := undef) rfl (by kernel_rfl) (by kernel_rfl) (by kernel_rfl) (fun _ _ _ h => h) (Or.inr ⟨by rfl, rfl⟩) hHeld ?rest7
    (try simp only [Act.put, List.getElem_toArray, List.getElem_cons_succ, List.getElem_cons_zero]); (try simp only [List.setIfInBounds_toArray]); (try simp only [List.set_cons_succ]); (try simp only [List.set_cons_zero])
    refine wpAnyH_take (i := 8) (v := undef) rfl (by kernel_rfl) (by kernel_rfl) (by kernel_rfl) (fun _ _ _ h => h) (Or.inr ⟨by rfl, rfl⟩) hHeld ?rest8
    (try simp only [Act.put, List.getElem_toArray, List.getElem_cons_succ, List.getElem_cons_zero]); (try simp only [List.setIfInBounds_toArray]); (try simp only [List.set_cons_succ]); (try simp only [List.set_cons_zero])
    refine wpAnyH_take (i := 9) (v := undef) rfl (by kernel_rfl) (by kernel_rfl) (by kernel_rfl) (fun _ _ _ h => h) (Or.inr ⟨by rfl, rfl⟩) hHeld ?rest9
    (try simp only [Act.put, List.getElem_toArray, List.getElem_cons_succ, List.getElem_cons_zero]); (try simp only [List.setIfInBounds_toArray]); (try simp only [List.set_cons_succ]); (try simp only [List.set_cons_zero])
    refine wpAnyH_take (i := 10) (v := ?v10) rfl (by kernel_rfl) (by kernel_rfl) (by kernel_rfl) (fun _ _ _ h => h) (Or.inl ⟨by rfl, ?hy10⟩) hHeld ?rest10
    case hy10 => (intro wz hSw; (try dsimp only at hSw); go_simp; (try with_reducible rfl))
    (try simp only [Act.put, List.getElem_toArray, List.getElem_cons_succ, List.getElem_cons_zero]); (try simp only [List.setIfInBounds_toArray]); (try simp only [List.set_cons_succ]); (try simp only [List.set_cons_zero])
    refine wpAnyH_take (i := 11) (v := ?v11) rfl (by kernel_rfl) (by kernel_rfl) (by kernel_rfl) (fun _ _ _ h => h) (Or.inl ⟨by rfl, ?hy11⟩) hHeld ?rest11
    case hy11 => (intro wz hSw; (try dsimp only at hSw); go_simp; (try with_reducible rfl))
    (try simp only [Act.put, List.getElem_toArray, List.getElem_cons_succ, List.getElem_cons_zero]); (try simp only [List.setIfInBounds_toArray]); (try simp only [List.set_cons_succ]); (try simp only [List.set_cons_zero])
    refine wpAnyH_done (by kernel_rfl) ?_ _
    have E9 := Lib.hid (E_3.out.trans ((Ext.drew (Ext.refl _)).trans h4))
    clear hHeld
    go_wp2
    go_ret
    exact ⟨ret_bool HF.out.symm, E9.out⟩
  have HF : Hid (q = (rankM P2 R2 C2 ms == D)) := by rw [Hid, HA.out, hh]; rfl
  have HH := Lib.hid hh
  clear hh HA
  rcases hr : rankM P2 R2 C2 ms == D with _ | _
  · obtain ⟨rk, hrk⟩ : ∃ rk, rankM P2 R2 C2 ms = rk := ⟨_, rfl⟩
    have HR := Lib.hid hrk
    rw [hr] at HF
    rw [hrk] at hr
    have hr2 : (rk == D) = false := hr
    clear hrk
    clear hr
    go_enter Try.func35, Try.ntmps35
    have A0_1 := Lib.hid ((cells_new' w #[.int .i64 P, .int .i64 D, .slice (some ⟨a0, oa, none⟩) n n] 27 (w.heap.size) (by simp)).ext ((Ext.refl _).alloc (.cells #[.int .i64 P2, .int .i64 R2, .int .i64 C2, .slice (some ⟨m0, om, none⟩) nm nm] 41)))
    have A1_2 := Lib.hid (cells_new' (w.alloc (.cells #[.int .i64 P, .int .i64 D, .slice (some ⟨a0, oa, none⟩) n n] 27)) #[.int .i64 P2, .int .i64 R2, .int .i64 C2, .slice (some ⟨m0, om, none⟩) nm nm] 41 (w.heap.size + 1) (by simp))
    have E_3 := Lib.hid (((Ext.refl w).alloc (.cells #[.int .i64 P, .int .i64 D, .slice (some ⟨a0, oa, none⟩) n n] 27)).alloc (.cells #[.int .i64 P2, .int .i64 R2, .int .i64 C2, .slice (some ⟨m0, om, none⟩) nm nm] 41))
    go_wp2_with fail
    generalize ((w.alloc (.cells #[.int .i64 P, .int .i64 D, .slice (some ⟨a0, oa, none⟩) n n] 27)).alloc (.cells #[.int .i64 P2, .int .i64 R2, .int .i64 C2, .slice (some ⟨m0, om, none⟩) nm nm] 41)) = W1 at *
    have lA0 := A0_1.out.1
    have qA00 := A0_1.out.2 0 _ rfl
    have qA01 := A0_1.out.2 1 _ rfl
    have qA02 := A0_1.out.2 2 _ rfl
    have lA1 := A1_2.out.1
    have qA10 := A1_2.out.2 0 _ rfl
    have qA11 := A1_2.out.2 1 _ rfl
    have qA12 := A1_2.out.2 2 _ rfl
    have qA13 := A1_2.out.2 3 _ rfl

    go_region_held3 (fun w' => Ext W1 w' ∧ (∀ b o, b < W1.heap.size → w'.cell? ⟨b, o, none⟩ = W1.cell? ⟨b, o, none⟩)) (first | assumption | (with_reducible exact ext2 (Ext.trans (And.left ‹Ext W1 _ ∧ _›) ‹Ext _ _›)) | (refine ext2 ?_; with_reducible repeat (first | exact Ext.refl _ | exact And.left ‹Ext W1 _ ∧ _› | refine Ext.drew ?_ | refine Ext.drewN ?_ _))) (first
      | (go_at_call 77; (with_reducible refine (isHomomorphism_spec (HT.out.ext (E_3.out.trans (And.left ‹Ext W1 _ ∧ _›))) hm0 (HT.out.ext (E_3.out.trans (And.left ‹Ext W1 _ ∧ _›))) hm0 (HX.out.ext (E_3.out.trans (And.left ‹Ext W1 _ ∧ _›))) hm2 HH.out).mono ?_); rintro e w4 ⟨rfl, h4⟩)
      | (go_at_call 78; (with_reducible refine (rankOf_spec (HX.out.ext (E_3.out.trans (And.left ‹Ext W1 _ ∧ _›))) hm2 HR.out).mono ?_); rintro e w5 ⟨rfl, h5⟩))
    all_goals
      have E9 := Lib.hid (E_3.out.trans (And.left ‹Ext W1 w5 ∧ _›))
      go_wp2
      go_ret
      exact ⟨ret_bool HF.out.symm, E9.out⟩
  · obtain ⟨rk, hrk⟩ : ∃ rk, rankM P2 R2 C2 ms = rk := ⟨_, rfl⟩
    have HR := Lib.hid hrk
    rw [hr] at HF
    rw [hrk] at hr
    have hr2 : (rk == D) = true := hr
    clear hrk
    clear hr
    go_enter Try.func35, Try.ntmps35
    have A0_1 := Lib.hid ((cells_new' w #[.int .i64 P, .int .i64 D, .slice (some ⟨a0, oa, none⟩) n n] 27 (w.heap.size) (by simp)).ext ((Ext.refl _).alloc (.cells #[.int .i64 P2, .int .i64 R2, .int .i64 C2, .slice (some ⟨m0, om, none⟩) nm nm] 41)))
    have A1_2 := Lib.hid (cells_new' (w.alloc (.cells #[.int .i64 P, .int .i64 D, .slice (some ⟨a0, oa, none⟩) n n] 27)) #[.int .i64 P2, .int .i64 R2, .int .i64 C2, .slice (some ⟨m0, om, none⟩) nm nm] 41 (w.heap.size + 1) (by simp))
    have E_3 := Lib.hid (((Ext.refl w).alloc (.cells #[.int .i64 P, .int .i64 D, .slice (some ⟨a0, oa, none⟩) n n] 27)).alloc (.cells #[.int .i64 P2, .int .i64 R2, .int .i64 C2, .slice (some ⟨m0, om, none⟩) nm nm] 41))
    go_wp2_with fail
    generalize ((w.alloc (.cells #[.int .i64 P, .int .i64 D, .slice (some ⟨a0, oa, none⟩) n n] 27)).alloc (.cells #[.int .i64 P2, .int .i64 R2, .int .i64 C2, .slice (some ⟨m0, om, none⟩) nm nm] 41)) = W1 at *
    have lA0 := A0_1.out.1
    have qA00 := A0_1.out.2 0 _ rfl
    have qA01 := A0_1.out.2 1 _ rfl
    have qA02 := A0_1.out.2 2 _ rfl
    have lA1 := A1_2.out.1
    have qA10 := A1_2.out.2 0 _ rfl
    have qA11 := A1_2.out.2 1 _ rfl
    have qA12 := A1_2.out.2 2 _ rfl
    have qA13 := A1_2.out.2 3 _ rfl

    go_region_held3 (fun w' => Ext W1 w' ∧ (∀ b o, b < W1.heap.size → w'.cell? ⟨b, o, none⟩ = W1.cell? ⟨b, o, none⟩)) (first | assumption | (with_reducible exact ext2 (Ext.trans (And.left ‹Ext W1 _ ∧ _›) ‹Ext _ _›)) | (refine ext2 ?_; with_reducible repeat (first | exact Ext.refl _ | exact And.left ‹Ext W1 _ ∧ _› | refine Ext.drew ?_ | refine Ext.drewN ?_ _))) (first
      | (go_at_call 77; (with_reducible refine (isHomomorphism_spec (HT.out.ext (E_3.out.trans (And.left ‹Ext W1 _ ∧ _›))) hm0 (HT.out.ext (E_3.out.trans (And.left ‹Ext W1 _ ∧ _›))) hm0 (HX.out.ext (E_3.out.trans (And.left ‹Ext W1 _ ∧ _›))) hm2 HH.out).mono ?_); rintro e w4 ⟨rfl, h4⟩)
      | (go_at_call 78; (with_reducible refine (rankOf_spec (HX.out.ext (E_3.out.trans (And.left ‹Ext W1 _ ∧ _›))) hm2 HR.out).mono ?_); rintro e w5 ⟨rfl, h5⟩))
    all_goals
      have E9 := Lib.hid (E_3.out.trans (And.left ‹Ext W1 w5 ∧ _›))
      go_wp2
      go_ret
      exact ⟨ret_bool HF.out.symm, E9.out⟩
end Go.Proofs.Ytkbpigpanookjaa
