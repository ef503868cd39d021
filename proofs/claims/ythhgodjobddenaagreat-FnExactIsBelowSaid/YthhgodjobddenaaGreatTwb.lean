/-
  IsBelow, of the program and of the specification.
-/
import Derived.Test.YthhgodjobddenaaGreatBlm
import Derived.Test.YthhgodjobddenaaGreatTw7
namespace Go.Proofs.YthhgodjobddenaaGreat
open Go.ChangeShapes Go.WideShapes Go.ChangeAt Go.RowKit
set_option linter.unusedVariables false
set_option linter.unusedSimpArgs false

theorem gi_rI9 {l : List Nat} {k : Nat} (h : k < l.length) : gi (rI l) k = ((l.getD k 0 : Nat) : Int) := by
  simp [gi, rI, List.getD_eq_getElem?_getD, h]

set_option maxRecDepth 100000 in
set_option maxHeartbeats 12800000 in
theorem l6Below_aux {K a0 oa n : Nat} {l hh : List Int} (N : Nat) (hn : n = K * K) (hK1 : 1 ≤ K) (hB : BOk l hh K) (hxb : ∀ e, -3 ≤ gi l e ∧ gi l e ≤ 3) (hrt : RClo (trn l K) K)
    (IH : ∀ (u v : List Int) (bu ou cu bv ov cv : Nat) (w : World), negC (posR (trn l K) K) K v < N → u.length = K → ImB l K 24 u → Img l K v → Reads w (some ⟨a0, oa, none⟩) n l → Reads w (some ⟨bu, ou, none⟩) K u → Reads w (some ⟨bv, ov, none⟩) K v → Calls Tryz.prog 72 #[.agg #[.int .i64 (K : Nat), .slice (some ⟨a0, oa, none⟩) n n], .slice (some ⟨bu, ou, none⟩) K cu, .slice (some ⟨bv, ov, none⟩) K cv] w fun e w' => e = .returned (.bool (belB l K u v)) ∧ Ext w w')
    (u v : List Int) (bu ou cu bv ov cv : Nat) (w : World) (hN : negC (posR (trn l K) K) K v = N) (hul : u.length = K) (hu : ImB l K 24 u) (hv : Img l K v) (hT : Reads w (some ⟨a0, oa, none⟩) n l) (hru : Reads w (some ⟨bu, ou, none⟩) K u) (hrv : Reads w (some ⟨bv, ov, none⟩) K v) :
    Calls Tryz.prog 72 #[.agg #[.int .i64 (K : Nat), .slice (some ⟨a0, oa, none⟩) n n], .slice (some ⟨bu, ou, none⟩) K cu, .slice (some ⟨bv, ov, none⟩) K cv] w fun e w' => e = .returned (.bool (belB l K u v)) ∧ Ext w w' := by
  have HT := Lib.hid hT
  have HN := Lib.hid hn
  have HBO := Lib.hid hB
  have HXB := Lib.hid hxb
  have HU := Lib.hid hru
  have HV := Lib.hid hrv
  have HIH : Hid (∀ (u v : List Int) (bu ou cu bv ov cv : Nat) (w : World), negC (posR (trn l K) K) K v < N → u.length = K → ImB l K 24 u → Img l K v → Reads w (some ⟨a0, oa, none⟩) n l → Reads w (some ⟨bu, ou, none⟩) K u → Reads w (some ⟨bv, ov, none⟩) K v → Calls Tryz.prog 72 #[.agg #[.int .i64 (K : Nat), .slice (some ⟨a0, oa, none⟩) n n], .slice (some ⟨bu, ou, none⟩) K cu, .slice (some ⟨bv, ov, none⟩) K cv] w fun e w' => e = .returned (.bool (belB l K u v)) ∧ Ext w w') := IH
  have HEND : Hid ((∀ e, e < K → 0 ≤ gi v e) → belB l K u v = sameB u v) := fun h => belB_end hB hul hv h
  have HSTEP : Hid (∀ q, q < K → gi v q < 0 → belB l K u v = belB l K (upT l K q u) (turnM l K q v) ∧ negC (posR (trn l K) K) K (turnM l K q v) < N ∧ ImB l K 24 (upT l K q u) ∧ (upT l K q u).length = K ∧ Img l K (turnM l K q v)) := fun q hq hneg => by
    have h1 := negC_lt hB.co hq hneg
    have h2 : (upT l K q u).length = K := by
      rw [upT]; split
      · exact turnM_len _ _ _ _
      · exact hul
    have h3 : ImB l K 24 (upT l K q u) := by
      rw [upT]; split
      · exact imB_turn hrt hu hq
      · exact hu
    exact ⟨belB_step hB hul hv hq hneg, by omega, h3, h2, img_turn hB.co hv hq⟩
  have HUB : Hid (∀ e, -1000000 ≤ gi u e ∧ gi u e ≤ 1000000) := fun e => by have := imB_ent hrt (by omega) hu e; omega
  have HVB : Hid (∀ e, -1000000 ≤ gi v e ∧ gi v e ≤ 1000000) := fun e => by have := img_bnd hB.co hv e; omega
  have HYES : Hid (∀ q, gi u q < 0 → upT l K q u = turnM l K q u) := fun q h => by rw [upT, if_pos h]
  have HNOT : Hid (∀ q, 0 ≤ gi u q → upT l K q u = u) := fun q h => by rw [upT, if_neg (by omega)]
  have HBX := Lib.hid (cells_new w #[.int .i64 (K : Nat), .slice (some ⟨a0, oa, none⟩) n n] 27)
  have X0 := Lib.hid ((Ext.refl w).alloc (.cells #[.int .i64 (K : Nat), .slice (some ⟨a0, oa, none⟩) n n] 27))
  have hK4 := hB.le
  obtain ⟨pu, su, hpu, hpu1, hpu2⟩ := reads5 hru (by omega)
  injection hpu with hpu
  injection hpu with e1 e2
  subst e1 e2
  obtain ⟨pv, sv, hpv, hpv1, hpv2⟩ := reads5 hrv (by omega)
  injection hpv with hpv
  injection hpv with e1 e2
  subst e1 e2
  have HPU := Lib.hid hpu2
  have HPV := Lib.hid hpv2
  clear hT hn hB hxb hrt IH hN hul hu hv hru hrv hpu2 hpv2
  go_enter Tryz.func72, Tryz.ntmps72
  go_wp2_with fail
  obtain ⟨W1, hW1⟩ : ∃ W1, w.alloc (.cells #[.int .i64 (K : Nat), .slice (some ⟨a0, oa, none⟩) n n] 27) = W1 := ⟨_, rfl⟩
  rw [hW1] at HBX X0 ⊢
  clear hW1
  go_loopw [8, 7] (fun z aw wq => ∃ j : Nat, j ≤ K ∧ z = .int .i64 j ∧ wq = W1 ∧ ((aw = .int .i64 (-1) ∧ Hid (∀ e, e < j → 0 ≤ gi v e)) ∨ ∃ q : Nat, aw = .int .i64 q ∧ q < K ∧ Hid (gi v q < 0))) (fun z _ _ => K - (intOf z).toNat)
  case atStart => exact ⟨0, by omega, rfl, rfl, .inl ⟨rfl, fun e h => by omega⟩⟩
  case round =>
    obtain ⟨j, hj, rfl, hwq, ha⟩ := hrel
    have hwq := hwq.symm
    subst hwq
    have lB := HBX.out.1
    have q0 := HBX.out.2 0 _ rfl
    have q1 := HBX.out.2 1 _ rfl
    by_cases hlt : j < K
    · have cJ := (X0.out.cells bv (ov + j) hpv1).trans (HPV.out j hlt)
      have lJ := Nat.lt_of_lt_of_le hpv1 X0.out.le
      have hjI : (j : Int) < (K : Int) := by omega
      by_cases hneg : gi v j < 0
      · have hneg2 : (gi v j < 0) = True := eq_true hneg
        have HNG := Lib.hid hneg
        clear ha
        go_wp2
        exact ⟨⟨j + 1, by omega, by first | rfl | simp | trivial, by first | rfl | trivial, .inr ⟨j, by first | rfl | trivial, by omega, HNG⟩⟩, by (simp [intOf]) <;> omega⟩
      · have hneg2 : (gi v j < 0) = False := eq_false hneg
        have HNG : Hid (0 ≤ gi v j) := by rw [Hid]; omega
        rcases ha with ⟨rfl, hall⟩ | ⟨q, rfl, h2, h3⟩
        · have HB2 : Hid (∀ e, e < j + 1 → 0 ≤ gi v e) := fun e h1 => by
            by_cases e1 : e = j
            · subst e1; exact HNG.out
            · exact hall.out e (by omega)
          clear hall
          go_wp2
          exact ⟨⟨j + 1, by omega, by first | rfl | simp | trivial, by first | rfl | trivial, .inl ⟨by first | rfl | trivial, HB2⟩⟩, by (simp [intOf]) <;> omega⟩
        · go_wp2
          exact ⟨⟨j + 1, by omega, by first | rfl | simp | trivial, by first | rfl | trivial, .inr ⟨q, by first | rfl | trivial, h2, h3⟩⟩, by (simp [intOf]) <;> omega⟩
    · obtain rfl : K = j := by omega
      rcases ha with ⟨rfl, hall⟩ | ⟨q, rfl, hqK, hneg⟩
      · have HF := Lib.hid (HEND.out hall.out)
        go_wp2_with fail
        refine (l1Same_spec (some ⟨bu, ou, none⟩) (some ⟨bv, ov, none⟩) K K cu cv u v _ (HU.out.ext X0.out) (HV.out.ext X0.out) (by omega) (by omega)).mono ?_
        rintro e _ ⟨rfl, m9, rfl⟩
        go_wp2
        go_ret
        exact ⟨ret_bool HF.out.symm, X0.out.drewN m9⟩
      · obtain ⟨hST, hNC, hU2, hU2L, hV2⟩ := HSTEP.out q hqK hneg.out
        have HST := Lib.hid hST
        have HNC := Lib.hid hNC
        have HU2 := Lib.hid hU2
        have HU2L := Lib.hid hU2L
        have HV2 := Lib.hid hV2
        have cU := (X0.out.cells bu (ou + q) hpu1).trans (HPU.out q hqK)
        have lU := Nat.lt_of_lt_of_le hpu1 X0.out.le
        have hqI : (q : Int) < (K : Int) := by omega
        have hq0 : ¬ ((q : Int) < 0) := by omega
        clear hST hNC hU2 hU2L hV2
        by_cases hun : gi u q < 0
        · have hun2 : (gi u q < 0) = True := eq_true hun
          have HUT := Lib.hid (HYES.out q hun)
          go_wp2_with fail
          refine (l6Reflect_spec K a0 oa n n K cu q l u (some ⟨bu, ou, none⟩) _ (HT.out.ext X0.out) HN.out hK1 HBO.out.le (HU.out.ext X0.out) rfl hqK HXB.out HUB.out).mono ?_
          rintro e w5 ⟨bu2, cu2, rfl, hc5, hb51, hb52, hh5, h5⟩
          have HEX := Lib.hid (X0.out.trans h5)
          have HBX5 := Lib.hid (HBX.out.ext h5)
          have HU2R : Hid (Reads w5 (some ⟨bu2, 0, none⟩) K (upT l K q u)) := by rw [HUT.out]; exact hh5.reads (turnM_len _ _ _ _)
          clear hh5 h5 lB q0 q1 cU
          have lB := HBX5.out.1
          have q0 := HBX5.out.2 0 _ rfl
          have q1 := HBX5.out.2 1 _ rfl
          obtain ⟨WX, hWX⟩ : ∃ WX, WX = w5 := ⟨_, rfl⟩
          subst hWX
          go_wp2_with fail
          refine wp_region_held_drew (S := (fun w' => Ext WX w' ∧ (∀ b o, b < WX.heap.size → w'.cell? ⟨b, o, none⟩ = WX.cell? ⟨b, o, none⟩))) (by kernel_rfl) (ext2 (Ext.refl WX).drew) (fun hHeld => ?_)
          refine wpAnyH_take (i := 0) (v := ?v1) rfl (by kernel_rfl) (by kernel_rfl) (by kernel_rfl) (fun _ _ _ h => h) (Or.inl ⟨by rfl, ?hy1⟩) hHeld ?rest1
          case hy1 => (intro wz hSw; (try dsimp only at hSw); go_simp; (try with_reducible rfl))
          (try simp only [Act.put, List.getElem_toArray, List.getElem_cons_succ, List.getElem_cons_zero]); (try simp only [List.setIfInBounds_toArray]); (try simp only [List.set_cons_succ]); (try simp only [List.set_cons_zero])
          refine wpAnyH_take (i := 1) (v := ?v2) rfl (by kernel_rfl) (by kernel_rfl) (by kernel_rfl) (fun _ _ _ h => h) (Or.inl ⟨by rfl, ?hy2⟩) hHeld ?rest2
          case hy2 => (intro wz hSw; (try dsimp only at hSw); go_simp; (try with_reducible rfl))
          (try simp only [Act.put, List.getElem_toArray, List.getElem_cons_succ, List.getElem_cons_zero]); (try simp only [List.setIfInBounds_toArray]); (try simp only [List.set_cons_succ]); (try simp only [List.set_cons_zero])
          refine wpAnyH_take (i := 2) (v := ?v3) rfl (by kernel_rfl) (by kernel_rfl) (by kernel_rfl) (fun _ _ _ h => h) (Or.inl ⟨by rfl, ?hy3⟩) hHeld ?rest3
          case hy3 => (intro wz hSw; (try dsimp only at hSw); go_simp; (try with_reducible rfl))
          (try simp only [Act.put, List.getElem_toArray, List.getElem_cons_succ, List.getElem_cons_zero]); (try simp only [List.setIfInBounds_toArray]); (try simp only [List.set_cons_succ]); (try simp only [List.set_cons_zero])
          refine wpAnyH_take (i := 3) (v := ?v4) rfl (by kernel_rfl) (by kernel_rfl) (by kernel_rfl) (fun _ _ _ h => h) (Or.inl ⟨by rfl, ?hy4⟩) hHeld ?rest4
          case hy4 => (intro wz hSw; (try dsimp only at hSw); go_simp; (try with_reducible rfl))
          (try simp only [Act.put, List.getElem_toArray, List.getElem_cons_succ, List.getElem_cons_zero]); (try simp only [List.setIfInBounds_toArray]); (try simp only [List.set_cons_succ]); (try simp only [List.set_cons_zero])
          refine wpAnyH_take (i := 4) (v := ?v5) rfl (by kernel_rfl) (by kernel_rfl) (by kernel_rfl) (fun _ _ _ h => h) (Or.inl ⟨by rfl, ?hy5⟩) hHeld ?rest5
          case hy5 => (intro wz hSw; (try dsimp only at hSw); go_simp; (try with_reducible rfl))
          (try simp only [Act.put, List.getElem_toArray, List.getElem_cons_succ, List.getElem_cons_zero]); (try simp only [List.setIfInBounds_toArray]); (try simp only [List.set_cons_succ]); (try simp only [List.set_cons_zero])
          refine wpAnyH_ready (rs := [5]) (by kernel_rfl) (by simp) ?_
          refine AllReadyH.cons rfl (fun K' hK => ?_) AllReadyH.nil
          go_simp
          refine (l6Reflect_spec K a0 oa n n K cv q l v (some ⟨bv, ov, none⟩) _ (HT.out.ext (HEX.out.trans (And.left hHeld))) HN.out hK1 HBO.out.le ((HV.out.ext HEX.out).ext (And.left hHeld)) rfl hqK HXB.out HVB.out).mono ?_
          rintro e w6 ⟨b6, c6, rfl, hc6, hb61, hb62, hh6, h6⟩
          have Xw6 := (And.left hHeld).trans h6
          dsimp only
          refine hK.out _ _ (ext2 Xw6) (fun hHeld => ?_)
          clear hK
          refine wpAnyH_ready (rs := [6]) (by kernel_rfl) (by simp) ?_
          refine AllReadyH.cons rfl (fun K' hK => ?_) AllReadyH.nil
          go_simp
          refine (HIH.out (upT l K q u) (turnM l K q v) bu2 0 cu2 b6 0 c6 _ (HNC.out) HU2L.out HU2.out HV2.out (HT.out.ext (HEX.out.trans (And.left hHeld))) ((HU2R.out).ext (And.left hHeld)) (hh6.reads (turnM_len _ _ _ _))).mono ?_
          rintro e w7 ⟨rfl, h7⟩
          have X7 := (And.left hHeld).trans h7
          dsimp only
          refine hK.out _ _ (ext2 X7) (fun hHeld => ?_)
          clear hK
          refine wpAnyH_take (i := 7) (v := ?v6) rfl (by kernel_rfl) (by kernel_rfl) (by kernel_rfl) (fun _ _ _ h => h) (Or.inl ⟨by rfl, ?hy6⟩) hHeld ?rest6
          case hy6 => (intro wz hSw; (try dsimp only at hSw); go_simp; (try with_reducible rfl))
          (try simp only [Act.put, List.getElem_toArray, List.getElem_cons_succ, List.getElem_cons_zero]); (try simp only [List.setIfInBounds_toArray]); (try simp only [List.set_cons_succ]); (try simp only [List.set_cons_zero])
          refine wpAnyH_done (by kernel_rfl) ?_ _
          have X9 := HEX.out.trans (And.left hHeld)
          clear hHeld
          go_wp2
          go_ret
          exact ⟨ret_bool HST.out.symm, X9⟩
        · have hun2 : (gi u q < 0) = False := eq_false hun
          have HUT := Lib.hid (HNOT.out q (by omega))
          have HU2R : Hid (Reads W1 (some ⟨bu, ou, none⟩) K (upT l K q u)) := by rw [HUT.out]; exact HU.out.ext X0.out
          have HEX := X0
          obtain ⟨WX, hWX⟩ : ∃ WX, WX = W1 := ⟨_, rfl⟩
          subst hWX
          go_wp2_with fail
          refine wp_region_held_drew (S := (fun w' => Ext WX w' ∧ (∀ b o, b < WX.heap.size → w'.cell? ⟨b, o, none⟩ = WX.cell? ⟨b, o, none⟩))) (by kernel_rfl) (ext2 (Ext.refl WX).drew) (fun hHeld => ?_)
          refine wpAnyH_take (i := 0) (v := ?v7) rfl (by kernel_rfl) (by kernel_rfl) (by kernel_rfl) (fun _ _ _ h => h) (Or.inl ⟨by rfl, ?hy7⟩) hHeld ?rest7
          case hy7 => (intro wz hSw; (try dsimp only at hSw); go_simp; (try with_reducible rfl))
          (try simp only [Act.put, List.getElem_toArray, List.getElem_cons_succ, List.getElem_cons_zero]); (try simp only [List.setIfInBounds_toArray]); (try simp only [List.set_cons_succ]); (try simp only [List.set_cons_zero])
          refine wpAnyH_take (i := 1) (v := ?v8) rfl (by kernel_rfl) (by kernel_rfl) (by kernel_rfl) (fun _ _ _ h => h) (Or.inl ⟨by rfl, ?hy8⟩) hHeld ?rest8
          case hy8 => (intro wz hSw; (try dsimp only at hSw); go_simp; (try with_reducible rfl))
          (try simp only [Act.put, List.getElem_toArray, List.getElem_cons_succ, List.getElem_cons_zero]); (try simp only [List.setIfInBounds_toArray]); (try simp only [List.set_cons_succ]); (try simp only [List.set_cons_zero])
          refine wpAnyH_take (i := 2) (v := ?v9) rfl (by kernel_rfl) (by kernel_rfl) (by kernel_rfl) (fun _ _ _ h => h) (Or.inl ⟨by rfl, ?hy9⟩) hHeld ?rest9
          case hy9 => (intro wz hSw; (try dsimp only at hSw); go_simp; (try with_reducible rfl))
          (try simp only [Act.put, List.getElem_toArray, List.getElem_cons_succ, List.getElem_cons_zero]); (try simp only [List.setIfInBounds_toArray]); (try simp only [List.set_cons_succ]); (try simp only [List.set_cons_zero])
          refine wpAnyH_take (i := 3) (v := ?v10) rfl (by kernel_rfl) (by kernel_rfl) (by kernel_rfl) (fun _ _ _ h => h) (Or.inl ⟨by rfl, ?hy10⟩) hHeld ?rest10
          case hy10 => (intro wz hSw; (try dsimp only at hSw); go_simp; (try with_reducible rfl))
          (try simp only [Act.put, List.getElem_toArray, List.getElem_cons_succ, List.getElem_cons_zero]); (try simp only [List.setIfInBounds_toArray]); (try simp only [List.set_cons_succ]); (try simp only [List.set_cons_zero])
          refine wpAnyH_take (i := 4) (v := ?v11) rfl (by kernel_rfl) (by kernel_rfl) (by kernel_rfl) (fun _ _ _ h => h) (Or.inl ⟨by rfl, ?hy11⟩) hHeld ?rest11
          case hy11 => (intro wz hSw; (try dsimp only at hSw); go_simp; (try with_reducible rfl))
          (try simp only [Act.put, List.getElem_toArray, List.getElem_cons_succ, List.getElem_cons_zero]); (try simp only [List.setIfInBounds_toArray]); (try simp only [List.set_cons_succ]); (try simp only [List.set_cons_zero])
          refine wpAnyH_ready (rs := [5]) (by kernel_rfl) (by simp) ?_
          refine AllReadyH.cons rfl (fun K' hK => ?_) AllReadyH.nil
          go_simp
          refine (l6Reflect_spec K a0 oa n n K cv q l v (some ⟨bv, ov, none⟩) _ (HT.out.ext (HEX.out.trans (And.left hHeld))) HN.out hK1 HBO.out.le ((HV.out.ext HEX.out).ext (And.left hHeld)) rfl hqK HXB.out HVB.out).mono ?_
          rintro e w6 ⟨b6, c6, rfl, hc6, hb61, hb62, hh6, h6⟩
          have Xw6 := (And.left hHeld).trans h6
          dsimp only
          refine hK.out _ _ (ext2 Xw6) (fun hHeld => ?_)
          clear hK
          refine wpAnyH_ready (rs := [6]) (by kernel_rfl) (by simp) ?_
          refine AllReadyH.cons rfl (fun K' hK => ?_) AllReadyH.nil
          go_simp
          refine (HIH.out (upT l K q u) (turnM l K q v) bu ou cu b6 0 c6 _ (HNC.out) HU2L.out HU2.out HV2.out (HT.out.ext (HEX.out.trans (And.left hHeld))) ((HU2R.out).ext (And.left hHeld)) (hh6.reads (turnM_len _ _ _ _))).mono ?_
          rintro e w7 ⟨rfl, h7⟩
          have X7 := (And.left hHeld).trans h7
          dsimp only
          refine hK.out _ _ (ext2 X7) (fun hHeld => ?_)
          clear hK
          refine wpAnyH_take (i := 7) (v := ?v12) rfl (by kernel_rfl) (by kernel_rfl) (by kernel_rfl) (fun _ _ _ h => h) (Or.inl ⟨by rfl, ?hy12⟩) hHeld ?rest12
          case hy12 => (intro wz hSw; (try dsimp only at hSw); go_simp; (try with_reducible rfl))
          (try simp only [Act.put, List.getElem_toArray, List.getElem_cons_succ, List.getElem_cons_zero]); (try simp only [List.setIfInBounds_toArray]); (try simp only [List.set_cons_succ]); (try simp only [List.set_cons_zero])
          refine wpAnyH_done (by kernel_rfl) ?_ _
          have X9 := HEX.out.trans (And.left hHeld)
          clear hHeld
          go_wp2
          go_ret
          exact ⟨ret_bool HST.out.symm, X9⟩
theorem l6Below_spec {K a0 oa n : Nat} {l hh : List Int} (hn : n = K * K) (hK1 : 1 ≤ K) (hB : BOk l hh K) (hxb : ∀ e, -3 ≤ gi l e ∧ gi l e ≤ 3) (hrt : RClo (trn l K) K) : ∀ (N : Nat) (u v : List Int) (bu ou cu bv ov cv : Nat) (w : World), negC (posR (trn l K) K) K v < N → u.length = K → ImB l K 24 u → Img l K v → Reads w (some ⟨a0, oa, none⟩) n l → Reads w (some ⟨bu, ou, none⟩) K u → Reads w (some ⟨bv, ov, none⟩) K v → Calls Tryz.prog 72 #[.agg #[.int .i64 (K : Nat), .slice (some ⟨a0, oa, none⟩) n n], .slice (some ⟨bu, ou, none⟩) K cu, .slice (some ⟨bv, ov, none⟩) K cv] w fun e w' => e = .returned (.bool (belB l K u v)) ∧ Ext w w' := by
  intro N
  induction N with
  | zero => intro u v bu ou cu bv ov cv w h; exact absurd h (Nat.not_lt_zero _)
  | succ N ih =>
    intro u v bu ou cu bv ov cv w h h1 h2 h3 h4 h5 h6
    refine l6Below_aux (negC (posR (trn l K) K) K v) hn hK1 hB hxb hrt ?_ u v bu ou cu bv ov cv w rfl h1 h2 h3 h4 h5 h6
    intro u' v' bu' ou' cu' bv' ov' cv' w' g
    exact ih u' v' bu' ou' cu' bv' ov' cv' w' (by omega)
theorem fold_P {R : Nat} {xs : List Int} {P : List Int → Prop} (hT : ∀ u i, i < R → P u → P (upT xs R i u)) : ∀ (p : List Nat) (u : List Int), (∀ k, k < p.length → p.getD k 0 < R) → P u → P (p.foldl (fun u k => upT xs R k u) u)
  | [], _, _, h => h
  | i :: p, u, hp, h => fold_P hT p _ (fun k hk => by have := hp (k + 1) (by simp; omega); simpa using this) (hT u i (by have := hp 0 (by simp); simpa using this) h)
theorem upT_imB {xs w : List Int} {R i : Nat} {B : Int} (hc : RClo (trn xs R) R) (h : ImB xs R B w) (hi : i < R) : ImB xs R B (upT xs R i w) := by
  rw [upT]; split
  · exact imB_turn hc h hi
  · exact h
theorem actM_len9 {l x y : List Int} {K : Nat} (hy : y.length = K) : (actM l K x y).length = K := by
  cases x with
  | nil => exact hy
  | cons i t => exact turnM_len _ _ _ _

set_option maxRecDepth 100000 in
set_option maxHeartbeats 6400000 in
theorem isBelow_impl {R : Int} {a0 oa n bx ox nx bz oz nz : Nat} {l x z : List Int} {w : World} {i : Bool} (hT : Reads w (some ⟨a0, oa, none⟩) n l) (hm0 : n ≤ 1048576) (hx : Reads w (some ⟨bx, ox, none⟩) nx x) (hmx : nx ≤ 1048576) (hz : Reads w (some ⟨bz, oz, none⟩) nz z) (hmz : nz ≤ 1048576) (hM : isbO R l x z = i) :
    Calls Tryz.prog 35 #[.agg #[.int .i64 R, .slice (some ⟨a0, oa, none⟩) n n], .slice (some ⟨bx, ox, none⟩) nx nx, .slice (some ⟨bz, oz, none⟩) nz nz] w fun e w' => e = .returned (.bool i) ∧ Ext w w' := by
  subst hM
  have HT := Lib.hid hT
  have Hx := Lib.hid hx
  have Hz := Lib.hid hz
  have hmf : ∀ (fn : Fn) (first cap : Array Value) (w : World), (Instr.makeFunc fn first cap).run Tryz.prog w = .ok (.func fn first cap) w := fun _ _ _ _ => rfl
  rcases hG : carG R l with _ | v
  · have HF : Hid (isbO R l x z = false) := by rw [Hid, isbO, hG]
    clear hT hx hz
    have X0 := Lib.hid (((Ext.refl w).alloc (.cells #[.int .i64 R, .slice (some ⟨a0, oa, none⟩) n n] 27)).alloc (.cells #[.slice (some ⟨bx, ox, none⟩) nx nx, .slice (some ⟨bz, oz, none⟩) nz nz] 22))
    go_enter Tryz.func35, Tryz.ntmps35
    go_wp2_with fail
    refine (wrapWords_no (HT.out.ext X0.out) hm0 hG).mono ?_
    rintro e w2 ⟨rfl, hE⟩
    go_wp2
    go_ret
    exact ⟨ret_bool HF.out.symm, X0.out.trans hE⟩
  · obtain ⟨K, rfl, hK1, hK4, hlK, ht⟩ := carG_some hG
    have hnK : Hid (n = K * K) := by rw [Hid, ← hT.len]; exact hlK
    obtain ⟨hh, hWOK⟩ := wOk_tab hK1 hK4 ht
    have HWO := Lib.hid hWOK
    clear hWOK
    have HBO := Lib.hid (bOk_tab (show 0 < K by omega) hK4 ht HWO.out.cl)
    have HF0 : Hid (isbO K l x z = (wordB K x && (wordB K z && belB l K (actM l K x (List.replicate K 1)) (actM l K z (List.replicate K 1))))) := isbO_eq hG
    clear hT hx hz
    rcases hw : (wordB K x && wordB K z) with _ | _
    · have HF : Hid (isbO K l x z = false) := by rw [Hid, HF0.out, ← Bool.and_assoc, hw]; rfl
      have X0 := Lib.hid (((Ext.refl w).alloc (.cells #[.int .i64 (K : Nat), .slice (some ⟨a0, oa, none⟩) n n] 27)).alloc (.cells #[.slice (some ⟨bx, ox, none⟩) nx nx, .slice (some ⟨bz, oz, none⟩) nz nz] 22))
      have CB := Lib.hid (cells_new' (w.alloc (.cells #[.int .i64 (K : Nat), .slice (some ⟨a0, oa, none⟩) n n] 27)) #[.slice (some ⟨bx, ox, none⟩) nx nx, .slice (some ⟨bz, oz, none⟩) nz nz] 22 (w.heap.size + 1) (by simp))
      have HCW := Lib.hid (wrapWords_yes K a0 oa n (w.heap.size + 1) 2 2 (fun j => if j = 0 then some ⟨bx, ox, none⟩ else some ⟨bz, oz, none⟩) (fun j => if j = 0 then nx else nz) (fun j => if j = 0 then nx else nz) (fun j => if j = 0 then x else z) l v _ (HT.out.ext X0.out) hK1 hK4 ht hlK (by simp) (fun j hj => by
              rcases (show j = 0 ∨ j = 1 by omega) with e | e
              · subst e; exact CB.out.2 0 _ rfl
              · subst e; exact CB.out.2 1 _ rfl) (fun j hj => by
              rcases (show j = 0 ∨ j = 1 by omega) with e | e
              · subst e; exact ⟨Hx.out.ext X0.out, hmx⟩
              · subst e; exact ⟨Hz.out.ext X0.out, hmz⟩) (by omega))
      go_enter Tryz.func35, Tryz.ntmps35
      go_wp2_with fail
      refine HCW.out.mono ?_
      rintro e w2 (⟨h1, rfl, hE⟩ | ⟨h1, B, LB, ns, rfl, hns, hW⟩)
      · go_wp2
        go_ret
        exact ⟨ret_bool HF.out.symm, X0.out.trans hE⟩
      · rw [wordsB_two] at h1; simp only [if_true, show ¬ ((1 : Nat) = 0) by omega, if_false] at h1; rw [hw] at h1; cases h1
    · have hwx : wordB K x = true := by rw [Bool.and_eq_true] at hw; exact hw.1
      have hwz : wordB K z = true := by rw [Bool.and_eq_true] at hw; exact hw.2
      have HRx := Lib.hid (wordB_rowB hwx)
      have HRz := Lib.hid (wordB_rowB hwz)
      have hIz := img_act HBO.out.co z HRz.out
      obtain ⟨d, rows, hO⟩ := climb_img HBO.out hIz
      have hDS := climb_desc hK4 HWO.out.cl HBO.out.co _ _ d rows rfl hIz hO
      have HLT := Lib.hid (desc_lt hDS)
      have HO := Lib.hid hO
      have HUL : Hid ((actM l K x (List.replicate K 1)).length = K) := actM_len9 (ones_len K)
      have HU0 : Hid (ImB l K 24 (actM l K x (List.replicate K 1))) := imB_actO hK4 HWO.out HRx.out
      have HF : Hid (isbO K l x z = sameB (rows.foldl (fun u k => upT l K k u) (actM l K x (List.replicate K 1))) (List.replicate K 1)) := by
        rw [Hid, HF0.out, ← Bool.and_assoc, hw, Bool.true_and, belB_rows (d := d) (rows := rows) HBO.out HUL.out hIz hDS]; rfl
      have HFP : Hid (∀ k, ImB l K 24 ((rows.take k).foldl (fun u k => upT l K k u) (actM l K x (List.replicate K 1)))) := fun k => fold_P (fun u i hi hu => upT_imB HWO.out.rt hu hi) _ _ (fun q hq => by
        rw [List.length_take] at hq
        have := HLT.out q (by omega)
        simp only [List.getD_eq_getElem?_getD, List.getElem?_take] at this ⊢
        rw [if_pos (by omega)]; exact this) HU0.out
      have HFT : Hid (∀ k, k < rows.length → (rows.take (k + 1)).foldl (fun u k => upT l K k u) (actM l K x (List.replicate K 1)) = upT l K (rows.getD k 0) ((rows.take k).foldl (fun u k => upT l K k u) (actM l K x (List.replicate K 1)))) := fun k hk => fold_take hk
      have HF9 : Hid ((rows.take rows.length).foldl (fun u k => upT l K k u) (actM l K x (List.replicate K 1)) = rows.foldl (fun u k => upT l K k u) (actM l K x (List.replicate K 1))) := by rw [Hid, List.take_length]
      have HFZ : Hid ((rows.take 0).foldl (fun u k => upT l K k u) (actM l K x (List.replicate K 1)) = actM l K x (List.replicate K 1)) := rfl
      obtain ⟨F, hF⟩ : ∃ F : Nat → List Int, ∀ k, (rows.take k).foldl (fun u k => upT l K k u) (actM l K x (List.replicate K 1)) = F k := ⟨_, fun _ => rfl⟩
      obtain ⟨A, hA⟩ : ∃ A, rows.foldl (fun u k => upT l K k u) (actM l K x (List.replicate K 1)) = A := ⟨_, rfl⟩
      have HFP2 := HFP.out
      have HFT2 := HFT.out
      have HF92 := HF9.out
      have HFZ2 := HFZ.out
      simp only [hF, hA] at HFP2 HFT2 HF92 HFZ2
      rw [hA] at HF
      clear HFP HFT HF9 HFZ
      have HFP := Lib.hid HFP2
      have HFT := Lib.hid HFT2
      have HF9 := Lib.hid HF92
      have HFZ := Lib.hid HFZ2
      clear HFP2 HFT2 HF92 HFZ2 hF hA hO hDS hIz
      have X0 := Lib.hid (((Ext.refl w).alloc (.cells #[.int .i64 (K : Nat), .slice (some ⟨a0, oa, none⟩) n n] 27)).alloc (.cells #[.slice (some ⟨bx, ox, none⟩) nx nx, .slice (some ⟨bz, oz, none⟩) nz nz] 22))
      have CB := Lib.hid (cells_new' (w.alloc (.cells #[.int .i64 (K : Nat), .slice (some ⟨a0, oa, none⟩) n n] 27)) #[.slice (some ⟨bx, ox, none⟩) nx nx, .slice (some ⟨bz, oz, none⟩) nz nz] 22 (w.heap.size + 1) (by simp))
      have HCW := Lib.hid (wrapWords_yes K a0 oa n (w.heap.size + 1) 2 2 (fun j => if j = 0 then some ⟨bx, ox, none⟩ else some ⟨bz, oz, none⟩) (fun j => if j = 0 then nx else nz) (fun j => if j = 0 then nx else nz) (fun j => if j = 0 then x else z) l v _ (HT.out.ext X0.out) hK1 hK4 ht hlK (by simp) (fun j hj => by
              rcases (show j = 0 ∨ j = 1 by omega) with e | e
              · subst e; exact CB.out.2 0 _ rfl
              · subst e; exact CB.out.2 1 _ rfl) (fun j hj => by
              rcases (show j = 0 ∨ j = 1 by omega) with e | e
              · subst e; exact ⟨Hx.out.ext X0.out, hmx⟩
              · subst e; exact ⟨Hz.out.ext X0.out, hmz⟩) (by omega))
      go_enter Tryz.func35, Tryz.ntmps35
      go_wp2_with fail
      refine HCW.out.mono ?_
      rintro e w2 (⟨h1, rfl, hE⟩ | ⟨h1, B, LB, ns, rfl, hns, hW⟩)
      · rw [wordsB_two] at h1; simp only [if_true, show ¬ ((1 : Nat) = 0) by omega, if_false] at h1; rw [hw] at h1; cases h1
      · skip
        have HE2 := Lib.hid (X0.out.trans hW.ext)
        obtain ⟨xa, xn, xc, hbox, hstr⟩ := hW.box
        have HBX := Lib.hid hbox
        clear hW hns hbox hstr HCW
        go_wp2_with fail
        refine (imageOf_impl B K a0 oa n n bx ox nx nx _ _ l x (ImB l K 24) _ HBX.out (HT.out.ext HE2.out) hnK.out hK1 hK4 HWO.out.xb (Hx.out.ext HE2.out) hmx HRx.out (imB_ones hK4 HWO.out.rt) (imB_bnd6 HWO.out.rt (by omega) (by omega)) (fun u i hi hu => imB_turn HWO.out.rt hu hi)).mono ?_
        rintro e w3 ⟨b3, c3, rfl, hc3, hb31, hb32, hh3, hP3, h3⟩
        have HE3 := Lib.hid (HE2.out.trans h3)
        have HBX3 := Lib.hid (HBX.out.ext h3)
        have HH3 := Lib.hid hh3
        clear h3 hh3 HBX HE2 hP3
        go_wp2_with fail
        refine (imageOf_impl B K a0 oa n n bz oz nz nz _ _ l z (ImB l K 24) _ HBX3.out (HT.out.ext HE3.out) hnK.out hK1 hK4 HWO.out.xb (Hz.out.ext HE3.out) hmz HRz.out (imB_ones hK4 HWO.out.rt) (imB_bnd6 HWO.out.rt (by omega) (by omega)) (fun u i hi hu => imB_turn HWO.out.rt hu hi)).mono ?_
        rintro e w4 ⟨b4, c4, rfl, hc4, hb41, hb42, hh4, hP4, h4⟩
        have HE4 := Lib.hid (HE3.out.trans h4)
        have HBX4 := Lib.hid (HBX3.out.ext h4)
        have HH34 := Lib.hid (HH3.out.ext h4)
        have HH4 := Lib.hid hh4
        have HP4 := Lib.hid hP4
        clear h4 hh4 HBX3 HE3 hP4 HH3
        go_wp2_with fail
        refine (normalOf_impl B K a0 oa n n K c4 b4 0 _ _ l hh _ d rows _ HBX4.out (HT.out.ext HE4.out) hnK.out hK1 hK4 HWO.out.xb HWO.out.cl (HH4.out.reads HP4.out.len) (by omega) HO.out).mono ?_
        rintro e w5 ⟨h5, v5, rfl, hG5, hl5⟩
        obtain ⟨va, vc, rfl, ho5⟩ := hG5.shape
        have HRR := Lib.hid ho5.reads
        have HE5 := Lib.hid (HE4.out.trans h5)
        have HBX5 := Lib.hid (HBX4.out.ext h5)
        have HH5 : Hid (Has w5 b3 (F 0)) := by rw [HFZ.out]; exact HH34.out.ext h5
        have hmI : (rows.length : Int) ≤ 512001 := by omega
        obtain ⟨m, hm⟩ : ∃ m, rows.length = m := ⟨_, rfl⟩
        have HM := Lib.hid hm
        rw [hm] at HRR HFT HF9 HLT hmI ⊢
        clear h5 hG5 ho5 HBX4 HE4 HH4 HP4 HH34 hm
        go_wp2_with fail
        go_loopw [31, 9, 11] (fun q y _ wr => ∃ k b c : Nat, k ≤ m ∧ q = .int .i64 k ∧ y = .slice (some ⟨b, 0, none⟩) K c ∧ Hid (Has wr b (F k)) ∧ Hid (Ext w5 wr)) (fun q _ _ _ => m - (intOf q).toNat)
        case atStart => exact ⟨0, b3, c3, by omega, rfl, rfl, HH5, Ext.refl _⟩
        case round =>
          clear HH5
          obtain ⟨k, b, c, hk, rfl, rfl, hH, hX⟩ := hrel
          have HBr := Lib.hid (HBX5.out.ext hX.out)
          have HEr := Lib.hid (HE5.out.trans hX.out)
          by_cases hlt : k < m
          · obtain ⟨gb, go9, rfl, hgb, hgc⟩ := reads5 HRR.out (by omega)
            have cK := (hX.out.cells gb (go9 + k) hgb).trans (hgc k hlt)
            rw [gi_rI9 (by rw [HM.out]; exact hlt)] at cK
            have lK := Nat.lt_of_lt_of_le hgb hX.out.le
            obtain ⟨r, hr⟩ : ∃ r, rows.getD k 0 = r := ⟨_, rfl⟩
            have hrK : r < K := by rw [← hr]; exact HLT.out k hlt
            have HFk : Hid (F (k + 1) = upT l K r (F k)) := by rw [← hr]; exact HFT.out k hlt
            rw [hr] at cK
            have HPK := Lib.hid (HFP.out k)
            have cI := hH.out.cell r (by rw [HPK.out.len]; exact hrK)
            have lI := hH.out.lt
            have hkI : (k : Int) < (m : Int) := by omega
            have hrI : (r : Int) < (K : Int) := by omega
            clear hgc hr
            by_cases hneg : gi (F k) r < 0
            · have HUP : Hid (F (k + 1) = turnM l K r (F k)) := by rw [Hid, HFk.out, upT, if_pos hneg]
              have HTU := Lib.hid (turned_impl B K a0 oa n n K c r _ _ l (F k) (some ⟨b, 0, none⟩) wr HBr.out (HT.out.ext HEr.out) hnK.out hK1 hK4 (hH.out.reads HPK.out.len) rfl hrK HWO.out.xb (fun e => by have := imB_ent HWO.out.rt (by omega) HPK.out e; omega))
              have hneg2 : (gi (F k) r < 0) = True := eq_true hneg
              go_wp2_with fail
              refine HTU.out.mono ?_
              rintro e w7 ⟨b7, c7, rfl, hc7, hb71, hb72, hh7, h7⟩
              have HH7 : Hid (Has w7 b7 (F (k + 1))) := by rw [HUP.out]; exact hh7
              have HX7 := Lib.hid (hX.out.trans h7)
              clear hh7 h7 hH hX HTU
              go_wp2
              exact ⟨⟨k + 1, b7, c7, by omega, by first | rfl | simp | trivial, rfl, HH7, HX7⟩, by (simp [intOf]) <;> omega⟩
            · have HUP : Hid (F (k + 1) = F k) := by rw [Hid, HFk.out, upT, if_neg hneg]
              have hneg2 : (gi (F k) r < 0) = False := eq_false hneg
              rw [← HUP.out] at hH
              go_wp2
              exact ⟨⟨k + 1, b, c, by omega, by first | rfl | simp | trivial, rfl, hH, hX⟩, by (simp [intOf]) <;> omega⟩
          · obtain rfl : m = k := by omega
            have HH9 : Hid (Has wr b A) := by rw [← HF9.out]; exact hH
            have HL9 : Hid (A.length = K) := by rw [← HF9.out]; exact (HFP.out m).len
            clear hH
            go_wp2_with fail
            refine (ones_impl B K a0 oa n n _ _ _ HBr.out hK1 hK4).mono ?_
            rintro e w7 ⟨b7, rfl, hb71, hb72, hh7, h7⟩
            have HE7 := Lib.hid (HEr.out.trans h7)
            have HH97 := Lib.hid (HH9.out.ext h7)
            have HH7 := Lib.hid hh7
            clear hh7 h7 HH9
            go_wp2_with fail
            refine (equal_fn (some ⟨b, 0, none⟩) (some ⟨b7, 0, none⟩) K K c K _ _ _ (HH97.out.reads HL9.out) (HH7.out.reads (ones_len K)) (by omega) (by omega)).mono ?_
            rintro e _ ⟨rfl, m4, rfl⟩
            go_wp2
            go_ret
            exact ⟨ret_bool HF.out.symm, HE7.out.drewN m4⟩

set_option maxRecDepth 100000 in
set_option maxHeartbeats 6400000 in
theorem isBelow_spec {R : Int} {a0 oa n bx ox nx bz oz nz : Nat} {l x z : List Int} {w : World} {i : Bool} (hT : Reads w (some ⟨a0, oa, none⟩) n l) (hm0 : n ≤ 1048576) (hx : Reads w (some ⟨bx, ox, none⟩) nx x) (hmx : nx ≤ 1048576) (hz : Reads w (some ⟨bz, oz, none⟩) nz z) (hmz : nz ≤ 1048576) (hM : isbO R l x z = i) :
    Calls Tryz.prog 34 #[.agg #[.int .i64 R, .slice (some ⟨a0, oa, none⟩) n n], .slice (some ⟨bx, ox, none⟩) nx nx, .slice (some ⟨bz, oz, none⟩) nz nz] w fun e w' => e = .returned (.bool i) ∧ Ext w w' := by
  subst hM
  have HT := Lib.hid hT
  have Hx := Lib.hid hx
  have Hz := Lib.hid hz
  rcases hG : carG R l with _ | v
  · have HF : Hid (isbO R l x z = false) := by rw [Hid, isbO, hG]
    have HIx : Hid (wrdO R l x = false) := by rw [Hid, wrdO, hG]; rfl
    have HBX := Lib.hid (cells_new w #[.int .i64 R, .slice (some ⟨a0, oa, none⟩) n n] 27)
    have X0 := Lib.hid ((Ext.refl w).alloc (.cells #[.int .i64 R, .slice (some ⟨a0, oa, none⟩) n n] 27))
    have lB := HBX.out.1
    have q0 := HBX.out.2 0 _ rfl
    have q1 := HBX.out.2 1 _ rfl
    clear hT hx hz
    go_enter Tryz.func34, Tryz.ntmps34
    go_wp2_with fail
    generalize (w.alloc (.cells #[.int .i64 R, .slice (some ⟨a0, oa, none⟩) n n] 27)) = W1 at *
    have hle1 := X0.out.le
    refine wp_region_held_drew (S := (fun w' => Ext W1 w' ∧ (∀ b o, b < W1.heap.size → w'.cell? ⟨b, o, none⟩ = W1.cell? ⟨b, o, none⟩))) (by kernel_rfl) (ext2 (Ext.refl W1).drew) (fun hHeld => ?_)
    refine wpAnyH_take (i := 0) (v := ?v13) rfl (by kernel_rfl) (by kernel_rfl) (by kernel_rfl) (fun _ _ _ h => h) (Or.inl ⟨by rfl, ?hy13⟩) hHeld ?rest13
    case hy13 => (intro wz hSw; (try dsimp only at hSw); go_simp; (try with_reducible rfl))
    (try simp only [Act.put, List.getElem_toArray, List.getElem_cons_succ, List.getElem_cons_zero]); (try simp only [List.setIfInBounds_toArray]); (try simp only [List.set_cons_succ]); (try simp only [List.set_cons_zero])
    refine wpAnyH_take (i := 1) (v := ?v14) rfl (by kernel_rfl) (by kernel_rfl) (by kernel_rfl) (fun _ _ _ h => h) (Or.inl ⟨by rfl, ?hy14⟩) hHeld ?rest14
    case hy14 => (intro wz hSw; (try dsimp only at hSw); go_simp; (try with_reducible rfl))
    (try simp only [Act.put, List.getElem_toArray, List.getElem_cons_succ, List.getElem_cons_zero]); (try simp only [List.setIfInBounds_toArray]); (try simp only [List.set_cons_succ]); (try simp only [List.set_cons_zero])
    refine wpAnyH_ready (rs := [2]) (by kernel_rfl) (by simp) ?_
    refine AllReadyH.cons rfl (fun K' hK => ?_) AllReadyH.nil
    go_simp
    refine (wordOk_spec (HT.out.ext (X0.out.trans (And.left hHeld))) hm0 (Hx.out.ext (X0.out.trans (And.left hHeld))) hmx HIx.out).mono ?_
    rintro e w2 ⟨rfl, h2⟩
    have Xw2 := (And.left hHeld).trans h2
    dsimp only
    refine hK.out _ _ (ext2 Xw2) (fun hHeld => ?_)
    clear hK
    refine wpAnyH_take (i := 3) (v := ?v15) rfl (by kernel_rfl) (by kernel_rfl) (by kernel_rfl) (fun _ _ _ h => h) (Or.inl ⟨by rfl, ?hy15⟩) hHeld ?rest15
    case hy15 => (intro wz hSw; (try dsimp only at hSw); go_simp; (try with_reducible rfl))
    (try simp only [Act.put, List.getElem_toArray, List.getElem_cons_succ, List.getElem_cons_zero]); (try simp only [List.setIfInBounds_toArray]); (try simp only [List.set_cons_succ]); (try simp only [List.set_cons_zero])
    refine wpAnyH_take (i := 4) (v := undef) rfl (by kernel_rfl) (by kernel_rfl) (by kernel_rfl) (fun _ _ _ h => h) (Or.inr ⟨by rfl, rfl⟩) hHeld ?rest16
    (try simp only [Act.put, List.getElem_toArray, List.getElem_cons_succ, List.getElem_cons_zero]); (try simp only [List.setIfInBounds_toArray]); (try simp only [List.set_cons_succ]); (try simp only [List.set_cons_zero])
    refine wpAnyH_take (i := 5) (v := undef) rfl (by kernel_rfl) (by kernel_rfl) (by kernel_rfl) (fun _ _ _ h => h) (Or.inr ⟨by rfl, rfl⟩) hHeld ?rest17
    (try simp only [Act.put, List.getElem_toArray, List.getElem_cons_succ, List.getElem_cons_zero]); (try simp only [List.setIfInBounds_toArray]); (try simp only [List.set_cons_succ]); (try simp only [List.set_cons_zero])
    refine wpAnyH_take (i := 6) (v := undef) rfl (by kernel_rfl) (by kernel_rfl) (by kernel_rfl) (fun _ _ _ h => h) (Or.inr ⟨by rfl, rfl⟩) hHeld ?rest18
    (try simp only [Act.put, List.getElem_toArray, List.getElem_cons_succ, List.getElem_cons_zero]); (try simp only [List.setIfInBounds_toArray]); (try simp only [List.set_cons_succ]); (try simp only [List.set_cons_zero])
    refine wpAnyH_take (i := 7) (v := ?v19) rfl (by kernel_rfl) (by kernel_rfl) (by kernel_rfl) (fun _ _ _ h => h) (Or.inl ⟨by rfl, ?hy19⟩) hHeld ?rest19
    case hy19 => (intro wz hSw; (try dsimp only at hSw); go_simp; (try with_reducible rfl))
    (try simp only [Act.put, List.getElem_toArray, List.getElem_cons_succ, List.getElem_cons_zero]); (try simp only [List.setIfInBounds_toArray]); (try simp only [List.set_cons_succ]); (try simp only [List.set_cons_zero])
    refine wpAnyH_take (i := 8) (v := ?v20) rfl (by kernel_rfl) (by kernel_rfl) (by kernel_rfl) (fun _ _ _ h => h) (Or.inl ⟨by rfl, ?hy20⟩) hHeld ?rest20
    case hy20 => (intro wz hSw; (try dsimp only at hSw); go_simp; (try with_reducible rfl))
    (try simp only [Act.put, List.getElem_toArray, List.getElem_cons_succ, List.getElem_cons_zero]); (try simp only [List.setIfInBounds_toArray]); (try simp only [List.set_cons_succ]); (try simp only [List.set_cons_zero])
    refine wpAnyH_take (i := 9) (v := undef) rfl (by kernel_rfl) (by kernel_rfl) (by kernel_rfl) (fun _ _ _ h => h) (Or.inr ⟨by rfl, rfl⟩) hHeld ?rest21
    (try simp only [Act.put, List.getElem_toArray, List.getElem_cons_succ, List.getElem_cons_zero]); (try simp only [List.setIfInBounds_toArray]); (try simp only [List.set_cons_succ]); (try simp only [List.set_cons_zero])
    refine wpAnyH_take (i := 10) (v := undef) rfl (by kernel_rfl) (by kernel_rfl) (by kernel_rfl) (fun _ _ _ h => h) (Or.inr ⟨by rfl, rfl⟩) hHeld ?rest22
    (try simp only [Act.put, List.getElem_toArray, List.getElem_cons_succ, List.getElem_cons_zero]); (try simp only [List.setIfInBounds_toArray]); (try simp only [List.set_cons_succ]); (try simp only [List.set_cons_zero])
    refine wpAnyH_take (i := 11) (v := undef) rfl (by kernel_rfl) (by kernel_rfl) (by kernel_rfl) (fun _ _ _ h => h) (Or.inr ⟨by rfl, rfl⟩) hHeld ?rest23
    (try simp only [Act.put, List.getElem_toArray, List.getElem_cons_succ, List.getElem_cons_zero]); (try simp only [List.setIfInBounds_toArray]); (try simp only [List.set_cons_succ]); (try simp only [List.set_cons_zero])
    refine wpAnyH_take (i := 12) (v := undef) rfl (by kernel_rfl) (by kernel_rfl) (by kernel_rfl) (fun _ _ _ h => h) (Or.inr ⟨by rfl, rfl⟩) hHeld ?rest24
    (try simp only [Act.put, List.getElem_toArray, List.getElem_cons_succ, List.getElem_cons_zero]); (try simp only [List.setIfInBounds_toArray]); (try simp only [List.set_cons_succ]); (try simp only [List.set_cons_zero])
    refine wpAnyH_take (i := 13) (v := undef) rfl (by kernel_rfl) (by kernel_rfl) (by kernel_rfl) (fun _ _ _ h => h) (Or.inr ⟨by rfl, rfl⟩) hHeld ?rest25
    (try simp only [Act.put, List.getElem_toArray, List.getElem_cons_succ, List.getElem_cons_zero]); (try simp only [List.setIfInBounds_toArray]); (try simp only [List.set_cons_succ]); (try simp only [List.set_cons_zero])
    refine wpAnyH_take (i := 14) (v := undef) rfl (by kernel_rfl) (by kernel_rfl) (by kernel_rfl) (fun _ _ _ h => h) (Or.inr ⟨by rfl, rfl⟩) hHeld ?rest26
    (try simp only [Act.put, List.getElem_toArray, List.getElem_cons_succ, List.getElem_cons_zero]); (try simp only [List.setIfInBounds_toArray]); (try simp only [List.set_cons_succ]); (try simp only [List.set_cons_zero])
    refine wpAnyH_take (i := 15) (v := undef) rfl (by kernel_rfl) (by kernel_rfl) (by kernel_rfl) (fun _ _ _ h => h) (Or.inr ⟨by rfl, rfl⟩) hHeld ?rest27
    (try simp only [Act.put, List.getElem_toArray, List.getElem_cons_succ, List.getElem_cons_zero]); (try simp only [List.setIfInBounds_toArray]); (try simp only [List.set_cons_succ]); (try simp only [List.set_cons_zero])
    refine wpAnyH_take (i := 16) (v := undef) rfl (by kernel_rfl) (by kernel_rfl) (by kernel_rfl) (fun _ _ _ h => h) (Or.inr ⟨by rfl, rfl⟩) hHeld ?rest28
    (try simp only [Act.put, List.getElem_toArray, List.getElem_cons_succ, List.getElem_cons_zero]); (try simp only [List.setIfInBounds_toArray]); (try simp only [List.set_cons_succ]); (try simp only [List.set_cons_zero])
    refine wpAnyH_take (i := 17) (v := undef) rfl (by kernel_rfl) (by kernel_rfl) (by kernel_rfl) (fun _ _ _ h => h) (Or.inr ⟨by rfl, rfl⟩) hHeld ?rest29
    (try simp only [Act.put, List.getElem_toArray, List.getElem_cons_succ, List.getElem_cons_zero]); (try simp only [List.setIfInBounds_toArray]); (try simp only [List.set_cons_succ]); (try simp only [List.set_cons_zero])
    refine wpAnyH_take (i := 18) (v := undef) rfl (by kernel_rfl) (by kernel_rfl) (by kernel_rfl) (fun _ _ _ h => h) (Or.inr ⟨by rfl, rfl⟩) hHeld ?rest30
    (try simp only [Act.put, List.getElem_toArray, List.getElem_cons_succ, List.getElem_cons_zero]); (try simp only [List.setIfInBounds_toArray]); (try simp only [List.set_cons_succ]); (try simp only [List.set_cons_zero])
    refine wpAnyH_take (i := 19) (v := undef) rfl (by kernel_rfl) (by kernel_rfl) (by kernel_rfl) (fun _ _ _ h => h) (Or.inr ⟨by rfl, rfl⟩) hHeld ?rest31
    (try simp only [Act.put, List.getElem_toArray, List.getElem_cons_succ, List.getElem_cons_zero]); (try simp only [List.setIfInBounds_toArray]); (try simp only [List.set_cons_succ]); (try simp only [List.set_cons_zero])
    refine wpAnyH_take (i := 20) (v := undef) rfl (by kernel_rfl) (by kernel_rfl) (by kernel_rfl) (fun _ _ _ h => h) (Or.inr ⟨by rfl, rfl⟩) hHeld ?rest32
    (try simp only [Act.put, List.getElem_toArray, List.getElem_cons_succ, List.getElem_cons_zero]); (try simp only [List.setIfInBounds_toArray]); (try simp only [List.set_cons_succ]); (try simp only [List.set_cons_zero])
    refine wpAnyH_take (i := 21) (v := ?v33) rfl (by kernel_rfl) (by kernel_rfl) (by kernel_rfl) (fun _ _ _ h => h) (Or.inl ⟨by rfl, ?hy33⟩) hHeld ?rest33
    case hy33 => (intro wz hSw; (try dsimp only at hSw); go_simp; (try with_reducible rfl))
    (try simp only [Act.put, List.getElem_toArray, List.getElem_cons_succ, List.getElem_cons_zero]); (try simp only [List.setIfInBounds_toArray]); (try simp only [List.set_cons_succ]); (try simp only [List.set_cons_zero])
    refine wpAnyH_take (i := 22) (v := ?v34) rfl (by kernel_rfl) (by kernel_rfl) (by kernel_rfl) (fun _ _ _ h => h) (Or.inl ⟨by rfl, ?hy34⟩) hHeld ?rest34
    case hy34 => (intro wz hSw; (try dsimp only at hSw); go_simp; (try with_reducible rfl))
    (try simp only [Act.put, List.getElem_toArray, List.getElem_cons_succ, List.getElem_cons_zero]); (try simp only [List.setIfInBounds_toArray]); (try simp only [List.set_cons_succ]); (try simp only [List.set_cons_zero])
    refine wpAnyH_done (by kernel_rfl) ?_ _
    have X9 := X0.out.trans (And.left hHeld)
    clear hHeld
    go_wp2
    go_ret
    exact ⟨ret_bool HF.out.symm, X9⟩
  · obtain ⟨K, rfl, hK1, hK4, hlK, ht⟩ := carG_some hG
    have hnK : Hid (n = K * K) := by rw [Hid, ← hT.len]; exact hlK
    obtain ⟨hh, hWOK⟩ := wOk_tab hK1 hK4 ht
    have HWO := Lib.hid hWOK
    clear hWOK
    have HBO := Lib.hid (bOk_tab (show 0 < K by omega) hK4 ht HWO.out.cl)
    have HF0 : Hid (isbO K l x z = (wordB K x && (wordB K z && belB l K (actM l K x (List.replicate K 1)) (actM l K z (List.replicate K 1))))) := isbO_eq hG
    clear hT hx hz
    rcases hwx : wordB K x with _ | _
    · have HF : Hid (isbO K l x z = false) := by rw [Hid, HF0.out, hwx]; rfl
      have HIx : Hid (wrdO K l x = false) := by rw [Hid, wrdO, hG]; exact hwx
      have HBX := Lib.hid (cells_new w #[.int .i64 (K : Nat), .slice (some ⟨a0, oa, none⟩) n n] 27)
      have X0 := Lib.hid ((Ext.refl w).alloc (.cells #[.int .i64 (K : Nat), .slice (some ⟨a0, oa, none⟩) n n] 27))
      have lB := HBX.out.1
      have q0 := HBX.out.2 0 _ rfl
      have q1 := HBX.out.2 1 _ rfl
      go_enter Tryz.func34, Tryz.ntmps34
      go_wp2_with fail
      generalize (w.alloc (.cells #[.int .i64 (K : Nat), .slice (some ⟨a0, oa, none⟩) n n] 27)) = W1 at *
      have hle1 := X0.out.le
      refine wp_region_held_drew (S := (fun w' => Ext W1 w' ∧ (∀ b o, b < W1.heap.size → w'.cell? ⟨b, o, none⟩ = W1.cell? ⟨b, o, none⟩))) (by kernel_rfl) (ext2 (Ext.refl W1).drew) (fun hHeld => ?_)
      refine wpAnyH_take (i := 0) (v := ?v35) rfl (by kernel_rfl) (by kernel_rfl) (by kernel_rfl) (fun _ _ _ h => h) (Or.inl ⟨by rfl, ?hy35⟩) hHeld ?rest35
      case hy35 => (intro wz hSw; (try dsimp only at hSw); go_simp; (try with_reducible rfl))
      (try simp only [Act.put, List.getElem_toArray, List.getElem_cons_succ, List.getElem_cons_zero]); (try simp only [List.setIfInBounds_toArray]); (try simp only [List.set_cons_succ]); (try simp only [List.set_cons_zero])
      refine wpAnyH_take (i := 1) (v := ?v36) rfl (by kernel_rfl) (by kernel_rfl) (by kernel_rfl) (fun _ _ _ h => h) (Or.inl ⟨by rfl, ?hy36⟩) hHeld ?rest36
      case hy36 => (intro wz hSw; (try dsimp only at hSw); go_simp; (try with_reducible rfl))
      (try simp only [Act.put, List.getElem_toArray, List.getElem_cons_succ, List.getElem_cons_zero]); (try simp only [List.setIfInBounds_toArray]); (try simp only [List.set_cons_succ]); (try simp only [List.set_cons_zero])
      refine wpAnyH_ready (rs := [2]) (by kernel_rfl) (by simp) ?_
      refine AllReadyH.cons rfl (fun K' hK => ?_) AllReadyH.nil
      go_simp
      refine (wordOk_spec (HT.out.ext (X0.out.trans (And.left hHeld))) hm0 (Hx.out.ext (X0.out.trans (And.left hHeld))) hmx HIx.out).mono ?_
      rintro e w2 ⟨rfl, h2⟩
      have Xw2 := (And.left hHeld).trans h2
      dsimp only
      refine hK.out _ _ (ext2 Xw2) (fun hHeld => ?_)
      clear hK
      refine wpAnyH_take (i := 3) (v := ?v37) rfl (by kernel_rfl) (by kernel_rfl) (by kernel_rfl) (fun _ _ _ h => h) (Or.inl ⟨by rfl, ?hy37⟩) hHeld ?rest37
      case hy37 => (intro wz hSw; (try dsimp only at hSw); go_simp; (try with_reducible rfl))
      (try simp only [Act.put, List.getElem_toArray, List.getElem_cons_succ, List.getElem_cons_zero]); (try simp only [List.setIfInBounds_toArray]); (try simp only [List.set_cons_succ]); (try simp only [List.set_cons_zero])
      refine wpAnyH_take (i := 4) (v := undef) rfl (by kernel_rfl) (by kernel_rfl) (by kernel_rfl) (fun _ _ _ h => h) (Or.inr ⟨by rfl, rfl⟩) hHeld ?rest38
      (try simp only [Act.put, List.getElem_toArray, List.getElem_cons_succ, List.getElem_cons_zero]); (try simp only [List.setIfInBounds_toArray]); (try simp only [List.set_cons_succ]); (try simp only [List.set_cons_zero])
      refine wpAnyH_take (i := 5) (v := undef) rfl (by kernel_rfl) (by kernel_rfl) (by kernel_rfl) (fun _ _ _ h => h) (Or.inr ⟨by rfl, rfl⟩) hHeld ?rest39
      (try simp only [Act.put, List.getElem_toArray, List.getElem_cons_succ, List.getElem_cons_zero]); (try simp only [List.setIfInBounds_toArray]); (try simp only [List.set_cons_succ]); (try simp only [List.set_cons_zero])
      refine wpAnyH_take (i := 6) (v := undef) rfl (by kernel_rfl) (by kernel_rfl) (by kernel_rfl) (fun _ _ _ h => h) (Or.inr ⟨by rfl, rfl⟩) hHeld ?rest40
      (try simp only [Act.put, List.getElem_toArray, List.getElem_cons_succ, List.getElem_cons_zero]); (try simp only [List.setIfInBounds_toArray]); (try simp only [List.set_cons_succ]); (try simp only [List.set_cons_zero])
      refine wpAnyH_take (i := 7) (v := ?v41) rfl (by kernel_rfl) (by kernel_rfl) (by kernel_rfl) (fun _ _ _ h => h) (Or.inl ⟨by rfl, ?hy41⟩) hHeld ?rest41
      case hy41 => (intro wz hSw; (try dsimp only at hSw); go_simp; (try with_reducible rfl))
      (try simp only [Act.put, List.getElem_toArray, List.getElem_cons_succ, List.getElem_cons_zero]); (try simp only [List.setIfInBounds_toArray]); (try simp only [List.set_cons_succ]); (try simp only [List.set_cons_zero])
      refine wpAnyH_take (i := 8) (v := ?v42) rfl (by kernel_rfl) (by kernel_rfl) (by kernel_rfl) (fun _ _ _ h => h) (Or.inl ⟨by rfl, ?hy42⟩) hHeld ?rest42
      case hy42 => (intro wz hSw; (try dsimp only at hSw); go_simp; (try with_reducible rfl))
      (try simp only [Act.put, List.getElem_toArray, List.getElem_cons_succ, List.getElem_cons_zero]); (try simp only [List.setIfInBounds_toArray]); (try simp only [List.set_cons_succ]); (try simp only [List.set_cons_zero])
      refine wpAnyH_take (i := 9) (v := undef) rfl (by kernel_rfl) (by kernel_rfl) (by kernel_rfl) (fun _ _ _ h => h) (Or.inr ⟨by rfl, rfl⟩) hHeld ?rest43
      (try simp only [Act.put, List.getElem_toArray, List.getElem_cons_succ, List.getElem_cons_zero]); (try simp only [List.setIfInBounds_toArray]); (try simp only [List.set_cons_succ]); (try simp only [List.set_cons_zero])
      refine wpAnyH_take (i := 10) (v := undef) rfl (by kernel_rfl) (by kernel_rfl) (by kernel_rfl) (fun _ _ _ h => h) (Or.inr ⟨by rfl, rfl⟩) hHeld ?rest44
      (try simp only [Act.put, List.getElem_toArray, List.getElem_cons_succ, List.getElem_cons_zero]); (try simp only [List.setIfInBounds_toArray]); (try simp only [List.set_cons_succ]); (try simp only [List.set_cons_zero])
      refine wpAnyH_take (i := 11) (v := undef) rfl (by kernel_rfl) (by kernel_rfl) (by kernel_rfl) (fun _ _ _ h => h) (Or.inr ⟨by rfl, rfl⟩) hHeld ?rest45
      (try simp only [Act.put, List.getElem_toArray, List.getElem_cons_succ, List.getElem_cons_zero]); (try simp only [List.setIfInBounds_toArray]); (try simp only [List.set_cons_succ]); (try simp only [List.set_cons_zero])
      refine wpAnyH_take (i := 12) (v := undef) rfl (by kernel_rfl) (by kernel_rfl) (by kernel_rfl) (fun _ _ _ h => h) (Or.inr ⟨by rfl, rfl⟩) hHeld ?rest46
      (try simp only [Act.put, List.getElem_toArray, List.getElem_cons_succ, List.getElem_cons_zero]); (try simp only [List.setIfInBounds_toArray]); (try simp only [List.set_cons_succ]); (try simp only [List.set_cons_zero])
      refine wpAnyH_take (i := 13) (v := undef) rfl (by kernel_rfl) (by kernel_rfl) (by kernel_rfl) (fun _ _ _ h => h) (Or.inr ⟨by rfl, rfl⟩) hHeld ?rest47
      (try simp only [Act.put, List.getElem_toArray, List.getElem_cons_succ, List.getElem_cons_zero]); (try simp only [List.setIfInBounds_toArray]); (try simp only [List.set_cons_succ]); (try simp only [List.set_cons_zero])
      refine wpAnyH_take (i := 14) (v := undef) rfl (by kernel_rfl) (by kernel_rfl) (by kernel_rfl) (fun _ _ _ h => h) (Or.inr ⟨by rfl, rfl⟩) hHeld ?rest48
      (try simp only [Act.put, List.getElem_toArray, List.getElem_cons_succ, List.getElem_cons_zero]); (try simp only [List.setIfInBounds_toArray]); (try simp only [List.set_cons_succ]); (try simp only [List.set_cons_zero])
      refine wpAnyH_take (i := 15) (v := undef) rfl (by kernel_rfl) (by kernel_rfl) (by kernel_rfl) (fun _ _ _ h => h) (Or.inr ⟨by rfl, rfl⟩) hHeld ?rest49
      (try simp only [Act.put, List.getElem_toArray, List.getElem_cons_succ, List.getElem_cons_zero]); (try simp only [List.setIfInBounds_toArray]); (try simp only [List.set_cons_succ]); (try simp only [List.set_cons_zero])
      refine wpAnyH_take (i := 16) (v := undef) rfl (by kernel_rfl) (by kernel_rfl) (by kernel_rfl) (fun _ _ _ h => h) (Or.inr ⟨by rfl, rfl⟩) hHeld ?rest50
      (try simp only [Act.put, List.getElem_toArray, List.getElem_cons_succ, List.getElem_cons_zero]); (try simp only [List.setIfInBounds_toArray]); (try simp only [List.set_cons_succ]); (try simp only [List.set_cons_zero])
      refine wpAnyH_take (i := 17) (v := undef) rfl (by kernel_rfl) (by kernel_rfl) (by kernel_rfl) (fun _ _ _ h => h) (Or.inr ⟨by rfl, rfl⟩) hHeld ?rest51
      (try simp only [Act.put, List.getElem_toArray, List.getElem_cons_succ, List.getElem_cons_zero]); (try simp only [List.setIfInBounds_toArray]); (try simp only [List.set_cons_succ]); (try simp only [List.set_cons_zero])
      refine wpAnyH_take (i := 18) (v := undef) rfl (by kernel_rfl) (by kernel_rfl) (by kernel_rfl) (fun _ _ _ h => h) (Or.inr ⟨by rfl, rfl⟩) hHeld ?rest52
      (try simp only [Act.put, List.getElem_toArray, List.getElem_cons_succ, List.getElem_cons_zero]); (try simp only [List.setIfInBounds_toArray]); (try simp only [List.set_cons_succ]); (try simp only [List.set_cons_zero])
      refine wpAnyH_take (i := 19) (v := undef) rfl (by kernel_rfl) (by kernel_rfl) (by kernel_rfl) (fun _ _ _ h => h) (Or.inr ⟨by rfl, rfl⟩) hHeld ?rest53
      (try simp only [Act.put, List.getElem_toArray, List.getElem_cons_succ, List.getElem_cons_zero]); (try simp only [List.setIfInBounds_toArray]); (try simp only [List.set_cons_succ]); (try simp only [List.set_cons_zero])
      refine wpAnyH_take (i := 20) (v := undef) rfl (by kernel_rfl) (by kernel_rfl) (by kernel_rfl) (fun _ _ _ h => h) (Or.inr ⟨by rfl, rfl⟩) hHeld ?rest54
      (try simp only [Act.put, List.getElem_toArray, List.getElem_cons_succ, List.getElem_cons_zero]); (try simp only [List.setIfInBounds_toArray]); (try simp only [List.set_cons_succ]); (try simp only [List.set_cons_zero])
      refine wpAnyH_take (i := 21) (v := ?v55) rfl (by kernel_rfl) (by kernel_rfl) (by kernel_rfl) (fun _ _ _ h => h) (Or.inl ⟨by rfl, ?hy55⟩) hHeld ?rest55
      case hy55 => (intro wz hSw; (try dsimp only at hSw); go_simp; (try with_reducible rfl))
      (try simp only [Act.put, List.getElem_toArray, List.getElem_cons_succ, List.getElem_cons_zero]); (try simp only [List.setIfInBounds_toArray]); (try simp only [List.set_cons_succ]); (try simp only [List.set_cons_zero])
      refine wpAnyH_take (i := 22) (v := ?v56) rfl (by kernel_rfl) (by kernel_rfl) (by kernel_rfl) (fun _ _ _ h => h) (Or.inl ⟨by rfl, ?hy56⟩) hHeld ?rest56
      case hy56 => (intro wz hSw; (try dsimp only at hSw); go_simp; (try with_reducible rfl))
      (try simp only [Act.put, List.getElem_toArray, List.getElem_cons_succ, List.getElem_cons_zero]); (try simp only [List.setIfInBounds_toArray]); (try simp only [List.set_cons_succ]); (try simp only [List.set_cons_zero])
      refine wpAnyH_done (by kernel_rfl) ?_ _
      have X9 := X0.out.trans (And.left hHeld)
      clear hHeld
      go_wp2
      go_ret
      exact ⟨ret_bool HF.out.symm, X9⟩
    · have HIx : Hid (wrdO K l x = true) := by rw [Hid, wrdO, hG]; exact hwx
      have HRx := Lib.hid (wordB_rowB hwx)
      rcases hwz : wordB K z with _ | _
      · have HF : Hid (isbO K l x z = false) := by rw [Hid, HF0.out, hwx, hwz]; rfl
        have HIz : Hid (wrdO K l z = false) := by rw [Hid, wrdO, hG]; exact hwz
        have HBX := Lib.hid (cells_new w #[.int .i64 (K : Nat), .slice (some ⟨a0, oa, none⟩) n n] 27)
        have X0 := Lib.hid ((Ext.refl w).alloc (.cells #[.int .i64 (K : Nat), .slice (some ⟨a0, oa, none⟩) n n] 27))
        have lB := HBX.out.1
        have q0 := HBX.out.2 0 _ rfl
        have q1 := HBX.out.2 1 _ rfl
        go_enter Tryz.func34, Tryz.ntmps34
        go_wp2_with fail
        generalize (w.alloc (.cells #[.int .i64 (K : Nat), .slice (some ⟨a0, oa, none⟩) n n] 27)) = W1 at *
        have hle1 := X0.out.le
        refine wp_region_held_drew (S := (fun w' => Ext W1 w' ∧ (∀ b o, b < W1.heap.size → w'.cell? ⟨b, o, none⟩ = W1.cell? ⟨b, o, none⟩))) (by kernel_rfl) (ext2 (Ext.refl W1).drew) (fun hHeld => ?_)
        refine wpAnyH_take (i := 0) (v := ?v57) rfl (by kernel_rfl) (by kernel_rfl) (by kernel_rfl) (fun _ _ _ h => h) (Or.inl ⟨by rfl, ?hy57⟩) hHeld ?rest57
        case hy57 => (intro wz hSw; (try dsimp only at hSw); go_simp; (try with_reducible rfl))
        (try simp only [Act.put, List.getElem_toArray, List.getElem_cons_succ, List.getElem_cons_zero]); (try simp only [List.setIfInBounds_toArray]); (try simp only [List.set_cons_succ]); (try simp only [List.set_cons_zero])
        refine wpAnyH_take (i := 1) (v := ?v58) rfl (by kernel_rfl) (by kernel_rfl) (by kernel_rfl) (fun _ _ _ h => h) (Or.inl ⟨by rfl, ?hy58⟩) hHeld ?rest58
        case hy58 => (intro wz hSw; (try dsimp only at hSw); go_simp; (try with_reducible rfl))
        (try simp only [Act.put, List.getElem_toArray, List.getElem_cons_succ, List.getElem_cons_zero]); (try simp only [List.setIfInBounds_toArray]); (try simp only [List.set_cons_succ]); (try simp only [List.set_cons_zero])
        refine wpAnyH_ready (rs := [2]) (by kernel_rfl) (by simp) ?_
        refine AllReadyH.cons rfl (fun K' hK => ?_) AllReadyH.nil
        go_simp
        refine (wordOk_spec (HT.out.ext (X0.out.trans (And.left hHeld))) hm0 (Hx.out.ext (X0.out.trans (And.left hHeld))) hmx HIx.out).mono ?_
        rintro e w2 ⟨rfl, h2⟩
        have Xw2 := (And.left hHeld).trans h2
        dsimp only
        refine hK.out _ _ (ext2 Xw2) (fun hHeld => ?_)
        clear hK
        refine wpAnyH_take (i := 3) (v := ?v59) rfl (by kernel_rfl) (by kernel_rfl) (by kernel_rfl) (fun _ _ _ h => h) (Or.inl ⟨by rfl, ?hy59⟩) hHeld ?rest59
        case hy59 => (intro wz hSw; (try dsimp only at hSw); go_simp; (try with_reducible rfl))
        (try simp only [Act.put, List.getElem_toArray, List.getElem_cons_succ, List.getElem_cons_zero]); (try simp only [List.setIfInBounds_toArray]); (try simp only [List.set_cons_succ]); (try simp only [List.set_cons_zero])
        refine wpAnyH_take (i := 4) (v := ?v60) rfl (by kernel_rfl) (by kernel_rfl) (by kernel_rfl) (fun _ _ _ h => h) (Or.inl ⟨by rfl, ?hy60⟩) hHeld ?rest60
        case hy60 => (intro wz hSw; (try dsimp only at hSw); go_simp; (try with_reducible rfl))
        (try simp only [Act.put, List.getElem_toArray, List.getElem_cons_succ, List.getElem_cons_zero]); (try simp only [List.setIfInBounds_toArray]); (try simp only [List.set_cons_succ]); (try simp only [List.set_cons_zero])
        refine wpAnyH_take (i := 5) (v := ?v61) rfl (by kernel_rfl) (by kernel_rfl) (by kernel_rfl) (fun _ _ _ h => h) (Or.inl ⟨by rfl, ?hy61⟩) hHeld ?rest61
        case hy61 => (intro wz hSw; (try dsimp only at hSw); go_simp; (try with_reducible rfl))
        (try simp only [Act.put, List.getElem_toArray, List.getElem_cons_succ, List.getElem_cons_zero]); (try simp only [List.setIfInBounds_toArray]); (try simp only [List.set_cons_succ]); (try simp only [List.set_cons_zero])
        refine wpAnyH_ready (rs := [6]) (by kernel_rfl) (by simp) ?_
        refine AllReadyH.cons rfl (fun K' hK => ?_) AllReadyH.nil
        go_simp
        refine (wordOk_spec (HT.out.ext (X0.out.trans (And.left hHeld))) hm0 (Hz.out.ext (X0.out.trans (And.left hHeld))) hmz HIz.out).mono ?_
        rintro e w6 ⟨rfl, h6⟩
        have Xw6 := (And.left hHeld).trans h6
        dsimp only
        refine hK.out _ _ (ext2 Xw6) (fun hHeld => ?_)
        clear hK
        refine wpAnyH_take (i := 7) (v := ?v62) rfl (by kernel_rfl) (by kernel_rfl) (by kernel_rfl) (fun _ _ _ h => h) (Or.inl ⟨by rfl, ?hy62⟩) hHeld ?rest62
        case hy62 => (intro wz hSw; (try dsimp only at hSw); go_simp; (try with_reducible rfl))
        (try simp only [Act.put, List.getElem_toArray, List.getElem_cons_succ, List.getElem_cons_zero]); (try simp only [List.setIfInBounds_toArray]); (try simp only [List.set_cons_succ]); (try simp only [List.set_cons_zero])
        refine wpAnyH_take (i := 8) (v := ?v63) rfl (by kernel_rfl) (by kernel_rfl) (by kernel_rfl) (fun _ _ _ h => h) (Or.inl ⟨by rfl, ?hy63⟩) hHeld ?rest63
        case hy63 => (intro wz hSw; (try dsimp only at hSw); go_simp; (try with_reducible rfl))
        (try simp only [Act.put, List.getElem_toArray, List.getElem_cons_succ, List.getElem_cons_zero]); (try simp only [List.setIfInBounds_toArray]); (try simp only [List.set_cons_succ]); (try simp only [List.set_cons_zero])
        refine wpAnyH_take (i := 9) (v := undef) rfl (by kernel_rfl) (by kernel_rfl) (by kernel_rfl) (fun _ _ _ h => h) (Or.inr ⟨by rfl, rfl⟩) hHeld ?rest64
        (try simp only [Act.put, List.getElem_toArray, List.getElem_cons_succ, List.getElem_cons_zero]); (try simp only [List.setIfInBounds_toArray]); (try simp only [List.set_cons_succ]); (try simp only [List.set_cons_zero])
        refine wpAnyH_take (i := 10) (v := undef) rfl (by kernel_rfl) (by kernel_rfl) (by kernel_rfl) (fun _ _ _ h => h) (Or.inr ⟨by rfl, rfl⟩) hHeld ?rest65
        (try simp only [Act.put, List.getElem_toArray, List.getElem_cons_succ, List.getElem_cons_zero]); (try simp only [List.setIfInBounds_toArray]); (try simp only [List.set_cons_succ]); (try simp only [List.set_cons_zero])
        refine wpAnyH_take (i := 11) (v := undef) rfl (by kernel_rfl) (by kernel_rfl) (by kernel_rfl) (fun _ _ _ h => h) (Or.inr ⟨by rfl, rfl⟩) hHeld ?rest66
        (try simp only [Act.put, List.getElem_toArray, List.getElem_cons_succ, List.getElem_cons_zero]); (try simp only [List.setIfInBounds_toArray]); (try simp only [List.set_cons_succ]); (try simp only [List.set_cons_zero])
        refine wpAnyH_take (i := 12) (v := undef) rfl (by kernel_rfl) (by kernel_rfl) (by kernel_rfl) (fun _ _ _ h => h) (Or.inr ⟨by rfl, rfl⟩) hHeld ?rest67
        (try simp only [Act.put, List.getElem_toArray, List.getElem_cons_succ, List.getElem_cons_zero]); (try simp only [List.setIfInBounds_toArray]); (try simp only [List.set_cons_succ]); (try simp only [List.set_cons_zero])
        refine wpAnyH_take (i := 13) (v := undef) rfl (by kernel_rfl) (by kernel_rfl) (by kernel_rfl) (fun _ _ _ h => h) (Or.inr ⟨by rfl, rfl⟩) hHeld ?rest68
        (try simp only [Act.put, List.getElem_toArray, List.getElem_cons_succ, List.getElem_cons_zero]); (try simp only [List.setIfInBounds_toArray]); (try simp only [List.set_cons_succ]); (try simp only [List.set_cons_zero])
        refine wpAnyH_take (i := 14) (v := undef) rfl (by kernel_rfl) (by kernel_rfl) (by kernel_rfl) (fun _ _ _ h => h) (Or.inr ⟨by rfl, rfl⟩) hHeld ?rest69
        (try simp only [Act.put, List.getElem_toArray, List.getElem_cons_succ, List.getElem_cons_zero]); (try simp only [List.setIfInBounds_toArray]); (try simp only [List.set_cons_succ]); (try simp only [List.set_cons_zero])
        refine wpAnyH_take (i := 15) (v := undef) rfl (by kernel_rfl) (by kernel_rfl) (by kernel_rfl) (fun _ _ _ h => h) (Or.inr ⟨by rfl, rfl⟩) hHeld ?rest70
        (try simp only [Act.put, List.getElem_toArray, List.getElem_cons_succ, List.getElem_cons_zero]); (try simp only [List.setIfInBounds_toArray]); (try simp only [List.set_cons_succ]); (try simp only [List.set_cons_zero])
        refine wpAnyH_take (i := 16) (v := undef) rfl (by kernel_rfl) (by kernel_rfl) (by kernel_rfl) (fun _ _ _ h => h) (Or.inr ⟨by rfl, rfl⟩) hHeld ?rest71
        (try simp only [Act.put, List.getElem_toArray, List.getElem_cons_succ, List.getElem_cons_zero]); (try simp only [List.setIfInBounds_toArray]); (try simp only [List.set_cons_succ]); (try simp only [List.set_cons_zero])
        refine wpAnyH_take (i := 17) (v := undef) rfl (by kernel_rfl) (by kernel_rfl) (by kernel_rfl) (fun _ _ _ h => h) (Or.inr ⟨by rfl, rfl⟩) hHeld ?rest72
        (try simp only [Act.put, List.getElem_toArray, List.getElem_cons_succ, List.getElem_cons_zero]); (try simp only [List.setIfInBounds_toArray]); (try simp only [List.set_cons_succ]); (try simp only [List.set_cons_zero])
        refine wpAnyH_take (i := 18) (v := undef) rfl (by kernel_rfl) (by kernel_rfl) (by kernel_rfl) (fun _ _ _ h => h) (Or.inr ⟨by rfl, rfl⟩) hHeld ?rest73
        (try simp only [Act.put, List.getElem_toArray, List.getElem_cons_succ, List.getElem_cons_zero]); (try simp only [List.setIfInBounds_toArray]); (try simp only [List.set_cons_succ]); (try simp only [List.set_cons_zero])
        refine wpAnyH_take (i := 19) (v := undef) rfl (by kernel_rfl) (by kernel_rfl) (by kernel_rfl) (fun _ _ _ h => h) (Or.inr ⟨by rfl, rfl⟩) hHeld ?rest74
        (try simp only [Act.put, List.getElem_toArray, List.getElem_cons_succ, List.getElem_cons_zero]); (try simp only [List.setIfInBounds_toArray]); (try simp only [List.set_cons_succ]); (try simp only [List.set_cons_zero])
        refine wpAnyH_take (i := 20) (v := undef) rfl (by kernel_rfl) (by kernel_rfl) (by kernel_rfl) (fun _ _ _ h => h) (Or.inr ⟨by rfl, rfl⟩) hHeld ?rest75
        (try simp only [Act.put, List.getElem_toArray, List.getElem_cons_succ, List.getElem_cons_zero]); (try simp only [List.setIfInBounds_toArray]); (try simp only [List.set_cons_succ]); (try simp only [List.set_cons_zero])
        refine wpAnyH_take (i := 21) (v := ?v76) rfl (by kernel_rfl) (by kernel_rfl) (by kernel_rfl) (fun _ _ _ h => h) (Or.inl ⟨by rfl, ?hy76⟩) hHeld ?rest76
        case hy76 => (intro wz hSw; (try dsimp only at hSw); go_simp; (try with_reducible rfl))
        (try simp only [Act.put, List.getElem_toArray, List.getElem_cons_succ, List.getElem_cons_zero]); (try simp only [List.setIfInBounds_toArray]); (try simp only [List.set_cons_succ]); (try simp only [List.set_cons_zero])
        refine wpAnyH_take (i := 22) (v := ?v77) rfl (by kernel_rfl) (by kernel_rfl) (by kernel_rfl) (fun _ _ _ h => h) (Or.inl ⟨by rfl, ?hy77⟩) hHeld ?rest77
        case hy77 => (intro wz hSw; (try dsimp only at hSw); go_simp; (try with_reducible rfl))
        (try simp only [Act.put, List.getElem_toArray, List.getElem_cons_succ, List.getElem_cons_zero]); (try simp only [List.setIfInBounds_toArray]); (try simp only [List.set_cons_succ]); (try simp only [List.set_cons_zero])
        refine wpAnyH_done (by kernel_rfl) ?_ _
        have X9 := X0.out.trans (And.left hHeld)
        clear hHeld
        go_wp2
        go_ret
        exact ⟨ret_bool HF.out.symm, X9⟩
      · have HIz : Hid (wrdO K l z = true) := by rw [Hid, wrdO, hG]; exact hwz
        have HRz := Lib.hid (wordB_rowB hwz)
        have HF : Hid (isbO K l x z = belB l K (actM l K x (List.replicate K 1)) (actM l K z (List.replicate K 1))) := by rw [Hid, HF0.out, hwx, hwz]; rfl
        have HBX := Lib.hid (cells_new w #[.int .i64 (K : Nat), .slice (some ⟨a0, oa, none⟩) n n] 27)
        have X0 := Lib.hid ((Ext.refl w).alloc (.cells #[.int .i64 (K : Nat), .slice (some ⟨a0, oa, none⟩) n n] 27))
        have lB := HBX.out.1
        have q0 := HBX.out.2 0 _ rfl
        have q1 := HBX.out.2 1 _ rfl
        go_enter Tryz.func34, Tryz.ntmps34
        go_wp2_with fail
        generalize (w.alloc (.cells #[.int .i64 (K : Nat), .slice (some ⟨a0, oa, none⟩) n n] 27)) = W1 at *
        have hle1 := X0.out.le
        refine wp_region_held_drew (S := (fun w' => Ext W1 w' ∧ (∀ b o, b < W1.heap.size → w'.cell? ⟨b, o, none⟩ = W1.cell? ⟨b, o, none⟩))) (by kernel_rfl) (ext2 (Ext.refl W1).drew) (fun hHeld => ?_)
        refine wpAnyH_take (i := 0) (v := ?v78) rfl (by kernel_rfl) (by kernel_rfl) (by kernel_rfl) (fun _ _ _ h => h) (Or.inl ⟨by rfl, ?hy78⟩) hHeld ?rest78
        case hy78 => (intro wz hSw; (try dsimp only at hSw); go_simp; (try with_reducible rfl))
        (try simp only [Act.put, List.getElem_toArray, List.getElem_cons_succ, List.getElem_cons_zero]); (try simp only [List.setIfInBounds_toArray]); (try simp only [List.set_cons_succ]); (try simp only [List.set_cons_zero])
        refine wpAnyH_take (i := 1) (v := ?v79) rfl (by kernel_rfl) (by kernel_rfl) (by kernel_rfl) (fun _ _ _ h => h) (Or.inl ⟨by rfl, ?hy79⟩) hHeld ?rest79
        case hy79 => (intro wz hSw; (try dsimp only at hSw); go_simp; (try with_reducible rfl))
        (try simp only [Act.put, List.getElem_toArray, List.getElem_cons_succ, List.getElem_cons_zero]); (try simp only [List.setIfInBounds_toArray]); (try simp only [List.set_cons_succ]); (try simp only [List.set_cons_zero])
        refine wpAnyH_ready (rs := [2]) (by kernel_rfl) (by simp) ?_
        refine AllReadyH.cons rfl (fun K' hK => ?_) AllReadyH.nil
        go_simp
        refine (wordOk_spec (HT.out.ext (X0.out.trans (And.left hHeld))) hm0 (Hx.out.ext (X0.out.trans (And.left hHeld))) hmx HIx.out).mono ?_
        rintro e w2 ⟨rfl, h2⟩
        have Xw2 := (And.left hHeld).trans h2
        dsimp only
        refine hK.out _ _ (ext2 Xw2) (fun hHeld => ?_)
        clear hK
        refine wpAnyH_take (i := 3) (v := ?v80) rfl (by kernel_rfl) (by kernel_rfl) (by kernel_rfl) (fun _ _ _ h => h) (Or.inl ⟨by rfl, ?hy80⟩) hHeld ?rest80
        case hy80 => (intro wz hSw; (try dsimp only at hSw); go_simp; (try with_reducible rfl))
        (try simp only [Act.put, List.getElem_toArray, List.getElem_cons_succ, List.getElem_cons_zero]); (try simp only [List.setIfInBounds_toArray]); (try simp only [List.set_cons_succ]); (try simp only [List.set_cons_zero])
        refine wpAnyH_take (i := 4) (v := ?v81) rfl (by kernel_rfl) (by kernel_rfl) (by kernel_rfl) (fun _ _ _ h => h) (Or.inl ⟨by rfl, ?hy81⟩) hHeld ?rest81
        case hy81 => (intro wz hSw; (try dsimp only at hSw); go_simp; (try with_reducible rfl))
        (try simp only [Act.put, List.getElem_toArray, List.getElem_cons_succ, List.getElem_cons_zero]); (try simp only [List.setIfInBounds_toArray]); (try simp only [List.set_cons_succ]); (try simp only [List.set_cons_zero])
        refine wpAnyH_take (i := 5) (v := ?v82) rfl (by kernel_rfl) (by kernel_rfl) (by kernel_rfl) (fun _ _ _ h => h) (Or.inl ⟨by rfl, ?hy82⟩) hHeld ?rest82
        case hy82 => (intro wz hSw; (try dsimp only at hSw); go_simp; (try with_reducible rfl))
        (try simp only [Act.put, List.getElem_toArray, List.getElem_cons_succ, List.getElem_cons_zero]); (try simp only [List.setIfInBounds_toArray]); (try simp only [List.set_cons_succ]); (try simp only [List.set_cons_zero])
        refine wpAnyH_ready (rs := [6]) (by kernel_rfl) (by simp) ?_
        refine AllReadyH.cons rfl (fun K' hK => ?_) AllReadyH.nil
        go_simp
        refine (wordOk_spec (HT.out.ext (X0.out.trans (And.left hHeld))) hm0 (Hz.out.ext (X0.out.trans (And.left hHeld))) hmz HIz.out).mono ?_
        rintro e w6 ⟨rfl, h6⟩
        have Xw6 := (And.left hHeld).trans h6
        dsimp only
        refine hK.out _ _ (ext2 Xw6) (fun hHeld => ?_)
        clear hK
        refine wpAnyH_take (i := 7) (v := ?v83) rfl (by kernel_rfl) (by kernel_rfl) (by kernel_rfl) (fun _ _ _ h => h) (Or.inl ⟨by rfl, ?hy83⟩) hHeld ?rest83
        case hy83 => (intro wz hSw; (try dsimp only at hSw); go_simp; (try with_reducible rfl))
        (try simp only [Act.put, List.getElem_toArray, List.getElem_cons_succ, List.getElem_cons_zero]); (try simp only [List.setIfInBounds_toArray]); (try simp only [List.set_cons_succ]); (try simp only [List.set_cons_zero])
        refine wpAnyH_take (i := 8) (v := ?v84) rfl (by kernel_rfl) (by kernel_rfl) (by kernel_rfl) (fun _ _ _ h => h) (Or.inl ⟨by rfl, ?hy84⟩) hHeld ?rest84
        case hy84 => (intro wz hSw; (try dsimp only at hSw); go_simp; (try with_reducible rfl))
        (try simp only [Act.put, List.getElem_toArray, List.getElem_cons_succ, List.getElem_cons_zero]); (try simp only [List.setIfInBounds_toArray]); (try simp only [List.set_cons_succ]); (try simp only [List.set_cons_zero])
        refine wpAnyH_take (i := 9) (v := ?v85) rfl (by kernel_rfl) (by kernel_rfl) (by kernel_rfl) (fun _ _ _ h => h) (Or.inl ⟨by rfl, ?hy85⟩) hHeld ?rest85
        case hy85 => (intro wz hSw; (try dsimp only at hSw); go_simp; (try with_reducible rfl))
        (try simp only [Act.put, List.getElem_toArray, List.getElem_cons_succ, List.getElem_cons_zero]); (try simp only [List.setIfInBounds_toArray]); (try simp only [List.set_cons_succ]); (try simp only [List.set_cons_zero])
        refine wpAnyH_take (i := 10) (v := ?v86) rfl (by kernel_rfl) (by kernel_rfl) (by kernel_rfl) (fun _ _ _ h => h) (Or.inl ⟨by rfl, ?hy86⟩) hHeld ?rest86
        case hy86 => (intro wz hSw; (try dsimp only at hSw); go_simp; (try with_reducible rfl))
        (try simp only [Act.put, List.getElem_toArray, List.getElem_cons_succ, List.getElem_cons_zero]); (try simp only [List.setIfInBounds_toArray]); (try simp only [List.set_cons_succ]); (try simp only [List.set_cons_zero])
        refine wpAnyH_take (i := 11) (v := ?v87) rfl (by kernel_rfl) (by kernel_rfl) (by kernel_rfl) (fun _ _ _ h => h) (Or.inl ⟨by rfl, ?hy87⟩) hHeld ?rest87
        case hy87 => (intro wz hSw; (try dsimp only at hSw); go_simp; (try with_reducible rfl))
        (try simp only [Act.put, List.getElem_toArray, List.getElem_cons_succ, List.getElem_cons_zero]); (try simp only [List.setIfInBounds_toArray]); (try simp only [List.set_cons_succ]); (try simp only [List.set_cons_zero])
        refine wpAnyH_take (i := 12) (v := ?v88) rfl (by kernel_rfl) (by kernel_rfl) (by kernel_rfl) (fun _ _ _ h => h) (Or.inl ⟨by rfl, ?hy88⟩) hHeld ?rest88
        case hy88 => (intro wz hSw; (try dsimp only at hSw); go_simp; (try with_reducible rfl))
        (try simp only [Act.put, List.getElem_toArray, List.getElem_cons_succ, List.getElem_cons_zero]); (try simp only [List.setIfInBounds_toArray]); (try simp only [List.set_cons_succ]); (try simp only [List.set_cons_zero])
        refine wpAnyH_take (i := 15) (v := ?v89) rfl (by kernel_rfl) (by kernel_rfl) (by kernel_rfl) (fun _ _ _ h => h) (Or.inl ⟨by rfl, ?hy89⟩) hHeld ?rest89
        case hy89 => (intro wz hSw; (try dsimp only at hSw); go_simp; (try with_reducible rfl))
        (try simp only [Act.put, List.getElem_toArray, List.getElem_cons_succ, List.getElem_cons_zero]); (try simp only [List.setIfInBounds_toArray]); (try simp only [List.set_cons_succ]); (try simp only [List.set_cons_zero])
        refine wpAnyH_take (i := 16) (v := ?v90) rfl (by kernel_rfl) (by kernel_rfl) (by kernel_rfl) (fun _ _ _ h => h) (Or.inl ⟨by rfl, ?hy90⟩) hHeld ?rest90
        case hy90 => (intro wz hSw; (try dsimp only at hSw); go_simp; (try with_reducible rfl))
        (try simp only [Act.put, List.getElem_toArray, List.getElem_cons_succ, List.getElem_cons_zero]); (try simp only [List.setIfInBounds_toArray]); (try simp only [List.set_cons_succ]); (try simp only [List.set_cons_zero])
        refine wpAnyH_take (i := 17) (v := ?v91) rfl (by kernel_rfl) (by kernel_rfl) (by kernel_rfl) (fun _ _ _ h => h) (Or.inl ⟨by rfl, ?hy91⟩) hHeld ?rest91
        case hy91 => (intro wz hSw; (try dsimp only at hSw); go_simp; (try with_reducible rfl))
        (try simp only [Act.put, List.getElem_toArray, List.getElem_cons_succ, List.getElem_cons_zero]); (try simp only [List.setIfInBounds_toArray]); (try simp only [List.set_cons_succ]); (try simp only [List.set_cons_zero])
        refine wpAnyH_ready (rs := [13]) (by kernel_rfl) (by simp) ?_
        refine AllReadyH.cons rfl (fun K' hK => ?_) AllReadyH.nil
        go_simp
        refine (l6Rho_spec K a0 oa n n _ hK4 hK1).mono ?_
        rintro e w13 ⟨b13, c13, rfl, hc13, hb13, hd13, hh13, h13⟩
        have Xw13 := (And.left hHeld).trans h13
        dsimp only
        refine hK.out _ _ (ext2 Xw13) (fun hHeld => ?_)
        clear hK
        refine wpAnyH_ready (rs := [14]) (by kernel_rfl) (by simp) ?_
        refine AllReadyH.cons rfl (fun K' hK => ?_) AllReadyH.nil
        go_simp
        refine (l6Act_spec K a0 oa n n bx ox nx nx b13 0 c13 l x (List.replicate K 1) (ImB l K 24) _ (HT.out.ext (X0.out.trans (And.left hHeld))) hnK.out hK1 hK4 HWO.out.xb (Hx.out.ext (X0.out.trans (And.left hHeld))) hmx HRx.out (hh13.reads (ones_len K)) (imB_ones hK4 HWO.out.rt) (imB_bnd6 HWO.out.rt (by omega) (by omega)) (fun u i hi hu => imB_turn HWO.out.rt hu hi)).mono ?_
        rintro e w14 ⟨b14, c14, rfl, hc14, hb14, hd14, hh14, hP14, h14⟩
        have Xw14 := (And.left hHeld).trans h14
        dsimp only
        refine hK.out _ _ (ext2 Xw14) (fun hHeld => ?_)
        clear hK
        refine wpAnyH_ready (rs := [18]) (by kernel_rfl) (by simp) ?_
        refine AllReadyH.cons rfl (fun K' hK => ?_) AllReadyH.nil
        go_simp
        refine (l6Rho_spec K a0 oa n n _ hK4 hK1).mono ?_
        rintro e w18 ⟨b18, c18, rfl, hc18, hb18, hd18, hh18, h18⟩
        have Xw18 := (And.left hHeld).trans h18
        have hh14 := hh14.ext h18
        dsimp only
        refine hK.out _ _ (ext2 Xw18) (fun hHeld => ?_)
        clear hK
        refine wpAnyH_ready (rs := [19]) (by kernel_rfl) (by simp) ?_
        refine AllReadyH.cons rfl (fun K' hK => ?_) AllReadyH.nil
        go_simp
        refine (l6Act_spec K a0 oa n n bz oz nz nz b18 0 c18 l z (List.replicate K 1) (ImB l K 24) _ (HT.out.ext (X0.out.trans (And.left hHeld))) hnK.out hK1 hK4 HWO.out.xb (Hz.out.ext (X0.out.trans (And.left hHeld))) hmz HRz.out (hh18.reads (ones_len K)) (imB_ones hK4 HWO.out.rt) (imB_bnd6 HWO.out.rt (by omega) (by omega)) (fun u i hi hu => imB_turn HWO.out.rt hu hi)).mono ?_
        rintro e w19 ⟨b19, c19, rfl, hc19, hb19, hd19, hh19, hP19, h19⟩
        have Xw19 := (And.left hHeld).trans h19
        have hh14 := hh14.ext h19
        dsimp only
        refine hK.out _ _ (ext2 Xw19) (fun hHeld => ?_)
        clear hK
        refine wpAnyH_ready (rs := [20]) (by kernel_rfl) (by simp) ?_
        refine AllReadyH.cons rfl (fun K' hK => ?_) AllReadyH.nil
        go_simp
        refine (l6Below_spec hnK.out hK1 HBO.out HWO.out.xb HWO.out.rt _ (actM l K x (List.replicate K 1)) (actM l K z (List.replicate K 1)) b14 0 c14 b19 0 c19 _ (Nat.lt_succ_self _) (actM_len9 (ones_len K)) hP14 (img_act HBO.out.co z HRz.out) (HT.out.ext (X0.out.trans (And.left hHeld))) (hh14.reads (actM_len9 (ones_len K))) (hh19.reads (actM_len9 (ones_len K)))).mono ?_
        rintro e w20 ⟨rfl, h20⟩
        have Xw20 := (And.left hHeld).trans h20
        dsimp only
        refine hK.out _ _ (ext2 Xw20) (fun hHeld => ?_)
        clear hK
        refine wpAnyH_take (i := 21) (v := ?v92) rfl (by kernel_rfl) (by kernel_rfl) (by kernel_rfl) (fun _ _ _ h => h) (Or.inl ⟨by rfl, ?hy92⟩) hHeld ?rest92
        case hy92 => (intro wz hSw; (try dsimp only at hSw); go_simp; (try with_reducible rfl))
        (try simp only [Act.put, List.getElem_toArray, List.getElem_cons_succ, List.getElem_cons_zero]); (try simp only [List.setIfInBounds_toArray]); (try simp only [List.set_cons_succ]); (try simp only [List.set_cons_zero])
        refine wpAnyH_take (i := 22) (v := ?v93) rfl (by kernel_rfl) (by kernel_rfl) (by kernel_rfl) (fun _ _ _ h => h) (Or.inl ⟨by rfl, ?hy93⟩) hHeld ?rest93
        case hy93 => (intro wz hSw; (try dsimp only at hSw); go_simp; (try with_reducible rfl))
        (try simp only [Act.put, List.getElem_toArray, List.getElem_cons_succ, List.getElem_cons_zero]); (try simp only [List.setIfInBounds_toArray]); (try simp only [List.set_cons_succ]); (try simp only [List.set_cons_zero])
        refine wpAnyH_done (by kernel_rfl) ?_ _
        have X9 := X0.out.trans (And.left hHeld)
        clear hHeld
        go_wp2
        go_ret
        exact ⟨ret_bool HF.out.symm, X9⟩
end Go.Proofs.YthhgodjobddenaaGreat
