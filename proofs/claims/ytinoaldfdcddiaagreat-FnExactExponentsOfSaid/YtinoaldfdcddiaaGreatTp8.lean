/-
  ExponentsOf.
-/
import Derived.Test.YtinoaldfdcddiaaGreatEx5
import Derived.Test.YtinoaldfdcddiaaGreatTpx
namespace Go.Proofs.YtinoaldfdcddiaaGreat
open Go.ChangeShapes Go.WideShapes Go.ChangeAt Go.RowKit
set_option linter.unusedVariables false
set_option linter.unusedSimpArgs false

set_option maxRecDepth 100000 in
set_option maxHeartbeats 6400000 in
theorem exponentsOf_impl {R : Int} {a0 oa n : Nat} {l : List Int} {w : World} {i : List Int} (hT : Reads w (some ⟨a0, oa, none⟩) n l) (hm0 : n ≤ 1048576) (hM : expO R l = i) :
    Calls Tryz.prog 37 #[.agg #[.int .i64 R, .slice (some ⟨a0, oa, none⟩) n n]] w fun e w' => ∃ v, e = .returned v ∧ Rints5 w w' v i ∧ Ext w w' := by
  have HT := Lib.hid hT
  rcases hG : carG R l with _ | v
  · have HN : Hid (([] : List Int) = i) := by rw [Hid, ← hM, expO, hG]
    clear hT hM
    go_enter Tryz.func37, Tryz.ntmps37
    go_wp2_with fail
    refine (wrapRoots_no (HT.out.ext ((Ext.refl w).alloc _)) hm0 hG).mono ?_
    rintro e w2 ⟨rfl, hE⟩
    go_wp2
    go_ret
    exact ⟨_, rfl, ⟨_, _, _, rfl, by rw [← HN.out]; exact own_nil _ _ _, by omega⟩, ((Ext.refl w).alloc _).trans hE⟩
  · have HGC := Lib.hid hG
    obtain ⟨K, rfl, hK1, hK4, hlK, ht⟩ := carG_some hG
    have hnK : Hid (n = K * K) := by rw [Hid, ← hT.len]; exact hlK
    have HLO := Lib.hid (lenOk_tab (by omega) hK4 ht)
    have HRO := Lib.hid (rootsOk_tab (by omega) hK4 ht)
    have HPA := Lib.hid (posR_all hK4 hK1 HRO.out)
    have HHT := Lib.hid (hgt_all HRO.out)
    have HI : Hid (i = exP (cZ (hgt (posR l K)) (posR l K).length) (hgt (posR l K) ((posR l K).length - 1))) := by rw [Hid, ← hM, expO, hG]; rfl
    obtain ⟨PR, hPR⟩ : ∃ PR, posR l K = PR := ⟨_, rfl⟩
    have HPRd := Lib.hid hPR
    rw [hPR] at HPA HHT HI
    clear hT hM hPR hG
    have hp0 := HPA.out.2.1
    have hp24 := HPA.out.2.2.1
    have HCAL : Hid (∀ (w1 : World) (g k : Nat), RdR w1 g PR → k < PR.length → ∃ b c, w1.cell? ⟨g, k, none⟩ = some (.slice (some ⟨b, 0, none⟩) K c) ∧ Calls Tryz.prog 60 #[.slice (some ⟨b, 0, none⟩) K c] w1 fun e w' => e = .returned (.int .i64 ((hgt PR k : Nat) : Int)) ∧ w' = w1) := fun w1 g k hR hk => by
      obtain ⟨b, c, hc, hr⟩ := hR.2 k hk
      have hx := HPA.out.1 _ (row_mem hk)
      rw [hx.1] at hc hr
      refine ⟨b, c, hc, ?_⟩
      rw [← (HHT.out.1 k hk).1]
      exact heightOf_impl K c _ _ w1 hr (by omega) (fun e => by have := hx.2 e; omega)
    have HB1 : Hid (∀ k, k < PR.length → 1 ≤ hgt PR k ∧ hgt PR k ≤ 12) := fun k hk => (HHT.out.1 k hk).2
    have HB2 : Hid (∀ i j, i ≤ j → j < PR.length → hgt PR i ≤ hgt PR j) := HHT.out.2
    obtain ⟨h, hh⟩ : ∃ h, hgt PR = h := ⟨_, rfl⟩
    rw [hh] at HI HB1 HB2 HCAL
    clear hh HHT
    obtain ⟨N, hN⟩ : ∃ N, PR.length = N := ⟨_, rfl⟩
    have HNL := Lib.hid hN
    rw [hN] at HI HB1 HB2 hp0 hp24 HCAL
    obtain ⟨H, hH⟩ : ∃ H, h (N - 1) = H := ⟨_, rfl⟩
    have hH12 := HB1.out (N - 1) (by omega)
    have HHM : Hid (∀ k, k < N → h k ≤ H) := fun k hk => by rw [← hH]; exact HB2.out k (N - 1) (by omega) (by omega)
    have HHL := Lib.hid hH
    rw [hH] at HI hH12
    have HC24 : Hid (∀ m, cZ h N m ≤ 24) := fun m => by have := cZ_le h m N; omega
    have HCE : Hid (cZ h N (H + 1) = 0) := cZ_zero (fun i hi => by have := HHM.out i hi; omega)
    have HXL : Hid (∀ m, (exP (cZ h N) m).length ≤ 24 * m) := fun m => exP_len HC24.out m
    clear hN hH
    go_enter Tryz.func37, Tryz.ntmps37
    go_wp2_with fail
    refine (wrapRoots_yes (HT.out.ext ((Ext.refl w).alloc _)) hK1 hK4 ht hlK HRO.out HLO.out).mono ?_
    rw [HPRd.out]
    rintro e w2 ⟨S, B, LB, ns, g, c, rfl, hns, hS⟩
    have HS := Lib.hid (hS.low ((Ext.refl w).alloc _))
    have HE := Lib.hid HS.out.wr.ext
    have HRD := Lib.hid hS.rd
    have lS := hS.box.1
    have q1 := hS.box.2 1 _ rfl
    rw [HNL.out] at q1
    have lg := hS.rd.1
    obtain ⟨b9, c9, hc9, hcal⟩ := HCAL.out w2 g (N - 1) hS.rd (by omega)
    have HCL : Hid (∀ w1, Ext w2 w1 → Calls Tryz.prog 60 #[.slice (some ⟨b9, 0, none⟩) K c9] w1 fun e w' => e = .returned (.int .i64 (H : Nat)) ∧ w' = w1) := fun w1 hE => by
      obtain ⟨b8, c8, hc8, h8⟩ := HCAL.out w1 g (N - 1) (HRD.out.ext hE) (by omega)
      have e8 := (hE.cells g (N - 1) lg).symm.trans hc8
      rw [hc9] at e8
      injection e8 with e8
      injection e8 with e8 _ e7
      injection e8 with e8
      injection e8 with e8
      subst e8
      subst e7
      rw [HHL.out] at h8
      exact h8
    clear hS hns hcal
    have vA : IntKind.i64.wrap ((N : Int) - 1) = (N : Int) - 1 := IntWalk.i64_in _ ⟨by omega, by omega⟩
    have tA : ((N : Int) - 1).toNat = N - 1 := by omega
    have iA : 0 ≤ (N : Int) - 1 := by omega
    have iB : (N : Int) - 1 < (N : Int) := by omega
    have iC : (1 : Int) ≤ (N : Int) := by omega
    have vH : IntKind.i64.wrap ((H : Int) + 2) = (H : Int) + 2 := IntWalk.i64_in _ ⟨by omega, by omega⟩
    have hmk := make_ints (H + 2) (by omega)
    rw [show ((H + 2 : Nat) : Int) = (H : Int) + 2 by omega] at hmk
    go_wp2_with fail
    refine wp_region_held_drew (S := (fun w' => Ext w2 w' ∧ (∀ b o, b < w2.heap.size → w'.cell? ⟨b, o, none⟩ = w2.cell? ⟨b, o, none⟩))) (by kernel_rfl) (ext2 (Ext.refl w2).drew) (fun hHeld => ?_)
    refine wpAnyH_take (i := 0) (v := ?v1) rfl (by kernel_rfl) (by kernel_rfl) (by kernel_rfl) (fun _ _ _ h => h) (Or.inl ⟨by rfl, ?hy1⟩) hHeld ?rest1
    case hy1 => (intro wz hSw; (try dsimp only at hSw); go_simp; (try with_reducible rfl))
    (try simp only [Act.put, List.getElem_toArray, List.getElem_cons_succ, List.getElem_cons_zero]); (try simp only [List.setIfInBounds_toArray]); (try simp only [List.set_cons_succ]); (try simp only [List.set_cons_zero])
    refine wpAnyH_take (i := 1) (v := ?v2) rfl (by kernel_rfl) (by kernel_rfl) (by kernel_rfl) (fun _ _ _ h => h) (Or.inl ⟨by rfl, ?hy2⟩) hHeld ?rest2
    case hy2 => (intro wz hSw; (try dsimp only at hSw); go_simp; (try with_reducible rfl))
    (try simp only [Act.put, List.getElem_toArray, List.getElem_cons_succ, List.getElem_cons_zero]); (try simp only [List.setIfInBounds_toArray]); (try simp only [List.set_cons_succ]); (try simp only [List.set_cons_zero])
    refine wpAnyH_take (i := 2) (v := ?v3) rfl (by kernel_rfl) (by kernel_rfl) (by kernel_rfl) (fun _ _ _ h => h) (Or.inl ⟨by rfl, ?hy3⟩) hHeld ?rest3
    case hy3 => (intro wz hSw; (try dsimp only at hSw); go_simp; (try with_reducible rfl))
    (try simp only [Act.put, List.getElem_toArray, List.getElem_cons_succ, List.getElem_cons_zero]); (try simp only [List.setIfInBounds_toArray]); (try simp only [List.set_cons_succ]); (try simp only [List.set_cons_zero])
    refine wpAnyH_take (i := 3) (v := ?v4) rfl (by kernel_rfl) (by kernel_rfl) (by kernel_rfl) (fun _ _ _ h => h) (Or.inl ⟨by rfl, ?hy4⟩) hHeld ?rest4
    case hy4 => (intro wz hSw; (try dsimp only at hSw); go_simp; (try with_reducible rfl))
    (try simp only [Act.put, List.getElem_toArray, List.getElem_cons_succ, List.getElem_cons_zero]); (try simp only [List.setIfInBounds_toArray]); (try simp only [List.set_cons_succ]); (try simp only [List.set_cons_zero])
    refine wpAnyH_take (i := 4) (v := ?v5) rfl (by kernel_rfl) (by kernel_rfl) (by kernel_rfl) (fun _ _ _ h => h) (Or.inl ⟨by rfl, ?hy5⟩) hHeld ?rest5
    case hy5 => (intro wz hSw; (try dsimp only at hSw); go_simp; (try with_reducible rfl))
    (try simp only [Act.put, List.getElem_toArray, List.getElem_cons_succ, List.getElem_cons_zero]); (try simp only [List.setIfInBounds_toArray]); (try simp only [List.set_cons_succ]); (try simp only [List.set_cons_zero])
    refine wpAnyH_take (i := 5) (v := ?v6) rfl (by kernel_rfl) (by kernel_rfl) (by kernel_rfl) (fun _ _ _ h => h) (Or.inl ⟨by rfl, ?hy6⟩) hHeld ?rest6
    case hy6 => (intro wz hSw; (try dsimp only at hSw); go_simp; (try with_reducible rfl))
    (try simp only [Act.put, List.getElem_toArray, List.getElem_cons_succ, List.getElem_cons_zero]); (try simp only [List.setIfInBounds_toArray]); (try simp only [List.set_cons_succ]); (try simp only [List.set_cons_zero])
    refine wpAnyH_take (i := 6) (v := ?v7) rfl (by kernel_rfl) (by kernel_rfl) (by kernel_rfl) (fun _ _ _ h => h) (Or.inl ⟨by rfl, ?hy7⟩) hHeld ?rest7
    case hy7 => (intro wz hSw; (try dsimp only at hSw); go_simp; (try with_reducible rfl))
    (try simp only [Act.put, List.getElem_toArray, List.getElem_cons_succ, List.getElem_cons_zero]); (try simp only [List.setIfInBounds_toArray]); (try simp only [List.set_cons_succ]); (try simp only [List.set_cons_zero])
    refine wpAnyH_take (i := 7) (v := ?v8) rfl (by kernel_rfl) (by kernel_rfl) (by kernel_rfl) (fun _ _ _ h => h) (Or.inl ⟨by rfl, ?hy8⟩) hHeld ?rest8
    case hy8 => (intro wz hSw; (try dsimp only at hSw); go_simp; (try with_reducible rfl))
    (try simp only [Act.put, List.getElem_toArray, List.getElem_cons_succ, List.getElem_cons_zero]); (try simp only [List.setIfInBounds_toArray]); (try simp only [List.set_cons_succ]); (try simp only [List.set_cons_zero])
    refine wpAnyH_take (i := 8) (v := ?v9) rfl (by kernel_rfl) (by kernel_rfl) (by kernel_rfl) (fun _ _ _ h => h) (Or.inl ⟨by rfl, ?hy9⟩) hHeld ?rest9
    case hy9 => (intro wz hSw; (try dsimp only at hSw); go_simp; (try with_reducible rfl))
    (try simp only [Act.put, List.getElem_toArray, List.getElem_cons_succ, List.getElem_cons_zero]); (try simp only [List.setIfInBounds_toArray]); (try simp only [List.set_cons_succ]); (try simp only [List.set_cons_zero])
    refine wpAnyH_take (i := 9) (v := ?v10) rfl (by kernel_rfl) (by kernel_rfl) (by kernel_rfl) (fun _ _ _ h => h) (Or.inl ⟨by rfl, ?hy10⟩) hHeld ?rest10
    case hy10 => (intro wz hSw; (try dsimp only at hSw); go_simp; (try with_reducible rfl))
    (try simp only [Act.put, List.getElem_toArray, List.getElem_cons_succ, List.getElem_cons_zero]); (try simp only [List.setIfInBounds_toArray]); (try simp only [List.set_cons_succ]); (try simp only [List.set_cons_zero])
    refine wpAnyH_take (i := 10) (v := ?v11) rfl (by kernel_rfl) (by kernel_rfl) (by kernel_rfl) (fun _ _ _ h => h) (Or.inl ⟨by rfl, ?hy11⟩) hHeld ?rest11
    case hy11 => (intro wz hSw; (try dsimp only at hSw); go_simp; (try with_reducible rfl))
    (try simp only [Act.put, List.getElem_toArray, List.getElem_cons_succ, List.getElem_cons_zero]); (try simp only [List.setIfInBounds_toArray]); (try simp only [List.set_cons_succ]); (try simp only [List.set_cons_zero])
    refine wpAnyH_take (i := 11) (v := ?v12) rfl (by kernel_rfl) (by kernel_rfl) (by kernel_rfl) (fun _ _ _ h => h) (Or.inl ⟨by rfl, ?hy12⟩) hHeld ?rest12
    case hy12 => (intro wz hSw; (try dsimp only at hSw); go_simp; (try with_reducible rfl))
    (try simp only [Act.put, List.getElem_toArray, List.getElem_cons_succ, List.getElem_cons_zero]); (try simp only [List.setIfInBounds_toArray]); (try simp only [List.set_cons_succ]); (try simp only [List.set_cons_zero])
    refine wpAnyH_ready (rs := [12]) (by kernel_rfl) (by simp) ?_
    refine AllReadyH.cons rfl (fun K' hK => ?_) AllReadyH.nil
    go_simp
    refine (HCL.out _ (And.left hHeld)).mono ?_
    rintro e w3 ⟨rfl, rfl⟩
    dsimp only
    refine hK.out _ _ hHeld (fun hHeld => ?_)
    clear hK
    refine wpAnyH_take (i := 13) (v := ?v13) rfl (by kernel_rfl) (by kernel_rfl) (by kernel_rfl) (fun _ _ _ h => h) (Or.inl ⟨by rfl, ?hy13⟩) hHeld ?rest13
    case hy13 => (intro wz hSw; (try dsimp only at hSw); go_simp; (try with_reducible rfl))
    (try simp only [Act.put, List.getElem_toArray, List.getElem_cons_succ, List.getElem_cons_zero]); (try simp only [List.setIfInBounds_toArray]); (try simp only [List.set_cons_succ]); (try simp only [List.set_cons_zero])
    refine wpAnyH_done (by kernel_rfl) ?_ _
    have X9 := And.left hHeld
    clear hHeld
    obtain ⟨w4, hw4⟩ : ∃ w', w2.drew = w' := ⟨_, rfl⟩
    rw [hw4] at X9 ⊢
    have HE4 := Lib.hid (HE.out.trans X9)
    have HRD4 := Lib.hid (HRD.out.ext X9)
    have lS4 := Nat.lt_of_lt_of_le lS X9.le
    have q4 := (X9.cells S 1 lS).trans q1
    clear hw4 X9 lS q1 lg hc9 HCL HRD HE HS vA tA iA iB iC
    have H0 : Hid (Has (w4.alloc (.cells (ints (List.replicate (H + 2) 0)) 3)) w4.heap.size (cL h 0 (H + 2))) := by rw [cL_zero]; exact Has.new w4 _
    have E0 : Hid (Ext w4 (w4.alloc (.cells (ints (List.replicate (H + 2) 0)) 3))) := (Ext.refl w4).alloc _
    have lSA : S < (w4.alloc (.cells (ints (List.replicate (H + 2) 0)) 3)).heap.size := Nat.lt_of_lt_of_le lS4 E0.out.le
    have qA := (E0.out.cells S 1 lS4).trans q4
    go_wp2
    clear hmk
    clear lSA qA q4 lS4
    go_loopw [39, 8] (fun z _ wr => ∃ k : Nat, k ≤ N ∧ z = .int .i64 k ∧ Hid (Has wr w4.heap.size (cL h k (H + 2))) ∧ Hid (Ext w4 wr)) (fun z _ _ => N - (intOf z).toNat)
    case atStart => exact ⟨0, by omega, rfl, H0, E0⟩
    case round =>
      obtain ⟨k, hk, rfl, hH, hE⟩ := hrel
      by_cases hlt : k < N
      · obtain ⟨b, c8, hc, hcall⟩ := HCAL.out wr g k (HRD4.out.ext hE.out) hlt
        have HCLL := Lib.hid hcall
        have lgw := (HRD4.out.ext hE.out).1
        have hq1 := HHM.out k hlt
        have cc := hH.out.cell (h k) (by rw [cL_len]; omega)
        rw [gi_cL (by omega)] at cc
        have ff := hH.out.free (h k)
        have ll := hH.out.lt
        have hz := cZ_le h (h k) k
        have HH2 : Hid (Has (wr.setCell ⟨w4.heap.size, h k, none⟩ (.int .i64 (((cZ h k (h k) : Nat) : Int) + 1))) w4.heap.size (cL h (k + 1) (H + 2))) := by rw [← cL_step (by omega) rfl]; exact hH.out.set (h k) (by rw [cL_len]; omega) _
        have HE9 : Hid (Ext w4 (wr.setCell ⟨w4.heap.size, h k, none⟩ (.int .i64 (((cZ h k (h k) : Nat) : Int) + 1)))) := hE.out.setCell (p := ⟨w4.heap.size, h k, none⟩) (Nat.le_refl _) _
        obtain ⟨q, hq⟩ : ∃ q, h k = q := ⟨_, rfl⟩
        rw [hq] at HCLL hq1 cc ff hz HH2 HE9
        obtain ⟨c0, hc0⟩ : ∃ c0, cZ h k q = c0 := ⟨_, rfl⟩
        rw [hc0] at cc hz HH2 HE9
        have v1 : IntKind.i64.wrap ((c0 : Int) + 1) = (c0 : Int) + 1 := IntWalk.i64_in _ ⟨by omega, by omega⟩
        have hltI : (k : Int) < (N : Int) := by omega
        have hqI : (q : Int) < (H : Int) + 2 := by omega
        clear hcall hH hE hq hc0 hq1
        go_wp2_with fail
        refine HCLL.out.mono ?_
        rintro e w5 ⟨rfl, rfl⟩
        go_wp2
        exact ⟨⟨k + 1, by omega, by simp, HH2, HE9⟩, by simp [intOf]; omega⟩
      · obtain rfl : N = k := by omega
        have hltI : ¬ ((N : Int) < (N : Int)) := by omega
        have HE5 := Lib.hid (HE4.out.trans hE.out)
        have HCC : Hid (∀ m, m < H + 2 → wr.cell? ⟨w4.heap.size, m, none⟩ = some (.int .i64 ((cZ h N m : Nat) : Int))) := fun m hm => by
          have cc := hH.out.cell m (by rw [cL_len]; exact hm)
          rw [gi_cL hm] at cc
          exact cc
        have ll := hH.out.lt
        obtain ⟨c0, hc0⟩ : ∃ c0, cZ h N = c0 := ⟨_, rfl⟩
        rw [hc0] at HCC HC24 HCE HXL HI
        obtain ⟨CB, hCB⟩ : ∃ CB, w4.heap.size = CB := ⟨_, rfl⟩
        clear hH hE hc0 HCAL
        go_wp2
        (try rw [hCB] at HCC)
        (try rw [hCB] at ll)
        (try rw [hCB])
        clear hCB H0 E0
        have G0 : Hid (Grows wr wr.heap.size (.slice none 0 0) (exP c0 0).length (exP c0 0)) := World.ownsRow_nil _ _ _ _
        generalize wr = w5 at *
        go_loopw [10, 9] (fun z v wr => ∃ (q cv : Nat) (va : Option Addr), q ≤ H ∧ z = .int .i64 ((q : Int) + 1) ∧ v = .slice va (exP c0 q).length cv ∧ Hid (Grows wr w5.heap.size (.slice va (exP c0 q).length cv) (exP c0 q).length (exP c0 q)) ∧ Hid (Ext w5 wr)) (fun z _ _ => H + 1 - (intOf z).toNat)
        case atStart => exact ⟨0, 0, none, by omega, rfl, rfl, G0, Ext.refl w5⟩
        case round =>
          clear G0
          obtain ⟨q, cv, va, hq, rfl, rfl, hG, hE⟩ := hrel
          by_cases hlt : q < H
          · have a1 := (hE.out.cells CB (q + 1) ll).trans (HCC.out (q + 1) (by omega))
            have a2 := (hE.out.cells CB (q + 2) ll).trans (HCC.out (q + 2) (by omega))
            have l2 := Nat.lt_of_lt_of_le ll hE.out.le
            have b1 := HC24.out (q + 1)
            have b2 := HC24.out (q + 2)
            have v1 : IntKind.i64.wrap ((q : Int) + 1 + 1) = ((q : Int) + 1 + 1) := IntWalk.i64_in _ ⟨by omega, by omega⟩
            have t1 : ((q : Int) + 1 + 1).toNat = q + 2 := by omega
            have t2 : ((q : Int) + 1).toNat = q + 1 := by omega
            obtain ⟨LJ, hLJ⟩ : ∃ LJ : Nat → List Int, ∀ j, exP c0 q ++ List.replicate j ((q : Int) + 1) = LJ j := ⟨_, fun _ => rfl⟩
            have HL0 : Hid (exP c0 q = LJ 0) := by rw [Hid, ← hLJ]; simp
            have HLS : Hid (∀ j, LJ j ++ [((q : Int) + 1)] = LJ (j + 1)) := fun j => by rw [← hLJ, ← hLJ, rep_snoc]
            have HLQ : Hid (exP c0 (q + 1) = LJ (c0 (q + 1) - c0 (q + 2))) := by rw [Hid, ← hLJ, exP]; rfl
            have HLL : Hid (∀ j, (LJ j).length ≤ 24 * q + j) := fun j => by
              have := HXL.out q
              rw [← hLJ, List.length_append, List.length_replicate]; omega
            clear hLJ
            rw [HL0.out] at hG ⊢
            clear HL0
            obtain ⟨x1, hx1⟩ : ∃ x, c0 (q + 1) = x := ⟨_, rfl⟩
            obtain ⟨x2, hx2⟩ : ∃ x, c0 (q + 2) = x := ⟨_, rfl⟩
            rw [hx1] at a1 b1 HLQ
            rw [hx2] at a2 b2 HLQ
            have v2 : IntKind.i64.wrap ((x1 : Int) - (x2 : Int)) = (x1 : Int) - (x2 : Int) := IntWalk.i64_in _ ⟨by omega, by omega⟩
            have i1 : (q : Int) + 1 ≤ (H : Int) := by omega
            have i2 : (q : Int) + 1 < (H : Int) + 2 := by omega
            have i3 : (q : Int) + 1 + 1 < (H : Int) + 2 := by omega
            have i4 : 0 ≤ (q : Int) + 1 := by omega
            have i5 : 0 ≤ (q : Int) + 1 + 1 := by omega
            clear hx1 hx2
            go_wp2_with fail
            go_quiet (fail)
            go_wp2
            have G1 := Lib.hid (hG.out.ext ((Ext.refl wr).drewN nq))
            have E1 := Lib.hid (hE.out.drewN nq)
            clear hG hE a1 a2 v2 t1 t2 i1 i2 i3 i4 i5
            go_loopw [66, 9] (fun z v wr => ∃ (j cv : Nat) (va : Option Addr), j ≤ x1 - x2 ∧ z = .int .i64 j ∧ v = .slice va (LJ j).length cv ∧ Hid (Grows wr w5.heap.size (.slice va (LJ j).length cv) (LJ j).length (LJ j)) ∧ Hid (Ext w5 wr)) (fun z _ _ => x1 - x2 - (intOf z).toNat)
            case atStart => exact ⟨0, cv, va, by omega, rfl, rfl, G1, E1⟩
            case round =>
              clear G1 E1
              obtain ⟨j, cw, vb, hj, rfl, rfl, hG, hE⟩ := hrel
              by_cases hjl : j < x1 - x2
              · have i1 : (j : Int) < (x1 : Int) - (x2 : Int) := by omega
                have hsz := hE.out.le
                have hln := HLL.out j
                go_wp2_with (at_builtin; refine wpList_append1at rfl _ _ rfl w5.heap.size (.slice vb (LJ j).length cw) _ _ ((q : Int) + 1) 1 rfl rfl hG.out (by omega) hsz ?_)
                intro v' w6 hG4 hg4 hn4
                have E4 := Lib.hid (hG.out.extAfter hg4 hE.out (Nat.le_refl _))
                rw [HLS.out] at hG4
                have hLN : (LJ j).length + 1 = (LJ (j + 1)).length := by rw [← HLS.out, List.length_append]; rfl
                rw [hLN] at hG4
                obtain ⟨va4, cv4, rfl, hnv4, ho4⟩ := hG4.reads2
                have G4 := Lib.hid hG4
                clear hG4 hg4 ho4 hnv4 hG hE hn4
                go_wp2
                exact ⟨⟨j + 1, cv4, va4, by omega, by simp, rfl, G4, E4⟩, by simp [intOf]; omega⟩
              · have i1 : ¬ ((j : Int) < (x1 : Int) - (x2 : Int)) := by omega
                have hjj : j = x1 - x2 := by omega
                rw [hjj, ← HLQ.out] at hG ⊢
                have i9 : ¬ (((x1 - x2 : Nat) : Int) < (x1 : Int) - (x2 : Int)) := by omega
                clear i1 hjl
                go_wp2
                exact ⟨⟨q + 1, cw, vb, by omega, by simp, rfl, hG, hE⟩, by simp [intOf]; omega⟩
          · obtain rfl : H = q := by omega
            have i1 : ¬ ((H : Int) + 1 ≤ (H : Int)) := by omega
            obtain ⟨a9, c9', e9, hn9, hO9⟩ := hG.out.reads2
            have HO9 := Lib.hid hO9
            have hl9 := HXL.out H
            clear hn9 hO9
            injection e9 with e9 _ _
            subst e9
            have hle := hE.out.le
            have hle5 := HE5.out.le
            go_wp2
            go_ret
            exact ⟨_, rfl, ⟨_, _, _, rfl, by rw [HI.out]; exact HO9.out.mono hle5 (Nat.le_refl _), by omega⟩, HE5.out.trans hE.out⟩
end Go.Proofs.YtinoaldfdcddiaaGreat
