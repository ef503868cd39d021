/-
  ExponentsOf.
-/
import Derived.Test.YtinoaldfdcddiaaGreatEx5
import Derived.Test.YtinoaldfdcddiaaGreatFit
namespace Go.Proofs.YtinoaldfdcddiaaGreat
open Go.ChangeShapes Go.WideShapes Go.ChangeAt Go.RowKit
set_option linter.unusedVariables false
set_option linter.unusedSimpArgs false

set_option maxRecDepth 100000 in
set_option maxHeartbeats 6400000 in
theorem exponentsOf_spec {R : Int} {a0 oa n : Nat} {l : List Int} {w : World} {i : List Int} (hT : Reads w (some ⟨a0, oa, none⟩) n l) (hm0 : n ≤ 1048576) (hM : expO R l = i) :
    Calls Tryz.prog 36 #[.agg #[.int .i64 R, .slice (some ⟨a0, oa, none⟩) n n]] w fun e w' => ∃ v, e = .returned v ∧ Rints5 w w' v i ∧ Ext w w' := by
  have HT := Lib.hid hT
  rcases hG : carG R l with _ | v
  · have HN : Hid (([] : List Int) = i) := by rw [Hid, ← hM, expO, hG]
    clear hT hM
    go_enter Tryz.func36, Tryz.ntmps36
    go_wp2_with fail
    refine (isCartan_no (HT.out.ext ((Ext.refl w).alloc _)) hm0 hG).mono ?_
    rintro e w2 ⟨rfl, hE⟩
    go_wp2
    go_ret
    exact ⟨_, rfl, ⟨_, _, _, rfl, by rw [← HN.out]; exact own_nil _ _ _, by omega⟩, ((Ext.refl w).alloc _).trans hE⟩
  · have HGC := Lib.hid hG
    obtain ⟨K, rfl, hK1, hK4, hlK, ht⟩ := carG_some hG
    have hnK : Hid (n = K * K) := by rw [Hid, ← hT.len]; exact hlK
    have HLO := Lib.hid (lenOk_tab (by omega) hK4 ht)
    have HRO := Lib.hid (rootsOk_tab (by omega) hK4 ht)
    have HPA := Lib.hid (posR_all hK4 hK1 HRO.out)
    have HHT := Lib.hid (hgt_all HRO.out)
    have HI : Hid (i = exP (cZ (hgt (posR l K)) (posR l K).length) (hgt (posR l K) ((posR l K).length - 1))) := by rw [Hid, ← hM, expO, hG]; rfl
    obtain ⟨PR, hPR⟩ : ∃ PR, posR l K = PR := ⟨_, rfl⟩
    have HPRd := Lib.hid hPR
    rw [hPR] at HPA HHT HI
    clear hT hM hPR hG
    have hp0 := HPA.out.2.1
    have hp24 := HPA.out.2.2.1
    have HCAL : Hid (∀ (w1 : World) (g k : Nat), RdR w1 g PR → k < PR.length → ∃ b c, w1.cell? ⟨g, k, none⟩ = some (.slice (some ⟨b, 0, none⟩) K c) ∧ Calls Tryz.prog 59 #[.slice (some ⟨b, 0, none⟩) K c] w1 fun e w' => e = .returned (.int .i64 ((hgt PR k : Nat) : Int)) ∧ w' = w1) := fun w1 g k hR hk => by
      obtain ⟨b, c, hc, hr⟩ := hR.2 k hk
      have hx := HPA.out.1 _ (row_mem hk)
      rw [hx.1] at hc hr
      refine ⟨b, c, hc, ?_⟩
      rw [← (HHT.out.1 k hk).1]
      exact l5Height_spec K c _ _ w1 hr (by omega) (fun e => by have := hx.2 e; omega)
    have HB1 : Hid (∀ k, k < PR.length → 1 ≤ hgt PR k ∧ hgt PR k ≤ 12) := fun k hk => (HHT.out.1 k hk).2
    have HB2 : Hid (∀ i j, i ≤ j → j < PR.length → hgt PR i ≤ hgt PR j) := HHT.out.2
    obtain ⟨h, hh⟩ : ∃ h, hgt PR = h := ⟨_, rfl⟩
    rw [hh] at HI HB1 HB2 HCAL
    clear hh HHT
    obtain ⟨N, hN⟩ : ∃ N, PR.length = N := ⟨_, rfl⟩
    have HNL := Lib.hid hN
    rw [hN] at HI HB1 HB2 hp0 hp24 HCAL
    obtain ⟨H, hH⟩ : ∃ H, h (N - 1) = H := ⟨_, rfl⟩
    have hH12 := HB1.out (N - 1) (by omega)
    have HHM : Hid (∀ k, k < N → h k ≤ H) := fun k hk => by rw [← hH]; exact HB2.out k (N - 1) (by omega) (by omega)
    have HHL := Lib.hid hH
    rw [hH] at HI hH12
    have HC24 : Hid (∀ m, cZ h N m ≤ 24) := fun m => by have := cZ_le h m N; omega
    have HCE : Hid (cZ h N (H + 1) = 0) := cZ_zero (fun i hi => by have := HHM.out i hi; omega)
    have HXL : Hid (∀ m, (exP (cZ h N) m).length ≤ 24 * m) := fun m => exP_len HC24.out m
    clear hN hH
    go_enter Tryz.func36, Tryz.ntmps36
    go_wp2_with fail
    refine (isCartan_yes (HT.out.ext ((Ext.refl w).alloc _)) hm0 HGC.out).mono ?_
    rintro e w2 ⟨rfl, h2⟩
    have HE2 := Lib.hid (((Ext.refl w).alloc _).trans h2)
    have HBX := Lib.hid ((cells_new w #[.int .i64 (K : Nat), .slice (some ⟨a0, oa, none⟩) n n] 28).ext h2)
    have lB := HBX.out.1
    have q0 := HBX.out.2 0 _ rfl
    have q1 := HBX.out.2 1 _ rfl
    clear h2
    go_wp2_with fail
    refine (l5Roots_spec K a0 oa n n l v.2 _ (HT.out.ext HE2.out) hnK.out hK1 hK4 HRO.out HLO.out.xb).mono ?_
    rw [HPRd.out]
    rintro e w3 ⟨v3, rfl, hP, h3⟩
    obtain ⟨g, c, rfl, hrd, _⟩ := hP.rd HPA.out.2.1
    rw [HNL.out]
    have HRD := Lib.hid hrd
    have HE3 := Lib.hid (HE2.out.trans h3)
    clear hP hrd h3 lB q0 q1
    have G0 : Hid (Grows (w3.alloc (.cells #[.int .i64 0] 3)) w3.heap.size (.slice (some ⟨w3.heap.size, 0, none⟩) 1 1) 1 (cL h 0 1)) := by rw [cL_zero]; exact World.ownsRow_lit w3 #[.int .i64 0] 1 (Nat.le_refl _) (by unfold maxLen; omega) (by simp)
    have E0 : Hid (Ext w3 (w3.alloc (.cells #[.int .i64 0] 3))) := (Ext.refl w3).alloc _
    go_wp2
    go_loopw [5, 4] (fun z v wr => ∃ (k M cv ga : Nat), k ≤ N ∧ z = .int .i64 k ∧ v = .slice (some ⟨ga, 0, none⟩) M cv ∧ Hid (Grows wr w3.heap.size (.slice (some ⟨ga, 0, none⟩) M cv) M (cL h k M)) ∧ Hid (Ext w3 wr) ∧ Hid (1 ≤ M ∧ M ≤ H + 1 ∧ (k = 0 ∧ M = 1 ∨ 0 < k ∧ M = h (k - 1) + 1))) (fun z _ _ => N - (intOf z).toNat)
    case atStart => exact ⟨0, 1, 1, _, by omega, rfl, rfl, G0, E0, by omega, by omega, .inl ⟨rfl, rfl⟩⟩
    case round =>
      clear G0 E0
      obtain ⟨k, M, cv, ga, hk, rfl, rfl, hG, hE, hM⟩ := hrel
      by_cases hlt : k < N
      · have hltI : (k : Int) < (N : Int) := by omega
        have hq1 := HHM.out k hlt
        have hMq : M ≤ h k + 1 := by
          rcases hM.out.2.2 with ⟨_, e⟩ | ⟨e0, e⟩
          · omega
          · have := HB2.out (k - 1) k (by omega) hlt; omega
        have HZ : Hid (∀ m, M ≤ m → cZ h k m = 0) := fun m hm => cZ_zero (fun i hi => by
          rcases hM.out.2.2 with ⟨e0, e⟩ | ⟨e0, e⟩
          · omega
          · have := HB2.out i (k - 1) (by omega) (by omega); omega)
        have HQ : Hid (∀ q, h k = q → M ≤ q + 1 ∧ q ≤ H) := fun q e => by omega
        have HM1 : Hid (1 ≤ M) := hM.out.1
        clear hM hMq hq1
        obtain ⟨q, hq⟩ : ∃ q, h k = q := ⟨_, rfl⟩
        have hq2 := HQ.out q hq
        have HQK := Lib.hid hq
        clear hq
        go_wp2
        go_loopw [4] (fun v wr => ∃ (M2 cv ga : Nat), M ≤ M2 ∧ M2 ≤ q + 1 ∧ v = .slice (some ⟨ga, 0, none⟩) M2 cv ∧ Hid (Grows wr w3.heap.size (.slice (some ⟨ga, 0, none⟩) M2 cv) M2 (cL h k M2)) ∧ Hid (Ext w3 wr)) (fun v _ => q + 1 - slLen v)
        case atStart => exact ⟨M, cv, ga, Nat.le_refl _, hq2.1, rfl, hG, hE⟩
        case round =>
          clear hG hE
          obtain ⟨M2, cw, gb, hM1, hM2, rfl, hG, hE⟩ := hrel
          obtain ⟨b, c8, hc, hcall⟩ := HCAL.out wr g k (HRD.out.ext hE.out) hlt
          rw [HQK.out] at hcall
          have HCLL := Lib.hid hcall
          have lgw := (HRD.out.ext hE.out).1
          have hM24 := hH12
          clear hcall
          by_cases hle : M2 ≤ q
          · have i1 : (M2 : Int) ≤ (q : Int) := by omega
            have hsz := hE.out.le
            have HGR : Hid (cL h k M2 ++ [0] = cL h k (M2 + 1)) := cL_grow (HZ.out M2 hM1)
            go_wp2_with fail
            refine HCLL.out.mono ?_
            rintro e w5 ⟨rfl, rfl⟩
            go_wp2_with (at_builtin; refine wpList_append1at rfl _ _ rfl w3.heap.size (.slice (some ⟨gb, 0, none⟩) M2 cw) _ _ 0 1 rfl rfl hG.out (by omega) hsz ?_)
            intro v' w6 hG4 hg4 hn4
            have E4 := Lib.hid (hG.out.extAfter hg4 hE.out (Nat.le_refl _))
            rw [HGR.out] at hG4
            obtain ⟨g4, c4, rfl, _, _⟩ := hG4.addr (by omega)
            have G4 := Lib.hid hG4
            clear hG4 hg4 hG hE hn4 hc lgw HCLL
            go_wp2
            exact ⟨⟨M2 + 1, c4, g4, by omega, by omega, rfl, G4, E4⟩, by simp [slLen]; omega⟩
          · have i1 : ¬ ((M2 : Int) ≤ (q : Int)) := by omega
            have HME : Hid (M2 = q + 1) := by rw [Hid]; omega
            have i1e : ((M2 : Int) ≤ (q : Int)) = False := eq_false i1
            have i2 : (q : Int) < (M2 : Int) := by omega
            have cc := hG.out.toHas (by omega) q (by omega)
            rw [gi_cL (by omega)] at cc
            have ff := World.ownsRow.frozenAt hG.out q
            have ll := hG.out.blk gb rfl
            have hz := cZ_le h q k
            have HH2 := Lib.hid (hG.out.store q (((cZ h k q : Nat) : Int) + 1))
            rw [cL_step (by omega) HQK.out] at HH2
            have HE9 : Hid (Ext w3 (wr.setCell ⟨gb, q, none⟩ (.int .i64 (((cZ h k q : Nat) : Int) + 1)))) := hE.out.setCell (p := ⟨gb, q, none⟩) ll.1 _
            obtain ⟨c0, hc0⟩ : ∃ c0, cZ h k q = c0 := ⟨_, rfl⟩
            rw [hc0] at cc hz HH2 HE9
            have v1 : IntKind.i64.wrap ((c0 : Int) + 1) = (c0 : Int) + 1 := IntWalk.i64_in _ ⟨by omega, by omega⟩
            have l2 := ll.2
            have HFI : Hid (1 ≤ M2 ∧ M2 ≤ H + 1 ∧ (k + 1 = 0 ∧ M2 = 1 ∨ 0 < k + 1 ∧ M2 = h (k + 1 - 1) + 1)) := ⟨by omega, by omega, .inr ⟨by omega, by rw [Nat.add_sub_cancel, HQK.out]; exact HME.out⟩⟩
            clear hG hE hc0 ll hM1 hM2 hle HQ HZ hq2
            go_wp2_with fail
            refine HCLL.out.mono ?_
            rintro e w5 ⟨rfl, rfl⟩
            go_wp2_with fail
            refine HCLL.out.mono ?_
            rintro e w5 ⟨rfl, rfl⟩
            go_wp2
            exact ⟨⟨k + 1, M2, cw, gb, by omega, by simp, rfl, HH2, HE9, HFI⟩, by simp [intOf]; omega⟩
      · obtain rfl : N = k := by omega
        have hltI : ¬ ((N : Int) < (N : Int)) := by omega
        have hMH : M = H + 1 := by
          rcases hM.out.2.2 with ⟨e0, e⟩ | ⟨e0, e⟩
          · omega
          · rw [HHL.out] at e; exact e
        subst hMH
        have HE5 := Lib.hid (HE3.out.trans hE.out)
        have HCC : Hid (∀ m, m < H + 1 → wr.cell? ⟨ga, m, none⟩ = some (.int .i64 ((cZ h N m : Nat) : Int))) := fun m hm => by
          have cc := hG.out.toHas (by omega) m hm
          rw [gi_cL hm] at cc
          exact cc
        have ll := (hG.out.blk ga rfl).2
        obtain ⟨c0, hc0⟩ : ∃ c0, cZ h N = c0 := ⟨_, rfl⟩
        rw [hc0] at HCC HC24 HCE HXL HI
        clear hG hE hc0 HCAL hM
        have G0 : Hid (Grows (wr.alloc (.cells #[] 3)) wr.heap.size (.slice (some ⟨wr.heap.size, 0, none⟩) (exP c0 0).length 0) (exP c0 0).length (exP c0 0)) := grows_lit wr wr.heap.size (Nat.le_refl _)
        have E0 : Hid (Ext wr (wr.alloc (.cells #[] 3))) := (Ext.refl wr).alloc _
        generalize wr = w5 at *
        go_wp2
        go_loopw [7, 6, 8, 9] (fun z v _ _ wr => ∃ (q cv : Nat) (va : Option Addr), q ≤ H ∧ z = .int .i64 ((q : Int) + 1) ∧ v = .slice va (exP c0 q).length cv ∧ Hid (Grows wr w5.heap.size (.slice va (exP c0 q).length cv) (exP c0 q).length (exP c0 q)) ∧ Hid (Ext w5 wr)) (fun z _ _ _ _ => H + 1 - (intOf z).toNat)
        case atStart => exact ⟨0, 0, _, by omega, rfl, rfl, G0, E0⟩
        case round =>
          clear G0 E0
          obtain ⟨q, cv, va, hq, rfl, rfl, hG, hE⟩ := hrel
          by_cases hlt : q < H
          · have a1' := HCC.out (q + 1) (by omega)
            have b1 := HC24.out (q + 1)
            have b2 := HC24.out (q + 2)
            have v1 : IntKind.i64.wrap ((q : Int) + 1 + 1) = ((q : Int) + 1 + 1) := IntWalk.i64_in _ ⟨by omega, by omega⟩
            have t1 : ((q : Int) + 1 + 1).toNat = q + 2 := by omega
            have t2 : ((q : Int) + 1).toNat = q + 1 := by omega
            obtain ⟨LJ, hLJ⟩ : ∃ LJ : Nat → List Int, ∀ j, exP c0 q ++ List.replicate j ((q : Int) + 1) = LJ j := ⟨_, fun _ => rfl⟩
            have HL0 : Hid (exP c0 q = LJ 0) := by rw [Hid, ← hLJ]; simp
            have HLS : Hid (∀ j, LJ j ++ [((q : Int) + 1)] = LJ (j + 1)) := fun j => by rw [← hLJ, ← hLJ, rep_snoc]
            have HLQ : Hid (exP c0 (q + 1) = LJ (c0 (q + 1) - c0 (q + 2))) := by rw [Hid, ← hLJ, exP]; rfl
            have HLL : Hid (∀ j, (LJ j).length ≤ 24 * q + j) := fun j => by
              have := HXL.out q
              rw [← hLJ, List.length_append, List.length_replicate]; omega
            clear hLJ
            rw [HL0.out] at hG ⊢
            clear HL0
            have HX2 : Hid (q + 1 = H → c0 (q + 2) = 0) := fun e => by rw [show q + 2 = H + 1 by omega]; exact HCE.out
            have HA2 : Hid (q + 1 < H → wr.cell? ⟨ga, q + 2, none⟩ = some (.int .i64 ((c0 (q + 2) : Nat) : Int))) := fun e => (hE.out.cells ga (q + 2) ll).trans (HCC.out (q + 2) (by omega))
            obtain ⟨x1, hx1⟩ : ∃ x, c0 (q + 1) = x := ⟨_, rfl⟩
            obtain ⟨x2, hx2⟩ : ∃ x, c0 (q + 2) = x := ⟨_, rfl⟩
            rw [hx1] at a1' b1 HLQ
            rw [hx2] at b2 HLQ HX2 HA2
            have i0 : (q : Int) + 1 < (H : Int) + 1 := by omega
            have i4 : 0 ≤ (q : Int) + 1 := by omega
            have i5 : 0 ≤ (q : Int) + 1 + 1 := by omega
            have l2 := Nat.lt_of_lt_of_le ll hE.out.le
            have G1 := hG
            have E1 := hE
            clear hx1 hx2 hG hE
            by_cases hqH : q + 1 < H
            · have a2 := HA2.out hqH
              have i3 : (q : Int) + 1 + 1 < (H : Int) + 1 := by omega
              clear HX2 HA2
              go_wp2
              clear a2 l2
              go_loopw [9, 6] (fun z v wr => ∃ (j cv : Nat) (va : Option Addr), j ≤ x1 - x2 ∧ z = .int .i64 ((x2 : Int) + (j : Int)) ∧ v = .slice va (LJ j).length cv ∧ Hid (Grows wr w5.heap.size (.slice va (LJ j).length cv) (LJ j).length (LJ j)) ∧ Hid (Ext w5 wr)) (fun z _ _ => x1 - (intOf z).toNat)
              case atStart => exact ⟨0, cv, va, by omega, by simp, rfl, G1, E1⟩
              case round =>
                clear G1 E1
                obtain ⟨j, cw, vb, hj, rfl, rfl, hG, hE⟩ := hrel
                have a1 := (hE.out.cells ga (q + 1) ll).trans a1'
                have l2 := Nat.lt_of_lt_of_le ll hE.out.le
                by_cases hjl : j < x1 - x2
                · have i1 : (x2 : Int) + (j : Int) < (x1 : Int) := by omega
                  have v2 : IntKind.i64.wrap ((x2 : Int) + (j : Int) + 1) = (x2 : Int) + (j : Int) + 1 := IntWalk.i64_in _ ⟨by omega, by omega⟩
                  have hsz := hE.out.le
                  have hln := HLL.out j
                  go_wp2_with (at_builtin; refine wpList_append1at rfl _ _ rfl w5.heap.size (.slice vb (LJ j).length cw) _ _ ((q : Int) + 1) 1 rfl rfl hG.out (by omega) hsz ?_)
                  intro v' w6 hG4 hg4 hn4
                  have E4 := Lib.hid (hG.out.extAfter hg4 hE.out (Nat.le_refl _))
                  rw [HLS.out] at hG4
                  have hLN : (LJ j).length + 1 = (LJ (j + 1)).length := by rw [← HLS.out, List.length_append]; rfl
                  rw [hLN] at hG4
                  obtain ⟨va4, cv4, rfl, hnv4, ho4⟩ := hG4.reads2
                  have G4 := Lib.hid hG4
                  clear hG4 hg4 ho4 hnv4 hG hE hn4 a1 l2
                  go_wp2
                  exact ⟨⟨j + 1, cv4, va4, by omega, by simp; omega, rfl, G4, E4⟩, by simp [intOf]; omega⟩
                · have i1 : ((x2 : Int) + (j : Int) < (x1 : Int)) = False := eq_false (by omega)
                  have hjj : j = x1 - x2 := by omega
                  have HJ : Hid (LJ j = exP c0 (q + 1)) := by rw [Hid, hjj]; exact HLQ.out.symm
                  rw [HJ.out] at hG ⊢
                  clear hjl hjj
                  go_wp2
                  exact ⟨⟨q + 1, cw, vb, by omega, by simp, rfl, hG, hE⟩, by simp [intOf]; omega⟩
            · have HX0 := Lib.hid (HX2.out (by omega))
              have i3 : ((q : Int) + 1 + 1 < (H : Int) + 1) = False := eq_false (by omega)
              have i3b : ((q : Int) + 1 < (H : Int)) = False := eq_false (by omega)
              have i3c : (q + 1 < H) = False := eq_false hqH
              clear HX2 HA2
              go_wp2
              clear l2 i3 i3b i3c hqH
              go_loopw [9, 6] (fun z v wr => ∃ (j cv : Nat) (va : Option Addr), j ≤ x1 - x2 ∧ z = .int .i64 ((x2 : Int) + (j : Int)) ∧ v = .slice va (LJ j).length cv ∧ Hid (Grows wr w5.heap.size (.slice va (LJ j).length cv) (LJ j).length (LJ j)) ∧ Hid (Ext w5 wr)) (fun z _ _ => x1 - (intOf z).toNat)
              case atStart => exact ⟨0, cv, va, by omega, by have := HX0.out; simp [this], rfl, G1, E1⟩
              case round =>
                clear G1 E1
                obtain ⟨j, cw, vb, hj, rfl, rfl, hG, hE⟩ := hrel
                have a1 := (hE.out.cells ga (q + 1) ll).trans a1'
                have l2 := Nat.lt_of_lt_of_le ll hE.out.le
                by_cases hjl : j < x1 - x2
                · have i1 : (x2 : Int) + (j : Int) < (x1 : Int) := by omega
                  have v2 : IntKind.i64.wrap ((x2 : Int) + (j : Int) + 1) = (x2 : Int) + (j : Int) + 1 := IntWalk.i64_in _ ⟨by omega, by omega⟩
                  have hsz := hE.out.le
                  have hln := HLL.out j
                  go_wp2_with (at_builtin; refine wpList_append1at rfl _ _ rfl w5.heap.size (.slice vb (LJ j).length cw) _ _ ((q : Int) + 1) 1 rfl rfl hG.out (by omega) hsz ?_)
                  intro v' w6 hG4 hg4 hn4
                  have E4 := Lib.hid (hG.out.extAfter hg4 hE.out (Nat.le_refl _))
                  rw [HLS.out] at hG4
                  have hLN : (LJ j).length + 1 = (LJ (j + 1)).length := by rw [← HLS.out, List.length_append]; rfl
                  rw [hLN] at hG4
                  obtain ⟨va4, cv4, rfl, hnv4, ho4⟩ := hG4.reads2
                  have G4 := Lib.hid hG4
                  clear hG4 hg4 ho4 hnv4 hG hE hn4 a1 l2
                  go_wp2
                  exact ⟨⟨j + 1, cv4, va4, by omega, by simp; omega, rfl, G4, E4⟩, by simp [intOf]; omega⟩
                · have i1 : ((x2 : Int) + (j : Int) < (x1 : Int)) = False := eq_false (by omega)
                  have hjj : j = x1 - x2 := by omega
                  have HJ : Hid (LJ j = exP c0 (q + 1)) := by rw [Hid, hjj]; exact HLQ.out.symm
                  rw [HJ.out] at hG ⊢
                  clear hjl hjj
                  go_wp2
                  exact ⟨⟨q + 1, cw, vb, by omega, by simp, rfl, hG, hE⟩, by simp [intOf]; omega⟩
          · obtain rfl : H = q := by omega
            have i1 : ¬ ((H : Int) + 1 < (H : Int) + 1) := by omega
            obtain ⟨a9, c9', e9, hn9, hO9⟩ := hG.out.reads2
            have HO9 := Lib.hid hO9
            have hl9 := HXL.out H
            clear hn9 hO9
            injection e9 with e9 _ _
            subst e9
            have hle := hE.out.le
            have hle5 := HE5.out.le
            go_wp2
            go_ret
            exact ⟨_, rfl, ⟨_, _, _, rfl, by rw [HI.out]; exact HO9.out.mono hle5 (Nat.le_refl _), by omega⟩, HE5.out.trans hE.out⟩
end Go.Proofs.YtinoaldfdcddiaaGreat
