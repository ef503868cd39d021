/-
  l3Killing of the specification; the Killing form.
-/
import Derived.Test.YtgmipolgnpjmnaaKil0
import Derived.Test.YtgmipolgnpjmnaaMatG
import Derived.Test.YtgmipolgnpjmnaaMulS
import Derived.Test.YtgmipolgnpjmnaaAo
namespace Go.Proofs.Ytgmipolgnpjmnaa
open Go.ChangeShapes Go.WideShapes Go.ChangeAt Go.RowKit
set_option linter.unusedVariables false
set_option linter.unusedSimpArgs false


def adF (P : Int) (D : Nat) (l : List Int) (i : Nat) : List Int := adTo P D l (basL D i) D
theorem adF_length {P : Int} {D i : Nat} {l : List Int} : (adF P D l i).length = D * D := adTo_length D
set_option maxRecDepth 100000 in
set_option maxHeartbeats 6400000 in
theorem l3Killing_spec (P : Int) (D a0 oa n d : Nat) (l : List Int) (w : World) (hT : Reads w (some ⟨a0, oa, none⟩) n l) (hD : D ≤ 28) (hn : n = D * D * D) (hp : 2 ≤ P) (hp2 : P ≤ 10007) (hl : Res l P) :
    Calls Try.prog 102 #[.agg #[.int .i64 P, .int .i64 D, .slice (some ⟨a0, oa, none⟩) n d]] w fun e w' => ∃ b, e = .returned (.agg #[.int .i64 P, .int .i64 D, .int .i64 D, .slice (some ⟨b, 0, none⟩) (D * D) (D * D)]) ∧ w.heap.size ≤ b ∧ b < w'.heap.size ∧ Has w' b (kilL P D l) ∧ Ext w w' := by
  have HT := Lib.hid hT
  have HN := Lib.hid hn
  have h27 : D * D ≤ 784 := Nat.mul_le_mul hD hD
  have hll : l.length = D * D * D := by rw [hT.1, hn]
  have hll2 : l.length = D * (D * D) := by rw [hll, Nat.mul_assoc]
  have A0 := Lib.hid ((cells_new' w #[.int .i64 P, .int .i64 D, .slice (some ⟨a0, oa, none⟩) n d] 26 w.heap.size rfl).ext ((Ext.refl _).alloc (.cells #[.int .i64 0, .int .i64 0, .int .i64 0, .slice none 0 0] 36)))
  have R0 := Lib.hid (cells_new' (w.alloc (.cells #[.int .i64 P, .int .i64 D, .slice (some ⟨a0, oa, none⟩) n d] 26)) #[.int .i64 0, .int .i64 0, .int .i64 0, .slice none 0 0] 36 (w.heap.size + 1) (by simp))
  have E0 := Lib.hid (((Ext.refl w).alloc (.cells #[.int .i64 P, .int .i64 D, .slice (some ⟨a0, oa, none⟩) n d] 26)).alloc (.cells #[.int .i64 0, .int .i64 0, .int .i64 0, .slice none 0 0] 36))
  have G0 := Lib.hid (mats_lit ((w.alloc (.cells #[.int .i64 P, .int .i64 D, .slice (some ⟨a0, oa, none⟩) n d] 26)).alloc (.cells #[.int .i64 0, .int .i64 0, .int .i64 0, .slice none 0 0] 36)) (w.heap.size + 1 + 1) (by simp) P D (adF P D l))
  have E00 := Lib.hid ((Ext.refl ((w.alloc (.cells #[.int .i64 P, .int .i64 D, .slice (some ⟨a0, oa, none⟩) n d] 26)).alloc (.cells #[.int .i64 0, .int .i64 0, .int .i64 0, .slice none 0 0] 36))).alloc (.cells #[] 36))
  have hW2 : ((w.alloc (.cells #[.int .i64 P, .int .i64 D, .slice (some ⟨a0, oa, none⟩) n d] 26)).alloc (.cells #[.int .i64 0, .int .i64 0, .int .i64 0, .slice none 0 0] 36)).heap.size = w.heap.size + 1 + 1 := by simp
  rw [hW2] at G0
  have HW2 := Lib.hid hW2
  have HZR : Hid (∀ w1, Calls Try.prog 75 #[.int .i64 P, .int .i64 D, .int .i64 D] w1 fun e w' => ∃ b, e = .returned (.agg #[.int .i64 P, .int .i64 D, .int .i64 D, .slice (some ⟨b, 0, none⟩) (D * D) (D * D)]) ∧ w1.heap.size ≤ b ∧ b < w'.heap.size ∧ Has w' b (List.replicate (D * D) 0) ∧ Ext w1 w') := fun w1 => by
    have h9 := l1Zero_spec P D D w1 (by rw [← Int.natCast_mul]; omega) (by rw [← Int.natCast_mul]; omega)
    rw [← Int.natCast_mul, Int.toNat_natCast] at h9
    exact h9
  have HAD : Hid (∀ i, i < D → ∀ w1 b, Ext w w1 → Has w1 b (basL D i) → Calls Try.prog 139 #[.agg #[.int .i64 P, .int .i64 D, .slice (some ⟨a0, oa, none⟩) n d], .slice (some ⟨b, 0, none⟩) D D] w1 fun e w' => ∃ a c, e = .returned (.agg #[.int .i64 P, .int .i64 D, .int .i64 D, .slice a (D * D) c]) ∧ Own w' w1.heap.size w'.heap.size a (D * D) (adF P D l i) ∧ Ext w1 w') := fun i hi w1 b h hb => l2Adjoint_spec P D a0 oa n d D (some ⟨b, 0, none⟩) l (basL D i) w1 (hT.ext h) (hb.reads basL_length) hD hn hp hp2 hl (basL_res hp)
  have hfr : ∀ i, i < D → adF P D l i = rowL (D * D) l i := fun i hi => adTo_bas hl hll hi
  have hrs : ∀ i, i < D → Res (adF P D l i) P := fun i hi => by
    rw [hfr i hi]
    intro j hj
    rw [rowL_length hll2 hi] at hj
    rw [gi_rowL2 _ _ hj]
    exact hl _ (by rw [hll2]; exact place_lt hi hj)
  have HMU : Hid (∀ i j, i < D → j < D → ∀ w1 ai aj ci cj, Reads w1 ai (D * D) (adF P D l i) → Reads w1 aj (D * D) (adF P D l j) → Calls Try.prog 69 #[.agg #[.int .i64 P, .int .i64 D, .int .i64 D, .slice ai (D * D) ci], .agg #[.int .i64 P, .int .i64 D, .int .i64 D, .slice aj (D * D) cj]] w1 fun e w' => ∃ b, e = .returned (.agg #[.int .i64 P, .int .i64 D, .int .i64 D, .slice (some ⟨b, 0, none⟩) (D * D) (D * D)]) ∧ Has w' b (mulTo P (adF P D l i) (adF P D l j) D D D D) ∧ Ext w1 w') := fun i j hi hj w1 ai aj ci cj r1 r2 => by
    refine (l1Mul_spec P D D D ai aj (D * D) ci (D * D) cj _ _ w1 r1 r2 rfl rfl (by omega) (by omega) (by omega) hp hp2 (hrs i hi) (hrs j hj)).mono ?_
    rintro e w' ⟨b, rfl, _, _, g1, g2⟩
    exact ⟨b, rfl, g1, g2⟩
  have HTR : Hid (∀ i j, i < D → j < D → ∀ w1 b, Has w1 b (mulTo P (adF P D l i) (adF P D l j) D D D D) → Calls Try.prog 140 #[.agg #[.int .i64 P, .int .i64 D, .int .i64 D, .slice (some ⟨b, 0, none⟩) (D * D) (D * D)]] w1 fun e w' => e = .returned (.int .i64 (kilN D l i j % P)) ∧ Ext w1 w') := fun i j hi hj w1 b hb => by
    have h9 := l1Trace_spec P D (some ⟨b, 0, none⟩) (D * D) (D * D) _ w1 (hb.reads (mulTo_length _ _ _ _ _ _ _)) rfl (by omega) hp hp2 (mulTo_res _ (by omega) _ _ _ _ _ _)
    rw [hfr i hi, hfr j hj, trace_kil] at h9
    exact h9
  clear hT hn hl hll hll2 hW2 hfr hrs
  go_enter Try.func102, Try.ntmps102
  go_wp2_with fail
  try simp only [World.size_alloc]
  generalize ((w.alloc (.cells #[.int .i64 P, .int .i64 D, .slice (some ⟨a0, oa, none⟩) n d] 26)).alloc (.cells #[.int .i64 0, .int .i64 0, .int .i64 0, .slice none 0 0] 36)) = W2 at *
  go_loopw [3, 4] (fun v z wr => ∃ k : Nat, k ≤ D ∧ z = .int .i64 k ∧ Hid (MatG wr (w.heap.size + 1 + 1) v P D (adF P D l) k) ∧ Hid (Ext W2 wr)) (fun _ z _ => D - (intOf z).toNat)
  case atStart => exact ⟨0, by omega, rfl, G0, E00⟩
  case round =>
    clear G0 E00
    obtain ⟨k, hk, rfl, hG, hE⟩ := hrel
    have lW : w.heap.size < W2.heap.size := by have := HW2.out; omega
    have q0 := A0.out.2 0 _ rfl
    have q1 := A0.out.2 1 _ rfl
    have q2 := A0.out.2 2 _ rfl
    have AX := A0.out.ext hE.out
    have lX := AX.1
    have x0 := AX.2 0 _ rfl
    have x1 := AX.2 1 _ rfl
    have x2 := AX.2 2 _ rfl
    clear AX
    obtain ⟨va, vc, rfl, _⟩ := hG.out.shape
    by_cases hlt : k < D
    · have HGD := Lib.hid (MatG.ext hG.out (Ext.refl _).drew)
      have HA1 := Lib.hid (HAD.out k hlt)
      go_wp2_with fail
      go_region_held3 (fun w' => Ext W2 w' ∧ (∀ b o, b < W2.heap.size → w'.cell? ⟨b, o, none⟩ = W2.cell? ⟨b, o, none⟩)) (first | assumption | (with_reducible exact ext2 (Ext.trans (And.left ‹Ext W2 _ ∧ _›) ‹Ext _ _›)) | (refine ext2 ?_; with_reducible repeat (first | exact Ext.refl _ | exact And.left ‹Ext W2 _ ∧ _› | exact hE.out | refine Ext.drew ?_ | refine Ext.drewN ?_ _ | refine Ext.alloc ?_ _))) (first
        | (go_at_call 136; (with_reducible refine (l2Basis_spec D k _ hD hlt).mono ?_); rintro e w3 ⟨b, rfl, kb, h3⟩)
        | (go_at_call 139; (with_reducible refine (HA1.out _ _ (E0.out.trans (And.left ‹Ext W2 _ ∧ _›)) kb).mono ?_); rintro e w4 ⟨a4, c4, rfl, kr, h4⟩)
        | (have sz1 := hE.out.le; have sz2 := h3.le; have sz3 := h4.le; have sz4 := HW2.out; rw [World.size_drew] at sz2
           have sz6 : w.heap.size + 1 + 1 ≤ w3.heap.size := by omega
           have sz5 : w.heap.size + 1 + 1 ≤ w4.heap.size := by omega
           have sz7 : (w4.alloc (.cells #[.int .i64 P, .int .i64 D, .int .i64 D, .slice a4 (D * D) c4] 36)).heap.size = w4.heap.size + 1 := by simp
           have HRow : Own (w4.alloc (.cells #[.int .i64 P, .int .i64 D, .int .i64 D, .slice a4 (D * D) c4] 36)) (w.heap.size + 1 + 1) (w4.alloc (.cells #[.int .i64 P, .int .i64 D, .int .i64 D, .slice a4 (D * D) c4] 36)).heap.size a4 (D * D) (adF P D l k) := (kr.ext ((Ext.refl _).alloc _)).mono (by omega) (by omega)
           have hcl := cells_new w4 #[.int .i64 P, .int .i64 D, .int .i64 D, .slice a4 (D * D) c4] 36
           refine step_appendMat rfl (.tmp 16) (.tmp 23) rfl (base := w.heap.size + 1 + 1) (P := P) (D := D) (k := k) (f := adF P D l) (.slice va k vc) rfl (MatG.ext (MatG.ext HGD.out (h3.trans h4)) ((Ext.refl _).alloc _)) w4.heap.size c4 1 a4 rfl (hcl.2 0 _ rfl) (hcl.2 1 _ rfl) (hcl.2 2 _ rfl) (hcl.2 3 _ rfl) HRow (by omega) (by omega) ?_
           intro v5 w5 hG5 hg5
           have E5 : Ext W2 w5 := Ext.grown (Ext.alloc (Ext.trans (Ext.trans (Ext.drew hE.out) h3) h4) _) hg5 (fun z hz => by have := HGD.out.blk z hz; have := HW2.out; omega)
           have E52 := ext2 E5)
        | fail)
      all_goals
        have G5 := Lib.hid hG5
        have E6 := Lib.hid E5
        clear hG hE hG5 hg5 E5 E52 HGD HRow kr kb h3 h4
        go_wp2
        exact ⟨⟨k + 1, by omega, by simp, G5, E6⟩, by simp [intOf]; omega⟩
    · obtain rfl : D = k := by omega
      obtain ⟨va', vc', hvv, hGS⟩ := hG.out.shape
      obtain ⟨rfl, rfl⟩ : va = va' ∧ vc = vc' := by injection hvv with e1 e2 e3; exact ⟨e1, e3⟩
      have HGS := Lib.hid hGS
      have EW := Lib.hid (E0.out.trans hE.out)
      have RX := Lib.hid (R0.out.ext hE.out)
      have AX := Lib.hid (A0.out.ext hE.out)
      clear hG hGS hvv hE A0 R0 E0 q0 q1 q2
      have HWS : Hid (w.heap.size + 1 + 1 ≤ wr.heap.size) := by have := RX.out.1; show _ ≤ _; omega
      go_wp2_with fail
      refine (HZR.out _).mono ?_
      rintro e w7 ⟨rb, rfl, hb1, hb2, hz, h7⟩
      clear x0 x1 x2 lX
      obtain ⟨wk, hwk⟩ : ∃ wk : World, wk = wr := ⟨_, rfl⟩
      subst hwk
      have HB0 : Hid (∃ ks, Has (w7.alloc (.cells #[.int .i64 P, .int .i64 D, .int .i64 D, .slice (some ⟨rb, 0, none⟩) (D * D) (D * D)] 36)) rb ks ∧ ks.length = D * D ∧ ∀ i' j', i' < 0 → j' < 0 → gi ks (i' * D + j') = kilN D l i' j' % P) := ⟨_, hz.alloc _, by simp, fun i' j' h _ => by omega⟩
      have CM := Lib.hid (cells_new w7 #[.int .i64 P, .int .i64 D, .int .i64 D, .slice (some ⟨rb, 0, none⟩) (D * D) (D * D)] 36)
      have EXB := Lib.hid (Ext.alloc h7 (.cells #[.int .i64 P, .int .i64 D, .int .i64 D, .slice (some ⟨rb, 0, none⟩) (D * D) (D * D)] 36))
      have AX2 := Lib.hid (AX.out.ext EXB.out)
      have RX2 := Lib.hid (RX.out.ext EXB.out)
      have EW2 := Lib.hid (EW.out.trans EXB.out)
      have HWB : Hid (w.heap.size + 1 < rb ∧ wk.heap.size ≤ rb ∧ w7.heap.size ≠ rb) := ⟨by have := HWS.out; omega, hb1, by omega⟩
      clear hz hb1 hb2 h7 AX RX EW HWS
      go_wp2_with fail
      try simp only [World.size_alloc]
      generalize w7.alloc (.cells #[.int .i64 P, .int .i64 D, .int .i64 D, .slice (some ⟨rb, 0, none⟩) (D * D) (D * D)] 36) = Wb at *
      generalize w7.heap.size = RB at *
      have HKK : Hid (∀ wx, Wb.grownBy wx (some rb) → Cells wx w.heap.size [.int .i64 P, .int .i64 D, .slice (some ⟨a0, oa, none⟩) n d] ∧ Cells wx RB [.int .i64 P, .int .i64 D, .int .i64 D, .slice (some ⟨rb, 0, none⟩) (D * D) (D * D)] ∧ Ext wk wx ∧ Ext w wx ∧ Cells wx (w.heap.size + 1) [.int .i64 0, .int .i64 0, .int .i64 0, .slice none 0 0]) := fun wx h => ⟨AX2.out.grown h (fun k hk => by simp at hk; have := HWB.out; omega), CM.out.grown h (fun k hk => by simp at hk; have := HWB.out; omega), EXB.out.grown h (fun k hk => by simp at hk; have := HWB.out; omega), EW2.out.grown h (fun k hk => by simp at hk; have := HWB.out; have := EW2.out.le; omega), RX2.out.grown h (fun k hk => by simp at hk; have := HWB.out; omega)⟩
      clear AX2 RX2 EW2 EXB CM
      go_loopw [6, 7, 8] (fun z _ _ wr => ∃ i : Nat, i ≤ D ∧ z = .int .i64 i ∧ Hid (Wb.grownBy wr (some rb)) ∧ Hid (∃ ks, Has wr rb ks ∧ ks.length = D * D ∧ ∀ i' j', i' < i → j' < i → gi ks (i' * D + j') = kilN D l i' j' % P)) (fun z _ _ _ => D - (intOf z).toNat)
      case atStart => exact ⟨0, by omega, rfl, grownBy_refl _ _, HB0⟩
      case round =>
        clear HB0
        obtain ⟨i, hi, rfl, hG, hH⟩ := hrel
        have la := (HKK.out _ hG.out).1.1
        have a1 := (HKK.out _ hG.out).1.2 1 _ rfl
        by_cases hlt : i < D
        · have H0 : Hid (∃ ks, Has wr rb ks ∧ ks.length = D * D ∧ (∀ i' j', i' < i → j' < i → gi ks (i' * D + j') = kilN D l i' j' % P) ∧ ∀ j', j' < 0 → gi ks (i * D + j') = kilN D l i j' % P ∧ gi ks (j' * D + i) = kilN D l j' i % P) := by
            obtain ⟨ks, k1, k2, k3⟩ := hH.out
            exact ⟨ks, k1, k2, k3, fun j' h => by omega⟩
          clear hH
          go_wp2_with fail
          clear la a1
          go_loopw [7, 8] (fun z _ wr => ∃ j : Nat, j ≤ i + 1 ∧ z = .int .i64 j ∧ Hid (Wb.grownBy wr (some rb)) ∧ Hid (∃ ks, Has wr rb ks ∧ ks.length = D * D ∧ (∀ i' j', i' < i → j' < i → gi ks (i' * D + j') = kilN D l i' j' % P) ∧ ∀ j', j' < j → gi ks (i * D + j') = kilN D l i j' % P ∧ gi ks (j' * D + i) = kilN D l j' i % P)) (fun z _ _ => i + 1 - (intOf z).toNat)
          case atStart => exact ⟨0, by omega, rfl, hG, H0⟩
          case round =>
            clear hG H0
            obtain ⟨j, hj, rfl, hG, hH⟩ := hrel
            by_cases hlt2 : j ≤ i
            · have hjd : j < D := by omega
              obtain ⟨ks, k1, k2, k3, k4⟩ := hH.out
              have K1 := Lib.hid k1
              have K2 := Lib.hid k2
              have K3 := Lib.hid k3
              have K4 := Lib.hid k4
              clear k1 k2 k3 k4 hH
              obtain ⟨g, hag, hg1, hg2, hget⟩ := HGS.out (by omega)
              subst hag
              obtain ⟨ai, ci, y0, y1, y2, y3, hoi⟩ := hget i hlt
              obtain ⟨aj, cj, z0, z1, z2, z3, hoj⟩ := hget j hjd
              have EX := Lib.hid (HKK.out _ hG.out).2.2.1
              have hgw : g < wr.heap.size := Nat.lt_of_lt_of_le hg2 EX.out.le
              have u0 := (EX.out.cells g (i * 4) hg2).trans y0
              have u1 := (EX.out.cells g (i * 4 + 1) hg2).trans y1
              have u2 := (EX.out.cells g (i * 4 + 2) hg2).trans y2
              have u3 := (EX.out.cells g (i * 4 + 3) hg2).trans y3
              have t0 := (EX.out.cells g (j * 4) hg2).trans z0
              have t1 := (EX.out.cells g (j * 4 + 1) hg2).trans z1
              have t2 := (EX.out.cells g (j * 4 + 2) hg2).trans z2
              have t3 := (EX.out.cells g (j * 4 + 3) hg2).trans z3
              have HM1 : Hid (∀ w1, Ext wk w1 → _) := fun w1 h => HMU.out i j hlt hjd w1 ai aj ci cj (hoi.reads.ext h) (hoj.reads.ext h)
              have HT1 := Lib.hid (HTR.out i j hlt hjd)
              clear y0 y1 y2 y3 z0 z1 z2 z3 hoi hoj hget hg1 hg2
              go_wp2_with fail
              go_region_held3 (fun w' => Ext wr w' ∧ (∀ b o, b < wr.heap.size → w'.cell? ⟨b, o, none⟩ = wr.cell? ⟨b, o, none⟩)) (first | assumption | (with_reducible exact ext2 (Ext.trans (And.left ‹Ext wr _ ∧ _›) ‹Ext _ _›)) | (refine ext2 ?_; with_reducible repeat (first | exact Ext.refl _ | exact And.left ‹Ext wr _ ∧ _› | refine Ext.drew ?_ | refine Ext.drewN ?_ _))) (first
                | (go_at_call 69; (with_reducible refine (HM1.out _ (EX.out.trans (And.left ‹Ext wr _ ∧ _›))).mono ?_); rintro e w4 ⟨b4, rfl, k4, h4⟩)
                | (go_at_call 140; (with_reducible refine (HT1.out _ _ k4).mono ?_); rintro e w5 ⟨rfl, h5⟩))
              have E5 := Lib.hid (And.left ‹Ext wr w5 ∧ _›)
              have HP1 : Hid (i * D + j < ks.length) := by rw [Hid, K2.out]; exact place_lt hlt hjd
              have HP2 : Hid (j * D + i < ks.length) := by rw [Hid, K2.out]; exact place_lt hjd hlt
              have KA := Lib.hid (K1.out.ext E5.out)
              have KB : Hid (Has (w5.setCell ⟨rb, i * D + j, none⟩ (.int .i64 (kilN D l i j % P))) rb (ks.set (i * D + j) (kilN D l i j % P))) := KA.out.set _ HP1.out _
              have HP3 : Hid (j * D + i < (ks.set (i * D + j) (kilN D l i j % P)).length) := by rw [Hid, List.length_set]; exact HP2.out
              have KC : Hid (Has ((w5.setCell ⟨rb, i * D + j, none⟩ (.int .i64 (kilN D l i j % P))).setCell ⟨rb, j * D + i, none⟩ (.int .i64 (kilN D l i j % P))) rb ((ks.set (i * D + j) (kilN D l i j % P)).set (j * D + i) (kilN D l i j % P))) := KB.out.set _ HP3.out _
              have G5 := Lib.hid (grownBy_ext hG.out E5.out)
              have G6 : Hid (Wb.grownBy (w5.setCell ⟨rb, i * D + j, none⟩ (.int .i64 (kilN D l i j % P))) (some rb)) := grownBy_set (p := ⟨rb, i * D + j, none⟩) G5.out rfl _
              have G7 : Hid (Wb.grownBy ((w5.setCell ⟨rb, i * D + j, none⟩ (.int .i64 (kilN D l i j % P))).setCell ⟨rb, j * D + i, none⟩ (.int .i64 (kilN D l i j % P))) (some rb)) := grownBy_set (p := ⟨rb, j * D + i, none⟩) G6.out rfl _
              have N1 : Hid (∃ ks', Has ((w5.setCell ⟨rb, i * D + j, none⟩ (.int .i64 (kilN D l i j % P))).setCell ⟨rb, j * D + i, none⟩ (.int .i64 (kilN D l i j % P))) rb ks' ∧ ks'.length = D * D ∧ (∀ i' j', i' < i → j' < i → gi ks' (i' * D + j') = kilN D l i' j' % P) ∧ ∀ j', j' < j + 1 → gi ks' (i * D + j') = kilN D l i j' % P ∧ gi ks' (j' * D + i) = kilN D l j' i % P) := by
                have hl1 : (ks.set (i * D + j) (kilN D l i j % P)).length = D * D := by rw [List.length_set]; exact K2.out
                refine ⟨_, KC.out, by rw [List.length_set]; exact hl1, fun i' j' g1 g2 => ?_, fun j' g => ⟨?_, ?_⟩⟩
                · rw [kil_put hl1 hjd hlt (by omega), if_neg (fun e => by omega), kil_put K2.out hlt hjd (by omega), if_neg (fun e => by omega)]
                  exact K3.out i' j' g1 g2
                · rw [kil_put hl1 hjd hlt (by omega)]
                  by_cases e : i = j ∧ j' = i
                  · rw [if_pos e]; obtain ⟨e1, e2⟩ := e; rw [e2, ← e1]
                  · rw [if_neg e, kil_put K2.out hlt hjd (by omega)]
                    by_cases e2 : j' = j
                    · rw [if_pos ⟨rfl, e2⟩, e2]
                    · rw [if_neg (fun h => e2 h.2)]; exact (K4.out j' (by omega)).1
                · rw [kil_put hl1 hjd hlt hlt]
                  by_cases e : j' = j
                  · rw [if_pos ⟨e, rfl⟩, e, kilN_swap]
                  · rw [if_neg (fun h => e h.1), kil_put K2.out hlt hjd hlt, if_neg (fun h => by omega)]; exact (K4.out j' (by omega)).2
              have c1 := KA.out.cell _ HP1.out
              have f1 := KA.out.free (i * D + j)
              have c2 := KB.out.cell _ HP3.out
              have f2 := KB.out.free (j * D + i)
              have la := (HKK.out _ G5.out).1.1
              have a1 := (HKK.out _ G5.out).1.2 1 _ rfl
              have lm := (HKK.out _ G5.out).2.1.1
              have m3 := (HKK.out _ G5.out).2.1.2 3 _ rfl
              have la2 := (HKK.out _ G6.out).1.1
              have a12 := (HKK.out _ G6.out).1.2 1 _ rfl
              have lm2 := (HKK.out _ G6.out).2.1.1
              have m32 := (HKK.out _ G6.out).2.1.2 3 _ rfl
              have d1 := HP1.out
              have d2 := HP2.out
              rw [K2.out] at d1 d2
              have e1 : (i : Int) * (D : Int) = ((i * D : Nat) : Int) := by simp
              have e2 : (j : Int) * (D : Int) = ((j * D : Nat) : Int) := by simp
              have p2 : 0 ≤ (i : Int) * (D : Int) := by rw [e1]; omega
              have p3 : (i : Int) * (D : Int) ≤ 784 := by rw [e1]; omega
              have p4 : (i : Int) * (D : Int) + (j : Int) < ((D * D : Nat) : Int) := by rw [e1]; omega
              have p5 : 0 ≤ (i : Int) * (D : Int) + (j : Int) := by rw [e1]; omega
              have s2 : 0 ≤ (j : Int) * (D : Int) := by rw [e2]; omega
              have s3 : (j : Int) * (D : Int) ≤ 784 := by rw [e2]; omega
              have s4 : (j : Int) * (D : Int) + (i : Int) < ((D * D : Nat) : Int) := by rw [e2]; omega
              have s5 : 0 ≤ (j : Int) * (D : Int) + (i : Int) := by rw [e2]; omega
              have v5 : ((i : Int) * (D : Int) + (j : Int)).toNat = i * D + j := by rw [e1]; omega
              have v6 : ((j : Int) * (D : Int) + (i : Int)).toNat = j * D + i := by rw [e2]; omega
              clear e1 e2 hG KA KB KC G5 G6 K1 K2 K3 K4 HP1 HP2 HP3 E5 EX HM1 HT1 u0 u1 u2 u3 t0 t1 t2 t3 h4 h5 k4 hgw d1 d2
              go_wp2
              exact ⟨⟨j + 1, by omega, by simp, G7, N1⟩, by simp [intOf]; omega⟩
            · obtain rfl : j = i + 1 := by omega
              have H9 : Hid (∃ ks, Has wr rb ks ∧ ks.length = D * D ∧ ∀ i' j', i' < i + 1 → j' < i + 1 → gi ks (i' * D + j') = kilN D l i' j' % P) := by
                obtain ⟨ks, k1, k2, k3, k4⟩ := hH.out
                refine ⟨ks, k1, k2, fun i' j' g1 g2 => ?_⟩
                by_cases e : i' = i
                · subst e; exact (k4 j' g2).1
                · by_cases e2 : j' = i
                  · subst e2; exact (k4 i' g1).2
                  · exact k3 i' j' (by omega) (by omega)
              clear hH
              go_wp2
              exact ⟨⟨i + 1, by omega, by simp, hG, H9⟩, by simp [intOf]; omega⟩
        · obtain rfl : D = i := by omega
          obtain ⟨ks, k1, k2, k3⟩ := hH.out
          have hkk := kilL_eq (P := P) (l := l) k2 (fun i' j' g1 g2 => k3 i' j' g1 g2)
          subst hkk
          clear la a1
          have lm := (HKK.out _ hG.out).2.1.1
          have m0 := (HKK.out _ hG.out).2.1.2 0 _ rfl
          have m1 := (HKK.out _ hG.out).2.1.2 1 _ rfl
          have m2 := (HKK.out _ hG.out).2.1.2 2 _ rfl
          have m3 := (HKK.out _ hG.out).2.1.2 3 _ rfl
          have RR := (HKK.out _ hG.out).2.2.2.2
          have r0 := RR.2 0 _ rfl
          have r1 := RR.2 1 _ rfl
          have r2 := RR.2 2 _ rfl
          have r3 := RR.2 3 _ rfl
          have tR := RR.3
          have lR2 := RR.1
          have E9 := (HKK.out _ hG.out).2.2.2.1
          have hwb := HWB.out
          have hltk := k1.lt
          have la := (HKK.out _ hG.out).1.1
          have a1 := (HKK.out _ hG.out).1.2 1 _ rfl
          go_wp2
          refine bodyPost_ret (v := .agg #[.int .i64 P, .int .i64 D, .int .i64 D, .slice (some ⟨rb, 0, none⟩) (D * D) (D * D)]) (by simp [results, Try.results102, go_sem, r0, r1, r2, r3]) rfl ⟨rb, rfl, by omega, by simp; omega, ?_, ext4 E9 (by omega) _ _ _ _⟩
          repeat (first | exact k1 | refine Has.setOther ?_ (by simp; omega) _)

set_option maxRecDepth 100000 in
set_option maxHeartbeats 6400000 in
theorem killingForm_spec {P D : Int} {a0 oa n : Nat} {l : List Int} {w : World} {p r' c : Int} {d : List Int} (hT : Reads w (some ⟨a0, oa, none⟩) n l) (hm0 : n ≤ 1048576) (hM : kilM P D l = ⟨p, r', c, d⟩) :
    Calls Try.prog 47 #[.agg #[.int .i64 P, .int .i64 D, .slice (some ⟨a0, oa, none⟩) n n]] w fun e w' => ∃ v, e = .returned v ∧ Rmat w w' v p r' c d ∧ Ext w w' := by
  have HT := Lib.hid hT
  rcases h0 : algB P D l with _ | _
  · simp only [kilM, h0, noMat, Bool.false_eq_true, if_false, Mat.mk.injEq] at hM
    obtain ⟨rfl, rfl, rfl, rfl⟩ := hM
    have H0 := Lib.hid h0
    clear h0 hT
    go_enter Try.func47, Try.ntmps47
    have A0_1 := Lib.hid ((cells_new' w #[.int .i64 P, .int .i64 D, .slice (some ⟨a0, oa, none⟩) n n] 26 (w.heap.size) (by simp)).ext ((Ext.refl _).alloc (.cells #[.int .i64 0, .int .i64 0, .int .i64 0, .slice none 0 0] 36)))
    have R_2 := Lib.hid (cells_new' (w.alloc (.cells #[.int .i64 P, .int .i64 D, .slice (some ⟨a0, oa, none⟩) n n] 26)) #[.int .i64 0, .int .i64 0, .int .i64 0, .slice none 0 0] 36 (w.heap.size + 1) (by simp))
    have E_3 := Lib.hid (((Ext.refl w).alloc (.cells #[.int .i64 P, .int .i64 D, .slice (some ⟨a0, oa, none⟩) n n] 26)).alloc (.cells #[.int .i64 0, .int .i64 0, .int .i64 0, .slice none 0 0] 36))
    have lA0 := A0_1.out.1
    have qA00 := A0_1.out.2 0 _ rfl
    have qA01 := A0_1.out.2 1 _ rfl
    have qA02 := A0_1.out.2 2 _ rfl
    try simp only [World.size_alloc] at lA0
    go_wp2_with fail
    refine (algebraOk_spec (HT.out.ext E_3.out) hm0 H0.out).mono ?_
    rintro e w_4 ⟨rfl, h_4⟩
    clear lA0 qA00 qA01 qA02
    have A0_5 := Lib.hid (A0_1.out.ext h_4)
    clear A0_1
    have R_6 := Lib.hid (R_2.out.ext h_4)
    clear R_2
    have E_7 := Lib.hid (E_3.out.trans h_4)
    clear E_3
    have lA0 := A0_5.out.1
    have qA00 := A0_5.out.2 0 _ rfl
    have qA01 := A0_5.out.2 1 _ rfl
    have qA02 := A0_5.out.2 2 _ rfl
    try simp only [World.size_alloc] at lA0
    have r0 := R_6.out.2 0 _ rfl
    have r1 := R_6.out.2 1 _ rfl
    have r2 := R_6.out.2 2 _ rfl
    have r3 := R_6.out.2 3 _ rfl
    have tR := R_6.out.3
    have lR := R_6.out.1
    go_wp2
    refine bodyPost_ret (v := .agg #[.int .i64 0, .int .i64 0, .int .i64 0, .slice none 0 0]) (by simp [results, Try.results47, go_sem, r0, r1, r2, r3]) rfl ⟨_, rfl, ⟨_, _, _, rfl, own_nil _ _ _, by omega⟩, ext4 E_7.out (by omega) _ _ _ _⟩
  have H0 := Lib.hid h0
  have hz0 := h0
  simp only [kilM, hz0, if_true, Mat.mk.injEq] at hM
  obtain ⟨rfl, rfl, rfl, rfl⟩ := hM
  obtain ⟨D, rfl, hA⟩ := algB_parts hz0 hT.1
  simp only [Int.toNat_natCast]
  have hp := isP_lo hA.pr
  have hp2 := isP_hi hA.pr
  have hD := hA.dim
  have hsq : D * D ≤ 784 := Nat.mul_le_mul hD hD
  have hKL : Hid ((kilL P D l).length = D * D) := kilL_length
  have HK3 : Hid (∀ w1, Ext w w1 → Calls Try.prog 102 #[.agg #[.int .i64 P, .int .i64 D, .slice (some ⟨a0, oa, none⟩) n n]] w1 fun e w' => ∃ b, e = .returned (.agg #[.int .i64 P, .int .i64 D, .int .i64 D, .slice (some ⟨b, 0, none⟩) (D * D) (D * D)]) ∧ w1.heap.size ≤ b ∧ b < w'.heap.size ∧ Has w' b (kilL P D l) ∧ Ext w1 w') := fun w1 h => l3Killing_spec P D a0 oa n n l w1 (hT.ext h) hD hA.len hp hp2 hA.res
  clear hT hA hz0 h0
  go_enter Try.func47, Try.ntmps47
  have A0_1 := Lib.hid ((cells_new' w #[.int .i64 P, .int .i64 D, .slice (some ⟨a0, oa, none⟩) n n] 26 (w.heap.size) (by simp)).ext ((Ext.refl _).alloc (.cells #[.int .i64 0, .int .i64 0, .int .i64 0, .slice none 0 0] 36)))
  have R_2 := Lib.hid (cells_new' (w.alloc (.cells #[.int .i64 P, .int .i64 D, .slice (some ⟨a0, oa, none⟩) n n] 26)) #[.int .i64 0, .int .i64 0, .int .i64 0, .slice none 0 0] 36 (w.heap.size + 1) (by simp))
  have E_3 := Lib.hid (((Ext.refl w).alloc (.cells #[.int .i64 P, .int .i64 D, .slice (some ⟨a0, oa, none⟩) n n] 26)).alloc (.cells #[.int .i64 0, .int .i64 0, .int .i64 0, .slice none 0 0] 36))
  have lA0 := A0_1.out.1
  have qA00 := A0_1.out.2 0 _ rfl
  have qA01 := A0_1.out.2 1 _ rfl
  have qA02 := A0_1.out.2 2 _ rfl
  try simp only [World.size_alloc] at lA0
  go_wp2_with fail
  refine (algebraOk_spec (HT.out.ext E_3.out) hm0 H0.out).mono ?_
  rintro e w_4 ⟨rfl, h_4⟩
  clear lA0 qA00 qA01 qA02
  have A0_5 := Lib.hid (A0_1.out.ext h_4)
  clear A0_1
  have R_6 := Lib.hid (R_2.out.ext h_4)
  clear R_2
  have E_7 := Lib.hid (E_3.out.trans h_4)
  clear E_3
  have hlR := R_6.out.1
  have lA0 := A0_5.out.1
  have qA00 := A0_5.out.2 0 _ rfl
  have qA01 := A0_5.out.2 1 _ rfl
  have qA02 := A0_5.out.2 2 _ rfl
  try simp only [World.size_alloc] at lA0
  go_wp2_with fail
  refine (HK3.out _ E_7.out).mono ?_
  rintro e w9 ⟨b, rfl, hs1, hs2, hh, h9⟩
  clear lA0 qA00 qA01 qA02
  have HSB := Lib.hid hh
  clear hh
  have A0_8 := Lib.hid (A0_5.out.ext h9)
  clear A0_5
  have R_9 := Lib.hid (R_6.out.ext h9)
  clear R_6
  have E_10 := Lib.hid (E_7.out.trans h9)
  clear E_7
  have r0 := R_9.out.2 0 _ rfl
  have r1 := R_9.out.2 1 _ rfl
  have r2 := R_9.out.2 2 _ rfl
  have r3 := R_9.out.2 3 _ rfl
  have tR := R_9.out.3
  have lR := R_9.out.1
  go_wp2
  refine bodyPost_ret (v := .agg #[.int .i64 P, .int .i64 D, .int .i64 D, .slice (some ⟨b, 0, none⟩) (D * D) (D * D)]) (by simp [results, Try.results47, go_sem, r0, r1, r2, r3]) rfl ⟨_, rfl, ⟨_, _, _, rfl, ?_, by omega⟩, ext4 E_10.out (by omega) _ _ _ _⟩
  exact Own.mono (own4 (HSB.out.own (lo := w.heap.size + 1 + 1) (hi := w9.heap.size) (by omega) hs2 hKL.out) (by omega) _ _ _ _) (by omega) (by simp)

end Go.Proofs.Ytgmipolgnpjmnaa
