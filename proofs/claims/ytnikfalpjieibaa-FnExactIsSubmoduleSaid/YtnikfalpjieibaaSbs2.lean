/-
  Submodules: the moved space and IsSubmodule, by the specification.
-/
import Derived.Test.YtnikfalpjieibaaSbs1
import Derived.Test.YtnikfalpjieibaaCs
namespace Go.Proofs.Ytnikfalpjieibaa
open Go.ChangeShapes Go.WideShapes Go.ChangeAt Go.RowKit
open List (getElem_toArray getElem_cons_succ getElem_cons_zero setIfInBounds_toArray set_cons_succ set_cons_zero)
set_option linter.unusedVariables false
set_option linter.unusedSimpArgs false

set_option maxRecDepth 100000 in
set_option maxHeartbeats 12800000 in
theorem l10Moved_spec (P : Int) (S k g R s0 so n1 cs : Nat) (av : Value) (ms : List Mat) (ss : List Int) (w : World) (hm : MatsI w g k ms) (hX : Reads w (some ⟨s0, so, none⟩) n1 ss) (hn : n1 = R * S) (hk0 : 0 < k) (hk : k ≤ 28) (hS : S ≤ 30) (hs : Spc P S (R, ss)) (he : ∀ i, i < k → mt ms i = ⟨P, S, S, (mt ms i).d⟩) (hl : ∀ i, i < k → (mt ms i).d.length = S * S) (hr : ∀ i, i < k → Res (mt ms i).d P) (hpr : isP P = true) :
    Calls Try.prog 85 #[.agg #[.int .i64 P, .int .i64 k, av], .slice (some ⟨g, 0, none⟩) k k, .agg #[.int .i64 P, .int .i64 R, .int .i64 S, .slice (some ⟨s0, so, none⟩) n1 cs]] w fun e w' => ∃ b c, e = .returned (.agg #[.int .i64 P, .int .i64 ((mvS P S ms (R, ss) k).1 : Nat), .int .i64 S, .slice (some ⟨b, 0, none⟩) ((mvS P S ms (R, ss) k).1 * S) c]) ∧ w.heap.size ≤ b ∧ b < w'.heap.size ∧ Has w' b (mvS P S ms (R, ss) k).2 ∧ Ext w w' := by
  have HM := Lib.hid hm
  have HX := Lib.hid hX
  have HN := Lib.hid hn
  have HE := Lib.hid he
  have HL := Lib.hid hl
  have HR := Lib.hid hr
  have hp := isP_lo hpr
  have hp2 := isP_hi hpr
  have hp0 : 0 < P := by omega
  have hPP : IsP P := isP_iff.1 hpr
  have hR : R ≤ 30 := Nat.le_trans hs.le hS
  have HXR : Hid (Res ss P) := hs.res
  have HRS : Hid (R * S ≤ 900) := Nat.mul_le_mul hR hS
  have hSS : S * S ≤ 900 := Nat.mul_le_mul hS hS
  have HMV : Hid (∀ i, Spc P S (mvS P S ms (R, ss) i)) := fun i => mvS_spc hPP hs i
  have HMB : Hid (∀ i, (mvS P S ms (R, ss) i).1 ≤ 30 ∧ (mvS P S ms (R, ss) i).1 * S ≤ 900) := fun i => ⟨Nat.le_trans (HMV.out i).le hS, Nat.mul_le_mul (Nat.le_trans (HMV.out i).le hS) hS⟩
  have HJ : Hid (∀ i w1 b ob c b' c', Reads w1 (some ⟨b, ob, none⟩) ((mvS P S ms (R, ss) i).1 * S) (mvS P S ms (R, ss) i).2 → Reads w1 (some ⟨b', 0, none⟩) (R * S) (imR P S ms (R, ss) i) → Calls Try.prog 115 #[.agg #[.int .i64 P, .int .i64 ((mvS P S ms (R, ss) i).1 : Nat), .int .i64 S, .slice (some ⟨b, ob, none⟩) ((mvS P S ms (R, ss) i).1 * S) c], .agg #[.int .i64 P, .int .i64 R, .int .i64 S, .slice (some ⟨b', 0, none⟩) (R * S) c']] w1 fun e w' => ∃ b d, e = .returned (.agg #[.int .i64 P, .int .i64 ((mvS P S ms (R, ss) (i + 1)).1 : Nat), .int .i64 S, .slice (some ⟨b, 0, none⟩) ((mvS P S ms (R, ss) (i + 1)).1 * S) d]) ∧ w1.heap.size ≤ b ∧ b < w'.heap.size ∧ Has w' b (mvS P S ms (R, ss) (i + 1)).2 ∧ Ext w1 w') := fun i w1 b ob c b' c' h1 h2 => by
    have u := HMB.out i
    have v := HRS.out
    exact l1Join_spec P P S (mvS P S ms (R, ss) i).1 R S _ _ c c' ⟨b, ob, none⟩ ⟨b', 0, none⟩ _ _ w1 h1 h2 rfl rfl (by omega) (by omega) (by omega) hpr (HMV.out i).res (imR_res hp0 _ _)
  clear hm hX hn he hl hr hs hPP
  have A0 := Lib.hid (((cells_new w #[.int .i64 P, .int .i64 k, av] 29).ext ((Ext.refl _).alloc (.cells #[.int .i64 P, .int .i64 R, .int .i64 S, .slice (some ⟨s0, so, none⟩) n1 cs] 37))).ext ((Ext.refl _).alloc (.cells #[.int .i64 0, .int .i64 0, .int .i64 0, .slice none 0 0] 37)))
  have B0 := Lib.hid ((cells_new' (w.alloc (.cells #[.int .i64 P, .int .i64 k, av] 29)) #[.int .i64 P, .int .i64 R, .int .i64 S, .slice (some ⟨s0, so, none⟩) n1 cs] 37 (w.heap.size + 1) (by simp)).ext ((Ext.refl _).alloc (.cells #[.int .i64 0, .int .i64 0, .int .i64 0, .slice none 0 0] 37)))
  have M0 := Lib.hid (cells_new' ((w.alloc (.cells #[.int .i64 P, .int .i64 k, av] 29)).alloc (.cells #[.int .i64 P, .int .i64 R, .int .i64 S, .slice (some ⟨s0, so, none⟩) n1 cs] 37)) #[.int .i64 0, .int .i64 0, .int .i64 0, .slice none 0 0] 37 (w.heap.size + 1 + 1) (by simp))
  have E0 := Lib.hid ((((Ext.refl w).alloc (.cells #[.int .i64 P, .int .i64 k, av] 29)).alloc (.cells #[.int .i64 P, .int .i64 R, .int .i64 S, .slice (some ⟨s0, so, none⟩) n1 cs] 37)).alloc (.cells #[.int .i64 0, .int .i64 0, .int .i64 0, .slice none 0 0] 37))
  have HSZ : Hid ((((w.alloc (.cells #[.int .i64 P, .int .i64 k, av] 29)).alloc (.cells #[.int .i64 P, .int .i64 R, .int .i64 S, .slice (some ⟨s0, so, none⟩) n1 cs] 37)).alloc (.cells #[.int .i64 0, .int .i64 0, .int .i64 0, .slice none 0 0] 37)).heap.size = w.heap.size + 1 + 1 + 1) := by simp [Hid]
  have lB := B0.out.1
  have x0 := B0.out.2 0 _ rfl
  have x1 := B0.out.2 1 _ rfl
  have x2 := B0.out.2 2 _ rfl
  have x3 := B0.out.2 3 _ rfl
  go_enter Try.func85, Try.ntmps85
  go_upto_region 1 with fail
  generalize (((w.alloc (.cells #[.int .i64 P, .int .i64 k, av] 29)).alloc (.cells #[.int .i64 P, .int .i64 R, .int .i64 S, .slice (some ⟨s0, so, none⟩) n1 cs] 37)).alloc (.cells #[.int .i64 0, .int .i64 0, .int .i64 0, .slice none 0 0] 37)) = W0 at *
  go_wp2_with fail
  obtain ⟨ZB, hZB⟩ : ∃ ZB, ZB = W0.heap.size := ⟨_, rfl⟩
  have L1 := Lib.hid (cells_new W0 #[.int .i64 P, .int .i64 R, .int .i64 S, .slice (some ⟨s0, so, none⟩) n1 cs] 37)
  have L3 := Lib.hid ((Ext.refl W0).alloc (.cells #[.int .i64 P, .int .i64 R, .int .i64 S, .slice (some ⟨s0, so, none⟩) n1 cs] 37))
  generalize (W0.alloc (.cells #[.int .i64 P, .int .i64 R, .int .i64 S, .slice (some ⟨s0, so, none⟩) n1 cs] 37)) = WZ at *
  rw [← hZB] at L1
  rw [← hZB]
  have HZB : Hid (ZB = w.heap.size + 1 + 1 + 1) := by rw [Hid, hZB]; exact HSZ.out
  have HZW := Lib.hid hZB
  clear lB x0 x1 x2 x3 hZB
  rw [HN.out] at L1
  have L2 : Hid (Reads WZ (some ⟨s0, so, none⟩) ((mvS P S ms (R, ss) 0).1 * S) (mvS P S ms (R, ss) 0).2) := by have := HX.out.ext (E0.out.trans L3.out); rwa [HN.out] at this
  have L1' : Hid (Cells WZ ZB [.int .i64 P, .int .i64 ((mvS P S ms (R, ss) 0).1 : Nat), .int .i64 S, .slice (some ⟨s0, so, none⟩) ((mvS P S ms (R, ss) 0).1 * S) cs]) := L1
  clear L1
  go_loopw [8] (fun z wr => ∃ (i b ob c : Nat), i ≤ k ∧ z = .int .i64 i ∧ Hid (Cells wr ZB [.int .i64 P, .int .i64 ((mvS P S ms (R, ss) i).1 : Nat), .int .i64 S, .slice (some ⟨b, ob, none⟩) ((mvS P S ms (R, ss) i).1 * S) c]) ∧ Hid (Reads wr (some ⟨b, ob, none⟩) ((mvS P S ms (R, ss) i).1 * S) (mvS P S ms (R, ss) i).2) ∧ Hid (0 < i → ob = 0 ∧ Has wr b (mvS P S ms (R, ss) i).2 ∧ ZB ≤ b ∧ b ≠ ZB) ∧ Hid (Ext W0 wr)) (fun z _ => k - (intOf z).toNat)
  case atStart => exact ⟨0, s0, so, cs, by omega, rfl, L1', L2, fun h => absurd h (by omega), L3⟩
  case round =>
    clear L1' L2 L3
    obtain ⟨i, b, ob, c, hi, rfl, L1, L2, L4, L3⟩ := hrel
    have AW := A0.out.ext L3.out
    have lA := AW.1
    have q1 := AW.2 1 _ rfl
    clear AW
    by_cases hlt : i < k
    · have hltI : (i : Int) < (k : Int) := by omega
      have HMw := HM.out.ext (E0.out.trans L3.out)
      have lG := HMw.lt
      obtain ⟨bj, c0, c1, c2, c3, hrd⟩ := HMw.cells hlt (HE.out i hlt) (HL.out i hlt)
      have HRD := Lib.hid hrd
      have BW := B0.out.ext L3.out
      have lB := BW.1
      have x0 := BW.2 0 _ rfl
      have x1 := BW.2 1 _ rfl
      have x2 := BW.2 2 _ rfl
      have x3 := BW.2 3 _ rfl
      have lZ := L1.out.1
      have p0 := L1.out.2 0 _ rfl
      have p1 := L1.out.2 1 _ rfl
      have p2 := L1.out.2 2 _ rfl
      have p3 := L1.out.2 3 _ rfl
      have nG : g ≠ ZB := by have := HM.out.lt; have := HZB.out; omega
      have nB : w.heap.size + 1 ≠ ZB := by have := HZB.out; omega
      have HJi := Lib.hid (HJ.out i)
      clear HMw hrd BW
      generalize (mvS P S ms (R, ss) i).1 = ri at *
      generalize (mvS P S ms (R, ss) i).2 = xi at *
      go_wp2_with fail
      refine wp_region_held_drew (S := fun w' => wr.grownBy w' (some ZB) ∧ ∀ B o, B ≠ ZB → B < wr.heap.size → w'.cell? ⟨B, o, none⟩ = wr.cell? ⟨B, o, none⟩) (by kernel_rfl) keptB_drew (fun hHeld => ?_)
      refine wpAnyH_take (i := 1) (v := ?v81) rfl (by kernel_rfl) (by kernel_rfl) (by kernel_rfl) (fun _ _ _ h => h) (Or.inl ⟨by rfl, ?hy81⟩) hHeld ?rest81
      case hy81 => (intro wz hSw; (try dsimp only at hSw); go_simp; (try with_reducible rfl))
      (try simp only [Act.put, getElem_toArray, getElem_cons_succ, getElem_cons_zero]); (try simp only [setIfInBounds_toArray, set_cons_succ, set_cons_zero])
      refine wpAnyH_take (i := 2) (v := ?v82) rfl (by kernel_rfl) (by kernel_rfl) (by kernel_rfl) (fun _ _ _ h => h) (Or.inl ⟨by rfl, ?hy82⟩) hHeld ?rest82
      case hy82 => (intro wz hSw; (try dsimp only at hSw); go_simp; (try with_reducible rfl))
      (try simp only [Act.put, getElem_toArray, getElem_cons_succ, getElem_cons_zero]); (try simp only [setIfInBounds_toArray, set_cons_succ, set_cons_zero])
      refine wpAnyH_take (i := 3) (v := ?v83) rfl (by kernel_rfl) (by kernel_rfl) (by kernel_rfl) (fun _ _ _ h => h) (Or.inl ⟨by rfl, ?hy83⟩) hHeld ?rest83
      case hy83 => (intro wz hSw; (try dsimp only at hSw); go_simp; (try with_reducible rfl))
      (try simp only [Act.put, getElem_toArray, getElem_cons_succ, getElem_cons_zero]); (try simp only [setIfInBounds_toArray, set_cons_succ, set_cons_zero])
      refine wpAnyH_take (i := 4) (v := ?v84) rfl (by kernel_rfl) (by kernel_rfl) (by kernel_rfl) (fun _ _ _ h => h) (Or.inl ⟨by rfl, ?hy84⟩) hHeld ?rest84
      case hy84 => (intro wz hSw; (try dsimp only at hSw); go_simp; (try with_reducible rfl))
      (try simp only [Act.put, getElem_toArray, getElem_cons_succ, getElem_cons_zero]); (try simp only [setIfInBounds_toArray, set_cons_succ, set_cons_zero])
      refine wpAnyH_take (i := 5) (v := ?v85) rfl (by kernel_rfl) (by kernel_rfl) (by kernel_rfl) (fun _ _ _ h => h) (Or.inl ⟨by rfl, ?hy85⟩) hHeld ?rest85
      case hy85 => (intro wz hSw; (try dsimp only at hSw); go_simp; (try with_reducible rfl))
      (try simp only [Act.put, getElem_toArray, getElem_cons_succ, getElem_cons_zero]); (try simp only [setIfInBounds_toArray, set_cons_succ, set_cons_zero])
      refine wpAnyH_ready (rs := [0, 6]) (by kernel_rfl) (by simp) ?_
      refine AllReadyH.cons rfl (fun K' hK => ?_) (AllReadyH.cons rfl (fun K' hK => ?_) AllReadyH.nil)
      · skip
        go_simp
        refine hK.out _ _ hHeld (fun hHeld => ?_)
        clear hK
        refine wpAnyH_ready (rs := [6]) (by kernel_rfl) (by simp) ?_
        refine AllReadyH.cons rfl (fun K' hK => ?_) AllReadyH.nil
        go_simp
        refine (l1Mul_spec P R S S (some ⟨s0, so, none⟩) (some ⟨bj, 0, none⟩) n1 cs (S * S) (S * S) ss (mt ms i).d _ (HX.out.ext ((E0.out.trans L3.out).drew)) (HRD.out.ext (Ext.refl _).drew) HN.out rfl (by omega) (by omega) (by omega) hp hp2 HXR.out (HR.out i hlt)).mono ?_
        rintro e w7 ⟨b7, rfl, hb7, hb7', k7, h7⟩
        have X7 := (Ext.refl wr).drew.trans h7
        have z7 := X7.le
        have M7 := L1.out.ext X7
        have lY := M7.1
        have s0' := M7.2 0 _ rfl
        have s1' := M7.2 1 _ rfl
        have s2' := M7.2 2 _ rfl
        have s3' := M7.2 3 _ rfl
        clear M7
        dsimp only
        refine hK.out _ _ (keptB_call hHeld h7) (fun hHeld => ?_)
        clear hK
        refine wpAnyH_ready (rs := [7]) (by kernel_rfl) (by simp) ?_
        refine AllReadyH.cons rfl (fun K' hK => ?_) AllReadyH.nil
        go_simp
        refine (HJi.out _ b ob c b7 _ (L2.out.ext X7) (k7.reads (imR_length (R, ss) i))).mono ?_
        rintro e w8 ⟨b8, c8, rfl, hb8, hb8', k8, h8⟩
        have X8 := X7.trans h8
        have z8 := X8.le
        have M8 := L1.out.ext X8
        have lW := M8.1
        have t0 := M8.2 0 _ rfl
        have t1 := M8.2 1 _ rfl
        have t2 := M8.2 2 _ rfl
        have t3 := M8.2 3 _ rfl
        have tf := M8.3
        clear M8
        dsimp only
        refine hK.out _ _ (keptB_call hHeld h8) (fun hHeld => ?_)
        clear hK
        refine wpAnyH_ready (rs := [8]) (by kernel_rfl) (by simp) ?_
        refine AllReadyH.cons rfl (fun K' hK => ?_) AllReadyH.nil
        go_simp
        refine hK.out _ _ (kb4 hHeld _ _ _ _) (fun hHeld => ?_)
        clear hK
        refine wpAnyH_done (by kernel_rfl) ?_ _
        have hne : b8 ≠ ZB := by omega
        have N1 := Lib.hid (early4 (lo := 0) (v0 := .int .i64 P) (v1 := .int .i64 ((mvS P S ms (R, ss) (i + 1)).1 : Nat)) (v2 := .int .i64 S) (v3 := .slice (some ⟨b8, 0, none⟩) ((mvS P S ms (R, ss) (i + 1)).1 * S) c8) (L1.out.ext X8))
        have N2 := Lib.hid (ha4 k8 hne (.int .i64 P) (.int .i64 ((mvS P S ms (R, ss) (i + 1)).1 : Nat)) (.int .i64 S) (.slice (some ⟨b8, 0, none⟩) ((mvS P S ms (R, ss) (i + 1)).1 * S) c8))
        have N3 := Lib.hid (ext4 (L3.out.trans X8) (Nat.le_of_eq HZW.out.symm) (.int .i64 P) (.int .i64 ((mvS P S ms (R, ss) (i + 1)).1 : Nat)) (.int .i64 S) (.slice (some ⟨b8, 0, none⟩) ((mvS P S ms (R, ss) (i + 1)).1 * S) c8))
        have N5 := Lib.hid (N2.out.reads (HMV.out (i + 1)).len)
        have N4 : ZB ≤ b8 := by omega
        clear hHeld L1 L2 L3 L4 X7 X8 k7 k8 h7 h8 lA q1 lZ p0 p1 p2 p3 lG c0 c1 c2 c3 t0 t1 t2 t3 tf lW lY s0' s1' s2' s3' lB x0 x1 x2 x3 HRD HJi
        go_wp2
        exact ⟨⟨i + 1, b8, 0, c8, by omega, by simp, N1, N5, fun _ => ⟨rfl, N2.out, N4, hne⟩, N3⟩, by simp [intOf]; omega⟩
      · skip
        go_simp
        refine (l1Mul_spec P R S S (some ⟨s0, so, none⟩) (some ⟨bj, 0, none⟩) n1 cs (S * S) (S * S) ss (mt ms i).d _ (HX.out.ext ((E0.out.trans L3.out).drew)) (HRD.out.ext (Ext.refl _).drew) HN.out rfl (by omega) (by omega) (by omega) hp hp2 HXR.out (HR.out i hlt)).mono ?_
        rintro e w7 ⟨b7, rfl, hb7, hb7', k7, h7⟩
        have X7 := (Ext.refl wr).drew.trans h7
        have z7 := X7.le
        have M7 := L1.out.ext X7
        have lY := M7.1
        have s0' := M7.2 0 _ rfl
        have s1' := M7.2 1 _ rfl
        have s2' := M7.2 2 _ rfl
        have s3' := M7.2 3 _ rfl
        clear M7
        dsimp only
        refine hK.out _ _ (keptB_call hHeld h7) (fun hHeld => ?_)
        clear hK
        refine wpAnyH_ready (rs := [0]) (by kernel_rfl) (by simp) ?_
        refine AllReadyH.cons rfl (fun K' hK => ?_) AllReadyH.nil
        go_simp
        refine hK.out _ _ hHeld (fun hHeld => ?_)
        clear hK
        refine wpAnyH_ready (rs := [7]) (by kernel_rfl) (by simp) ?_
        refine AllReadyH.cons rfl (fun K' hK => ?_) AllReadyH.nil
        go_simp
        refine (HJi.out _ b ob c b7 _ (L2.out.ext X7) (k7.reads (imR_length (R, ss) i))).mono ?_
        rintro e w8 ⟨b8, c8, rfl, hb8, hb8', k8, h8⟩
        have X8 := X7.trans h8
        have z8 := X8.le
        have M8 := L1.out.ext X8
        have lW := M8.1
        have t0 := M8.2 0 _ rfl
        have t1 := M8.2 1 _ rfl
        have t2 := M8.2 2 _ rfl
        have t3 := M8.2 3 _ rfl
        have tf := M8.3
        clear M8
        dsimp only
        refine hK.out _ _ (keptB_call hHeld h8) (fun hHeld => ?_)
        clear hK
        refine wpAnyH_ready (rs := [8]) (by kernel_rfl) (by simp) ?_
        refine AllReadyH.cons rfl (fun K' hK => ?_) AllReadyH.nil
        go_simp
        refine hK.out _ _ (kb4 hHeld _ _ _ _) (fun hHeld => ?_)
        clear hK
        refine wpAnyH_done (by kernel_rfl) ?_ _
        have hne : b8 ≠ ZB := by omega
        have N1 := Lib.hid (early4 (lo := 0) (v0 := .int .i64 P) (v1 := .int .i64 ((mvS P S ms (R, ss) (i + 1)).1 : Nat)) (v2 := .int .i64 S) (v3 := .slice (some ⟨b8, 0, none⟩) ((mvS P S ms (R, ss) (i + 1)).1 * S) c8) (L1.out.ext X8))
        have N2 := Lib.hid (ha4 k8 hne (.int .i64 P) (.int .i64 ((mvS P S ms (R, ss) (i + 1)).1 : Nat)) (.int .i64 S) (.slice (some ⟨b8, 0, none⟩) ((mvS P S ms (R, ss) (i + 1)).1 * S) c8))
        have N3 := Lib.hid (ext4 (L3.out.trans X8) (Nat.le_of_eq HZW.out.symm) (.int .i64 P) (.int .i64 ((mvS P S ms (R, ss) (i + 1)).1 : Nat)) (.int .i64 S) (.slice (some ⟨b8, 0, none⟩) ((mvS P S ms (R, ss) (i + 1)).1 * S) c8))
        have N5 := Lib.hid (N2.out.reads (HMV.out (i + 1)).len)
        have N4 : ZB ≤ b8 := by omega
        clear hHeld L1 L2 L3 L4 X7 X8 k7 k8 h7 h8 lA q1 lZ p0 p1 p2 p3 lG c0 c1 c2 c3 t0 t1 t2 t3 tf lW lY s0' s1' s2' s3' lB x0 x1 x2 x3 HRD HJi
        go_wp2
        exact ⟨⟨i + 1, b8, 0, c8, by omega, by simp, N1, N5, fun _ => ⟨rfl, N2.out, N4, hne⟩, N3⟩, by simp [intOf]; omega⟩
    · obtain rfl : i = k := by omega
      obtain ⟨rfl, hh, hb1, hb2⟩ := L4.out hk0
      have M4 := M0.out.ext L3.out
      have f0 := M4.2 0 _ rfl
      have f1 := M4.2 1 _ rfl
      have f2 := M4.2 2 _ rfl
      have f3 := M4.2 3 _ rfl
      have t0 := M4.3
      have lZ := L1.out.1
      have p0 := L1.out.2 0 _ rfl
      have p1 := L1.out.2 1 _ rfl
      have p2 := L1.out.2 2 _ rfl
      have p3 := L1.out.2 3 _ rfl
      have nR : w.heap.size + 1 + 1 ≠ ZB := by have := HZB.out; omega
      go_wp2
      have hle := L3.out.le
      have hsz := HSZ.out
      have hbl := hh.lt
      have hzb := HZB.out
      refine bodyPost_ret (v := .agg #[.int .i64 P, .int .i64 ((mvS P S ms (R, ss) i).1 : Nat), .int .i64 S, .slice (some ⟨b, 0, none⟩) ((mvS P S ms (R, ss) i).1 * S) c]) (by simp [results, Try.results85, go_sem, f0, f1, f2, f3]) rfl ⟨b, ⟨c, rfl⟩, by omega, ?_, ?_, ?_⟩
      · simpa using hbl
      · exact ha4 hh (by omega) _ _ _ _
      · exact ext4 (E0.out.trans L3.out) (by omega) _ _ _ _

set_option maxRecDepth 100000 in
theorem run_fieldR (v0 v1 v2 v3 : Value) (w : World) : (Instr.field 37 (.agg #[v0, v1, v2, v3]) 1).run Try.prog w = .ok v1 w := by rfl
theorem spc_parts {P D P2 R C : Int} {l : List Int} {ms : List Mat} {xs : List Int} {n : Nat} (h : spcB P D l ms P2 R C xs = true) (hn : l.length = n) : ∃ d S r : Nat, D = d ∧ P2 = P ∧ C = S ∧ R = r ∧ ModP P d S n l ms ∧ Spc P S (r, xs) ∧ xs.length = r * S ∧ isP P = true ∧ r ≤ 40 := by
  simp only [spcB, Bool.and_eq_true, beq_iff_eq] at h
  obtain ⟨h1, h2, rfl, h4⟩ := h
  obtain ⟨d, S, rfl, _, hP⟩ := mod_parts h1 hn
  rw [hP.szM] at h4
  subst h4
  have h3 : mok P2 R S xs = true := by
    rw [spaceM] at h2
    simp only [Bool.and_eq_true] at h2
    exact h2.1
  have hb := inB_iff.1 (mok_iff.1 h3).2.1
  obtain ⟨r, rfl⟩ := Int.eq_ofNat_of_zero_le hb.1
  obtain ⟨hpr, hss, hxs, hls, hk40, hC40⟩ := spaceM_parts h2
  refine ⟨d, S, r, rfl, rfl, rfl, rfl, hP, ?_, hls, hpr, hk40⟩
  have e := spnS_spc (isP_iff.1 hpr) hls hxs
  have e2 : spnS P2 r S xs = (r, xs) := Prod.ext hss.1 hss.2
  rw [e2] at e
  exact e
theorem mvS_same {P : Int} {S k r : Nat} {ms : List Mat} {xs : List Int} (hp : IsP P) (hs : Spc P S (r, xs)) : ((((mvS P S ms (r, xs) k).1 : Nat) : Int) == (r : Int)) = inB2 P (k * r) r S (imA P S ms (r, xs) k) xs := by
  have hP : 0 < P := by have := hp.1; omega
  have h := apS_same hp hs (imA_length (P := P) (S := S) (ms := ms) (r, xs) k) (imA_res hP _ k)
  rw [← mvS_all hp hs k] at h
  by_cases e : (mvS P S ms (r, xs) k).1 = r
  · rw [e, inB2_true (h.1 e)]; simp
  · rw [inB2_false (fun h' => e (h.2 h'))]
    simp only [beq_eq_false_iff_ne, ne_eq]
    omega
set_option maxRecDepth 100000 in
set_option maxHeartbeats 6400000 in
theorem isSubmodule_spec {P D P2 R C : Int} {a0 oa n g k s0 so n1 : Nat} {l : List Int} {ms : List Mat} {xs : List Int} {w : World} {q : Bool} (hT : Reads w (some ⟨a0, oa, none⟩) n l) (hn : n ≤ 1048576) (hm : MatsI w g k ms) (hk : k ≤ 1048576) (hX : Reads w (some ⟨s0, so, none⟩) n1 xs) (hx : n1 ≤ 1048576) (hM : smoB P D l ms P2 R C xs = q) :
    Calls Try.prog 45 #[.agg #[.int .i64 P, .int .i64 D, .slice (some ⟨a0, oa, none⟩) n n], .slice (some ⟨g, 0, none⟩) k k, .agg #[.int .i64 P2, .int .i64 R, .int .i64 C, .slice (some ⟨s0, so, none⟩) n1 n1]] w fun e w' => e = .returned (.bool q) ∧ Ext w w' := by
  subst hM
  have HM := Lib.hid hm
  have HX := Lib.hid hX
  have HSP := Lib.hid (fun w1 (h : Ext w w1) => l10Space_spec (hT.ext h) hn (hm.ext h) hk (hX.ext h) hx (rfl : spcB P D l ms P2 R C xs = spcB P D l ms P2 R C xs))
  have HTL := Lib.hid hT.1
  have A0 := Lib.hid ((cells_new w #[.int .i64 P, .int .i64 D, .slice (some ⟨a0, oa, none⟩) n n] 29).ext ((Ext.refl _).alloc (.cells #[.int .i64 P2, .int .i64 R, .int .i64 C, .slice (some ⟨s0, so, none⟩) n1 n1] 37)))
  have B0 := Lib.hid (cells_new' (w.alloc (.cells #[.int .i64 P, .int .i64 D, .slice (some ⟨a0, oa, none⟩) n n] 29)) #[.int .i64 P2, .int .i64 R, .int .i64 C, .slice (some ⟨s0, so, none⟩) n1 n1] 37 (w.heap.size + 1) (by simp))
  have E0 := Lib.hid (((Ext.refl w).alloc (.cells #[.int .i64 P, .int .i64 D, .slice (some ⟨a0, oa, none⟩) n n] 29)).alloc (.cells #[.int .i64 P2, .int .i64 R, .int .i64 C, .slice (some ⟨s0, so, none⟩) n1 n1] 37))
  have lA := A0.out.1
  have q0 := A0.out.2 0 _ rfl
  have q1 := A0.out.2 1 _ rfl
  have q2 := A0.out.2 2 _ rfl
  have lB := B0.out.1
  have x0 := B0.out.2 0 _ rfl
  have x1 := B0.out.2 1 _ rfl
  have x2 := B0.out.2 2 _ rfl
  have x3 := B0.out.2 3 _ rfl
  clear hm hX hT
  rcases h1 : spcB P D l ms P2 R C xs with _ | _
  · have HF : Hid (smoB P D l ms P2 R C xs = false) := by rw [Hid, smoB_spc, h1, Bool.false_and]
    have H1 := Lib.hid h1
    rw [HF.out]
    clear h1
    go_enter Try.func45, Try.ntmps45
    go_wp2_with fail
    generalize ((w.alloc (.cells #[.int .i64 P, .int .i64 D, .slice (some ⟨a0, oa, none⟩) n n] 29)).alloc (.cells #[.int .i64 P2, .int .i64 R, .int .i64 C, .slice (some ⟨s0, so, none⟩) n1 n1] 37)) = W0 at *
    refine wp_region_held_drew (S := (fun w' => Ext W0 w' ∧ (∀ b o, b < W0.heap.size → w'.cell? ⟨b, o, none⟩ = W0.cell? ⟨b, o, none⟩))) (by kernel_rfl) (ext2 (Ext.refl W0).drew) (fun hHeld => ?_)
    refine wpAnyH_take (i := 0) (v := ?v86) rfl (by kernel_rfl) (by kernel_rfl) (by kernel_rfl) (fun _ _ _ h => h) (Or.inl ⟨by rfl, ?hy86⟩) hHeld ?rest86
    case hy86 => (intro wz hSw; (try dsimp only at hSw); go_simp; (try with_reducible rfl))
    (try simp only [Act.put, getElem_toArray, getElem_cons_succ, getElem_cons_zero]); (try simp only [setIfInBounds_toArray, set_cons_succ, set_cons_zero])
    refine wpAnyH_take (i := 1) (v := ?v87) rfl (by kernel_rfl) (by kernel_rfl) (by kernel_rfl) (fun _ _ _ h => h) (Or.inl ⟨by rfl, ?hy87⟩) hHeld ?rest87
    case hy87 => (intro wz hSw; (try dsimp only at hSw); go_simp; (try with_reducible rfl))
    (try simp only [Act.put, getElem_toArray, getElem_cons_succ, getElem_cons_zero]); (try simp only [setIfInBounds_toArray, set_cons_succ, set_cons_zero])
    refine wpAnyH_take (i := 2) (v := ?v88) rfl (by kernel_rfl) (by kernel_rfl) (by kernel_rfl) (fun _ _ _ h => h) (Or.inl ⟨by rfl, ?hy88⟩) hHeld ?rest88
    case hy88 => (intro wz hSw; (try dsimp only at hSw); go_simp; (try with_reducible rfl))
    (try simp only [Act.put, getElem_toArray, getElem_cons_succ, getElem_cons_zero]); (try simp only [setIfInBounds_toArray, set_cons_succ, set_cons_zero])
    refine wpAnyH_ready (rs := [3]) (by kernel_rfl) (by simp) ?_
    refine AllReadyH.cons rfl (fun K' hK => ?_) AllReadyH.nil
    go_simp
    refine (HSP.out _ (E0.out.trans (And.left hHeld))).mono ?_
    rintro e w2 ⟨rfl, h2⟩
    rw [H1.out]
    have X2 := (And.left hHeld).trans h2
    dsimp only
    refine hK.out _ _ (ext2 X2) (fun hHeld => ?_)
    clear hK
    refine wpAnyH_take (i := 4) (v := ?v89) rfl (by kernel_rfl) (by kernel_rfl) (by kernel_rfl) (fun _ _ _ h => h) (Or.inl ⟨by rfl, ?hy89⟩) hHeld ?rest89
    case hy89 => (intro wz hSw; (try dsimp only at hSw); go_simp; (try with_reducible rfl))
    (try simp only [Act.put, getElem_toArray, getElem_cons_succ, getElem_cons_zero]); (try simp only [setIfInBounds_toArray, set_cons_succ, set_cons_zero])
    refine wpAnyH_take (i := 5) (v := undef) rfl (by kernel_rfl) (by kernel_rfl) (by kernel_rfl) (fun _ _ _ h => h) (Or.inr ⟨by rfl, rfl⟩) hHeld ?rest90
    (try simp only [Act.put, getElem_toArray, getElem_cons_succ, getElem_cons_zero]); (try simp only [setIfInBounds_toArray, set_cons_succ, set_cons_zero])
    refine wpAnyH_take (i := 6) (v := undef) rfl (by kernel_rfl) (by kernel_rfl) (by kernel_rfl) (fun _ _ _ h => h) (Or.inr ⟨by rfl, rfl⟩) hHeld ?rest91
    (try simp only [Act.put, getElem_toArray, getElem_cons_succ, getElem_cons_zero]); (try simp only [setIfInBounds_toArray, set_cons_succ, set_cons_zero])
    refine wpAnyH_take (i := 7) (v := undef) rfl (by kernel_rfl) (by kernel_rfl) (by kernel_rfl) (fun _ _ _ h => h) (Or.inr ⟨by rfl, rfl⟩) hHeld ?rest92
    (try simp only [Act.put, getElem_toArray, getElem_cons_succ, getElem_cons_zero]); (try simp only [setIfInBounds_toArray, set_cons_succ, set_cons_zero])
    refine wpAnyH_take (i := 8) (v := undef) rfl (by kernel_rfl) (by kernel_rfl) (by kernel_rfl) (fun _ _ _ h => h) (Or.inr ⟨by rfl, rfl⟩) hHeld ?rest93
    (try simp only [Act.put, getElem_toArray, getElem_cons_succ, getElem_cons_zero]); (try simp only [setIfInBounds_toArray, set_cons_succ, set_cons_zero])
    refine wpAnyH_take (i := 9) (v := undef) rfl (by kernel_rfl) (by kernel_rfl) (by kernel_rfl) (fun _ _ _ h => h) (Or.inr ⟨by rfl, rfl⟩) hHeld ?rest94
    (try simp only [Act.put, getElem_toArray, getElem_cons_succ, getElem_cons_zero]); (try simp only [setIfInBounds_toArray, set_cons_succ, set_cons_zero])
    refine wpAnyH_take (i := 10) (v := undef) rfl (by kernel_rfl) (by kernel_rfl) (by kernel_rfl) (fun _ _ _ h => h) (Or.inr ⟨by rfl, rfl⟩) hHeld ?rest95
    (try simp only [Act.put, getElem_toArray, getElem_cons_succ, getElem_cons_zero]); (try simp only [setIfInBounds_toArray, set_cons_succ, set_cons_zero])
    refine wpAnyH_take (i := 11) (v := undef) rfl (by kernel_rfl) (by kernel_rfl) (by kernel_rfl) (fun _ _ _ h => h) (Or.inr ⟨by rfl, rfl⟩) hHeld ?rest96
    (try simp only [Act.put, getElem_toArray, getElem_cons_succ, getElem_cons_zero]); (try simp only [setIfInBounds_toArray, set_cons_succ, set_cons_zero])
    refine wpAnyH_take (i := 12) (v := undef) rfl (by kernel_rfl) (by kernel_rfl) (by kernel_rfl) (fun _ _ _ h => h) (Or.inr ⟨by rfl, rfl⟩) hHeld ?rest97
    (try simp only [Act.put, getElem_toArray, getElem_cons_succ, getElem_cons_zero]); (try simp only [setIfInBounds_toArray, set_cons_succ, set_cons_zero])
    refine wpAnyH_take (i := 13) (v := ?v98) rfl (by kernel_rfl) (by kernel_rfl) (by kernel_rfl) (fun _ _ _ h => h) (Or.inl ⟨by rfl, ?hy98⟩) hHeld ?rest98
    case hy98 => (intro wz hSw; (try dsimp only at hSw); go_simp; (try with_reducible rfl))
    (try simp only [Act.put, getElem_toArray, getElem_cons_succ, getElem_cons_zero]); (try simp only [setIfInBounds_toArray, set_cons_succ, set_cons_zero])
    refine wpAnyH_take (i := 14) (v := ?v99) rfl (by kernel_rfl) (by kernel_rfl) (by kernel_rfl) (fun _ _ _ h => h) (Or.inl ⟨by rfl, ?hy99⟩) hHeld ?rest99
    case hy99 => (intro wz hSw; (try dsimp only at hSw); go_simp; (try with_reducible rfl))
    (try simp only [Act.put, getElem_toArray, getElem_cons_succ, getElem_cons_zero]); (try simp only [setIfInBounds_toArray, set_cons_succ, set_cons_zero])
    refine wpAnyH_done (by kernel_rfl) ?_ _
    have X9 := Lib.hid (And.left hHeld)
    clear hHeld
    go_wp2
    go_ret
    exact ⟨rfl, E0.out.trans X9.out⟩
  have H1 := Lib.hid h1
  obtain ⟨d, S, r, rfl, hPP, rfl, rfl, hP, hSp, hxl, hpr, hr40⟩ := spc_parts h1 HTL.out
  subst hPP
  obtain rfl : d = k := by rw [← hP.cnt, hm_len HM.out]
  have HF : Hid (smoB P2 d l ms P2 r S xs = (((mvS P2 S ms (r, xs) d).1 : Int) == (r : Int))) := by rw [Hid, smoB_spc, h1, hP.szM, Int.toNat_natCast, Int.toNat_natCast, mvS_same (isP_iff.1 hpr) hSp, Bool.true_and]
  have HMV := Lib.hid (fun w1 (h : Ext w w1) => l10Moved_spec P2 S d g r s0 so n1 n1 (.slice (some ⟨a0, oa, none⟩) n n) ms xs w1 (HM.out.ext h) (HX.out.ext h) (by rw [← HX.out.1, hxl]) hP.pos hP.alg.dim hP.sz hSp (fun i hi => hP.at_ i hi) (fun i hi => hP.len hi) (fun i hi => hP.res hi) hpr)
  rw [HF.out]
  clear h1 hP hSp hxl hpr hr40 HF
  have hfd := run_fieldR
  go_enter Try.func45, Try.ntmps45
  go_wp2_with fail
  generalize ((w.alloc (.cells #[.int .i64 P2, .int .i64 d, .slice (some ⟨a0, oa, none⟩) n n] 29)).alloc (.cells #[.int .i64 P2, .int .i64 r, .int .i64 S, .slice (some ⟨s0, so, none⟩) n1 n1] 37)) = W0 at *
  refine wp_region_held_drew (S := (fun w' => Ext W0 w' ∧ (∀ b o, b < W0.heap.size → w'.cell? ⟨b, o, none⟩ = W0.cell? ⟨b, o, none⟩))) (by kernel_rfl) (ext2 (Ext.refl W0).drew) (fun hHeld => ?_)
  refine wpAnyH_take (i := 0) (v := ?v100) rfl (by kernel_rfl) (by kernel_rfl) (by kernel_rfl) (fun _ _ _ h => h) (Or.inl ⟨by rfl, ?hy100⟩) hHeld ?rest100
  case hy100 => (intro wz hSw; (try dsimp only at hSw); go_simp; (try with_reducible rfl))
  (try simp only [Act.put, getElem_toArray, getElem_cons_succ, getElem_cons_zero]); (try simp only [setIfInBounds_toArray, set_cons_succ, set_cons_zero])
  refine wpAnyH_take (i := 1) (v := ?v101) rfl (by kernel_rfl) (by kernel_rfl) (by kernel_rfl) (fun _ _ _ h => h) (Or.inl ⟨by rfl, ?hy101⟩) hHeld ?rest101
  case hy101 => (intro wz hSw; (try dsimp only at hSw); go_simp; (try with_reducible rfl))
  (try simp only [Act.put, getElem_toArray, getElem_cons_succ, getElem_cons_zero]); (try simp only [setIfInBounds_toArray, set_cons_succ, set_cons_zero])
  refine wpAnyH_take (i := 2) (v := ?v102) rfl (by kernel_rfl) (by kernel_rfl) (by kernel_rfl) (fun _ _ _ h => h) (Or.inl ⟨by rfl, ?hy102⟩) hHeld ?rest102
  case hy102 => (intro wz hSw; (try dsimp only at hSw); go_simp; (try with_reducible rfl))
  (try simp only [Act.put, getElem_toArray, getElem_cons_succ, getElem_cons_zero]); (try simp only [setIfInBounds_toArray, set_cons_succ, set_cons_zero])
  refine wpAnyH_ready (rs := [3]) (by kernel_rfl) (by simp) ?_
  refine AllReadyH.cons rfl (fun K' hK => ?_) AllReadyH.nil
  go_simp
  refine (HSP.out _ (E0.out.trans (And.left hHeld))).mono ?_
  rintro e w2 ⟨rfl, h2⟩
  rw [H1.out]
  have X2 := (And.left hHeld).trans h2
  dsimp only
  refine hK.out _ _ (ext2 X2) (fun hHeld => ?_)
  clear hK
  refine wpAnyH_take (i := 4) (v := ?v103) rfl (by kernel_rfl) (by kernel_rfl) (by kernel_rfl) (fun _ _ _ h => h) (Or.inl ⟨by rfl, ?hy103⟩) hHeld ?rest103
  case hy103 => (intro wz hSw; (try dsimp only at hSw); go_simp; (try with_reducible rfl))
  (try simp only [Act.put, getElem_toArray, getElem_cons_succ, getElem_cons_zero]); (try simp only [setIfInBounds_toArray, set_cons_succ, set_cons_zero])
  refine wpAnyH_take (i := 5) (v := ?v104) rfl (by kernel_rfl) (by kernel_rfl) (by kernel_rfl) (fun _ _ _ h => h) (Or.inl ⟨by rfl, ?hy104⟩) hHeld ?rest104
  case hy104 => (intro wz hSw; (try dsimp only at hSw); go_simp; (try with_reducible rfl))
  (try simp only [Act.put, getElem_toArray, getElem_cons_succ, getElem_cons_zero]); (try simp only [setIfInBounds_toArray, set_cons_succ, set_cons_zero])
  refine wpAnyH_take (i := 6) (v := ?v105) rfl (by kernel_rfl) (by kernel_rfl) (by kernel_rfl) (fun _ _ _ h => h) (Or.inl ⟨by rfl, ?hy105⟩) hHeld ?rest105
  case hy105 => (intro wz hSw; (try dsimp only at hSw); go_simp; (try with_reducible rfl))
  (try simp only [Act.put, getElem_toArray, getElem_cons_succ, getElem_cons_zero]); (try simp only [setIfInBounds_toArray, set_cons_succ, set_cons_zero])
  refine wpAnyH_take (i := 7) (v := ?v106) rfl (by kernel_rfl) (by kernel_rfl) (by kernel_rfl) (fun _ _ _ h => h) (Or.inl ⟨by rfl, ?hy106⟩) hHeld ?rest106
  case hy106 => (intro wz hSw; (try dsimp only at hSw); go_simp; (try with_reducible rfl))
  (try simp only [Act.put, getElem_toArray, getElem_cons_succ, getElem_cons_zero]); (try simp only [setIfInBounds_toArray, set_cons_succ, set_cons_zero])
  refine wpAnyH_take (i := 10) (v := ?v107) rfl (by kernel_rfl) (by kernel_rfl) (by kernel_rfl) (fun _ _ _ h => h) (Or.inl ⟨by rfl, ?hy107⟩) hHeld ?rest107
  case hy107 => (intro wz hSw; (try dsimp only at hSw); go_simp; (try with_reducible rfl))
  (try simp only [Act.put, getElem_toArray, getElem_cons_succ, getElem_cons_zero]); (try simp only [setIfInBounds_toArray, set_cons_succ, set_cons_zero])
  refine wpAnyH_take (i := 11) (v := ?v108) rfl (by kernel_rfl) (by kernel_rfl) (by kernel_rfl) (fun _ _ _ h => h) (Or.inl ⟨by rfl, ?hy108⟩) hHeld ?rest108
  case hy108 => (intro wz hSw; (try dsimp only at hSw); go_simp; (try with_reducible rfl))
  (try simp only [Act.put, getElem_toArray, getElem_cons_succ, getElem_cons_zero]); (try simp only [setIfInBounds_toArray, set_cons_succ, set_cons_zero])
  refine wpAnyH_ready (rs := [8]) (by kernel_rfl) (by simp) ?_
  refine AllReadyH.cons rfl (fun K' hK => ?_) AllReadyH.nil
  go_simp
  refine (HMV.out _ (E0.out.trans (And.left hHeld))).mono ?_
  rintro e w3 ⟨b3, c3, rfl, _, _, _, h3⟩
  have X3 := (And.left hHeld).trans h3
  dsimp only
  refine hK.out _ _ (ext2 X3) (fun hHeld => ?_)
  clear hK
  refine wpAnyH_take (i := 9) (v := ?v109) rfl (by kernel_rfl) (by kernel_rfl) (by kernel_rfl) (fun _ _ _ h => h) (Or.inl ⟨by rfl, ?hy109⟩) hHeld ?rest109
  case hy109 => (intro wz hSw; (try dsimp only at hSw); go_simp; (try with_reducible rfl))
  (try simp only [Act.put, getElem_toArray, getElem_cons_succ, getElem_cons_zero]); (try simp only [setIfInBounds_toArray, set_cons_succ, set_cons_zero])
  refine wpAnyH_take (i := 12) (v := ?v110) rfl (by kernel_rfl) (by kernel_rfl) (by kernel_rfl) (fun _ _ _ h => h) (Or.inl ⟨by rfl, ?hy110⟩) hHeld ?rest110
  case hy110 => (intro wz hSw; (try dsimp only at hSw); go_simp; (try with_reducible rfl))
  (try simp only [Act.put, getElem_toArray, getElem_cons_succ, getElem_cons_zero]); (try simp only [setIfInBounds_toArray, set_cons_succ, set_cons_zero])
  refine wpAnyH_take (i := 13) (v := ?v111) rfl (by kernel_rfl) (by kernel_rfl) (by kernel_rfl) (fun _ _ _ h => h) (Or.inl ⟨by rfl, ?hy111⟩) hHeld ?rest111
  case hy111 => (intro wz hSw; (try dsimp only at hSw); go_simp; (try with_reducible rfl))
  (try simp only [Act.put, getElem_toArray, getElem_cons_succ, getElem_cons_zero]); (try simp only [setIfInBounds_toArray, set_cons_succ, set_cons_zero])
  refine wpAnyH_take (i := 14) (v := ?v112) rfl (by kernel_rfl) (by kernel_rfl) (by kernel_rfl) (fun _ _ _ h => h) (Or.inl ⟨by rfl, ?hy112⟩) hHeld ?rest112
  case hy112 => (intro wz hSw; (try dsimp only at hSw); go_simp; (try with_reducible rfl))
  (try simp only [Act.put, getElem_toArray, getElem_cons_succ, getElem_cons_zero]); (try simp only [setIfInBounds_toArray, set_cons_succ, set_cons_zero])
  refine wpAnyH_done (by kernel_rfl) ?_ _
  have X9 := Lib.hid (And.left hHeld)
  clear hHeld
  go_wp2
  go_ret
  exact ⟨rfl, E0.out.trans X9.out⟩
end Go.Proofs.Ytnikfalpjieibaa
