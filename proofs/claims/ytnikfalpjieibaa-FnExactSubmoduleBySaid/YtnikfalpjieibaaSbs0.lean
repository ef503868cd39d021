/-
  Submodules: the moved space, by the specification.
-/
import Derived.Test.YtnikfalpjieibaaSbi
import Derived.Test.YtnikfalpjieibaaCs
namespace Go.Proofs.Ytnikfalpjieibaa
open Go.ChangeShapes Go.WideShapes Go.ChangeAt Go.RowKit
open List (getElem_toArray getElem_cons_succ getElem_cons_zero setIfInBounds_toArray set_cons_succ set_cons_zero)
set_option linter.unusedVariables false
set_option linter.unusedSimpArgs false

set_option maxRecDepth 100000 in
set_option maxHeartbeats 12800000 in
theorem l10Moved_spec (P : Int) (S k g R s0 so n1 cs : Nat) (av : Value) (ms : List Mat) (ss : List Int) (w : World) (hm : MatsI w g k ms) (hX : Reads w (some ⟨s0, so, none⟩) n1 ss) (hn : n1 = R * S) (hk0 : 0 < k) (hk : k ≤ 28) (hS : S ≤ 30) (hs : Spc P S (R, ss)) (he : ∀ i, i < k → mt ms i = ⟨P, S, S, (mt ms i).d⟩) (hl : ∀ i, i < k → (mt ms i).d.length = S * S) (hr : ∀ i, i < k → Res (mt ms i).d P) (hpr : isP P = true) :
    Calls Try.prog 85 #[.agg #[.int .i64 P, .int .i64 k, av], .slice (some ⟨g, 0, none⟩) k k, .agg #[.int .i64 P, .int .i64 R, .int .i64 S, .slice (some ⟨s0, so, none⟩) n1 cs]] w fun e w' => ∃ b c, e = .returned (.agg #[.int .i64 P, .int .i64 ((mvS P S ms (R, ss) k).1 : Nat), .int .i64 S, .slice (some ⟨b, 0, none⟩) ((mvS P S ms (R, ss) k).1 * S) c]) ∧ w.heap.size ≤ b ∧ b < w'.heap.size ∧ Has w' b (mvS P S ms (R, ss) k).2 ∧ Ext w w' := by
  have HM := Lib.hid hm
  have HX := Lib.hid hX
  have HN := Lib.hid hn
  have HE := Lib.hid he
  have HL := Lib.hid hl
  have HR := Lib.hid hr
  have hp := isP_lo hpr
  have hp2 := isP_hi hpr
  have hp0 : 0 < P := by omega
  have hPP : IsP P := isP_iff.1 hpr
  have hR : R ≤ 30 := Nat.le_trans hs.le hS
  have HXR : Hid (Res ss P) := hs.res
  have HRS : Hid (R * S ≤ 900) := Nat.mul_le_mul hR hS
  have hSS : S * S ≤ 900 := Nat.mul_le_mul hS hS
  have HMV : Hid (∀ i, Spc P S (mvS P S ms (R, ss) i)) := fun i => mvS_spc hPP hs i
  have HMB : Hid (∀ i, (mvS P S ms (R, ss) i).1 ≤ 30 ∧ (mvS P S ms (R, ss) i).1 * S ≤ 900) := fun i => ⟨Nat.le_trans (HMV.out i).le hS, Nat.mul_le_mul (Nat.le_trans (HMV.out i).le hS) hS⟩
  have HJ : Hid (∀ i w1 b ob c b' c', Reads w1 (some ⟨b, ob, none⟩) ((mvS P S ms (R, ss) i).1 * S) (mvS P S ms (R, ss) i).2 → Reads w1 (some ⟨b', 0, none⟩) (R * S) (imR P S ms (R, ss) i) → Calls Try.prog 115 #[.agg #[.int .i64 P, .int .i64 ((mvS P S ms (R, ss) i).1 : Nat), .int .i64 S, .slice (some ⟨b, ob, none⟩) ((mvS P S ms (R, ss) i).1 * S) c], .agg #[.int .i64 P, .int .i64 R, .int .i64 S, .slice (some ⟨b', 0, none⟩) (R * S) c']] w1 fun e w' => ∃ b d, e = .returned (.agg #[.int .i64 P, .int .i64 ((mvS P S ms (R, ss) (i + 1)).1 : Nat), .int .i64 S, .slice (some ⟨b, 0, none⟩) ((mvS P S ms (R, ss) (i + 1)).1 * S) d]) ∧ w1.heap.size ≤ b ∧ b < w'.heap.size ∧ Has w' b (mvS P S ms (R, ss) (i + 1)).2 ∧ Ext w1 w') := fun i w1 b ob c b' c' h1 h2 => by
    have u := HMB.out i
    have v := HRS.out
    exact l1Join_spec P P S (mvS P S ms (R, ss) i).1 R S _ _ c c' ⟨b, ob, none⟩ ⟨b', 0, none⟩ _ _ w1 h1 h2 rfl rfl (by omega) (by omega) (by omega) hpr (HMV.out i).res (imR_res hp0 _ _)
  clear hm hX hn he hl hr hs hPP
  have A0 := Lib.hid (((cells_new w #[.int .i64 P, .int .i64 k, av] 29).ext ((Ext.refl _).alloc (.cells #[.int .i64 P, .int .i64 R, .int .i64 S, .slice (some ⟨s0, so, none⟩) n1 cs] 37))).ext ((Ext.refl _).alloc (.cells #[.int .i64 0, .int .i64 0, .int .i64 0, .slice none 0 0] 37)))
  have B0 := Lib.hid ((cells_new' (w.alloc (.cells #[.int .i64 P, .int .i64 k, av] 29)) #[.int .i64 P, .int .i64 R, .int .i64 S, .slice (some ⟨s0, so, none⟩) n1 cs] 37 (w.heap.size + 1) (by simp)).ext ((Ext.refl _).alloc (.cells #[.int .i64 0, .int .i64 0, .int .i64 0, .slice none 0 0] 37)))
  have M0 := Lib.hid (cells_new' ((w.alloc (.cells #[.int .i64 P, .int .i64 k, av] 29)).alloc (.cells #[.int .i64 P, .int .i64 R, .int .i64 S, .slice (some ⟨s0, so, none⟩) n1 cs] 37)) #[.int .i64 0, .int .i64 0, .int .i64 0, .slice none 0 0] 37 (w.heap.size + 1 + 1) (by simp))
  have E0 := Lib.hid ((((Ext.refl w).alloc (.cells #[.int .i64 P, .int .i64 k, av] 29)).alloc (.cells #[.int .i64 P, .int .i64 R, .int .i64 S, .slice (some ⟨s0, so, none⟩) n1 cs] 37)).alloc (.cells #[.int .i64 0, .int .i64 0, .int .i64 0, .slice none 0 0] 37))
  have HSZ : Hid ((((w.alloc (.cells #[.int .i64 P, .int .i64 k, av] 29)).alloc (.cells #[.int .i64 P, .int .i64 R, .int .i64 S, .slice (some ⟨s0, so, none⟩) n1 cs] 37)).alloc (.cells #[.int .i64 0, .int .i64 0, .int .i64 0, .slice none 0 0] 37)).heap.size = w.heap.size + 1 + 1 + 1) := by simp [Hid]
  have lB := B0.out.1
  have x0 := B0.out.2 0 _ rfl
  have x1 := B0.out.2 1 _ rfl
  have x2 := B0.out.2 2 _ rfl
  have x3 := B0.out.2 3 _ rfl
  go_enter Try.func85, Try.ntmps85
  go_upto_region 1 with fail
  generalize (((w.alloc (.cells #[.int .i64 P, .int .i64 k, av] 29)).alloc (.cells #[.int .i64 P, .int .i64 R, .int .i64 S, .slice (some ⟨s0, so, none⟩) n1 cs] 37)).alloc (.cells #[.int .i64 0, .int .i64 0, .int .i64 0, .slice none 0 0] 37)) = W0 at *
  go_wp2_with fail
  obtain ⟨ZB, hZB⟩ : ∃ ZB, ZB = W0.heap.size := ⟨_, rfl⟩
  have L1 := Lib.hid (cells_new W0 #[.int .i64 P, .int .i64 R, .int .i64 S, .slice (some ⟨s0, so, none⟩) n1 cs] 37)
  have L3 := Lib.hid ((Ext.refl W0).alloc (.cells #[.int .i64 P, .int .i64 R, .int .i64 S, .slice (some ⟨s0, so, none⟩) n1 cs] 37))
  generalize (W0.alloc (.cells #[.int .i64 P, .int .i64 R, .int .i64 S, .slice (some ⟨s0, so, none⟩) n1 cs] 37)) = WZ at *
  rw [← hZB] at L1
  rw [← hZB]
  have HZB : Hid (ZB = w.heap.size + 1 + 1 + 1) := by rw [Hid, hZB]; exact HSZ.out
  have HZW := Lib.hid hZB
  clear lB x0 x1 x2 x3 hZB
  rw [HN.out] at L1
  have L2 : Hid (Reads WZ (some ⟨s0, so, none⟩) ((mvS P S ms (R, ss) 0).1 * S) (mvS P S ms (R, ss) 0).2) := by have := HX.out.ext (E0.out.trans L3.out); rwa [HN.out] at this
  have L1' : Hid (Cells WZ ZB [.int .i64 P, .int .i64 ((mvS P S ms (R, ss) 0).1 : Nat), .int .i64 S, .slice (some ⟨s0, so, none⟩) ((mvS P S ms (R, ss) 0).1 * S) cs]) := L1
  clear L1
  go_loopw [8] (fun z wr => ∃ (i b ob c : Nat), i ≤ k ∧ z = .int .i64 i ∧ Hid (Cells wr ZB [.int .i64 P, .int .i64 ((mvS P S ms (R, ss) i).1 : Nat), .int .i64 S, .slice (some ⟨b, ob, none⟩) ((mvS P S ms (R, ss) i).1 * S) c]) ∧ Hid (Reads wr (some ⟨b, ob, none⟩) ((mvS P S ms (R, ss) i).1 * S) (mvS P S ms (R, ss) i).2) ∧ Hid (0 < i → ob = 0 ∧ Has wr b (mvS P S ms (R, ss) i).2 ∧ ZB ≤ b ∧ b ≠ ZB) ∧ Hid (Ext W0 wr)) (fun z _ => k - (intOf z).toNat)
  case atStart => exact ⟨0, s0, so, cs, by omega, rfl, L1', L2, fun h => absurd h (by omega), L3⟩
  case round =>
    clear L1' L2 L3
    obtain ⟨i, b, ob, c, hi, rfl, L1, L2, L4, L3⟩ := hrel
    have AW := A0.out.ext L3.out
    have lA := AW.1
    have q1 := AW.2 1 _ rfl
    clear AW
    by_cases hlt : i < k
    · have hltI : (i : Int) < (k : Int) := by omega
      have HMw := HM.out.ext (E0.out.trans L3.out)
      have lG := HMw.lt
      obtain ⟨bj, c0, c1, c2, c3, hrd⟩ := HMw.cells hlt (HE.out i hlt) (HL.out i hlt)
      have HRD := Lib.hid hrd
      have BW := B0.out.ext L3.out
      have lB := BW.1
      have x0 := BW.2 0 _ rfl
      have x1 := BW.2 1 _ rfl
      have x2 := BW.2 2 _ rfl
      have x3 := BW.2 3 _ rfl
      have lZ := L1.out.1
      have p0 := L1.out.2 0 _ rfl
      have p1 := L1.out.2 1 _ rfl
      have p2 := L1.out.2 2 _ rfl
      have p3 := L1.out.2 3 _ rfl
      have nG : g ≠ ZB := by have := HM.out.lt; have := HZB.out; omega
      have nB : w.heap.size + 1 ≠ ZB := by have := HZB.out; omega
      have HJi := Lib.hid (HJ.out i)
      clear HMw hrd BW
      generalize (mvS P S ms (R, ss) i).1 = ri at *
      generalize (mvS P S ms (R, ss) i).2 = xi at *
      go_wp2_with fail
      refine wp_region_held_drew (S := fun w' => wr.grownBy w' (some ZB) ∧ ∀ B o, B ≠ ZB → B < wr.heap.size → w'.cell? ⟨B, o, none⟩ = wr.cell? ⟨B, o, none⟩) (by kernel_rfl) keptB_drew (fun hHeld => ?_)
      refine wpAnyH_take (i := 1) (v := ?v81) rfl (by kernel_rfl) (by kernel_rfl) (by kernel_rfl) (fun _ _ _ h => h) (Or.inl ⟨by rfl, ?hy81⟩) hHeld ?rest81
      case hy81 => (intro wz hSw; (try dsimp only at hSw); go_simp; (try with_reducible rfl))
      (try simp only [Act.put, getElem_toArray, getElem_cons_succ, getElem_cons_zero]); (try simp only [setIfInBounds_toArray, set_cons_succ, set_cons_zero])
      refine wpAnyH_take (i := 2) (v := ?v82) rfl (by kernel_rfl) (by kernel_rfl) (by kernel_rfl) (fun _ _ _ h => h) (Or.inl ⟨by rfl, ?hy82⟩) hHeld ?rest82
      case hy82 => (intro wz hSw; (try dsimp only at hSw); go_simp; (try with_reducible rfl))
      (try simp only [Act.put, getElem_toArray, getElem_cons_succ, getElem_cons_zero]); (try simp only [setIfInBounds_toArray, set_cons_succ, set_cons_zero])
      refine wpAnyH_take (i := 3) (v := ?v83) rfl (by kernel_rfl) (by kernel_rfl) (by kernel_rfl) (fun _ _ _ h => h) (Or.inl ⟨by rfl, ?hy83⟩) hHeld ?rest83
      case hy83 => (intro wz hSw; (try dsimp only at hSw); go_simp; (try with_reducible rfl))
      (try simp only [Act.put, getElem_toArray, getElem_cons_succ, getElem_cons_zero]); (try simp only [setIfInBounds_toArray, set_cons_succ, set_cons_zero])
      refine wpAnyH_take (i := 4) (v := ?v84) rfl (by kernel_rfl) (by kernel_rfl) (by kernel_rfl) (fun _ _ _ h => h) (Or.inl ⟨by rfl, ?hy84⟩) hHeld ?rest84
      case hy84 => (intro wz hSw; (try dsimp only at hSw); go_simp; (try with_reducible rfl))
      (try simp only [Act.put, getElem_toArray, getElem_cons_succ, getElem_cons_zero]); (try simp only [setIfInBounds_toArray, set_cons_succ, set_cons_zero])
      refine wpAnyH_take (i := 5) (v := ?v85) rfl (by kernel_rfl) (by kernel_rfl) (by kernel_rfl) (fun _ _ _ h => h) (Or.inl ⟨by rfl, ?hy85⟩) hHeld ?rest85
      case hy85 => (intro wz hSw; (try dsimp only at hSw); go_simp; (try with_reducible rfl))
      (try simp only [Act.put, getElem_toArray, getElem_cons_succ, getElem_cons_zero]); (try simp only [setIfInBounds_toArray, set_cons_succ, set_cons_zero])
      refine wpAnyH_ready (rs := [0, 6]) (by kernel_rfl) (by simp) ?_
      refine AllReadyH.cons rfl (fun K' hK => ?_) (AllReadyH.cons rfl (fun K' hK => ?_) AllReadyH.nil)
      · skip
        go_simp
        refine hK.out _ _ hHeld (fun hHeld => ?_)
        clear hK
        refine wpAnyH_ready (rs := [6]) (by kernel_rfl) (by simp) ?_
        refine AllReadyH.cons rfl (fun K' hK => ?_) AllReadyH.nil
        go_simp
        refine (l1Mul_spec P R S S (some ⟨s0, so, none⟩) (some ⟨bj, 0, none⟩) n1 cs (S * S) (S * S) ss (mt ms i).d _ (HX.out.ext ((E0.out.trans L3.out).drew)) (HRD.out.ext (Ext.refl _).drew) HN.out rfl (by omega) (by omega) (by omega) hp hp2 HXR.out (HR.out i hlt)).mono ?_
        rintro e w7 ⟨b7, rfl, hb7, hb7', k7, h7⟩
        have X7 := (Ext.refl wr).drew.trans h7
        have z7 := X7.le
        have M7 := L1.out.ext X7
        have lY := M7.1
        have s0' := M7.2 0 _ rfl
        have s1' := M7.2 1 _ rfl
        have s2' := M7.2 2 _ rfl
        have s3' := M7.2 3 _ rfl
        clear M7
        dsimp only
        refine hK.out _ _ (keptB_call hHeld h7) (fun hHeld => ?_)
        clear hK
        refine wpAnyH_ready (rs := [7]) (by kernel_rfl) (by simp) ?_
        refine AllReadyH.cons rfl (fun K' hK => ?_) AllReadyH.nil
        go_simp
        refine (HJi.out _ b ob c b7 _ (L2.out.ext X7) (k7.reads (imR_length (R, ss) i))).mono ?_
        rintro e w8 ⟨b8, c8, rfl, hb8, hb8', k8, h8⟩
        have X8 := X7.trans h8
        have z8 := X8.le
        have M8 := L1.out.ext X8
        have lW := M8.1
        have t0 := M8.2 0 _ rfl
        have t1 := M8.2 1 _ rfl
        have t2 := M8.2 2 _ rfl
        have t3 := M8.2 3 _ rfl
        have tf := M8.3
        clear M8
        dsimp only
        refine hK.out _ _ (keptB_call hHeld h8) (fun hHeld => ?_)
        clear hK
        refine wpAnyH_ready (rs := [8]) (by kernel_rfl) (by simp) ?_
        refine AllReadyH.cons rfl (fun K' hK => ?_) AllReadyH.nil
        go_simp
        refine hK.out _ _ (kb4 hHeld _ _ _ _) (fun hHeld => ?_)
        clear hK
        refine wpAnyH_done (by kernel_rfl) ?_ _
        have hne : b8 ≠ ZB := by omega
        have N1 := Lib.hid (early4 (lo := 0) (v0 := .int .i64 P) (v1 := .int .i64 ((mvS P S ms (R, ss) (i + 1)).1 : Nat)) (v2 := .int .i64 S) (v3 := .slice (some ⟨b8, 0, none⟩) ((mvS P S ms (R, ss) (i + 1)).1 * S) c8) (L1.out.ext X8))
        have N2 := Lib.hid (ha4 k8 hne (.int .i64 P) (.int .i64 ((mvS P S ms (R, ss) (i + 1)).1 : Nat)) (.int .i64 S) (.slice (some ⟨b8, 0, none⟩) ((mvS P S ms (R, ss) (i + 1)).1 * S) c8))
        have N3 := Lib.hid (ext4 (L3.out.trans X8) (Nat.le_of_eq HZW.out.symm) (.int .i64 P) (.int .i64 ((mvS P S ms (R, ss) (i + 1)).1 : Nat)) (.int .i64 S) (.slice (some ⟨b8, 0, none⟩) ((mvS P S ms (R, ss) (i + 1)).1 * S) c8))
        have N5 := Lib.hid (N2.out.reads (HMV.out (i + 1)).len)
        have N4 : ZB ≤ b8 := by omega
        clear hHeld L1 L2 L3 L4 X7 X8 k7 k8 h7 h8 lA q1 lZ p0 p1 p2 p3 lG c0 c1 c2 c3 t0 t1 t2 t3 tf lW lY s0' s1' s2' s3' lB x0 x1 x2 x3 HRD HJi
        go_wp2
        exact ⟨⟨i + 1, b8, 0, c8, by omega, by simp, N1, N5, fun _ => ⟨rfl, N2.out, N4, hne⟩, N3⟩, by simp [intOf]; omega⟩
      · skip
        go_simp
        refine (l1Mul_spec P R S S (some ⟨s0, so, none⟩) (some ⟨bj, 0, none⟩) n1 cs (S * S) (S * S) ss (mt ms i).d _ (HX.out.ext ((E0.out.trans L3.out).drew)) (HRD.out.ext (Ext.refl _).drew) HN.out rfl (by omega) (by omega) (by omega) hp hp2 HXR.out (HR.out i hlt)).mono ?_
        rintro e w7 ⟨b7, rfl, hb7, hb7', k7, h7⟩
        have X7 := (Ext.refl wr).drew.trans h7
        have z7 := X7.le
        have M7 := L1.out.ext X7
        have lY := M7.1
        have s0' := M7.2 0 _ rfl
        have s1' := M7.2 1 _ rfl
        have s2' := M7.2 2 _ rfl
        have s3' := M7.2 3 _ rfl
        clear M7
        dsimp only
        refine hK.out _ _ (keptB_call hHeld h7) (fun hHeld => ?_)
        clear hK
        refine wpAnyH_ready (rs := [0]) (by kernel_rfl) (by simp) ?_
        refine AllReadyH.cons rfl (fun K' hK => ?_) AllReadyH.nil
        go_simp
        refine hK.out _ _ hHeld (fun hHeld => ?_)
        clear hK
        refine wpAnyH_ready (rs := [7]) (by kernel_rfl) (by simp) ?_
        refine AllReadyH.cons rfl (fun K' hK => ?_) AllReadyH.nil
        go_simp
        refine (HJi.out _ b ob c b7 _ (L2.out.ext X7) (k7.reads (imR_length (R, ss) i))).mono ?_
        rintro e w8 ⟨b8, c8, rfl, hb8, hb8', k8, h8⟩
        have X8 := X7.trans h8
        have z8 := X8.le
        have M8 := L1.out.ext X8
        have lW := M8.1
        have t0 := M8.2 0 _ rfl
        have t1 := M8.2 1 _ rfl
        have t2 := M8.2 2 _ rfl
        have t3 := M8.2 3 _ rfl
        have tf := M8.3
        clear M8
        dsimp only
        refine hK.out _ _ (keptB_call hHeld h8) (fun hHeld => ?_)
        clear hK
        refine wpAnyH_ready (rs := [8]) (by kernel_rfl) (by simp) ?_
        refine AllReadyH.cons rfl (fun K' hK => ?_) AllReadyH.nil
        go_simp
        refine hK.out _ _ (kb4 hHeld _ _ _ _) (fun hHeld => ?_)
        clear hK
        refine wpAnyH_done (by kernel_rfl) ?_ _
        have hne : b8 ≠ ZB := by omega
        have N1 := Lib.hid (early4 (lo := 0) (v0 := .int .i64 P) (v1 := .int .i64 ((mvS P S ms (R, ss) (i + 1)).1 : Nat)) (v2 := .int .i64 S) (v3 := .slice (some ⟨b8, 0, none⟩) ((mvS P S ms (R, ss) (i + 1)).1 * S) c8) (L1.out.ext X8))
        have N2 := Lib.hid (ha4 k8 hne (.int .i64 P) (.int .i64 ((mvS P S ms (R, ss) (i + 1)).1 : Nat)) (.int .i64 S) (.slice (some ⟨b8, 0, none⟩) ((mvS P S ms (R, ss) (i + 1)).1 * S) c8))
        have N3 := Lib.hid (ext4 (L3.out.trans X8) (Nat.le_of_eq HZW.out.symm) (.int .i64 P) (.int .i64 ((mvS P S ms (R, ss) (i + 1)).1 : Nat)) (.int .i64 S) (.slice (some ⟨b8, 0, none⟩) ((mvS P S ms (R, ss) (i + 1)).1 * S) c8))
        have N5 := Lib.hid (N2.out.reads (HMV.out (i + 1)).len)
        have N4 : ZB ≤ b8 := by omega
        clear hHeld L1 L2 L3 L4 X7 X8 k7 k8 h7 h8 lA q1 lZ p0 p1 p2 p3 lG c0 c1 c2 c3 t0 t1 t2 t3 tf lW lY s0' s1' s2' s3' lB x0 x1 x2 x3 HRD HJi
        go_wp2
        exact ⟨⟨i + 1, b8, 0, c8, by omega, by simp, N1, N5, fun _ => ⟨rfl, N2.out, N4, hne⟩, N3⟩, by simp [intOf]; omega⟩
    · obtain rfl : i = k := by omega
      obtain ⟨rfl, hh, hb1, hb2⟩ := L4.out hk0
      have M4 := M0.out.ext L3.out
      have f0 := M4.2 0 _ rfl
      have f1 := M4.2 1 _ rfl
      have f2 := M4.2 2 _ rfl
      have f3 := M4.2 3 _ rfl
      have t0 := M4.3
      have lZ := L1.out.1
      have p0 := L1.out.2 0 _ rfl
      have p1 := L1.out.2 1 _ rfl
      have p2 := L1.out.2 2 _ rfl
      have p3 := L1.out.2 3 _ rfl
      have nR : w.heap.size + 1 + 1 ≠ ZB := by have := HZB.out; omega
      go_wp2
      have hle := L3.out.le
      have hsz := HSZ.out
      have hbl := hh.lt
      have hzb := HZB.out
      refine bodyPost_ret (v := .agg #[.int .i64 P, .int .i64 ((mvS P S ms (R, ss) i).1 : Nat), .int .i64 S, .slice (some ⟨b, 0, none⟩) ((mvS P S ms (R, ss) i).1 * S) c]) (by simp [results, Try.results85, go_sem, f0, f1, f2, f3]) rfl ⟨b, ⟨c, rfl⟩, by omega, ?_, ?_, ?_⟩
      · simpa using hbl
      · exact ha4 hh (by omega) _ _ _ _
      · exact ext4 (E0.out.trans L3.out) (by omega) _ _ _ _
end Go.Proofs.Ytnikfalpjieibaa
