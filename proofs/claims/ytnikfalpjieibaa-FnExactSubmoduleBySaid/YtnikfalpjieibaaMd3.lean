/-
  Modules in the program: obeysBrackets.
-/
import Derived.Test.YtnikfalpjieibaaMd2
import Derived.Test.YtnikfalpjieibaaCs
namespace Go.Proofs.Ytnikfalpjieibaa
open Go.ChangeShapes Go.WideShapes Go.ChangeAt Go.RowKit
set_option linter.unusedVariables false
set_option linter.unusedSimpArgs false

noncomputable def lawsB (P : Int) (D S : Nat) (l : List Int) (ms : List Mat) : Bool := @decide (∀ i j, j < i → i < D → LawI P D S l ms i j) (Classical.propDecidable _)
theorem lawsB_true {P : Int} {D S : Nat} {l : List Int} {ms : List Mat} (h : ∀ i j, j < i → i < D → LawI P D S l ms i j) : lawsB P D S l ms = true := by simp only [lawsB, decide_eq_true_eq]; exact h
theorem lawsB_false {P : Int} {D S : Nat} {l : List Int} {ms : List Mat} {i j : Nat} (hj : j < i) (hi : i < D) (h : ¬ LawI P D S l ms i j) : lawsB P D S l ms = false := by simp only [lawsB, decide_eq_false_iff_not]; exact fun h' => h (h' i j hj hi)
theorem lawsB_iff {P : Int} {D S : Nat} {l : List Int} {ms : List Mat} : lawsB P D S l ms = true ↔ ∀ i j, j < i → i < D → LawI P D S l ms i j := by simp only [lawsB, decide_eq_true_eq]
/-- One matrix of the list, as its size says. -/
theorem MatsI.cells {w : World} {g k : Nat} {ms : List Mat} (h : MatsI w g k ms) {P : Int} {S j : Nat} (hj : j < k) (he : mt ms j = ⟨P, S, S, (mt ms j).d⟩) (hl : (mt ms j).d.length = S * S) : ∃ bj, w.cell? ⟨g, j * 4, none⟩ = some (.int .i64 P) ∧ w.cell? ⟨g, j * 4 + 1, none⟩ = some (.int .i64 S) ∧ w.cell? ⟨g, j * 4 + 2, none⟩ = some (.int .i64 S) ∧ w.cell? ⟨g, j * 4 + 3, none⟩ = some (.slice (some ⟨bj, 0, none⟩) (S * S) (S * S)) ∧ Reads w (some ⟨bj, 0, none⟩) (S * S) (mt ms j).d := by
  obtain ⟨bj, h1, h2, h3, h4, h5⟩ := h.get j hj
  rw [hl] at h4 h5
  rw [he] at h1 h2 h3
  exact ⟨bj, h1, h2, h3, h4, h5⟩
set_option maxRecDepth 100000 in
set_option maxHeartbeats 6400000 in
theorem obeysBrackets_impl (P : Int) (D S BM BL g k n d a0 oa : Nat) (l : List Int) (ms : List Mat) (w : World) (hc : Cells w BM [.pointer (some ⟨BL, 0, none⟩), .slice (some ⟨g, 0, none⟩) k k, .int .i64 S]) (hb : Cells w BL [.int .i64 P, .int .i64 D, .slice (some ⟨a0, oa, none⟩) n d]) (hm : MatsI w g k ms) (hT : Reads w (some ⟨a0, oa, none⟩) n l) (hk : k = D) (hD : D ≤ 28) (hS : S ≤ 30) (hn : n = D * D * D) (hd : n ≤ d) (hd2 : d ≤ maxLen) (he : ∀ i, i < D → mt ms i = ⟨P, S, S, (mt ms i).d⟩) (hl : ∀ i, i < D → (mt ms i).d.length = S * S) (hr : ∀ i, i < D → Res (mt ms i).d P) (hp : 2 ≤ P) (hp2 : P ≤ 10007) (hx : Res l P) :
    Calls Try.prog 99 #[.pointer (some ⟨BM, 0, none⟩)] w fun e w' => e = .returned (.bool (lawsB P D S l ms)) ∧ Ext w w' := by
  subst hk
  have HC := Lib.hid hc
  have HB := Lib.hid hb
  have HM := Lib.hid hm
  have HT := Lib.hid hT
  have HN := Lib.hid hn
  have HD := Lib.hid (And.intro hd hd2)
  have HE := Lib.hid he
  have HL := Lib.hid hl
  have HR := Lib.hid hr
  have HXR := Lib.hid hx
  have h27 : S * S ≤ 900 := Nat.mul_le_mul hS hS
  have HYES : Hid ((∀ i j, j < i → i < k → LawI P k S l ms i j) → lawsB P k S l ms = true) := lawsB_true
  have HNO : Hid (∀ i j, j < i → i < k → ¬ LawI P k S l ms i j → lawsB P k S l ms = false) := fun i j => lawsB_false
  obtain ⟨Q, hQ⟩ : ∃ Q, lawsB P k S l ms = Q := ⟨_, rfl⟩
  rw [hQ] at HYES HNO ⊢
  clear hc hb hm hT hn hd hd2 he hl hr hx hQ
  have lM := HC.out.1
  have q1 := HC.out.2 1 _ rfl
  go_enter Try.func99, Try.ntmps99
  go_wp2_with fail
  clear lM q1
  go_loopw [11, 3, 15, 4] (fun z _ _ _ wr => ∃ i : Nat, i ≤ k ∧ z = .int .i64 i ∧ Hid (Ext w wr) ∧ Hid (∀ x, x < i → ∀ j, j < x → LawI P k S l ms x j)) (fun z _ _ _ _ => k - (intOf z).toNat)
  case atStart => exact ⟨0, by omega, rfl, Ext.refl _, fun x hx => by omega⟩
  case round =>
    obtain ⟨i, hi, rfl, hE, hF⟩ := hrel
    by_cases hlt : i < k
    · go_wp2_with fail
      go_loopw [15, 4] (fun z _ wr => ∃ j : Nat, j ≤ i ∧ z = .int .i64 j ∧ Hid (Ext w wr) ∧ Hid (∀ y, y < j → LawI P k S l ms i y)) (fun z _ _ => i - (intOf z).toNat)
      case atStart => exact ⟨0, by omega, rfl, hE, fun x hx => by omega⟩
      case round =>
        clear hE
        obtain ⟨j, hj, rfl, hE, hG⟩ := hrel
        by_cases hlt2 : j < i
        · have HW := HM.out.ext hE.out
          have lG := HW.lt
          obtain ⟨bi, ci0, ci1, ci2, ci3, hri⟩ := HW.cells hlt (HE.out i hlt) (HL.out i hlt)
          obtain ⟨bj, cj0, cj1, cj2, cj3, hrj⟩ := HW.cells (show j < k by omega) (HE.out j (by omega)) (HL.out j (by omega))
          have HRI := Lib.hid hri
          have HRJ := Lib.hid hrj
          have HCM := Lib.hid (fun w1 (h : Ext wr w1) => commutator_impl P S bj 0 bi 0 (S * S) (mt ms j).d (mt ms i).d w1 (hrj.ext h) (hri.ext h) rfl (by omega) hp hp2 (HR.out j (by omega)) (HR.out i hlt))
          have MC := HC.out.ext hE.out
          have lM := MC.1
          have q0 := MC.2 0 _ rfl
          have q1 := MC.2 1 _ rfl
          have hjk : j < k := by omega
          clear HW hri hrj MC
          go_upto_region 7 with fail
          go_cut [5] (fun s5 wx => ∃ XB b5 , s5 = .pointer (some ⟨XB, 0, none⟩) ∧ wr.heap.size ≤ XB ∧ wr.heap.size ≤ b5 ∧ Hid (Cells wx XB [.int .i64 P, .int .i64 S, .int .i64 S, .slice (some ⟨b5, 0, none⟩) (S * S) (S * S)]) ∧ Hid (Has wx b5 (commL P (mt ms j).d (mt ms i).d S)) ∧ Hid (Ext wr wx))
          case first =>
            go_region_held3 (fun w' => Ext wr w' ∧ (∀ b o, b < wr.heap.size → w'.cell? ⟨b, o, none⟩ = wr.cell? ⟨b, o, none⟩)) (first | assumption | (with_reducible exact ext2 (Ext.trans (And.left ‹Ext wr _ ∧ _›) ‹Ext _ _›)) | (refine ext2 ?_; with_reducible repeat (first | exact Ext.refl _ | exact And.left ‹Ext wr _ ∧ _› | refine Ext.drew ?_ | refine Ext.drewN ?_ _ | exact Ext.alloc (And.left ‹Ext wr _ ∧ _›) _ | exact Ext.alloc ((Ext.refl _).drew) _ | exact Ext.alloc (((Ext.refl _).drew).trans h1) _ | refine Ext.alloc ?_ _ | refine Ext.setCell ?_ (by have e0 : wr.drew.heap.size = wr.heap.size := rfl; simp <;> omega) _))) (first
              | (go_at_call 123; (with_reducible refine (HCM.out _ (And.left ‹Ext wr _ ∧ _›)).mono ?_); rintro e w1 ⟨b5, rfl, hm1, hm2, kx, h1⟩; have c_1 := h1.cells; have f_1 := h1.frees; have y_1 := h1.le; have x_1 := fun k hk => Nat.lt_of_lt_of_le (n := k) hk h1.le; (try simp only [World.size_drew] at y_1 x_1); (try simp only [World.size_alloc] at y_1 x_1); (try simp only [Nat.add_one_le_iff] at y_1); (try have z_1_0 : wr.heap.size < w1.heap.size := by omega)))
            all_goals (go_wp2_with fail; go_meet; first
              | exact ⟨w1.heap.size, b5, rfl, (by (try simp only [World.size_alloc, World.size_drew] at hm1); omega), (by (try simp only [World.size_alloc, World.size_drew] at hm1); omega), cells_new _ _ _, Has.alloc (by with_reducible first | exact kx | exact kx.alloc _) _, And.left ‹Ext wr _ ∧ _›⟩
              | exact ⟨wr.heap.size, b5, rfl, (by (try simp only [World.size_alloc, World.size_drew] at hm1); omega), (by (try simp only [World.size_alloc, World.size_drew] at hm1); omega), early4 (lo := 0) (((cells_new wr _ _).ext (Ext.drew (Ext.refl _))).ext h1), (Has.setOther (Has.setOther (Has.setOther (Has.setOther (by with_reducible first | exact kx | exact kx.alloc _) (by (try simp only [World.size_alloc, World.size_drew] at hm1); simp <;> omega) _) (by (try simp only [World.size_alloc, World.size_drew] at hm1); simp <;> omega) _) (by (try simp only [World.size_alloc, World.size_drew] at hm1); simp <;> omega) _) (by (try simp only [World.size_alloc, World.size_drew] at hm1); simp <;> omega) _), And.left ‹Ext wr _ ∧ _›⟩)
          case rest =>
            obtain ⟨XB, b5, rfl, hxb, hb5, hXB, h5H, h5E⟩ := hcut
            obtain ⟨w5, hwk⟩ : ∃ wk : World, wk = wc := ⟨_, rfl⟩
            subst hwk
            clear lM q0 q1 ci0 ci1 ci2 ci3 cj0 cj1 cj2 cj3 lG
            have hE5 := Lib.hid (hE.out.trans h5E.out)
            have HCr := Lib.hid (HC.out.ext hE5.out)
            have HBr := Lib.hid (HB.out.ext hE5.out)
            have HMr := Lib.hid (HM.out.ext hE5.out)
            have HTr := Lib.hid (HT.out.ext hE5.out)
            have HNX : Hid (LawI P k S l ms i j → ∀ y, y < j + 1 → LawI P k S l ms i y) := fun h y hy => by
              by_cases e : y = j
              · subst e; exact h
              · exact hG.out y (by omega)
            have HNJ := Lib.hid (HNO.out i j hlt2 hlt)
            have lX := hXB.out.1
            have x3 := hXB.out.2 3 _ rfl
            have lM := HCr.out.1
            have q0 := HCr.out.2 0 _ rfl
            have hfd := run_fieldM
            clear hE h5E HCM HRI HRJ hG
            by_cases hlw : smK P (S * S) ms (rowT k l i j) k = commL P (mt ms j).d (mt ms i).d S
            · have HSB : Hid (sameB (smK P (S * S) ms (rowT k l i j) k) (commL P (mt ms j).d (mt ms i).d S) = true) := decide_eq_true hlw
              have HG2 := Lib.hid (HNX.out hlw)
              clear hlw HNX HNJ
              go_wp2_with fail
              refine wp_region_held_drew (S := (fun w' => Ext w5 w' ∧ (∀ b o, b < w5.heap.size → w'.cell? ⟨b, o, none⟩ = w5.cell? ⟨b, o, none⟩))) (by kernel_rfl) (ext2 (Ext.refl w5).drew) (fun hHeld => ?_)
              refine wpAnyH_take (i := 0) (v := ?v100) rfl (by kernel_rfl) (by kernel_rfl) (by kernel_rfl) (fun _ _ _ h => h) (Or.inl ⟨by rfl, ?hy100⟩) hHeld ?rest100
              case hy100 => (intro wz hSw; (try dsimp only at hSw); go_simp; (try with_reducible rfl))
              (try simp only [Act.put, List.getElem_toArray, List.getElem_cons_succ, List.getElem_cons_zero]); (try simp only [List.setIfInBounds_toArray]); (try simp only [List.set_cons_succ]); (try simp only [List.set_cons_zero])
              refine wpAnyH_take (i := 1) (v := ?v101) rfl (by kernel_rfl) (by kernel_rfl) (by kernel_rfl) (fun _ _ _ h => h) (Or.inl ⟨by rfl, ?hy101⟩) hHeld ?rest101
              case hy101 => (intro wz hSw; (try dsimp only at hSw); go_simp; (try with_reducible rfl))
              (try simp only [Act.put, List.getElem_toArray, List.getElem_cons_succ, List.getElem_cons_zero]); (try simp only [List.setIfInBounds_toArray]); (try simp only [List.set_cons_succ]); (try simp only [List.set_cons_zero])
              refine wpAnyH_take (i := 2) (v := ?v102) rfl (by kernel_rfl) (by kernel_rfl) (by kernel_rfl) (fun _ _ _ h => h) (Or.inl ⟨by rfl, ?hy102⟩) hHeld ?rest102
              case hy102 => (intro wz hSw; (try dsimp only at hSw); go_simp; (try with_reducible rfl))
              (try simp only [Act.put, List.getElem_toArray, List.getElem_cons_succ, List.getElem_cons_zero]); (try simp only [List.setIfInBounds_toArray]); (try simp only [List.set_cons_succ]); (try simp only [List.set_cons_zero])
              refine wpAnyH_take (i := 3) (v := ?v103) rfl (by kernel_rfl) (by kernel_rfl) (by kernel_rfl) (fun _ _ _ h => h) (Or.inl ⟨by rfl, ?hy103⟩) hHeld ?rest103
              case hy103 => (intro wz hSw; (try dsimp only at hSw); go_simp; (try with_reducible rfl))
              (try simp only [Act.put, List.getElem_toArray, List.getElem_cons_succ, List.getElem_cons_zero]); (try simp only [List.setIfInBounds_toArray]); (try simp only [List.set_cons_succ]); (try simp only [List.set_cons_zero])
              refine wpAnyH_take (i := 4) (v := ?v104) rfl (by kernel_rfl) (by kernel_rfl) (by kernel_rfl) (fun _ _ _ h => h) (Or.inl ⟨by rfl, ?hy104⟩) hHeld ?rest104
              case hy104 => (intro wz hSw; (try dsimp only at hSw); go_simp; (try with_reducible rfl))
              (try simp only [Act.put, List.getElem_toArray, List.getElem_cons_succ, List.getElem_cons_zero]); (try simp only [List.setIfInBounds_toArray]); (try simp only [List.set_cons_succ]); (try simp only [List.set_cons_zero])
              refine wpAnyH_take (i := 5) (v := ?v105) rfl (by kernel_rfl) (by kernel_rfl) (by kernel_rfl) (fun _ _ _ h => h) (Or.inl ⟨by rfl, ?hy105⟩) hHeld ?rest105
              case hy105 => (intro wz hSw; (try dsimp only at hSw); go_simp; (try with_reducible rfl))
              (try simp only [Act.put, List.getElem_toArray, List.getElem_cons_succ, List.getElem_cons_zero]); (try simp only [List.setIfInBounds_toArray]); (try simp only [List.set_cons_succ]); (try simp only [List.set_cons_zero])
              refine wpAnyH_take (i := 6) (v := ?v106) rfl (by kernel_rfl) (by kernel_rfl) (by kernel_rfl) (fun _ _ _ h => h) (Or.inl ⟨by rfl, ?hy106⟩) hHeld ?rest106
              case hy106 => (intro wz hSw; (try dsimp only at hSw); go_simp; (try with_reducible rfl))
              (try simp only [Act.put, List.getElem_toArray, List.getElem_cons_succ, List.getElem_cons_zero]); (try simp only [List.setIfInBounds_toArray]); (try simp only [List.set_cons_succ]); (try simp only [List.set_cons_zero])
              refine wpAnyH_take (i := 10) (v := ?v107) rfl (by kernel_rfl) (by kernel_rfl) (by kernel_rfl) (fun _ _ _ h => h) (Or.inl ⟨by rfl, ?hy107⟩) hHeld ?rest107
              case hy107 => (intro wz hSw; (try dsimp only at hSw); go_simp; (try with_reducible rfl))
              (try simp only [Act.put, List.getElem_toArray, List.getElem_cons_succ, List.getElem_cons_zero]); (try simp only [List.setIfInBounds_toArray]); (try simp only [List.set_cons_succ]); (try simp only [List.set_cons_zero])
              refine wpAnyH_take (i := 11) (v := ?v108) rfl (by kernel_rfl) (by kernel_rfl) (by kernel_rfl) (fun _ _ _ h => h) (Or.inl ⟨by rfl, ?hy108⟩) hHeld ?rest108
              case hy108 => (intro wz hSw; (try dsimp only at hSw); go_simp; (try with_reducible rfl))
              (try simp only [Act.put, List.getElem_toArray, List.getElem_cons_succ, List.getElem_cons_zero]); (try simp only [List.setIfInBounds_toArray]); (try simp only [List.set_cons_succ]); (try simp only [List.set_cons_zero])
              refine wpAnyH_ready (rs := [7]) (by kernel_rfl) (by simp) ?_
              refine AllReadyH.cons rfl (fun K' hK => ?_) AllReadyH.nil
              go_simp
              refine (bracket_impl P k BL a0 oa n d i j _ (HBr.out.ext (And.left hHeld)) hD HN.out HD.out.1 HD.out.2 hlt hjk).mono ?_
              rintro e w2 ⟨rfl, h2⟩
              have X2 := (And.left hHeld).trans h2
              dsimp only
              refine hK.out _ _ (ext2 X2) (fun hHeld => ?_)
              clear hK
              refine wpAnyH_ready (rs := [8]) (by kernel_rfl) (by simp) ?_
              refine AllReadyH.cons rfl (fun K' hK => ?_) AllReadyH.nil
              go_simp
              refine (matrixOf_impl P k S BM BL g k n d a0 oa _ _ _ (rowT k l i j) ms _ (HCr.out.ext (And.left hHeld)) (HBr.out.ext (And.left hHeld)) (HMr.out.ext (And.left hHeld)) ((rowT_reads HTr.out HN.out hlt hjk).ext (And.left hHeld)) rfl hD hS HL.out HR.out hp hp2 (rowT_res (by omega) HXR.out _ _)).mono ?_
              rintro e w3 ⟨b3, rfl, hk1, hk2, kx2, h3⟩
              have X3 := (And.left hHeld).trans h3
              dsimp only
              refine hK.out _ _ (ext2 X3) (fun hHeld => ?_)
              clear hK
              refine wpAnyH_take (i := 9) (v := ?v109) rfl (by kernel_rfl) (by kernel_rfl) (by kernel_rfl) (fun _ _ _ h => h) (Or.inl ⟨by rfl, ?hy109⟩) hHeld ?rest109
              case hy109 => (intro wz hSw; (try dsimp only at hSw); go_simp; (try with_reducible rfl))
              (try simp only [Act.put, List.getElem_toArray, List.getElem_cons_succ, List.getElem_cons_zero]); (try simp only [List.setIfInBounds_toArray]); (try simp only [List.set_cons_succ]); (try simp only [List.set_cons_zero])
              refine wpAnyH_ready (rs := [12]) (by kernel_rfl) (by simp) ?_
              refine AllReadyH.cons rfl (fun K' hK => ?_) AllReadyH.nil
              go_simp
              refine (equal_fn _ _ (S * S) (S * S) _ _ (smK P (S * S) ms (rowT k l i j) k) (commL P (mt ms j).d (mt ms i).d S) _ (kx2.reads (smK_length k)) ((h5H.out.ext (And.left hHeld)).reads (commL_length _ _ _ _)) (by omega) (by omega)).mono ?_
              rintro e w4 ⟨rfl, m4, rfl⟩
              rw [HSB.out]
              have X4 := (And.left hHeld).trans ((Ext.refl _).drewN m4)
              dsimp only
              refine hK.out _ _ (ext2 X4) (fun hHeld => ?_)
              clear hK
              refine wpAnyH_take (i := 13) (v := ?v110) rfl (by kernel_rfl) (by kernel_rfl) (by kernel_rfl) (fun _ _ _ h => h) (Or.inl ⟨by rfl, ?hy110⟩) hHeld ?rest110
              case hy110 => (intro wz hSw; (try dsimp only at hSw); go_simp; (try with_reducible rfl))
              (try simp only [Act.put, List.getElem_toArray, List.getElem_cons_succ, List.getElem_cons_zero]); (try simp only [List.setIfInBounds_toArray]); (try simp only [List.set_cons_succ]); (try simp only [List.set_cons_zero])
              refine wpAnyH_done (by kernel_rfl) ?_ _
              have hE9 := Lib.hid (hE5.out.trans (And.left hHeld))
              clear hHeld X2 X3 X4 h2 h3 kx2 hk1 hk2 lX x3 lM q0
              go_wp2
              exact ⟨⟨j + 1, by omega, by simp, hE9, HG2⟩, by simp [intOf]; omega⟩
            · have HSB : Hid (sameB (smK P (S * S) ms (rowT k l i j) k) (commL P (mt ms j).d (mt ms i).d S) = false) := decide_eq_false hlw
              have HF := Lib.hid (HNJ.out hlw)
              clear hlw HNX HNJ
              go_wp2_with fail
              refine wp_region_held_drew (S := (fun w' => Ext w5 w' ∧ (∀ b o, b < w5.heap.size → w'.cell? ⟨b, o, none⟩ = w5.cell? ⟨b, o, none⟩))) (by kernel_rfl) (ext2 (Ext.refl w5).drew) (fun hHeld => ?_)
              refine wpAnyH_take (i := 0) (v := ?v111) rfl (by kernel_rfl) (by kernel_rfl) (by kernel_rfl) (fun _ _ _ h => h) (Or.inl ⟨by rfl, ?hy111⟩) hHeld ?rest111
              case hy111 => (intro wz hSw; (try dsimp only at hSw); go_simp; (try with_reducible rfl))
              (try simp only [Act.put, List.getElem_toArray, List.getElem_cons_succ, List.getElem_cons_zero]); (try simp only [List.setIfInBounds_toArray]); (try simp only [List.set_cons_succ]); (try simp only [List.set_cons_zero])
              refine wpAnyH_take (i := 1) (v := ?v112) rfl (by kernel_rfl) (by kernel_rfl) (by kernel_rfl) (fun _ _ _ h => h) (Or.inl ⟨by rfl, ?hy112⟩) hHeld ?rest112
              case hy112 => (intro wz hSw; (try dsimp only at hSw); go_simp; (try with_reducible rfl))
              (try simp only [Act.put, List.getElem_toArray, List.getElem_cons_succ, List.getElem_cons_zero]); (try simp only [List.setIfInBounds_toArray]); (try simp only [List.set_cons_succ]); (try simp only [List.set_cons_zero])
              refine wpAnyH_take (i := 2) (v := ?v113) rfl (by kernel_rfl) (by kernel_rfl) (by kernel_rfl) (fun _ _ _ h => h) (Or.inl ⟨by rfl, ?hy113⟩) hHeld ?rest113
              case hy113 => (intro wz hSw; (try dsimp only at hSw); go_simp; (try with_reducible rfl))
              (try simp only [Act.put, List.getElem_toArray, List.getElem_cons_succ, List.getElem_cons_zero]); (try simp only [List.setIfInBounds_toArray]); (try simp only [List.set_cons_succ]); (try simp only [List.set_cons_zero])
              refine wpAnyH_take (i := 3) (v := ?v114) rfl (by kernel_rfl) (by kernel_rfl) (by kernel_rfl) (fun _ _ _ h => h) (Or.inl ⟨by rfl, ?hy114⟩) hHeld ?rest114
              case hy114 => (intro wz hSw; (try dsimp only at hSw); go_simp; (try with_reducible rfl))
              (try simp only [Act.put, List.getElem_toArray, List.getElem_cons_succ, List.getElem_cons_zero]); (try simp only [List.setIfInBounds_toArray]); (try simp only [List.set_cons_succ]); (try simp only [List.set_cons_zero])
              refine wpAnyH_take (i := 4) (v := ?v115) rfl (by kernel_rfl) (by kernel_rfl) (by kernel_rfl) (fun _ _ _ h => h) (Or.inl ⟨by rfl, ?hy115⟩) hHeld ?rest115
              case hy115 => (intro wz hSw; (try dsimp only at hSw); go_simp; (try with_reducible rfl))
              (try simp only [Act.put, List.getElem_toArray, List.getElem_cons_succ, List.getElem_cons_zero]); (try simp only [List.setIfInBounds_toArray]); (try simp only [List.set_cons_succ]); (try simp only [List.set_cons_zero])
              refine wpAnyH_take (i := 5) (v := ?v116) rfl (by kernel_rfl) (by kernel_rfl) (by kernel_rfl) (fun _ _ _ h => h) (Or.inl ⟨by rfl, ?hy116⟩) hHeld ?rest116
              case hy116 => (intro wz hSw; (try dsimp only at hSw); go_simp; (try with_reducible rfl))
              (try simp only [Act.put, List.getElem_toArray, List.getElem_cons_succ, List.getElem_cons_zero]); (try simp only [List.setIfInBounds_toArray]); (try simp only [List.set_cons_succ]); (try simp only [List.set_cons_zero])
              refine wpAnyH_take (i := 6) (v := ?v117) rfl (by kernel_rfl) (by kernel_rfl) (by kernel_rfl) (fun _ _ _ h => h) (Or.inl ⟨by rfl, ?hy117⟩) hHeld ?rest117
              case hy117 => (intro wz hSw; (try dsimp only at hSw); go_simp; (try with_reducible rfl))
              (try simp only [Act.put, List.getElem_toArray, List.getElem_cons_succ, List.getElem_cons_zero]); (try simp only [List.setIfInBounds_toArray]); (try simp only [List.set_cons_succ]); (try simp only [List.set_cons_zero])
              refine wpAnyH_take (i := 10) (v := ?v118) rfl (by kernel_rfl) (by kernel_rfl) (by kernel_rfl) (fun _ _ _ h => h) (Or.inl ⟨by rfl, ?hy118⟩) hHeld ?rest118
              case hy118 => (intro wz hSw; (try dsimp only at hSw); go_simp; (try with_reducible rfl))
              (try simp only [Act.put, List.getElem_toArray, List.getElem_cons_succ, List.getElem_cons_zero]); (try simp only [List.setIfInBounds_toArray]); (try simp only [List.set_cons_succ]); (try simp only [List.set_cons_zero])
              refine wpAnyH_take (i := 11) (v := ?v119) rfl (by kernel_rfl) (by kernel_rfl) (by kernel_rfl) (fun _ _ _ h => h) (Or.inl ⟨by rfl, ?hy119⟩) hHeld ?rest119
              case hy119 => (intro wz hSw; (try dsimp only at hSw); go_simp; (try with_reducible rfl))
              (try simp only [Act.put, List.getElem_toArray, List.getElem_cons_succ, List.getElem_cons_zero]); (try simp only [List.setIfInBounds_toArray]); (try simp only [List.set_cons_succ]); (try simp only [List.set_cons_zero])
              refine wpAnyH_ready (rs := [7]) (by kernel_rfl) (by simp) ?_
              refine AllReadyH.cons rfl (fun K' hK => ?_) AllReadyH.nil
              go_simp
              refine (bracket_impl P k BL a0 oa n d i j _ (HBr.out.ext (And.left hHeld)) hD HN.out HD.out.1 HD.out.2 hlt hjk).mono ?_
              rintro e w2 ⟨rfl, h2⟩
              have X2 := (And.left hHeld).trans h2
              dsimp only
              refine hK.out _ _ (ext2 X2) (fun hHeld => ?_)
              clear hK
              refine wpAnyH_ready (rs := [8]) (by kernel_rfl) (by simp) ?_
              refine AllReadyH.cons rfl (fun K' hK => ?_) AllReadyH.nil
              go_simp
              refine (matrixOf_impl P k S BM BL g k n d a0 oa _ _ _ (rowT k l i j) ms _ (HCr.out.ext (And.left hHeld)) (HBr.out.ext (And.left hHeld)) (HMr.out.ext (And.left hHeld)) ((rowT_reads HTr.out HN.out hlt hjk).ext (And.left hHeld)) rfl hD hS HL.out HR.out hp hp2 (rowT_res (by omega) HXR.out _ _)).mono ?_
              rintro e w3 ⟨b3, rfl, hk1, hk2, kx2, h3⟩
              have X3 := (And.left hHeld).trans h3
              dsimp only
              refine hK.out _ _ (ext2 X3) (fun hHeld => ?_)
              clear hK
              refine wpAnyH_take (i := 9) (v := ?v120) rfl (by kernel_rfl) (by kernel_rfl) (by kernel_rfl) (fun _ _ _ h => h) (Or.inl ⟨by rfl, ?hy120⟩) hHeld ?rest120
              case hy120 => (intro wz hSw; (try dsimp only at hSw); go_simp; (try with_reducible rfl))
              (try simp only [Act.put, List.getElem_toArray, List.getElem_cons_succ, List.getElem_cons_zero]); (try simp only [List.setIfInBounds_toArray]); (try simp only [List.set_cons_succ]); (try simp only [List.set_cons_zero])
              refine wpAnyH_ready (rs := [12]) (by kernel_rfl) (by simp) ?_
              refine AllReadyH.cons rfl (fun K' hK => ?_) AllReadyH.nil
              go_simp
              refine (equal_fn _ _ (S * S) (S * S) _ _ (smK P (S * S) ms (rowT k l i j) k) (commL P (mt ms j).d (mt ms i).d S) _ (kx2.reads (smK_length k)) ((h5H.out.ext (And.left hHeld)).reads (commL_length _ _ _ _)) (by omega) (by omega)).mono ?_
              rintro e w4 ⟨rfl, m4, rfl⟩
              rw [HSB.out]
              have X4 := (And.left hHeld).trans ((Ext.refl _).drewN m4)
              dsimp only
              refine hK.out _ _ (ext2 X4) (fun hHeld => ?_)
              clear hK
              refine wpAnyH_take (i := 13) (v := ?v121) rfl (by kernel_rfl) (by kernel_rfl) (by kernel_rfl) (fun _ _ _ h => h) (Or.inl ⟨by rfl, ?hy121⟩) hHeld ?rest121
              case hy121 => (intro wz hSw; (try dsimp only at hSw); go_simp; (try with_reducible rfl))
              (try simp only [Act.put, List.getElem_toArray, List.getElem_cons_succ, List.getElem_cons_zero]); (try simp only [List.setIfInBounds_toArray]); (try simp only [List.set_cons_succ]); (try simp only [List.set_cons_zero])
              refine wpAnyH_done (by kernel_rfl) ?_ _
              have hE9 := Lib.hid (hE5.out.trans (And.left hHeld))
              clear hHeld X2 X3 X4 h2 h3 kx2 hk1 hk2 lX x3 lM q0
              go_wp2
              go_ret
              exact ⟨ret_bool HF.out.symm, hE9.out⟩
        · obtain rfl : j = i := by omega
          have HF2 : Hid (∀ x, x < j + 1 → ∀ y, y < x → LawI P k S l ms x y) := fun x hx y hy => by
            by_cases e : x = j
            · subst e; exact hG.out y hy
            · exact hF.out x (by omega) y hy
          clear hF hG
          go_wp2
          exact ⟨⟨j + 1, by omega, by simp, hE, HF2⟩, by simp [intOf]; omega⟩
    · obtain rfl : i = k := by omega
      have HF := Lib.hid (HYES.out (fun x y hy hx => hF.out x hx y hy))
      clear hF
      go_wp2
      go_ret
      exact ⟨ret_bool HF.out.symm, hE.out⟩
end Go.Proofs.Ytnikfalpjieibaa
