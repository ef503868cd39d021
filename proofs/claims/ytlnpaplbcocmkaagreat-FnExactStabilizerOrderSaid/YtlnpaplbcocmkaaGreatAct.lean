/-
  Words act on weights and on lattice elements, in both texts.
-/
import Derived.Test.YtlnpaplbcocmkaaGreatBw
import Derived.Test.YtlnpaplbcocmkaaGreatTd
import Derived.Test.YtlnpaplbcocmkaaGreatClo
namespace Go.Proofs.YtlnpaplbcocmkaaGreat
open Go.ChangeShapes Go.WideShapes Go.ChangeAt Go.RowKit
set_option linter.unusedVariables false
set_option linter.unusedSimpArgs false

theorem foldr_drop (f : Int → List Int → List Int) (y wd : List Int) {j : Nat} (h : j < wd.length) : (wd.drop j).foldr f y = f (gi wd j) ((wd.drop (j + 1)).foldr f y) := by
  rw [List.drop_eq_getElem_cons h, List.foldr_cons, show gi wd j = wd[j] by simp [gi, h]]
theorem foldr_P {P : List Int → Prop} {T : Nat → List Int → List Int} {R : Nat} {y : List Int} (h0 : P y) (hT : ∀ u i, i < R → P u → P (T i u)) : ∀ wd : List Int, rowB R wd = true → P (wd.foldr (fun i a => T i.toNat a) y)
  | [], _ => h0
  | i :: l, hr => by
    rw [rowB, List.all_cons, Bool.and_eq_true] at hr
    have h1 := of_decide_eq_true hr.1
    exact hT _ _ (by omega) (foldr_P h0 hT l hr.2)
theorem rowB_drop {R : Nat} {wd : List Int} (h : rowB R wd = true) (j : Nat) : rowB R (wd.drop j) = true := by
  rw [rowB, List.all_eq_true] at h ⊢
  exact fun x hx => h x (List.mem_of_mem_drop hx)

set_option maxRecDepth 100000 in
set_option maxHeartbeats 6400000 in
theorem l6Act_spec (R da od n cD bw ow lw cw b1 o1 cy : Nat) (xs wd y : List Int) (P : List Int → Prop) (w : World) (hr : Reads w (some ⟨da, od, none⟩) n xs) (hn : n = R * R) (hR0 : 1 ≤ R) (hR : R ≤ 4) (hxb : ∀ e, -3 ≤ gi xs e ∧ gi xs e ≤ 3) (hW : Reads w (some ⟨bw, ow, none⟩) lw wd) (hlw : lw ≤ 1048576) (hwd : rowB R wd = true) (hy : Reads w (some ⟨b1, o1, none⟩) R y) (hP0 : P y) (hPB : ∀ u, P u → u.length = R ∧ ∀ e, -1000000 ≤ gi u e ∧ gi u e ≤ 1000000) (hPT : ∀ u i, i < R → P u → P (turnM xs R i u)) :
    Calls Tryz.prog 73 #[.agg #[.int .i64 (R : Nat), .slice (some ⟨da, od, none⟩) n cD], .slice (some ⟨bw, ow, none⟩) lw cw, .slice (some ⟨b1, o1, none⟩) R cy] w fun e w' => ∃ b c9, e = .returned (.slice (some ⟨b, 0, none⟩) R c9) ∧ R ≤ c9 ∧ w.heap.size ≤ b ∧ b < w'.heap.size ∧ Has w' b (wd.foldr (fun i a => turnM xs R i.toNat a) y) ∧ P (wd.foldr (fun i a => turnM xs R i.toNat a) y) ∧ Ext w w' := by
  have HLW : Hid (wd.length = lw) := hW.len
  have HFD : Hid (∀ j, j < lw → (wd.drop j).foldr (fun i a => turnM xs R i.toNat a) y = turnM xs R (gi wd j).toNat ((wd.drop (j + 1)).foldr (fun i a => turnM xs R i.toNat a) y)) := fun j hj => foldr_drop _ _ _ (by rw [hW.len]; exact hj)
  have HFP : Hid (∀ j, P ((wd.drop j).foldr (fun i a => turnM xs R i.toNat a) y)) := fun j => foldr_P (T := turnM xs R) hP0 hPT _ (rowB_drop hwd j)
  have HF0 : Hid ((wd.drop lw).foldr (fun i a => turnM xs R i.toNat a) y = y) := by rw [Hid, List.drop_eq_nil_of_le (by rw [hW.len]; exact Nat.le_refl _)]; rfl
  have HF9 : Hid ((wd.drop 0).foldr (fun i a => turnM xs R i.toNat a) y = wd.foldr (fun i a => turnM xs R i.toNat a) y) := by rw [Hid, List.drop_zero]
  have HRW : Hid (∀ j, j < lw → 0 ≤ gi wd j ∧ gi wd j < (R : Int)) := fun j hj => rowB_at hwd (by rw [hW.len]; exact hj)
  have HM := Lib.hid (fun w1 (h : Ext w w1) (i b c : Nat) (u : List Int) (hi : i < R) (hu : P u) (hh : Has w1 b u) => l6Reflect_spec R da od n cD R c i xs u (some ⟨b, 0, none⟩) w1 (hr.ext h) hn hR0 hR (hh.reads (hPB u hu).1) rfl hi hxb (hPB u hu).2)
  have HW := Lib.hid hW
  have HY := Lib.hid hy
  have HBX := Lib.hid (cells_new w #[.int .i64 (R : Nat), .slice (some ⟨da, od, none⟩) n cD] 27)
  have X0 := Lib.hid ((Ext.refl w).alloc (.cells #[.int .i64 (R : Nat), .slice (some ⟨da, od, none⟩) n cD] 27))
  obtain ⟨F, hF⟩ : ∃ F : Nat → List Int, ∀ j, (wd.drop j).foldr (fun i a => turnM xs R i.toNat a) y = F j := ⟨_, fun _ => rfl⟩
  obtain ⟨A, hA⟩ : ∃ A, wd.foldr (fun i a => turnM xs R i.toNat a) y = A := ⟨_, rfl⟩
  simp only [Hid, hF, hA] at HFD HFP HF0 HF9
  rw [hA]
  have HFD := Lib.hid HFD
  have HFP := Lib.hid HFP
  have HF0 := Lib.hid HF0
  have HF9 := Lib.hid HF9
  clear hr hn hxb hW hwd hy hP0 hPB hPT hF hA
  go_enter Tryz.func73, Tryz.ntmps73
  go_wp2_with fail
  refine (l1Ints_g (some ⟨b1, o1, none⟩) R cy y _ (HY.out.ext X0.out) (by omega) (fun h => by cases h)).mono ?_
  rintro e w2 ⟨v, rfl, hG, hE⟩
  obtain ⟨ga, gc, rfl, hO⟩ := hG.shape
  obtain ⟨b, rfl, hb1, hb9, hh⟩ : ∃ b, ga = some ⟨b, 0, none⟩ ∧ w.heap.size ≤ b ∧ b < w2.heap.size ∧ Has w2 b y := by
    rcases hO.2 with ⟨_, h⟩ | ⟨b, h1, h2, h3, h4⟩
    · omega
    · exact ⟨b, h1, by simp at h2; omega, h3, h4⟩
  have hcb := hG.slc.1
  have HH0 : Hid (Has w2 b (F lw)) := by rw [HF0.out]; exact hh
  have HE0 : Hid (Ext w w2) := X0.out.trans hE
  have HB0 := Lib.hid (HBX.out.ext hE)
  have v1 : IntKind.i64.wrap ((lw : Int) - 1) = (lw : Int) - 1 := IntWalk.i64_in _ ⟨by omega, by omega⟩
  clear hh hE hG hO HBX
  go_wp2_with fail
  go_loopw [8, 7] (fun z v wr => ∃ j b c9 : Nat, j ≤ lw ∧ z = .int .i64 ((j : Int) - 1) ∧ v = .slice (some ⟨b, 0, none⟩) R c9 ∧ R ≤ c9 ∧ w.heap.size ≤ b ∧ Hid (Has wr b (F j)) ∧ Hid (Ext w wr) ∧ Hid (Cells wr w.heap.size [.int .i64 (R : Nat), .slice (some ⟨da, od, none⟩) n cD])) (fun z _ _ => (intOf z + 1).toNat)
  case atStart => exact ⟨lw, b, gc, Nat.le_refl _, rfl, rfl, hcb, hb1, HH0, HE0, HB0⟩
  case round =>
    clear HH0 HE0 HB0 hcb hb1 hb9 v1
    obtain ⟨j, b, c9, hj, rfl, rfl, hc9, hb1, hH, hE, hB⟩ := hrel
    by_cases hj0 : j = 0
    · subst hj0
      rw [HF9.out] at hH
      have HPF := Lib.hid (HFP.out 0)
      rw [HF9.out] at HPF
      have hbl := hH.out.lt
      go_wp2
      go_ret
      exact ⟨b, c9, rfl, hc9, hb1, hbl, hH.out, HPF.out, hE.out⟩
    · obtain ⟨j', rfl⟩ : ∃ j', j = j' + 1 := ⟨j - 1, by omega⟩
      have hz : ((j' + 1 : Nat) : Int) - 1 = (j' : Int) := by omega
      rw [hz]
      have hr1 := HRW.out j' (by omega)
      obtain ⟨bq, oq, eq1, hbq, hyc⟩ := reads5 HW.out (by omega)
      injection eq1 with eq1
      injection eq1 with eq2 eq3
      subst eq2 eq3
      obtain ⟨i, hi⟩ : ∃ i : Nat, gi wd j' = (i : Int) := ⟨(gi wd j').toNat, by omega⟩
      have HST : Hid (F j' = turnM xs R i (F (j' + 1))) := by rw [Hid, HFD.out j' (by omega), hi]; rfl
      have cW := (hE.out.cells bw (ow + j') hbq).trans (hyc j' (by omega))
      rw [hi] at cW
      have lW := Nat.lt_of_lt_of_le hbq hE.out.le
      have lB := hB.out.1
      have q0 := hB.out.2 0 _ rfl
      have q1 := hB.out.2 1 _ rfl
      have hjI : (j' : Int) < (lw : Int) := by omega
      have v2 : IntKind.i64.wrap ((j' : Int) - 1) = (j' : Int) - 1 := IntWalk.i64_in _ ⟨by omega, by omega⟩
      have hiR : i < R := by omega
      have HCALL := Lib.hid (HM.out wr.drew (hE.out.trans (Ext.refl wr).drew) i b c9 (F (j' + 1)) hiR (HFP.out _) (hH.out.ext (Ext.refl wr).drew))
      have hle := hE.out.le
      obtain ⟨W0, hW0⟩ : ∃ W0, W0 = wr := ⟨_, rfl⟩
      subst hW0
      clear hyc hr1 hi hz hH
      go_wp2_with fail
      refine wp_region_held_drew (S := (fun w' => Ext W0 w' ∧ (∀ b o, b < W0.heap.size → w'.cell? ⟨b, o, none⟩ = W0.cell? ⟨b, o, none⟩))) (by kernel_rfl) (ext2 (Ext.refl W0).drew) (fun hHeld => ?_)
      refine wpAnyH_take (i := 0) (v := ?v1) rfl (by kernel_rfl) (by kernel_rfl) (by kernel_rfl) (fun _ _ _ h => h) (Or.inl ⟨by rfl, ?hy1⟩) hHeld ?rest1
      case hy1 => (intro wz hSw; (try dsimp only at hSw); go_simp; (try with_reducible rfl))
      (try simp only [Act.put, List.getElem_toArray, List.getElem_cons_succ, List.getElem_cons_zero]); (try simp only [List.setIfInBounds_toArray]); (try simp only [List.set_cons_succ]); (try simp only [List.set_cons_zero])
      refine wpAnyH_take (i := 1) (v := ?v2) rfl (by kernel_rfl) (by kernel_rfl) (by kernel_rfl) (fun _ _ _ h => h) (Or.inl ⟨by rfl, ?hy2⟩) hHeld ?rest2
      case hy2 => (intro wz hSw; (try dsimp only at hSw); go_simp; (try with_reducible rfl))
      (try simp only [Act.put, List.getElem_toArray, List.getElem_cons_succ, List.getElem_cons_zero]); (try simp only [List.setIfInBounds_toArray]); (try simp only [List.set_cons_succ]); (try simp only [List.set_cons_zero])
      refine wpAnyH_take (i := 2) (v := ?v3) rfl (by kernel_rfl) (by kernel_rfl) (by kernel_rfl) (fun _ _ _ h => h) (Or.inl ⟨by rfl, ?hy3⟩) hHeld ?rest3
      case hy3 => (intro wz hSw; (try dsimp only at hSw); go_simp; (try with_reducible rfl))
      (try simp only [Act.put, List.getElem_toArray, List.getElem_cons_succ, List.getElem_cons_zero]); (try simp only [List.setIfInBounds_toArray]); (try simp only [List.set_cons_succ]); (try simp only [List.set_cons_zero])
      refine wpAnyH_take (i := 3) (v := ?v4) rfl (by kernel_rfl) (by kernel_rfl) (by kernel_rfl) (fun _ _ _ h => h) (Or.inl ⟨by rfl, ?hy4⟩) hHeld ?rest4
      case hy4 => (intro wz hSw; (try dsimp only at hSw); go_simp; (try with_reducible rfl))
      (try simp only [Act.put, List.getElem_toArray, List.getElem_cons_succ, List.getElem_cons_zero]); (try simp only [List.setIfInBounds_toArray]); (try simp only [List.set_cons_succ]); (try simp only [List.set_cons_zero])
      refine wpAnyH_take (i := 4) (v := ?v5) rfl (by kernel_rfl) (by kernel_rfl) (by kernel_rfl) (fun _ _ _ h => h) (Or.inl ⟨by rfl, ?hy5⟩) hHeld ?rest5
      case hy5 => (intro wz hSw; (try dsimp only at hSw); go_simp; (try with_reducible rfl))
      (try simp only [Act.put, List.getElem_toArray, List.getElem_cons_succ, List.getElem_cons_zero]); (try simp only [List.setIfInBounds_toArray]); (try simp only [List.set_cons_succ]); (try simp only [List.set_cons_zero])
      refine wpAnyH_take (i := 5) (v := ?v6) rfl (by kernel_rfl) (by kernel_rfl) (by kernel_rfl) (fun _ _ _ h => h) (Or.inl ⟨by rfl, ?hy6⟩) hHeld ?rest6
      case hy6 => (intro wz hSw; (try dsimp only at hSw); go_simp; (try with_reducible rfl))
      (try simp only [Act.put, List.getElem_toArray, List.getElem_cons_succ, List.getElem_cons_zero]); (try simp only [List.setIfInBounds_toArray]); (try simp only [List.set_cons_succ]); (try simp only [List.set_cons_zero])
      refine wpAnyH_ready (rs := [6]) (by kernel_rfl) (by simp) ?_
      refine AllReadyH.cons rfl (fun K' hK => ?_) AllReadyH.nil
      go_simp
      refine HCALL.out.mono ?_
      rintro e w3 ⟨b3, c3, rfl, hc3, hb3, hb4, hh3, hE3⟩
      have X3 : Hid (Ext W0 w3) := (And.left hHeld).trans hE3
      have HH3 := Lib.hid hh3
      dsimp only
      refine hK.out _ _ (ext2 ((And.left hHeld).trans hE3)) (fun hHeld => ?_)
      clear hK hh3 hE3
      refine wpAnyH_take (i := 7) (v := ?v7) rfl (by kernel_rfl) (by kernel_rfl) (by kernel_rfl) (fun _ _ _ h => h) (Or.inl ⟨by rfl, ?hy7⟩) hHeld ?rest7
      case hy7 => (intro wz hSw; (try dsimp only at hSw); go_simp; (try with_reducible rfl))
      (try simp only [Act.put, List.getElem_toArray, List.getElem_cons_succ, List.getElem_cons_zero]); (try simp only [List.setIfInBounds_toArray]); (try simp only [List.set_cons_succ]); (try simp only [List.set_cons_zero])
      refine wpAnyH_done (by kernel_rfl) ?_ _
      clear hHeld
      have H4 : Hid (Has w3 b3 (F j')) := by rw [HST.out]; exact HH3.out
      have E4 := Lib.hid (hE.out.trans X3.out)
      have B4 := Lib.hid (hB.out.ext X3.out)
      have hb5 : w.heap.size ≤ b3 := by simp at hb3; omega
      clear HH3 X3 HCALL hE hB hb3
      go_wp2
      exact ⟨⟨j', b3, c3, by omega, by first | rfl | trivial, rfl, hc3, hb5, H4, E4, B4⟩, by (simp [intOf]) <;> omega⟩

set_option maxRecDepth 100000 in
set_option maxHeartbeats 3200000 in
theorem l6Rho_spec (R da od n cD : Nat) (w : World) (hR : R ≤ 4) (hR0 : 1 ≤ R) :
    Calls Tryz.prog 102 #[.agg #[.int .i64 (R : Nat), .slice (some ⟨da, od, none⟩) n cD]] w fun e w' => ∃ b c9, e = .returned (.slice (some ⟨b, 0, none⟩) R c9) ∧ R ≤ c9 ∧ w.heap.size ≤ b ∧ b < w'.heap.size ∧ Has w' b (List.replicate R 1) ∧ Ext w w' := by
  have HBX := Lib.hid (cells_new w #[.int .i64 (R : Nat), .slice (some ⟨da, od, none⟩) n cD] 27)
  have X0 := Lib.hid ((Ext.refl w).alloc (.cells #[.int .i64 (R : Nat), .slice (some ⟨da, od, none⟩) n cD] 27))
  have HG1 : Hid (Grows ((w.alloc (.cells #[.int .i64 (R : Nat), .slice (some ⟨da, od, none⟩) n cD] 27)).alloc (.cells #[] 3)) (w.heap.size + 1) (.slice (some ⟨w.heap.size + 1, 0, none⟩) 0 0) 0 (List.replicate 0 1)) := by
    have h9 := World.ownsRow_lit (w.alloc (.cells #[.int .i64 (R : Nat), .slice (some ⟨da, od, none⟩) n cD] 27)) #[] 0 (base := w.heap.size + 1) (e := 3) (size := 1) (by simp) (by unfold maxLen; omega) (by simp)
    rw [World.size_alloc] at h9
    exact h9
  have X1 := Lib.hid (X0.out.alloc (.cells #[] 3))
  have HB1 := Lib.hid (HBX.out.ext ((Ext.refl _).alloc (.cells #[] 3)))
  go_enter Tryz.func102, Tryz.ntmps102
  go_wp2_with fail
  go_loopw [4, 3] (fun z v wr => ∃ (k cv : Nat) (va : Option Addr), k ≤ R ∧ z = .int .i64 k ∧ v = .slice va k cv ∧ Hid (Grows wr (w.heap.size + 1) (.slice va k cv) k (List.replicate k 1)) ∧ Hid (Ext w wr) ∧ Hid (Cells wr w.heap.size [.int .i64 (R : Nat), .slice (some ⟨da, od, none⟩) n cD])) (fun z _ _ => R - (intOf z).toNat)
  case atStart => exact ⟨0, 0, _, by omega, rfl, rfl, HG1, X1, HB1⟩
  case round =>
    clear HG1 X1 HB1
    obtain ⟨k, cv, va, hk, rfl, rfl, hG, hE, hB⟩ := hrel
    have lB := hB.out.1
    have q0 := hB.out.2 0 _ rfl
    by_cases hlt : k < R
    · have hkI : (k : Int) < (R : Int) := by omega
      have HBLK := Lib.hid hG.out.blk
      have hsz : w.heap.size + 1 ≤ wr.heap.size := lB
      go_wp2_with (at_builtin; refine wpList_append1 rfl _ _ rfl (w.heap.size + 1) (.slice va k cv) _ _ (1 : Int) 1 rfl rfl hG.out (by omega) hsz ?_)
      intro v' w4 hG4 hg4
      have E4 := Lib.hid (hG.out.extAfter hg4 hE.out (by omega))
      have B4 := Lib.hid (hB.out.grown hg4 (fun k hk => by have := HBLK.out k hk; omega))
      obtain ⟨va4, cv4, rfl, hnv4, ho4⟩ := hG4.reads2
      have G4 : Hid (Grows w4 (w.heap.size + 1) (.slice va4 (k + 1) cv4) (k + 1) (List.replicate (k + 1) 1)) := by
        have e9 : List.replicate (k + 1) (1 : Int) = List.replicate k 1 ++ [1] := by rw [List.replicate_succ']
        rw [e9]; exact hG4
      clear hG4 hg4 ho4 hnv4 hG hE hB lB q0
      go_wp2
      exact ⟨⟨k + 1, cv4, va4, by omega, by first | rfl | simp | trivial, rfl, G4, E4, B4⟩, by (simp [intOf]) <;> omega⟩
    · obtain rfl : R = k := by omega
      obtain ⟨b, c, e1, hb1, hb2, hh⟩ : ∃ b c, (Value.slice va R cv) = .slice (some ⟨b, 0, none⟩) R c ∧ w.heap.size + 1 ≤ b ∧ b < wr.heap.size ∧ Has wr b (List.replicate R 1) := by
        rcases hG.out.2 with ⟨e1, e2⟩ | ⟨g, cap, cur, e1, hb, hg, _⟩
        · omega
        · rw [e1]
          exact ⟨g, cap, rfl, hb, (Array.getElem?_eq_some_iff.1 hg).1, (Has.ofOwns (by have h9 := hG.out; rw [e1] at h9; exact h9)).1⟩
      have hcc : R ≤ c := by
        have h9 := hG.out
        rw [e1] at h9
        exact h9.slc.1
      injection e1 with e2 e3 e4
      subst e2 e4
      have HH := Lib.hid hh
      clear hh hG
      go_wp2
      go_ret
      exact ⟨b, cv, rfl, hcc, by omega, hb2, HH.out, hE.out⟩

end Go.Proofs.YtlnpaplbcocmkaaGreat
