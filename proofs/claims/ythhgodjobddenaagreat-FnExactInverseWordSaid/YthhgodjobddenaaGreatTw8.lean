/-
  InverseWord, of the program and of the specification.
-/
import Derived.Test.YthhgodjobddenaaGreatTw7
import Derived.Test.YthhgodjobddenaaGreatRev
namespace Go.Proofs.YthhgodjobddenaaGreat
open Go.ChangeShapes Go.WideShapes Go.ChangeAt Go.RowKit
set_option linter.unusedVariables false
set_option linter.unusedSimpArgs false

def ivO (R : Int) (l x : List Int) : List Int := match carG R l with | some _ => if wordB R.toNat x then (match climbO l R.toNat (actM l R.toNat x.reverse (List.replicate R.toNat 1)) with | some p => rI p.2 | none => []) else [] | none => []
theorem ivO_eq {l x : List Int} {K : Nat} {v : List Nat × List Int} {d : List Int} {rows : List Nat} (hG : carG (K : Int) l = some v) (hw : wordB K x = true) (h : climbO l K (actM l K x.reverse (List.replicate K 1)) = some (d, rows)) : ivO K l x = rI rows := by
  simp only [ivO, hG, Int.toNat_natCast, hw, if_true, h]
theorem rowB_rev {R : Nat} {x : List Int} (h : rowB R x = true) : rowB R x.reverse = true := by
  rw [rowB, List.all_reverse]; exact h

set_option maxRecDepth 100000 in
set_option maxHeartbeats 6400000 in
theorem inverseWord_spec {R : Int} {a0 oa n bx ox nx : Nat} {l x : List Int} {w : World} {i : List Int} (hT : Reads w (some ⟨a0, oa, none⟩) n l) (hm0 : n ≤ 1048576) (hx : Reads w (some ⟨bx, ox, none⟩) nx x) (hmx : nx ≤ 1048576) (hM : ivO R l x = i) :
    Calls Tryz.prog 32 #[.agg #[.int .i64 R, .slice (some ⟨a0, oa, none⟩) n n], .slice (some ⟨bx, ox, none⟩) nx nx] w fun e w' => ∃ v, e = .returned v ∧ Rints5 w w' v i ∧ Ext w w' := by
  subst hM
  have HT := Lib.hid hT
  have Hx := Lib.hid hx
  rcases hG : carG R l with _ | v
  · have HF : Hid (ivO R l x = []) := by rw [Hid, ivO, hG]
    have HI : wrdO R l x = false := by rw [wrdO, hG]; rfl
    clear hT hx
    go_enter Tryz.func32, Tryz.ntmps32
    go_wp2_with fail
    refine (wordOk_spec (HT.out.ext ((Ext.refl w).alloc _)) hm0 (Hx.out.ext ((Ext.refl w).alloc _)) hmx HI).mono ?_
    rintro e w2 ⟨rfl, hE⟩
    go_wp2
    go_ret
    exact ⟨_, rfl, ⟨_, _, _, rfl, by rw [HF.out]; exact own_nil _ _ _, by omega⟩, ((Ext.refl w).alloc _).trans hE⟩
  · obtain ⟨K, rfl, hK1, hK4, hlK, ht⟩ := carG_some hG
    have hnK : Hid (n = K * K) := by rw [Hid, ← hT.len]; exact hlK
    obtain ⟨hh, hWOK⟩ := wOk_tab hK1 hK4 ht
    have HWO := Lib.hid hWOK
    clear hWOK
    have HI : Hid (wrdO K l x = wordB K x) := by rw [Hid, wrdO, hG]; rfl
    clear hT hx
    rcases hw : wordB K x with _ | _
    · have HF : Hid (ivO K l x = []) := by rw [Hid, ivO, hG]; simp [hw]
      go_enter Tryz.func32, Tryz.ntmps32
      go_wp2_with fail
      refine (wordOk_spec (HT.out.ext ((Ext.refl w).alloc _)) hm0 (Hx.out.ext ((Ext.refl w).alloc _)) hmx HI.out).mono ?_
      rintro e w2 ⟨rfl, hE⟩
      rw [hw]
      go_wp2
      go_ret
      exact ⟨_, rfl, ⟨_, _, _, rfl, by rw [HF.out]; exact own_nil _ _ _, by omega⟩, ((Ext.refl w).alloc _).trans hE⟩
    · have HRx := Lib.hid (rowB_rev (wordB_rowB hw))
      obtain ⟨d, rows, hO⟩ := climb_ones hK4 HWO.out (imB_actO hK4 HWO.out HRx.out)
      have HF : Hid (ivO K l x = rI rows) := ivO_eq hG hw hO
      have HO := Lib.hid hO
      have HLX : Hid (x.reverse.length = nx) := by rw [Hid, List.length_reverse]; exact Hx.out.len
      clear hO
      go_enter Tryz.func32, Tryz.ntmps32
      go_wp2_with fail
      refine (wordOk_spec (HT.out.ext ((Ext.refl w).alloc _)) hm0 (Hx.out.ext ((Ext.refl w).alloc _)) hmx HI.out).mono ?_
      rintro e w2 ⟨rfl, hE⟩
      rw [hw]
      have HE2 := Lib.hid (((Ext.refl w).alloc _).trans hE)
      have HB2 := Lib.hid ((cells_new w #[.int .i64 (K : Nat), .slice (some ⟨a0, oa, none⟩) n n] 27).ext hE)
      clear hE
      have lB := HB2.out.1
      have q0 := HB2.out.2 0 _ rfl
      have q1 := HB2.out.2 1 _ rfl
      go_wp2_with fail
      obtain ⟨W0, hW0⟩ : ∃ W0, W0 = w2 := ⟨_, rfl⟩
      subst hW0
      refine wp_region_held_drew (S := (fun w' => Ext W0 w' ∧ (∀ b o, b < W0.heap.size → w'.cell? ⟨b, o, none⟩ = W0.cell? ⟨b, o, none⟩))) (by kernel_rfl) (ext2 (Ext.refl W0).drew) (fun hHeld => ?_)
      refine wpAnyH_take (i := 0) (v := ?v78) rfl (by kernel_rfl) (by kernel_rfl) (by kernel_rfl) (fun _ _ _ h => h) (Or.inl ⟨by rfl, ?hy78⟩) hHeld ?rest78
      case hy78 => (intro wz hSw; (try dsimp only at hSw); go_simp; (try with_reducible rfl))
      (try simp only [Act.put, List.getElem_toArray, List.getElem_cons_succ, List.getElem_cons_zero]); (try simp only [List.setIfInBounds_toArray]); (try simp only [List.set_cons_succ]); (try simp only [List.set_cons_zero])
      refine wpAnyH_take (i := 1) (v := ?v79) rfl (by kernel_rfl) (by kernel_rfl) (by kernel_rfl) (fun _ _ _ h => h) (Or.inl ⟨by rfl, ?hy79⟩) hHeld ?rest79
      case hy79 => (intro wz hSw; (try dsimp only at hSw); go_simp; (try with_reducible rfl))
      (try simp only [Act.put, List.getElem_toArray, List.getElem_cons_succ, List.getElem_cons_zero]); (try simp only [List.setIfInBounds_toArray]); (try simp only [List.set_cons_succ]); (try simp only [List.set_cons_zero])
      refine wpAnyH_ready (rs := [2]) (by kernel_rfl) (by simp) ?_
      refine AllReadyH.cons rfl (fun K' hK => ?_) AllReadyH.nil
      go_simp
      refine (l6Turn_spec bx ox nx nx x _ (Hx.out.ext (HE2.out.trans (And.left hHeld))) hmx).mono ?_
      rintro e w3 ⟨g3, c3, rfl, hg3, hr3, h3⟩
      have Xw3 := (And.left hHeld).trans h3
      dsimp only
      refine hK.out _ _ (ext2 Xw3) (fun hHeld => ?_)
      clear hK
      refine wpAnyH_ready (rs := [3]) (by kernel_rfl) (by simp) ?_
      refine AllReadyH.cons rfl (fun K' hK => ?_) AllReadyH.nil
      go_simp
      refine (l6Normal_spec (HT.out.ext (HE2.out.trans (And.left hHeld))) hnK.out hK1 hK4 HWO.out hr3 hmx HRx.out HO.out).mono ?_
      rintro e w4 ⟨v4, rfl, hG4, hl4, h4⟩
      have Xw4 := (And.left hHeld).trans h4
      have HG4 : Hid (Grows w4 w.heap.size v4 rows.length (rI rows)) := hG4.low (by have := (HE2.out.trans (And.left hHeld)).le; omega)
      dsimp only
      refine hK.out _ _ (ext2 Xw4) (fun hHeld => ?_)
      clear hK
      refine wpAnyH_take (i := 4) (v := ?v80) rfl (by kernel_rfl) (by kernel_rfl) (by kernel_rfl) (fun _ _ _ h => h) (Or.inl ⟨by rfl, ?hy80⟩) hHeld ?rest80
      case hy80 => (intro wz hSw; (try dsimp only at hSw); go_simp; (try with_reducible rfl))
      (try simp only [Act.put, List.getElem_toArray, List.getElem_cons_succ, List.getElem_cons_zero]); (try simp only [List.setIfInBounds_toArray]); (try simp only [List.set_cons_succ]); (try simp only [List.set_cons_zero])
      refine wpAnyH_done (by kernel_rfl) ?_ _
      have X9 := HE2.out.trans (And.left hHeld)
      clear hHeld
      go_wp2
      go_ret
      exact ⟨_, rfl, by rw [HF.out]; exact grows_own6 HG4.out (by omega), X9⟩

set_option maxRecDepth 100000 in
set_option maxHeartbeats 6400000 in
theorem inverseWord_impl {R : Int} {a0 oa n bx ox nx : Nat} {l x : List Int} {w : World} {i : List Int} (hT : Reads w (some ⟨a0, oa, none⟩) n l) (hm0 : n ≤ 1048576) (hx : Reads w (some ⟨bx, ox, none⟩) nx x) (hmx : nx ≤ 1048576) (hM : ivO R l x = i) :
    Calls Tryz.prog 33 #[.agg #[.int .i64 R, .slice (some ⟨a0, oa, none⟩) n n], .slice (some ⟨bx, ox, none⟩) nx nx] w fun e w' => ∃ v, e = .returned v ∧ Rints5 w w' v i ∧ Ext w w' := by
  subst hM
  have HT := Lib.hid hT
  have Hx := Lib.hid hx
  have hmf : ∀ (fn : Fn) (first cap : Array Value) (w : World), (Instr.makeFunc fn first cap).run Tryz.prog w = .ok (.func fn first cap) w := fun _ _ _ _ => rfl
  rcases hG : carG R l with _ | v
  · have HF : Hid (ivO R l x = []) := by rw [Hid, ivO, hG]
    clear hT hx
    have X0 := Lib.hid (((Ext.refl w).alloc (.cells #[.int .i64 R, .slice (some ⟨a0, oa, none⟩) n n] 27)).alloc (.cells #[.slice (some ⟨bx, ox, none⟩) nx nx] 22))
    go_enter Tryz.func33, Tryz.ntmps33
    go_wp2_with fail
    refine (wrapWords_no (HT.out.ext X0.out) hm0 hG).mono ?_
    rintro e w2 ⟨rfl, hE⟩
    go_wp2
    go_ret
    exact ⟨_, rfl, ⟨_, _, _, rfl, by rw [HF.out]; exact own_nil _ _ _, by omega⟩, X0.out.trans hE⟩
  · obtain ⟨K, rfl, hK1, hK4, hlK, ht⟩ := carG_some hG
    have hnK : Hid (n = K * K) := by rw [Hid, ← hT.len]; exact hlK
    obtain ⟨hh, hWOK⟩ := wOk_tab hK1 hK4 ht
    have HWO := Lib.hid hWOK
    clear hWOK
    clear hT hx
    rcases hw : wordB K x with _ | _
    · have HF : Hid (ivO K l x = []) := by rw [Hid, ivO, hG]; simp [hw]
      have X0 := Lib.hid (((Ext.refl w).alloc (.cells #[.int .i64 (K : Nat), .slice (some ⟨a0, oa, none⟩) n n] 27)).alloc (.cells #[.slice (some ⟨bx, ox, none⟩) nx nx] 22))
      have CB := Lib.hid (cells_new' (w.alloc (.cells #[.int .i64 (K : Nat), .slice (some ⟨a0, oa, none⟩) n n] 27)) #[.slice (some ⟨bx, ox, none⟩) nx nx] 22 (w.heap.size + 1) (by simp))
      have HCW := Lib.hid (wrapWords_yes K a0 oa n (w.heap.size + 1) 1 1 (fun _ => some ⟨bx, ox, none⟩) (fun _ => nx) (fun _ => nx) (fun _ => x) l v _ (HT.out.ext X0.out) hK1 hK4 ht hlK (by simp) (fun j hj => by have e : j = 0 := (by omega); subst e; exact CB.out.2 0 _ rfl) (fun j hj => ⟨Hx.out.ext X0.out, hmx⟩) (by omega))
      go_enter Tryz.func33, Tryz.ntmps33
      go_wp2_with fail
      refine HCW.out.mono ?_
      rintro e w2 (⟨h1, rfl, hE⟩ | ⟨h1, B, LB, ns, rfl, hns, hW⟩)
      · go_wp2
        go_ret
        exact ⟨_, rfl, ⟨_, _, _, rfl, by rw [HF.out]; exact own_nil _ _ _, by omega⟩, X0.out.trans hE⟩
      · rw [wordsB_one6, hw] at h1; cases h1
    · have HRx := Lib.hid (rowB_rev (wordB_rowB hw))
      obtain ⟨d, rows, hO⟩ := climb_ones hK4 HWO.out (imB_actO hK4 HWO.out HRx.out)
      have HF : Hid (ivO K l x = rI rows) := ivO_eq hG hw hO
      have HO := Lib.hid hO
      have HLX : Hid (x.reverse.length = nx) := by rw [Hid, List.length_reverse]; exact Hx.out.len
      clear hO
      have X0 := Lib.hid (((Ext.refl w).alloc (.cells #[.int .i64 (K : Nat), .slice (some ⟨a0, oa, none⟩) n n] 27)).alloc (.cells #[.slice (some ⟨bx, ox, none⟩) nx nx] 22))
      have CB := Lib.hid (cells_new' (w.alloc (.cells #[.int .i64 (K : Nat), .slice (some ⟨a0, oa, none⟩) n n] 27)) #[.slice (some ⟨bx, ox, none⟩) nx nx] 22 (w.heap.size + 1) (by simp))
      have HCW := Lib.hid (wrapWords_yes K a0 oa n (w.heap.size + 1) 1 1 (fun _ => some ⟨bx, ox, none⟩) (fun _ => nx) (fun _ => nx) (fun _ => x) l v _ (HT.out.ext X0.out) hK1 hK4 ht hlK (by simp) (fun j hj => by have e : j = 0 := (by omega); subst e; exact CB.out.2 0 _ rfl) (fun j hj => ⟨Hx.out.ext X0.out, hmx⟩) (by omega))
      go_enter Tryz.func33, Tryz.ntmps33
      go_wp2_with fail
      refine HCW.out.mono ?_
      rintro e w2 (⟨h1, rfl, hE⟩ | ⟨h1, B, LB, ns, rfl, hns, hW⟩)
      · rw [wordsB_one6, hw] at h1; cases h1
      · skip
        have HE2 := Lib.hid (X0.out.trans hW.ext)
        obtain ⟨xa, xn, xc, hbox, hstr⟩ := hW.box
        have HBX := Lib.hid hbox
        clear hW hns hbox hstr HCW
        have hBlt := HBX.out.1
        have hwle := HE2.out.le
        go_wp2_with fail
        refine (clone5 ⟨bx, ox, none⟩ nx nx x _ (Hx.out.ext HE2.out) hmx).mono ?_
        rintro e w3 ⟨b3, c3, rfl, hb3, hh3, h3, hc3⟩
        have HE3 := Lib.hid (HE2.out.trans h3)
        have HBX3 := Lib.hid (HBX.out.ext h3)
        have HH3 := Lib.hid hh3
        clear h3 hh3
        go_wp2_with fail
        refine (rev_fn b3 nx c3 x _ HH3.out Hx.out.len hmx).mono ?_
        rintro e w4 ⟨⟨u4, rfl⟩, hh4, hg4⟩
        have HE4 : Hid (Ext w w4) := HE3.out.grown hg4 (fun k hk => by simp at hk; omega)
        have HBX4 := Lib.hid (HBX3.out.grown hg4 (fun k hk => by simp at hk; omega))
        have HH4 := Lib.hid hh4
        clear hh4 hg4 HBX3 HE3 HH3 HBX HE2
        go_wp2_with fail
        refine (imageOf_impl B K a0 oa n n b3 0 nx c3 _ _ l x.reverse (ImB l K 24) _ HBX4.out (HT.out.ext HE4.out) hnK.out hK1 hK4 HWO.out.xb (HH4.out.reads HLX.out) hmx HRx.out (imB_ones hK4 HWO.out.rt) (imB_bnd6 HWO.out.rt (by omega) (by omega)) (fun u i hi hu => imB_turn HWO.out.rt hu hi)).mono ?_
        rintro e w5 ⟨b5, c5, rfl, hc5, hb51, hb52, hh5, hP5, h5⟩
        have HE5 := Lib.hid (HE4.out.trans h5)
        have HBX5 := Lib.hid (HBX4.out.ext h5)
        have HH5 := Lib.hid hh5
        have HP5 := Lib.hid hP5
        clear h5 hh5 HBX4 HE4 hP5 HH4
        go_wp2_with fail
        refine (normalOf_impl B K a0 oa n n K c5 b5 0 _ _ l hh _ d rows _ HBX5.out (HT.out.ext HE5.out) hnK.out hK1 hK4 HWO.out.xb HWO.out.cl (HH5.out.reads HP5.out.len) (by omega) HO.out).mono ?_
        rintro e w6 ⟨h6, v6, rfl, hG6, hl6⟩
        have HG6 : Hid (Grows w6 w.heap.size v6 rows.length (rI rows)) := hG6.low HE5.out.le
        clear hG6
        go_wp2
        go_ret
        exact ⟨_, rfl, by rw [HF.out]; exact grows_own6 HG6.out (by omega), HE5.out.trans h6⟩
end Go.Proofs.YthhgodjobddenaaGreat
