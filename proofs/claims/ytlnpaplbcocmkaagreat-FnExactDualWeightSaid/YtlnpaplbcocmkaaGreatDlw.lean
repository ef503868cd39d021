/-
  DualWeight, in both texts.
-/
import Derived.Test.YtlnpaplbcocmkaaGreatHw
import Derived.Test.YtlnpaplbcocmkaaGreatBl
import Derived.Test.YtlnpaplbcocmkaaGreatTw7
import Derived.Test.YtlnpaplbcocmkaaGreatRev
namespace Go.Proofs.YtlnpaplbcocmkaaGreat
open Go.ChangeShapes Go.WideShapes Go.ChangeAt Go.RowKit
set_option linter.unusedVariables false
set_option linter.unusedSimpArgs false

def dwO (R : Int) (l x : List Int) : List Int := match carG R l with
  | some _ => if hiB R.toNat x then (match climbO l R.toNat (negL x) with | some p => p.1 | none => []) else []
  | none => []
theorem hiB_bnd {R : Nat} {ys : List Int} (h : hiB R ys = true) : ys.length = R ∧ ∀ e, 0 ≤ gi ys e ∧ gi ys e ≤ 3 := by
  rw [hiB, Bool.and_eq_true, List.all_eq_true] at h
  refine ⟨eq_of_beq h.1, fun e => ?_⟩
  by_cases he : e < ys.length
  · rw [show gi ys e = ys[e] by simp [gi, he]]
    exact of_decide_eq_true (h.2 _ (List.getElem_mem he))
  · rw [show gi ys e = 0 by simp [gi, List.getD_eq_getElem?_getD, he]]; omega
theorem desc_lt9 {xs v : List Int} {R : Nat} {p : List Nat} (h : Desc xs R v p) : ∀ k, k ∈ p → k < R := by
  induction h with
  | nil => intro k hk; cases hk
  | cons hi _ _ ih =>
    intro k hk
    rcases List.mem_cons.1 hk with e | e
    · omega
    · exact ih k e
theorem desc_ne {xs v : List Int} {R : Nat} {p : List Nat} (h : Desc xs R v p) : (∃ i, i < R ∧ gi v i < 0) → 0 < p.length := by
  induction h with
  | nil => rintro ⟨i, hi, hn⟩; rw [gi_one hi] at hn; omega
  | cons _ _ _ _ => intro _; simp
theorem rI_fold (xs : List Int) (R : Nat) (rows : List Nat) (y : List Int) : (rI rows).foldr (fun i a => turnM xs R i.toNat a) y = rows.reverse.foldl (fun u k => turnM xs R k u) y := by
  rw [List.foldl_reverse, rI, List.foldr_map]
  rfl
theorem rI_row {R : Nat} {rows : List Nat} (h : ∀ k, k ∈ rows → k < R) : rowB R (rI rows) = true := by
  rw [rowB, List.all_eq_true]
  intro y hy
  obtain ⟨k, hk, rfl⟩ := List.mem_map.1 hy
  have := h k hk
  exact decide_eq_true ⟨by omega, by omega⟩
/-- What is known of a highest weight's opposite. -/
theorem dual_all {xs hh x : List Int} {R : Nat} (hR : R ≤ 4) (hcl : Climbs xs hh R) (hbo : BOk xs hh R) (hx : hiB R x = true) : ∃ d rows d0 rows0, climbO xs R (negL x) = some (d, rows) ∧ climbO xs R (List.replicate R (-1)) = some (d0, rows0) ∧ Desc xs R (List.replicate R (-1)) rows0 ∧ rows0.reverse.foldl (fun u k => turnM xs R k u) (negL x) = d ∧ d.length = R ∧ ImB xs R (24 * 3) (negL x) := by
  obtain ⟨hl, hb⟩ := hiB_bnd hx
  have hI : ImB xs R (24 * 3) (negL x) := imB_start hR hbo.co.clo (by rw [negL_length, hl]) (by omega) (fun k => by rw [gi_negL]; have := hb k; omega)
  obtain ⟨d, rows, h1⟩ := climbO_total (P := ImB xs R (24 * 3)) hR hcl (fun u hu => imB_lat hbo.co.clo (by omega) (by omega) hu) (fun u i hi hu => imB_turn hbo.co.clo hu hi) _ (negL x) (Nat.lt_succ_self _) hI
  obtain ⟨d0, rows0, h2⟩ := climb_img hbo (img_low hbo.co)
  have hd := climb_desc hR hcl hbo.co _ _ d0 rows0 rfl (img_low hbo.co) h2
  obtain ⟨h3, _, h4⟩ := climb_top hbo.co hbo.pr hd _ (negL x) d rows h1
  exact ⟨d, rows, d0, rows0, h1, h2, hd, by rw [dual_act hbo.co hbo.pr hd hl (fun k => (hb k).1)]; exact h4, h3, hI⟩

set_option maxRecDepth 100000 in
set_option maxHeartbeats 6400000 in
theorem dualWeight_spec {R : Int} {a0 oa n bx ox nx : Nat} {l x : List Int} {w : World} {i : List Int} (hT : Reads w (some ⟨a0, oa, none⟩) n l) (hm0 : n ≤ 1048576) (hx : Reads w (some ⟨bx, ox, none⟩) nx x) (hmx : nx ≤ 1048576) (hM : dwO R l x = i) :
    Calls Tryz.prog 34 #[.agg #[.int .i64 R, .slice (some ⟨a0, oa, none⟩) n n], .slice (some ⟨bx, ox, none⟩) nx nx] w fun e w' => ∃ v, e = .returned v ∧ Rints5 w w' v i ∧ Ext w w' := by
  subst hM
  have HT := Lib.hid hT
  have Hx := Lib.hid hx
  rcases hG : carG R l with _ | v
  · have HF : Hid (dwO R l x = []) := by rw [Hid, dwO, hG]
    clear hT hx
    go_enter Tryz.func34, Tryz.ntmps34
    go_wp2_with fail
    refine (isCartan_no (HT.out.ext ((Ext.refl w).alloc _)) hm0 hG).mono ?_
    rintro e w2 ⟨rfl, hE⟩
    go_wp2
    go_ret
    exact ⟨_, rfl, ⟨_, _, _, rfl, by rw [HF.out]; exact own_nil _ _ _, by omega⟩, ((Ext.refl w).alloc _).trans hE⟩
  · obtain ⟨K, rfl, hK1, hK4, hlK, ht⟩ := carG_some hG
    have hnK : Hid (n = K * K) := by rw [Hid, ← hT.len]; exact hlK
    obtain ⟨hh, hW⟩ := wOk_tab hK1 hK4 ht
    have HW := Lib.hid hW
    have HBO := Lib.hid (bOk_tab hK1 hK4 ht hW.cl)
    have HF : Hid (dwO K l x = if hiB K x then (match climbO l K (negL x) with | some p => p.1 | none => []) else []) := by rw [Hid, dwO, hG]; rfl
    clear hT hx hW
    go_enter Tryz.func34, Tryz.ntmps34
    go_wp2_with fail
    refine (isCartan_yes (HT.out.ext ((Ext.refl w).alloc _)) hm0 hG).mono ?_
    rintro e w3 ⟨rfl, hE⟩
    have HE3 := Lib.hid (((Ext.refl w).alloc _).trans hE)
    have HB3 := Lib.hid ((cells_new w #[.int .i64 (K : Nat), .slice (some ⟨a0, oa, none⟩) n n] 27).ext hE)
    have lB := HB3.out.1
    have q0 := HB3.out.2 0 _ rfl
    have q1 := HB3.out.2 1 _ rfl
    clear hE
    go_wp2_with fail
    clear lB q0 q1
    refine (l8Highest_spec K a0 oa n n bx ox nx nx x _ (Hx.out.ext HE3.out) hK4 hmx).mono ?_
    rintro e w4 ⟨rfl, h4⟩
    have HE4 := Lib.hid (HE3.out.trans h4)
    have HB4 := Lib.hid (HB3.out.ext h4)
    clear h4 HB3 HE3
    have lB := HB4.out.1
    have q0 := HB4.out.2 0 _ rfl
    have q1 := HB4.out.2 1 _ rfl
    rcases hL : hiB K x with _ | _
    · have HF := Lib.hid (HF.out.trans (if_neg (by rw [hL]; simp)))
      go_wp2
      go_ret
      exact ⟨_, rfl, ⟨_, _, _, rfl, by rw [HF.out]; exact own_nil _ _ _, by omega⟩, HE4.out⟩
    · obtain ⟨d, rows, d0, rows0, hc1, hc2, hdd, hact, hdl, hIm⟩ := dual_all hK4 HW.out.cl HBO.out hL
      have HF : Hid (dwO K l x = d) := by rw [Hid, HF.out, if_pos hL, hc1]
      obtain ⟨hxl, hxb⟩ := hiB_bnd hL
      have HXB := Lib.hid hxb
      have HNX : Hid (nx = K) := by rw [Hid, ← Hx.out.len]; exact hxl
      have hnx := HNX.out
      subst hnx
      have HC2 := Lib.hid hc2
      have HDL := Lib.hid hdl
      have HAC := Lib.hid hact
      have HIM := Lib.hid hIm
      have HRB := Lib.hid (rI_row (desc_lt9 hdd))
      have hrl0 : 0 < rows0.length := desc_ne hdd ⟨0, by omega, gi_low (by omega)⟩
      have HLONG : Hid (∀ w1, Ext w4 w1 → Calls Tryz.prog 74 #[.agg #[.int .i64 (nx : Nat), .slice (some ⟨a0, oa, none⟩) n n]] w1 fun e w' => ∃ v, e = .returned v ∧ Grows w' w1.heap.size v rows0.length (rI rows0) ∧ rows0.length ≤ 512001 ∧ Ext w1 w') := fun w1 h => l6Longest_spec (HT.out.ext (HE4.out.trans h)) hnK.out hK1 hK4 HW.out HC2.out
      have HMIN : Hid (∀ w1, Ext w4 w1 → Calls Tryz.prog 75 #[.slice (some ⟨bx, ox, none⟩) nx nx] w1 fun e w' => ∃ b, e = .returned (.slice (some ⟨b, 0, none⟩) nx nx) ∧ w1.heap.size ≤ b ∧ b < w'.heap.size ∧ Has w' b (negL x) ∧ Ext w1 w') := fun w1 h => l5Minus_spec nx nx _ x w1 (Hx.out.ext (HE4.out.trans h)) (by omega) (fun e => by have := HXB.out e; omega)
      have HACT : Hid (∀ w1 bw cw bm, Ext w4 w1 → rows0.length ≤ 512001 → Reads w1 (some ⟨bw, 0, none⟩) rows0.length (rI rows0) → Has w1 bm (negL x) → Calls Tryz.prog 73 #[.agg #[.int .i64 (nx : Nat), .slice (some ⟨a0, oa, none⟩) n n], .slice (some ⟨bw, 0, none⟩) rows0.length cw, .slice (some ⟨bm, 0, none⟩) nx nx] w1 fun e w' => ∃ b c9, e = .returned (.slice (some ⟨b, 0, none⟩) nx c9) ∧ nx ≤ c9 ∧ w1.heap.size ≤ b ∧ b < w'.heap.size ∧ Has w' b d ∧ Ext w1 w') := fun w1 bw cw bm h hrl hrw hm => by
        refine (l6Act_spec nx a0 oa n n bw 0 rows0.length cw bm 0 nx l (rI rows0) (negL x) (ImB l nx (24 * 3)) w1 (HT.out.ext (HE4.out.trans h)) hnK.out hK1 hK4 HW.out.xb hrw (by omega) HRB.out (hm.reads (by rw [negL_length]; exact hxl)) HIM.out (fun u hu => ⟨hu.len, fun e => by have := imB_ent HW.out.rt (by omega) hu e; omega⟩) (fun u i hi hu => imB_turn HW.out.rt hu hi)).mono ?_
        rintro e w' ⟨b, c9, h1, h2, h3, h4, h5, _, h6⟩
        rw [rI_fold, HAC.out] at h5
        exact ⟨b, c9, h1, h2, h3, h4, h5, h6⟩
      clear hc1 hc2 hdd hact hdl hIm hxb hL hxl
      go_wp2_with fail
      refine wp_region_held_drew (S := (fun w' => Ext w4 w' ∧ (∀ b o, b < w4.heap.size → w'.cell? ⟨b, o, none⟩ = w4.cell? ⟨b, o, none⟩))) (by kernel_rfl) (ext2 (Ext.refl w4).drew) (fun hHeld => ?_)
      refine wpAnyH_take (i := 0) (v := ?v3) rfl (by kernel_rfl) (by kernel_rfl) (by kernel_rfl) (fun _ _ _ h => h) (Or.inl ⟨by rfl, ?hy3⟩) hHeld ?rest3
      case hy3 => (intro wz hSw; (try dsimp only at hSw); go_simp; (try with_reducible rfl))
      (try simp only [Act.put, List.getElem_toArray, List.getElem_cons_succ, List.getElem_cons_zero]); (try simp only [List.setIfInBounds_toArray]); (try simp only [List.set_cons_succ]); (try simp only [List.set_cons_zero])
      refine wpAnyH_take (i := 1) (v := ?v4) rfl (by kernel_rfl) (by kernel_rfl) (by kernel_rfl) (fun _ _ _ h => h) (Or.inl ⟨by rfl, ?hy4⟩) hHeld ?rest4
      case hy4 => (intro wz hSw; (try dsimp only at hSw); go_simp; (try with_reducible rfl))
      (try simp only [Act.put, List.getElem_toArray, List.getElem_cons_succ, List.getElem_cons_zero]); (try simp only [List.setIfInBounds_toArray]); (try simp only [List.set_cons_succ]); (try simp only [List.set_cons_zero])
      refine wpAnyH_take (i := 3) (v := ?v5) rfl (by kernel_rfl) (by kernel_rfl) (by kernel_rfl) (fun _ _ _ h => h) (Or.inl ⟨by rfl, ?hy5⟩) hHeld ?rest5
      case hy5 => (intro wz hSw; (try dsimp only at hSw); go_simp; (try with_reducible rfl))
      (try simp only [Act.put, List.getElem_toArray, List.getElem_cons_succ, List.getElem_cons_zero]); (try simp only [List.setIfInBounds_toArray]); (try simp only [List.set_cons_succ]); (try simp only [List.set_cons_zero])
      refine wpAnyH_ready (rs := [2]) (by kernel_rfl) (by simp) ?_
      refine AllReadyH.cons rfl (fun K' hK => ?_) AllReadyH.nil
      go_simp
      refine (HLONG.out _ (And.left hHeld)).mono ?_
      rintro e w5 ⟨vw, rfl, hGw, hlw, hE5⟩
      obtain ⟨bw, cw, rfl, _⟩ := Grows.addr5 hGw hrl0
      obtain ⟨aw9, cw9, ew9, hOw⟩ := hGw.shape
      injection ew9 with ew9 ew91 ew92
      subst ew9
      clear ew91 ew92
      have HRW := Lib.hid hOw.reads
      have X5 := (And.left hHeld).trans hE5
      dsimp only
      refine hK.out _ _ (ext2 X5) (fun hHeld => ?_)
      clear hK hGw hOw
      refine wpAnyH_ready (rs := [4]) (by kernel_rfl) (by simp) ?_
      refine AllReadyH.cons rfl (fun K' hK => ?_) AllReadyH.nil
      go_simp
      refine (HMIN.out _ X5).mono ?_
      rintro e w6 ⟨bm, rfl, hbm, hbm2, hhm, hE6⟩
      have X6 := X5.trans hE6
      dsimp only
      refine hK.out _ _ (ext2 X6) (fun hHeld => ?_)
      clear hK
      refine wpAnyH_ready (rs := [5]) (by kernel_rfl) (by simp) ?_
      refine AllReadyH.cons rfl (fun K' hK => ?_) AllReadyH.nil
      go_simp
      refine (HACT.out _ bw cw bm X6 hlw (HRW.out.ext hE6) hhm).mono ?_
      rintro e w7 ⟨b7, c7, rfl, hc7, hb7, hb72, hh7, hE7⟩
      have X7 := X6.trans hE7
      dsimp only
      refine hK.out _ _ (ext2 X7) (fun hHeld => ?_)
      clear hK
      refine wpAnyH_take (i := 6) (v := ?v6) rfl (by kernel_rfl) (by kernel_rfl) (by kernel_rfl) (fun _ _ _ h => h) (Or.inl ⟨by rfl, ?hy6⟩) hHeld ?rest6
      case hy6 => (intro wz hSw; (try dsimp only at hSw); go_simp; (try with_reducible rfl))
      (try simp only [Act.put, List.getElem_toArray, List.getElem_cons_succ, List.getElem_cons_zero]); (try simp only [List.setIfInBounds_toArray]); (try simp only [List.set_cons_succ]); (try simp only [List.set_cons_zero])
      refine wpAnyH_done (by kernel_rfl) ?_ _
      clear hHeld
      have HH7 := Lib.hid hh7
      have HE7 := Lib.hid (HE4.out.trans X7)
      have hle7 := (HE4.out.trans X6).le
      clear hh7 hE7 X7
      go_wp2
      go_ret
      exact ⟨_, rfl, ⟨_, _, _, rfl, by rw [HF.out]; exact HH7.out.own (by omega) hb72 HDL.out, by omega⟩, HE7.out⟩

set_option maxRecDepth 100000 in
set_option maxHeartbeats 6400000 in
theorem dualWeight_impl {R : Int} {a0 oa n bx ox nx : Nat} {l x : List Int} {w : World} {i : List Int} (hT : Reads w (some ⟨a0, oa, none⟩) n l) (hm0 : n ≤ 1048576) (hx : Reads w (some ⟨bx, ox, none⟩) nx x) (hmx : nx ≤ 1048576) (hM : dwO R l x = i) :
    Calls Tryz.prog 35 #[.agg #[.int .i64 R, .slice (some ⟨a0, oa, none⟩) n n], .slice (some ⟨bx, ox, none⟩) nx nx] w fun e w' => ∃ v, e = .returned v ∧ Rints5 w w' v i ∧ Ext w w' := by
  subst hM
  have HT := Lib.hid hT
  have Hx := Lib.hid hx
  rcases hG : carG R l with _ | v
  · have HF : Hid (dwO R l x = []) := by rw [Hid, dwO, hG]
    have X1 := Lib.hid (((Ext.refl w).alloc (.cells #[.int .i64 R, .slice (some ⟨a0, oa, none⟩) n n] 27)).alloc (.cells #[.slice (some ⟨bx, ox, none⟩) nx nx] 22))
    clear hT hx
    go_enter Tryz.func35, Tryz.ntmps35
    go_wp2_with fail
    refine (wrapHighest_no (HT.out.ext X1.out) hm0 hG).mono ?_
    rintro e w2 ⟨rfl, hE⟩
    go_wp2
    go_ret
    exact ⟨_, rfl, ⟨_, _, _, rfl, by rw [HF.out]; exact own_nil _ _ _, by omega⟩, X1.out.trans hE⟩
  · obtain ⟨K, rfl, hK1, hK4, hlK, ht⟩ := carG_some hG
    have hnK : Hid (n = K * K) := by rw [Hid, ← hT.len]; exact hlK
    obtain ⟨hh, hW⟩ := wOk_tab hK1 hK4 ht
    have HW := Lib.hid hW
    have HBO := Lib.hid (bOk_tab hK1 hK4 ht hW.cl)
    have HLO := Lib.hid (lenOk_tab (by omega) hK4 ht)
    have HRO := Lib.hid (rootsOk_tab (by omega) hK4 ht)
    have HF : Hid (dwO K l x = if hiB K x then (match climbO l K (negL x) with | some p => p.1 | none => []) else []) := by rw [Hid, dwO, hG]; rfl
    have X1 := Lib.hid (((Ext.refl w).alloc (.cells #[.int .i64 (K : Nat), .slice (some ⟨a0, oa, none⟩) n n] 27)).alloc (.cells #[.slice (some ⟨bx, ox, none⟩) nx nx] 22))
    have HCN := Lib.hid (cells_new (w.alloc (.cells #[.int .i64 (K : Nat), .slice (some ⟨a0, oa, none⟩) n n] 27)) #[.slice (some ⟨bx, ox, none⟩) nx nx] 22)
    have hsz : (w.alloc (.cells #[.int .i64 (K : Nat), .slice (some ⟨a0, oa, none⟩) n n] 27)).heap.size = w.heap.size + 1 := by simp
    have hc9 := HCN.out.2 0 _ rfl
    have hc8 := HCN.out.1
    rw [hsz] at hc9 hc8
    have HWH := Lib.hid (wrapHighest_yes (g := w.heap.size + 1) (c := 1) (HT.out.ext X1.out) hK1 hK4 ht hlK HRO.out HLO.out hc9 hc8 (Hx.out.ext X1.out) hmx)
    clear hsz hc9 hc8
    clear hT hx hW
    go_enter Tryz.func35, Tryz.ntmps35
    go_wp2_with fail
    refine HWH.out.mono ?_
    rintro e w4 (⟨hL, rfl, h4⟩ | ⟨hL, S, B, LB, ns, gr, cr, rfl, hns, hS⟩)
    · have HF := Lib.hid (HF.out.trans (if_neg (by rw [hL]; simp)))
      go_wp2
      go_ret
      exact ⟨_, rfl, ⟨_, _, _, rfl, by rw [HF.out]; exact own_nil _ _ _, by omega⟩, X1.out.trans h4⟩
    · have HS := Lib.hid (hS.low X1.out)
      have HE4 := Lib.hid HS.out.wr.ext
      have lS := hS.box.1
      have q0 := hS.box.2 0 _ rfl
      obtain ⟨xa, xn, xc, hbox, hstr⟩ := HS.out.wr.box
      have HBX := Lib.hid hbox
      clear hS hns hbox hstr HWH
      obtain ⟨d, rows, d0, rows0, hc1, hc2, hdd, hact, hdl, hIm⟩ := dual_all hK4 HW.out.cl HBO.out hL
      have HF : Hid (dwO K l x = d) := by rw [Hid, HF.out, if_pos hL, hc1]
      obtain ⟨hxl, hxb⟩ := hiB_bnd hL
      have HXB := Lib.hid hxb
      have HNX : Hid (nx = K) := by rw [Hid, ← Hx.out.len]; exact hxl
      have hnx := HNX.out
      subst hnx
      have HC1 := Lib.hid hc1
      have HDL := Lib.hid hdl
      have HXL := Lib.hid hxl
      have HMIN : Hid (∀ w1, Ext w4 w1 → Calls Tryz.prog 78 #[.slice (some ⟨bx, ox, none⟩) nx nx] w1 fun e w' => ∃ b, e = .returned (.slice (some ⟨b, 0, none⟩) nx nx) ∧ w1.heap.size ≤ b ∧ b < w'.heap.size ∧ Has w' b (negL x) ∧ Ext w1 w') := fun w1 h => negated_impl nx nx _ x w1 (Hx.out.ext (HE4.out.trans h)) (by omega) (fun e => by have := HXB.out e; omega)
      have HRA : Hid (∀ w1 bm, Ext w4 w1 → Has w1 bm (negL x) → Calls Tryz.prog 77 #[.pointer (some ⟨B, 0, none⟩), .slice (some ⟨bm, 0, none⟩) nx nx] w1 fun e w' => ∃ b c9 a9 n9 k9, e = .returned (.tuple #[.slice (some ⟨b, 0, none⟩) nx c9, .slice a9 n9 k9, .bool true]) ∧ w1.heap.size ≤ b ∧ b < w'.heap.size ∧ Has w' b d ∧ Ext w1 w') := fun w1 bm h hm => by
        refine (raised_impl B nx a0 oa n n nx nx bm 0 _ _ l hh (negL x) w1 (HBX.out.ext h) (HT.out.ext (HE4.out.trans h)) hnK.out hK1 hK4 HW.out.xb HW.out.cl (hm.reads (by rw [negL_length]; exact HXL.out)) hmx).mono ?_
        rintro e w' ⟨h6, ⟨hO, _⟩ | ⟨d9, rows9, b, c9, v9, hO, rfl, _, hb, hb2, hhd, _, hGr, _, _⟩⟩
        · rw [HC1.out] at hO; cases hO
        · rw [HC1.out] at hO
          injection hO with hO
          injection hO with hO1 hO2
          subst hO1
          obtain ⟨a9, k9, rfl, _⟩ := hGr.shape
          exact ⟨b, c9, a9, _, k9, rfl, hb, hb2, hhd, h6⟩
      clear hc1 hc2 hdd hact hdl hIm hxb hL hxl
      go_wp2_with fail
      refine wp_region_held_drew (S := (fun w' => Ext w4 w' ∧ (∀ b o, b < w4.heap.size → w'.cell? ⟨b, o, none⟩ = w4.cell? ⟨b, o, none⟩))) (by kernel_rfl) (ext2 (Ext.refl w4).drew) (fun hHeld => ?_)
      refine wpAnyH_take (i := 0) (v := ?v8) rfl (by kernel_rfl) (by kernel_rfl) (by kernel_rfl) (fun _ _ _ h => h) (Or.inl ⟨by rfl, ?hy8⟩) hHeld ?rest8
      case hy8 => (intro wz hSw; (try dsimp only at hSw); go_simp; (try with_reducible rfl))
      (try simp only [Act.put, List.getElem_toArray, List.getElem_cons_succ, List.getElem_cons_zero]); (try simp only [List.setIfInBounds_toArray]); (try simp only [List.set_cons_succ]); (try simp only [List.set_cons_zero])
      refine wpAnyH_take (i := 1) (v := ?v9) rfl (by kernel_rfl) (by kernel_rfl) (by kernel_rfl) (fun _ _ _ h => h) (Or.inl ⟨by rfl, ?hy9⟩) hHeld ?rest9
      case hy9 => (intro wz hSw; (try dsimp only at hSw); go_simp; (try with_reducible rfl))
      (try simp only [Act.put, List.getElem_toArray, List.getElem_cons_succ, List.getElem_cons_zero]); (try simp only [List.setIfInBounds_toArray]); (try simp only [List.set_cons_succ]); (try simp only [List.set_cons_zero])
      refine wpAnyH_take (i := 2) (v := ?v10) rfl (by kernel_rfl) (by kernel_rfl) (by kernel_rfl) (fun _ _ _ h => h) (Or.inl ⟨by rfl, ?hy10⟩) hHeld ?rest10
      case hy10 => (intro wz hSw; (try dsimp only at hSw); go_simp; (try with_reducible rfl))
      (try simp only [Act.put, List.getElem_toArray, List.getElem_cons_succ, List.getElem_cons_zero]); (try simp only [List.setIfInBounds_toArray]); (try simp only [List.set_cons_succ]); (try simp only [List.set_cons_zero])
      refine wpAnyH_take (i := 3) (v := ?v11) rfl (by kernel_rfl) (by kernel_rfl) (by kernel_rfl) (fun _ _ _ h => h) (Or.inl ⟨by rfl, ?hy11⟩) hHeld ?rest11
      case hy11 => (intro wz hSw; (try dsimp only at hSw); go_simp; (try with_reducible rfl))
      (try simp only [Act.put, List.getElem_toArray, List.getElem_cons_succ, List.getElem_cons_zero]); (try simp only [List.setIfInBounds_toArray]); (try simp only [List.set_cons_succ]); (try simp only [List.set_cons_zero])
      refine wpAnyH_take (i := 4) (v := ?v12) rfl (by kernel_rfl) (by kernel_rfl) (by kernel_rfl) (fun _ _ _ h => h) (Or.inl ⟨by rfl, ?hy12⟩) hHeld ?rest12
      case hy12 => (intro wz hSw; (try dsimp only at hSw); go_simp; (try with_reducible rfl))
      (try simp only [Act.put, List.getElem_toArray, List.getElem_cons_succ, List.getElem_cons_zero]); (try simp only [List.setIfInBounds_toArray]); (try simp only [List.set_cons_succ]); (try simp only [List.set_cons_zero])
      refine wpAnyH_ready (rs := [5]) (by kernel_rfl) (by simp) ?_
      refine AllReadyH.cons rfl (fun K' hK => ?_) AllReadyH.nil
      go_simp
      refine (HMIN.out _ (And.left hHeld)).mono ?_
      rintro e w5 ⟨bm, rfl, hbm, hbm2, hhm, hE5⟩
      have X5 := (And.left hHeld).trans hE5
      have HRAI := Lib.hid (HRA.out _ bm X5 hhm)
      dsimp only
      refine hK.out _ _ (ext2 X5) (fun hHeld => ?_)
      clear hK
      refine wpAnyH_ready (rs := [6]) (by kernel_rfl) (by simp) ?_
      refine AllReadyH.cons rfl (fun K' hK => ?_) AllReadyH.nil
      go_simp
      refine HRAI.out.mono ?_
      rintro e w6 ⟨b6, c6, a9, n9, k9, rfl, hb6, hb62, hh6, hE6⟩
      have X6 := X5.trans hE6
      dsimp only
      refine hK.out _ _ (ext2 X6) (fun hHeld => ?_)
      clear hK
      refine wpAnyH_take (i := 7) (v := ?v13) rfl (by kernel_rfl) (by kernel_rfl) (by kernel_rfl) (fun _ _ _ h => h) (Or.inl ⟨by rfl, ?hy13⟩) hHeld ?rest13
      case hy13 => (intro wz hSw; (try dsimp only at hSw); go_simp; (try with_reducible rfl))
      (try simp only [Act.put, List.getElem_toArray, List.getElem_cons_succ, List.getElem_cons_zero]); (try simp only [List.setIfInBounds_toArray]); (try simp only [List.set_cons_succ]); (try simp only [List.set_cons_zero])
      refine wpAnyH_take (i := 8) (v := ?v14) rfl (by kernel_rfl) (by kernel_rfl) (by kernel_rfl) (fun _ _ _ h => h) (Or.inl ⟨by rfl, ?hy14⟩) hHeld ?rest14
      case hy14 => (intro wz hSw; (try dsimp only at hSw); go_simp; (try with_reducible rfl))
      (try simp only [Act.put, List.getElem_toArray, List.getElem_cons_succ, List.getElem_cons_zero]); (try simp only [List.setIfInBounds_toArray]); (try simp only [List.set_cons_succ]); (try simp only [List.set_cons_zero])
      refine wpAnyH_take (i := 9) (v := ?v15) rfl (by kernel_rfl) (by kernel_rfl) (by kernel_rfl) (fun _ _ _ h => h) (Or.inl ⟨by rfl, ?hy15⟩) hHeld ?rest15
      case hy15 => (intro wz hSw; (try dsimp only at hSw); go_simp; (try with_reducible rfl))
      (try simp only [Act.put, List.getElem_toArray, List.getElem_cons_succ, List.getElem_cons_zero]); (try simp only [List.setIfInBounds_toArray]); (try simp only [List.set_cons_succ]); (try simp only [List.set_cons_zero])
      refine wpAnyH_take (i := 10) (v := ?v16) rfl (by kernel_rfl) (by kernel_rfl) (by kernel_rfl) (fun _ _ _ h => h) (Or.inl ⟨by rfl, ?hy16⟩) hHeld ?rest16
      case hy16 => (intro wz hSw; (try dsimp only at hSw); go_simp; (try with_reducible rfl))
      (try simp only [Act.put, List.getElem_toArray, List.getElem_cons_succ, List.getElem_cons_zero]); (try simp only [List.setIfInBounds_toArray]); (try simp only [List.set_cons_succ]); (try simp only [List.set_cons_zero])
      refine wpAnyH_take (i := 11) (v := ?v17) rfl (by kernel_rfl) (by kernel_rfl) (by kernel_rfl) (fun _ _ _ h => h) (Or.inl ⟨by rfl, ?hy17⟩) hHeld ?rest17
      case hy17 => (intro wz hSw; (try dsimp only at hSw); go_simp; (try with_reducible rfl))
      (try simp only [Act.put, List.getElem_toArray, List.getElem_cons_succ, List.getElem_cons_zero]); (try simp only [List.setIfInBounds_toArray]); (try simp only [List.set_cons_succ]); (try simp only [List.set_cons_zero])
      refine wpAnyH_take (i := 12) (v := ?v18) rfl (by kernel_rfl) (by kernel_rfl) (by kernel_rfl) (fun _ _ _ h => h) (Or.inl ⟨by rfl, ?hy18⟩) hHeld ?rest18
      case hy18 => (intro wz hSw; (try dsimp only at hSw); go_simp; (try with_reducible rfl))
      (try simp only [Act.put, List.getElem_toArray, List.getElem_cons_succ, List.getElem_cons_zero]); (try simp only [List.setIfInBounds_toArray]); (try simp only [List.set_cons_succ]); (try simp only [List.set_cons_zero])
      refine wpAnyH_take (i := 13) (v := ?v19) rfl (by kernel_rfl) (by kernel_rfl) (by kernel_rfl) (fun _ _ _ h => h) (Or.inl ⟨by rfl, ?hy19⟩) hHeld ?rest19
      case hy19 => (intro wz hSw; (try dsimp only at hSw); go_simp; (try with_reducible rfl))
      (try simp only [Act.put, List.getElem_toArray, List.getElem_cons_succ, List.getElem_cons_zero]); (try simp only [List.setIfInBounds_toArray]); (try simp only [List.set_cons_succ]); (try simp only [List.set_cons_zero])
      refine wpAnyH_done (by kernel_rfl) ?_ _
      clear hHeld
      have HH7 := Lib.hid hh6
      have HE7 := Lib.hid (HE4.out.trans X6)
      have hle7 := (HE4.out.trans X5).le
      clear hh6 hE6 X6
      go_wp2
      go_ret
      exact ⟨_, rfl, ⟨_, _, _, rfl, by rw [HF.out]; exact HH7.out.own (by omega) hb62 HDL.out, by omega⟩, HE7.out⟩
end Go.Proofs.YtlnpaplbcocmkaaGreat
