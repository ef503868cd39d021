/-
  How many elements have each length, by the program.
-/
import Derived.Test.YtlnpaplbcocmkaaGreatOp
import Derived.Test.YtlnpaplbcocmkaaGreatCz
namespace Go.Proofs.YtlnpaplbcocmkaaGreat
open Go.ChangeShapes Go.WideShapes Go.ChangeAt Go.RowKit
set_option linter.unusedVariables false
set_option linter.unusedSimpArgs false

theorem cZ_filter {l : List (List Int × List Int)} (m : Nat) : ∀ k, k ≤ l.length → cZ (fun k => (entO l k).2.length) k m = ((l.take k).filter fun c => c.2.length == m).length
  | 0, _ => by simp [cZ]
  | k + 1, hk => by
    rw [cZ, cZ_filter m k (by omega), List.take_succ_eq_append_getElem (by omega), List.filter_append, List.length_append, entO_lt (by omega)]
    congr 1
    by_cases h : (l[k]).2.length = m
    · rw [if_pos h]; simp [h]
    · rw [if_neg h]; simp [h]
theorem lensA_map (xs : List Int) (R : Nat) : ∀ n, lensA xs R n = (List.range n).map fun m => (((levA xs R m).length : Nat) : Int)
  | 0 => rfl
  | n + 1 => by rw [lensA, lensA_map xs R n, List.range_succ, List.map_append]; rfl
theorem lens_counts {xs : List Int} {R : Nat} {l : List (List Int × List Int)} (h : CoOk xs R) (ho : OrbOk xs R (List.replicate R 1) l.length l) (n : Nat) : cL (fun k => (entO l k).2.length) l.length n = lensA xs R n := by
  rw [cL, lensA_map]
  refine List.map_congr_left (fun m _ => ?_)
  rw [cZ_filter m _ (Nat.le_refl _), List.take_length, ← (lev_orb h ho rfl m).length_eq, List.length_map]
theorem lev_some {xs : List Int} {R k : Nat} (h : CoOk xs R) (h24 : (posR (trn xs R) R).length ≤ 24) (hk : k < levN xs R) : levA xs R k ≠ [] := by
  have h1 : levN xs R < (List.range 26).length := by
    rw [levN]
    exact List.findIdx_lt_length_of_exists ⟨25, by simp, by rw [lev_bnd h (by omega)]; rfl⟩
  have h2 := List.not_of_lt_findIdx (p := fun k => (levA xs R k).isEmpty) (xs := List.range 26) hk
  intro e
  simp [e] at h2
theorem lev_pos {xs : List Int} {R : Nat} (h : CoOk xs R) (h24 : (posR (trn xs R) R).length ≤ 24) : 0 < levN xs R := by
  apply Classical.byContradiction
  intro hn
  have h1 := levN_nil h h24
  rw [show levN xs R = 0 by omega] at h1
  cases h1
theorem last_len {xs : List Int} {R : Nat} {l : List (List Int × List Int)} (h : CoOk xs R) (h24 : (posR (trn xs R) R).length ≤ 24) (ho : OrbOk xs R (List.replicate R 1) l.length l) : 0 < l.length ∧ (entO l (l.length - 1)).2.length + 1 = levN xs R ∧ ∀ k, k < l.length → (entO l k).2.length < levN xs R := by
  have h0 : 0 < l.length := by
    have := ho.head
    cases l with
    | nil => cases this
    | cons a l => simp
  have hs : ∀ k, k < l.length → (entO l k).2.length < levN xs R := fun k hk => orb_short h h24 ho rfl _ (by rw [entO_lt hk]; exact List.getElem_mem hk)
  refine ⟨h0, ?_, hs⟩
  have hp := lev_pos h h24
  obtain ⟨v, hv⟩ := List.exists_mem_of_ne_nil _ (lev_some h h24 (k := levN xs R - 1) (by omega))
  have h1 := (lev_orb h ho rfl (levN xs R - 1)).mem_iff.2 hv
  obtain ⟨c, hc, _⟩ := List.mem_map.1 h1
  obtain ⟨hc1, hc2⟩ := List.mem_filter.1 hc
  have hc3 : c.2.length = levN xs R - 1 := by simpa using hc2
  obtain ⟨j, hj, rfl⟩ := List.mem_iff_getElem.1 hc1
  have h2 := hs (l.length - 1) (by omega)
  rw [entO_lt (by omega)] at h2 ⊢
  by_cases e : j = l.length - 1
  · subst e; omega
  · have := List.pairwise_iff_getElem.1 ho.sr j (l.length - 1) hj (by omega) (by omega)
    omega

theorem WordV.form {w : World} {lo B : Nat} {v : Value} {p : List Int} (h : WordV w lo B v p) : ∃ a c, v = .slice a p.length c := by
  rcases h with ⟨e, e2⟩ | ⟨c, e, _⟩
  · subst e2; exact ⟨_, _, e⟩
  · exact ⟨_, _, e⟩
set_option maxRecDepth 100000 in
set_option maxHeartbeats 6400000 in
theorem lengthCounts_impl {R : Int} {a0 oa n : Nat} {l : List Int} {w : World} {i : List Int} (hT : Reads w (some ⟨a0, oa, none⟩) n l) (hm0 : n ≤ 1048576) (hM : lcO R l = i) :
    Calls Tryz.prog 21 #[.agg #[.int .i64 R, .slice (some ⟨a0, oa, none⟩) n n]] w fun e w' => ∃ v, e = .returned v ∧ Rints5 w w' v i ∧ Ext w w' := by
  subst hM
  have HT := Lib.hid hT
  rcases hG : carG R l with _ | v
  · have HF : Hid (lcO R l = []) := by rw [Hid, lcO, hG]
    clear hT
    go_enter Tryz.func21, Tryz.ntmps21
    go_wp2_with fail
    refine (wrapCartan_no (HT.out.ext ((Ext.refl w).alloc _)) hm0 hG).mono ?_
    rintro e w2 ⟨rfl, hE⟩
    go_wp2
    go_ret
    exact ⟨_, rfl, ⟨_, _, _, rfl, by rw [HF.out]; exact own_nil _ _ _, by omega⟩, ((Ext.refl w).alloc _).trans hE⟩
  · obtain ⟨K, rfl, hK1, hK4, hlK, ht⟩ := carG_some hG
    have hnK : Hid (n = K * K) := by rw [Hid, ← hT.len]; exact hlK
    obtain ⟨hh, hWOK⟩ := wOk_tab hK1 hK4 ht
    have HWX := Lib.hid hWOK.xb
    have HCO := Lib.hid (coOk_tab hK1 hK4 ht)
    have H24 := Lib.hid (co24_tab hK1 hK4 ht)
    have HF : Hid (lcO K l = lensA l K (levN l K)) := by rw [Hid, lcO, hG]; rfl
    clear hWOK hT
    go_enter Tryz.func21, Tryz.ntmps21
    go_wp2_with fail
    refine (wrapCartan_yes (HT.out.ext ((Ext.refl w).alloc _)) hK1 hK4 ht hlK).mono ?_
    rintro e w2 ⟨B, LB, ns, rfl, hns, hW⟩
    have HE2 := Lib.hid (((Ext.refl w).alloc _).trans hW.ext)
    obtain ⟨xa, xn, xc, hbox, hstr⟩ := hW.box
    have HBX := Lib.hid hbox
    clear hW hns hbox hstr
    go_wp2_with fail
    refine (elements_impl B K a0 oa n n _ _ l w2 HBX.out (HT.out.ext HE2.out) hnK.out hK1 hK4 HWX.out HCO.out H24.out).mono ?_
    rintro e w3 ⟨g, c, L, rfl, hO, hM, h3⟩
    have HE3 := Lib.hid (HE2.out.trans h3)
    obtain ⟨h0, hlast, hall⟩ := last_len HCO.out H24.out hO
    obtain ⟨g1, c1, e1, hg1, hlg, hcell⟩ := hM.shape h0
    injection e1 with e1 _ e2
    injection e1 with e1
    injection e1 with e1
    subst e1
    subst e2
    have HLC : Hid (cL (fun k => (entO L k).2.length) L.length (levN l K) = lensA l K (levN l K)) := lens_counts HCO.out hO _
    have hN : L.length ≤ 390625 := orb_bnd hK4 HCO.out hO
    have HCELL : Hid (∀ k, k < L.length → ∃ Bk nk ck ua uc, w3.cell? ⟨g, k * 2, none⟩ = some (.slice (some ⟨Bk, 0, none⟩) nk ck) ∧ w3.cell? ⟨g, k * 2 + 1, none⟩ = some (.slice ua (entO L k).2.length uc)) := fun k hk => by
      obtain ⟨Bk, Wk, ck, u, hq0, hq1, _, hword⟩ := hcell k hk
      obtain ⟨ua, uc, rfl⟩ := hword.form
      exact ⟨Bk, _, ck, ua, uc, hq0, hq1⟩
    have hM25 : levN l K ≤ 26 := by rw [levN]; have := List.findIdx_le_length (xs := List.range 26) (p := fun k => (levA l K k).isEmpty); simpa using this
    obtain ⟨h, hh2⟩ : ∃ h : Nat → Nat, ∀ k, (entO L k).2.length = h k := ⟨_, fun _ => rfl⟩
    have hh3 : (fun k => (entO L k).2.length) = h := funext hh2
    obtain ⟨N, hN9⟩ : ∃ N, L.length = N := ⟨_, rfl⟩
    obtain ⟨M, hM9⟩ : ∃ M, levN l K = M := ⟨_, rfl⟩
    rw [hh3, hN9, hM9] at HLC
    simp only [hh2] at HCELL hlast hall
    rw [hN9] at HCELL hlast hall h0 hN ⊢
    rw [hM9] at hlast hall hM25 HF
    have HALL := Lib.hid hall
    obtain ⟨Bl, nl, cl, ul, ucl, hl0, hl1⟩ := HCELL.out (N - 1) (by omega)
    obtain ⟨X, hX⟩ : ∃ X, h (N - 1) = X := ⟨_, rfl⟩
    rw [hX] at hl1 hlast
    have hmk := make_ints (X + 1) (by omega)
    rw [show ((X + 1 : Nat) : Int) = (X : Int) + 1 by omega] at hmk
    obtain ⟨N0, rfl⟩ : ∃ N0, N = N0 + 1 := ⟨N - 1, by omega⟩
    rw [Nat.add_sub_cancel] at hl0 hl1 hX
    have v0 : IntKind.i64.wrap ((N0 : Int) + 1 - 1) = (N0 : Int) := by rw [show (N0 : Int) + 1 - 1 = N0 by omega]; exact IntWalk.i64_in _ ⟨by omega, by omega⟩
    have v0' : IntKind.i64.wrap (N0 : Int) = (N0 : Int) := IntWalk.i64_in _ ⟨by omega, by omega⟩
    have v1 : IntKind.i64.wrap ((X : Int) + 1) = (X : Int) + 1 := IntWalk.i64_in _ ⟨by omega, by omega⟩
    have HXM : Hid (X + 1 = M) := hlast
    clear hM h3 hcell hO hall hlast hh2 hh3 hM9 hN9 HBX HT HCO H24 HWX hnK hX hl0
    have H0 : Hid (Has (w3.alloc (.cells (ints (List.replicate (X + 1) 0)) 3)) w3.heap.size (cL h 0 (X + 1))) := by rw [cL_zero]; exact Has.new w3 _
    have E0 : Hid (Ext w3 (w3.alloc (.cells (ints (List.replicate (X + 1) 0)) 3))) := (Ext.refl w3).alloc _
    go_wp2_with fail
    clear hmk hl1 v0 v0' v1
    go_loopw [32, 9] (fun z _ wr => ∃ k : Nat, k ≤ N0 + 1 ∧ z = .int .i64 k ∧ Hid (Has wr w3.heap.size (cL h k (X + 1))) ∧ Hid (Ext w3 wr)) (fun z _ _ => N0 + 1 - (intOf z).toNat)
    case atStart => exact ⟨0, by omega, rfl, H0, E0⟩
    case round =>
      clear H0 E0
      obtain ⟨k, hk, rfl, hH, hE⟩ := hrel
      by_cases hlt : k < N0 + 1
      · have hltI : (k : Int) < (N0 : Int) + 1 := by omega
        obtain ⟨Bk, nk, ck, ua, uc, hc0, hc1⟩ := HCELL.out k hlt
        have hq1 := HALL.out k hlt
        have hXM := HXM.out
        have hx0 := (hE.out.cells g (k * 2) hlg).trans hc0
        have hx1 := (hE.out.cells g (k * 2 + 1) hlg).trans hc1
        have lgw := Nat.lt_of_lt_of_le hlg hE.out.le
        obtain ⟨q, hq⟩ : ∃ q, h k = q := ⟨_, rfl⟩
        rw [hq] at hx1 hq1
        have X1 := (Ext.refl wr).alloc (.cells #[.slice (some ⟨Bk, 0, none⟩) nk ck, .slice ua q uc] 72)
        have hH1 := hH.out.ext X1
        have cc := hH1.cell q (by rw [cL_len]; omega)
        rw [gi_cL (by omega)] at cc
        have ff := hH1.free q
        have ll := hH1.lt
        have hz := cZ_le h q k
        have HH2 : Hid (Has ((wr.alloc (.cells #[.slice (some ⟨Bk, 0, none⟩) nk ck, .slice ua q uc] 72)).setCell ⟨w3.heap.size, q, none⟩ (.int .i64 (((cZ h k q : Nat) : Int) + 1))) w3.heap.size (cL h (k + 1) (X + 1))) := by rw [← cL_step (by omega) hq]; exact hH1.set q (by rw [cL_len]; omega) _
        have HE9 : Hid (Ext w3 ((wr.alloc (.cells #[.slice (some ⟨Bk, 0, none⟩) nk ck, .slice ua q uc] 72)).setCell ⟨w3.heap.size, q, none⟩ (.int .i64 (((cZ h k q : Nat) : Int) + 1)))) := (hE.out.trans X1).setCell (p := ⟨w3.heap.size, q, none⟩) (Nat.le_refl _) _
        have HBB := (cells_new wr #[.slice (some ⟨Bk, 0, none⟩) nk ck, .slice ua q uc] 72)
        have b1 := HBB.2 1 _ rfl
        have lb1 := HBB.1
        obtain ⟨c0, hc0⟩ : ∃ c0, cZ h k q = c0 := ⟨_, rfl⟩
        rw [hc0] at cc hz HH2 HE9
        have v1 : IntKind.i64.wrap ((c0 : Int) + 1) = (c0 : Int) + 1 := IntWalk.i64_in _ ⟨by omega, by omega⟩
        have hqI : (q : Int) < (X : Int) + 1 := by omega
        clear hH1 hE hH hc0 hc1 hq X1 HBB hq1 hXM
        go_wp2
        exact ⟨⟨k + 1, by omega, by simp, HH2, HE9⟩, by simp [intOf]; omega⟩
      · obtain rfl : k = N0 + 1 := by omega
        have hltI : ¬ ((N0 : Int) + 1 < (N0 : Int) + 1) := by omega
        have HE5 := Lib.hid (HE3.out.trans hE.out)
        go_wp2
        go_ret
        exact ⟨_, rfl, ⟨_, _, _, rfl, by rw [HF.out, ← HLC.out, ← HXM.out]; exact hH.out.own HE3.out.le hH.out.lt (cL_len _ _ _), by have := HXM.out; omega⟩, HE5.out⟩
end Go.Proofs.YtlnpaplbcocmkaaGreat
