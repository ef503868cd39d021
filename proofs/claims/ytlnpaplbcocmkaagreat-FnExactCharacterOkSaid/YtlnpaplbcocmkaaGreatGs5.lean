/-
  The positive roots that the specification finds.
-/
import Derived.Test.YtlnpaplbcocmkaaGreatGr5
import Derived.Test.YtlnpaplbcocmkaaGreatPrt
namespace Go.Proofs.YtlnpaplbcocmkaaGreat
open Go.ChangeShapes Go.WideShapes Go.ChangeAt Go.RowKit
set_option linter.unusedVariables false
set_option linter.unusedSimpArgs false

/-- Rows that were appended, with their blocks. -/
theorem RowsL.open {w : World} {base hi : Nat} {v : Value} {L : List (List Int)} (h : RowsL w base hi v L) (h0 : 0 < L.length) : ∃ (g cap : Nat) (U : Nat → Value) (B : Nat → Nat), v = .slice (some ⟨g, 0, none⟩) L.length cap ∧ g < w.heap.size ∧ (∀ i, i < L.length → w.cell? ⟨g, i, none⟩ = some (U i) ∧ (∃ c, U i = .slice (some ⟨B i, 0, none⟩) (row L i).length c) ∧ Own w base hi (some ⟨B i, 0, none⟩) (row L i).length (row L i)) ∧ ∀ i j, i < j → j < L.length → B i < B j := by
  obtain ⟨us, B, h1, h2, h3, h4⟩ := h
  rcases h1.2 with ⟨e1, e2⟩ | ⟨g, cap, cur, e1, hb, hg, hn, hc, hcs, htk⟩
  · omega
  · refine ⟨g, cap, fun i => us.getD i (.slice none 0 0), B, e1, (Array.getElem?_eq_some_iff.1 hg).1, fun i hi => ?_, h4⟩
    obtain ⟨c, x0, h6⟩ := h3 i hi
    have e9 : us.getD i (.slice none 0 0) = .slice (some ⟨B i, 0, none⟩) (row L i).length c := by rw [List.getD_eq_getElem?_getD, x0]; rfl
    refine ⟨?_, ⟨c, e9⟩, h6⟩
    rw [cell_of_row w g i _ _ _ hg, ← Array.getElem?_toList]
    have : (cur.toList.take (L.length * 1))[i]? = us[i]? := by rw [htk]
    rw [List.getElem?_take, if_pos (by omega)] at this
    rw [this, x0]
    show _ = some (us.getD i _)
    rw [e9]
/-- A list put into an ordered one, by its number. -/
def insI (A k : Nat) (is : List Nat) : List Nat := is.take A ++ k :: is.drop A
theorem insI_map {L : List (List Int)} {is : List Nat} {k A : Nat} {l : List (List Int)} (h : is.map (row L) = l) (hA : atR (row L k) l l.length = A) : (insI A k is).map (row L) = insR (row L k) l := by
  rw [insI, insR, hA, List.map_append, List.map_cons, List.map_take, List.map_drop, h]
theorem insI_perm {is : List Nat} {k A : Nat} (h : is.Perm (List.range k)) : (insI A k is).Perm (List.range (k + 1)) := by
  have h1 := (List.perm_middle (a := k) (l₁ := is.take A) (l₂ := is.drop A))
  rw [List.take_append_drop] at h1
  rw [List.range_succ]
  exact h1.trans ((List.Perm.cons k h).trans (List.perm_append_singleton _ _).symm)
theorem insI_len {is : List Nat} {k A : Nat} (h : is.length = k) : (insI A k is).length = k + 1 := by
  simp [insI]; omega
theorem atR_le (x : List Int) (l : List (List Int)) : ∀ n, atR x l n ≤ n
  | 0 => Nat.le_refl _
  | n + 1 => by
    rw [atR]; split
    · exact Nat.le_succ_of_le (atR_le x l n)
    · exact Nat.le_refl _
theorem srtR_len (l : List (List Int)) (k : Nat) (h : k ≤ l.length) : (srtR l k).length = k := by
  rw [(srtR_perm l k h).length_eq, List.length_take]; omega

set_option maxRecDepth 100000 in
set_option maxHeartbeats 800000 in
theorem l2Basis5 (R i : Nat) (w : World) (hR : R ≤ 4) (hi : i < R) :
    Calls Tryz.prog 175 #[.int .i64 R, .int .i64 i] w fun e w' => ∃ b, e = .returned (.slice (some ⟨b, 0, none⟩) R R) ∧ w.heap.size ≤ b ∧ b < w'.heap.size ∧ Has w' b (bas R i) ∧ Ext w w' := by
  have hmk := make_ints R (by omega)
  have h0 : Has (w.alloc (.cells (ints (List.replicate R 0)) 3)) w.heap.size (List.replicate R 0) := Has.new w _
  have c0 := h0.cell i (by simp; exact hi)
  have f0 := h0.free i
  clear h0
  have h1 : Hid (Has (w.alloc (.cells ((ints (List.replicate R 0)).setIfInBounds i (.int .i64 1)) 3)) w.heap.size (bas R i)) := by rw [ints_set]; exact Has.new w _
  have hiI : (i : Int) < (R : Int) := by omega
  go_enter Tryz.func175, Tryz.ntmps175
  go_wp2
  go_ret
  exact ⟨_, rfl, Nat.le_refl _, by simp, h1.out, (Ext.refl _).alloc _⟩

set_option maxRecDepth 100000 in
set_option maxHeartbeats 25600000 in
theorem l5Roots_spec (R da od n cD : Nat) (xs ls : List Int) (w : World) (hr : Reads w (some ⟨da, od, none⟩) n xs) (hn : n = R * R) (hR0 : 1 ≤ R) (hR : R ≤ 4) (hok : RootsOk xs ls R) (hxb : ∀ e, -3 ≤ gi xs e ∧ gi xs e ≤ 3) :
    Calls Tryz.prog 128 #[.agg #[.int .i64 (R : Nat), .slice (some ⟨da, od, none⟩) n cD]] w fun e w' => ∃ v, e = .returned v ∧ RowsP w' w.heap.size v (posR xs R) ∧ Ext w w' := by
  have HN := Lib.hid hn
  have HR := Lib.hid hr
  have HXB := Lib.hid hxb
  have HF0 := fullR_len hok
  have HFR : Hid (∀ x, x ∈ fullR xs R → x.length = R ∧ ∀ e, -1000000 ≤ gi x e ∧ gi x e ≤ 1000000) := fun x hx => by
    have := hok.rows true 24 x hx
    exact ⟨this.1, fun e => by have := this.2 e; omega⟩
  have HSTOP : Hid (∀ k, (growR false xs R k).length ≤ k → growR false xs R k = fullR xs R) := hok.stop false
  have HL24 : Hid (∀ k, (growR false xs R k).length ≤ 24) := hok.len false
  have HROWS : Hid (∀ k x, x ∈ growR false xs R k → x.length = R ∧ ∀ e, 0 ≤ gi x e ∧ gi x e ≤ 6) := hok.rows false
  have HG0 : Hid (growR false xs R 0 = basL R R) := rfl
  have HGS : Hid (∀ k, k < (growR false xs R k).length → growR false xs R (k + 1) = stepR false xs R (growR false xs R k) (row (growR false xs R k) k) R) := fun k h => by rw [growR, if_pos h]; rfl
  obtain ⟨G, hGd⟩ : ∃ G, growR false xs R = G := ⟨_, rfl⟩
  rw [hGd] at HSTOP HL24 HROWS HG0 HGS
  have HPD : Hid (posR xs R = srtR (fullR xs R) (fullR xs R).length) := rfl
  obtain ⟨FL, hFL⟩ : ∃ FL, fullR xs R = FL := ⟨_, rfl⟩
  rw [hFL] at HF0 HFR HSTOP HPD
  obtain ⟨PR, hPR⟩ : ∃ PR, posR xs R = PR := ⟨_, rfl⟩
  rw [hPR] at HPD ⊢
  clear hGd hFL hPR
  have HB0 : Hid (Cells ((w.alloc (.cells #[.int .i64 (R : Nat), .slice (some ⟨da, od, none⟩) n cD] 27)).alloc (.cells #[] 22)) w.heap.size [.int .i64 (R : Nat), .slice (some ⟨da, od, none⟩) n cD]) := (cells_new w #[.int .i64 (R : Nat), .slice (some ⟨da, od, none⟩) n cD] 27).ext ((Ext.refl _).alloc _)
  have HE0 : Hid (Ext w ((w.alloc (.cells #[.int .i64 (R : Nat), .slice (some ⟨da, od, none⟩) n cD] 27)).alloc (.cells #[] 22))) := ((Ext.refl w).alloc _).alloc _
  have H0 : Hid (RowsL ((w.alloc (.cells #[.int .i64 (R : Nat), .slice (some ⟨da, od, none⟩) n cD] 27)).alloc (.cells #[] 22)) (w.heap.size + 1) ((w.alloc (.cells #[.int .i64 (R : Nat), .slice (some ⟨da, od, none⟩) n cD] 27)).alloc (.cells #[] 22)).heap.size (.slice (some ⟨w.heap.size + 1, 0, none⟩) 0 0) (basL R 0)) := by
    have := rowsS_lit (f := row (basL R 0)) (w.alloc (.cells #[.int .i64 (R : Nat), .slice (some ⟨da, od, none⟩) n cD] 27)) (w.heap.size + 1) ((w.alloc (.cells #[.int .i64 (R : Nat), .slice (some ⟨da, od, none⟩) n cD] 27)).alloc (.cells #[] 22)).heap.size (by simp)
    rw [show (w.alloc (.cells #[.int .i64 (R : Nat), .slice (some ⟨da, od, none⟩) n cD] 27)).heap.size = w.heap.size + 1 by simp] at this
    exact this
  clear hr hn hok hxb
  go_enter Tryz.func128, Tryz.ntmps128
  go_wp2_with fail
  generalize ((w.alloc (.cells #[.int .i64 (R : Nat), .slice (some ⟨da, od, none⟩) n cD] 27)).alloc (.cells #[] 22)) = W0 at *
  go_loopw [4, 3] (fun z v wr => ∃ (i cv : Nat) (va : Option Addr), i ≤ R ∧ z = .int .i64 i ∧ v = .slice va i cv ∧ Hid (RowsL wr (w.heap.size + 1) wr.heap.size (.slice va i cv) (basL R i)) ∧ Hid (Ext w wr) ∧ Hid (Cells wr w.heap.size [.int .i64 (R : Nat), .slice (some ⟨da, od, none⟩) n cD])) (fun z _ _ => R - (intOf z).toNat)
  case atStart => exact ⟨0, 0, some ⟨w.heap.size + 1, 0, none⟩, by omega, rfl, rfl, H0, HE0, HB0⟩
  case round =>
    clear H0 HE0 HB0
    obtain ⟨i, cv, va, hi, rfl, rfl, hG, hE, hB⟩ := hrel
    have lB := hB.out.1
    have q0 := hB.out.2 0 _ rfl
    by_cases hlt : i < R
    · have hltI : (i : Int) < (R : Int) := by omega
      go_wp2_with fail
      refine (l2Basis5 R i _ hR hlt).mono ?_
      rintro e w2 ⟨b2, rfl, hb2, hb22, hh2, hE2⟩
      have hG3 := Lib.hid (hG.out.ext hE2)
      have hE3 := Lib.hid (hE.out.trans hE2)
      have hB3 := Lib.hid (hB.out.ext hE2)
      have hle := hE.out.le
      have HROW : Hid (Own w2 (w.heap.size + 1) w2.heap.size (some ⟨b2, 0, none⟩) R (bas R i)) := hh2.own (by omega) hb22 (bas_len R i)
      have hvw : Hid (∀ z, (Value.slice va i cv).ownBlock = some z → w.heap.size + 1 ≤ z) := fun z hz => (hG.out.blk z hz).1
      have hle3 : w.heap.size + 1 ≤ w2.heap.size := by omega
      clear hG hE hB lB q0 hh2 hE2
      go_wp2_with (at_builtin; refine wpList_appendRowM rfl (.tmp 18) (.tmp 23) rfl (w.heap.size + 1) wr.heap.size (.slice va i cv) (basL R i) (basL R (i + 1)) (bas R i) b2 R 1 w2.heap.size R (i + 1) (basL_succ R i) (basL_len R (i + 1)) rfl (bas_len R i) rfl rfl hG3.out HROW.out hb2 (by omega) hle3 ?_; intro a5 c5 w5 hG5 hg5; have HG5 := Lib.hid hG5; have HGR := Lib.hid hg5; clear hG5 hg5)
      have E5 := Lib.hid (hE3.out.grown HGR.out (fun z hz => by have := hvw.out z hz; omega))
      have B5 := Lib.hid (hB3.out.grown HGR.out (fun z hz => by have := hvw.out z hz; omega))
      exact ⟨⟨i + 1, c5, a5, by omega, by simp, rfl, HG5, E5, B5⟩, by simp [intOf]; omega⟩
    · obtain rfl : R = i := by omega
      have hl0 : (G 0).length = R := by rw [HG0.out, basL_len]
      have hG0 : Hid (RowsL wr (w.heap.size + 1) wr.heap.size (.slice va (G 0).length cv) (G 0)) := by rw [hl0, HG0.out]; exact hG
      clear hG hlt
      go_wp2_with fail
      clear lB q0
      obtain ⟨wo, rfl⟩ : ∃ wo : World, wo = wr := ⟨_, rfl⟩
      go_loopw [5, 3, 6, 7] (fun z v _ _ wr => ∃ (k cv : Nat) (va : Option Addr), k ≤ (G k).length ∧ z = .int .i64 k ∧ v = .slice va (G k).length cv ∧ Hid (RowsL wr (w.heap.size + 1) wr.heap.size (.slice va (G k).length cv) (G k)) ∧ Hid (Ext w wr) ∧ Hid (Cells wr w.heap.size [.int .i64 (R : Nat), .slice (some ⟨da, od, none⟩) n cD])) (fun z _ _ _ _ => 25 - (intOf z).toNat)
      case atStart => exact ⟨0, cv, va, by omega, rfl, by rw [hl0], hG0, hE, hB⟩
      case round =>
        clear hG0 hE hB hl0
        obtain ⟨k, cv, va, hk, rfl, rfl, hG, hE, hB⟩ := hrel
        have hlen := HL24.out k
        by_cases hlt : k < (G k).length
        · have lB := hB.out.1
          have q0 := hB.out.2 0 _ rfl
          have HSUCC : Hid (G (k + 1) = stepR false xs R (G k) (row (G k) k) R) := HGS.out k hlt
          have HRX := Lib.hid (HROWS.out k _ (row_mem hlt))
          have hG1 : Hid (RowsL wr (w.heap.size + 1) wr.heap.size (.slice va (G k).length cv) (stepR false xs R (G k) (row (G k) k) 0)) := hG
          have HPRE : Hid (∀ i, row (stepR false xs R (G k) (row (G k) k) i) k = row (G k) k) := fun i => stepR_pre false xs R _ _ i k hlt
          have HLEN : Hid (∀ i, (G k).length ≤ (stepR false xs R (G k) (row (G k) k) i).length ∧ (stepR false xs R (G k) (row (G k) k) i).length ≤ (G k).length + i) := fun i => stepR_len false xs R _ _ i
          have HSTEP : Hid (∀ i, stepR false xs R (G k) (row (G k) k) (i + 1) = if allPos (rfl5 xs R i (row (G k) k)) && !(stepR false xs R (G k) (row (G k) k) i).contains (rfl5 xs R i (row (G k) k)) then stepR false xs R (G k) (row (G k) k) i ++ [rfl5 xs R i (row (G k) k)] else stepR false xs R (G k) (row (G k) k) i) := fun i => rfl
          have HRLEN : Hid (∀ i, i ≤ R → ∀ p, p < (stepR false xs R (G k) (row (G k) k) i).length → (row (stepR false xs R (G k) (row (G k) k) i) p).length ≤ 1024) := fun i hi p hp => by
            have h1 := row_mem hp
            have key : ∀ j, ∀ x, x ∈ stepR false xs R (G k) (row (G k) k) j → x.length = R := by
              intro j
              induction j with
              | zero => intro x hx; exact (HROWS.out k x hx).1
              | succ j ih =>
                intro x hx
                rw [stepR] at hx
                split at hx
                · rcases List.mem_append.1 hx with h | h
                  · exact ih x h
                  · rw [List.mem_singleton.1 h, rfl5_len]; exact (HROWS.out k _ (row_mem hlt)).1
                · exact ih x hx
            have := key i _ h1
            omega
          obtain ⟨L0, hL0⟩ : ∃ L0, G k = L0 := ⟨_, rfl⟩
          rw [hL0] at hG hG1 HSUCC HRX HPRE HLEN HSTEP HRLEN hk hlt hlen ⊢
          obtain ⟨r, hrr⟩ : ∃ r, row L0 k = r := ⟨_, rfl⟩
          rw [hrr] at HSUCC HRX HPRE HLEN HSTEP HRLEN hG1
          obtain ⟨S, hS⟩ : ∃ S : Nat → List (List Int), S = fun i => stepR false xs R L0 r i := ⟨_, rfl⟩
          have hS' : ∀ i, stepR false xs R L0 r i = S i := fun i => by rw [hS]
          simp only [hS'] at HSUCC HPRE HLEN HSTEP HRLEN hG1
          have hz0 : (S 0).length = L0.length := by rw [← hS' 0]; rfl
          rw [← hz0] at hG1 ⊢
          have hltI2 : (k : Int) < ((S 0).length : Int) := by omega
          clear hS hS' hL0 hrr hG hz0
          go_wp2_with fail
          clear lB q0
          obtain ⟨wo, rfl⟩ : ∃ wo : World, wo = wr := ⟨_, rfl⟩
          go_loopw [6, 3, 7] (fun z v _ wr => ∃ (i cv : Nat) (va : Option Addr), i ≤ R ∧ z = .int .i64 i ∧ v = .slice va (S i).length cv ∧ Hid (RowsL wr (w.heap.size + 1) wr.heap.size (.slice va (S i).length cv) (S i)) ∧ Hid (Ext w wr) ∧ Hid (Cells wr w.heap.size [.int .i64 (R : Nat), .slice (some ⟨da, od, none⟩) n cD])) (fun z _ _ _ => R - (intOf z).toNat)
          case atStart => exact ⟨0, cv, va, by omega, rfl, rfl, hG1, hE, hB⟩
          case round =>
            clear hG1 hE hB
            obtain ⟨i, cv, va, hi, rfl, rfl, hG, hE, hB⟩ := hrel
            have lB := hB.out.1
            have q0 := hB.out.2 0 _ rfl
            by_cases hlt2 : i < R
            · have q1 := hB.out.2 1 _ rfl
              have hkS : k < (S i).length := Nat.lt_of_lt_of_le hlt (HLEN.out i).1
              have hkI : (k : Int) < ((S i).length : Int) := by omega
              have hl28 : (S i).length ≤ 32 := by have := (HLEN.out i).2; omega
              obtain ⟨g, cap, hsl, hrd, hbg⟩ := hG.out.rd (by omega)
              injection hsl with hva _ hcv
              subst hva
              obtain ⟨br, cr, hcell, hrow⟩ := hrd.2 k hkS
              rw [HPRE.out i] at hcell hrow
              have lg := hrd.1
              have HRD := Lib.hid hrd
              have hrl := HRX.out.1
              rw [hrl] at hcell
              have HROW2 : Hid (Reads wr (some ⟨br, 0, none⟩) R r) := by rw [← hrl]; exact hrow
              have HX : Hid (∀ e, -1000000 ≤ gi r e ∧ gi r e ≤ 1000000) := fun e => by have := HRX.out.2 e; omega
              have HXL : Hid ((rfl5 xs R i r).length = R) := by rw [Hid, rfl5_len]; exact hrl
              have HST := Lib.hid (HSTEP.out i)
              have HRLN := Lib.hid (HRLEN.out i (by omega))
              have hiI : (i : Int) < (R : Int) := by omega
              have HSIMP : Hid (∀ w1, Ext wr w1 → Calls Tryz.prog 176 #[.agg #[.int .i64 (R : Nat), .slice (some ⟨da, od, none⟩) n cD], .int .i64 i, .slice (some ⟨br, 0, none⟩) R cr] w1 fun e w' => ∃ b c9, e = .returned (.slice (some ⟨b, 0, none⟩) R c9) ∧ R ≤ c9 ∧ w1.heap.size ≤ b ∧ b < w'.heap.size ∧ Has w' b (rfl5 xs R i r) ∧ Ext w1 w') := fun w1 h => l5Simple_spec R da od n cD R cr i xs r _ w1 (HR.out.ext (hE.out.trans h)) HN.out hR0 hR (HROW2.out.ext h) rfl hlt2 HXB.out HX.out
              clear hrow hrd hcv hrl
              go_wp2_with fail
              refine wp_region_held_drew (S := (fun w' => Ext wr w' ∧ (∀ b o, b < wr.heap.size → w'.cell? ⟨b, o, none⟩ = wr.cell? ⟨b, o, none⟩))) (by kernel_rfl) (ext2 (Ext.refl wr).drew) (fun hHeld => ?_)
              refine wpAnyH_take (i := 0) (v := ?v1) rfl (by kernel_rfl) (by kernel_rfl) (by kernel_rfl) (fun _ _ _ h => h) (Or.inl ⟨by rfl, ?hy1⟩) hHeld ?rest1
              case hy1 => (intro wz hSw; (try dsimp only at hSw); go_simp; (try with_reducible rfl))
              (try simp only [Act.put, List.getElem_toArray, List.getElem_cons_succ, List.getElem_cons_zero]); (try simp only [List.setIfInBounds_toArray]); (try simp only [List.set_cons_succ]); (try simp only [List.set_cons_zero])
              refine wpAnyH_take (i := 1) (v := ?v2) rfl (by kernel_rfl) (by kernel_rfl) (by kernel_rfl) (fun _ _ _ h => h) (Or.inl ⟨by rfl, ?hy2⟩) hHeld ?rest2
              case hy2 => (intro wz hSw; (try dsimp only at hSw); go_simp; (try with_reducible rfl))
              (try simp only [Act.put, List.getElem_toArray, List.getElem_cons_succ, List.getElem_cons_zero]); (try simp only [List.setIfInBounds_toArray]); (try simp only [List.set_cons_succ]); (try simp only [List.set_cons_zero])
              refine wpAnyH_take (i := 2) (v := ?v3) rfl (by kernel_rfl) (by kernel_rfl) (by kernel_rfl) (fun _ _ _ h => h) (Or.inl ⟨by rfl, ?hy3⟩) hHeld ?rest3
              case hy3 => (intro wz hSw; (try dsimp only at hSw); go_simp; (try with_reducible rfl))
              (try simp only [Act.put, List.getElem_toArray, List.getElem_cons_succ, List.getElem_cons_zero]); (try simp only [List.setIfInBounds_toArray]); (try simp only [List.set_cons_succ]); (try simp only [List.set_cons_zero])
              refine wpAnyH_take (i := 3) (v := ?v4) rfl (by kernel_rfl) (by kernel_rfl) (by kernel_rfl) (fun _ _ _ h => h) (Or.inl ⟨by rfl, ?hy4⟩) hHeld ?rest4
              case hy4 => (intro wz hSw; (try dsimp only at hSw); go_simp; (try with_reducible rfl))
              (try simp only [Act.put, List.getElem_toArray, List.getElem_cons_succ, List.getElem_cons_zero]); (try simp only [List.setIfInBounds_toArray]); (try simp only [List.set_cons_succ]); (try simp only [List.set_cons_zero])
              refine wpAnyH_take (i := 4) (v := ?v5) rfl (by kernel_rfl) (by kernel_rfl) (by kernel_rfl) (fun _ _ _ h => h) (Or.inl ⟨by rfl, ?hy5⟩) hHeld ?rest5
              case hy5 => (intro wz hSw; (try dsimp only at hSw); go_simp; (try with_reducible rfl))
              (try simp only [Act.put, List.getElem_toArray, List.getElem_cons_succ, List.getElem_cons_zero]); (try simp only [List.setIfInBounds_toArray]); (try simp only [List.set_cons_succ]); (try simp only [List.set_cons_zero])
              refine wpAnyH_take (i := 5) (v := ?v6) rfl (by kernel_rfl) (by kernel_rfl) (by kernel_rfl) (fun _ _ _ h => h) (Or.inl ⟨by rfl, ?hy6⟩) hHeld ?rest6
              case hy6 => (intro wz hSw; (try dsimp only at hSw); go_simp; (try with_reducible rfl))
              (try simp only [Act.put, List.getElem_toArray, List.getElem_cons_succ, List.getElem_cons_zero]); (try simp only [List.setIfInBounds_toArray]); (try simp only [List.set_cons_succ]); (try simp only [List.set_cons_zero])
              refine wpAnyH_ready (rs := [6]) (by kernel_rfl) (by simp) ?_
              refine AllReadyH.cons rfl (fun K' hK => ?_) AllReadyH.nil
              go_simp
              refine (HSIMP.out _ (And.left hHeld)).mono ?_
              rintro e w2 ⟨b2, c2, rfl, hc2, hb2, hb22, hh2, hE2⟩
              have X5 := (And.left hHeld).trans hE2
              dsimp only
              refine hK.out _ _ (ext2 X5) (fun hHeld => ?_)
              clear hK
              refine wpAnyH_take (i := 7) (v := ?v7) rfl (by kernel_rfl) (by kernel_rfl) (by kernel_rfl) (fun _ _ _ h => h) (Or.inl ⟨by rfl, ?hy7⟩) hHeld ?rest7
              case hy7 => (intro wz hSw; (try dsimp only at hSw); go_simp; (try with_reducible rfl))
              (try simp only [Act.put, List.getElem_toArray, List.getElem_cons_succ, List.getElem_cons_zero]); (try simp only [List.setIfInBounds_toArray]); (try simp only [List.set_cons_succ]); (try simp only [List.set_cons_zero])
              refine wpAnyH_done (by kernel_rfl) ?_ _
              clear hHeld
              have HE2 := Lib.hid (hE.out.trans X5)
              have HG2 := Lib.hid (hG.out.ext X5)
              have HB2 := Lib.hid (hB.out.ext X5)
              have HRD2 := Lib.hid (HRD.out.ext X5)
              have hsz2 := X5.le
              have hb3 : wr.heap.size ≤ b2 := hb2
              have HH2 := Lib.hid hh2
              have hvw : Hid (∀ z, (Value.slice (some ⟨g, 0, none⟩) (S i).length cv).ownBlock = some z → w.heap.size + 1 ≤ z) := fun z hz => (HG2.out.blk z hz).1
              have hwle : w.heap.size + 1 ≤ wr.heap.size := hB.out.1
              have HLP := Lib.hid (l5Positive_spec R c2 (some ⟨b2, 0, none⟩) (rfl5 xs R i r) w2 (HH2.out.reads HXL.out) (by omega))
              clear hh2 hE2 hcell lg HRD HROW2 hB HX HSIMP lB q0 q1 X5
              rcases hpos : allPos (rfl5 xs R i r) with _ | _
              · have HS1 : Hid (S (i + 1) = S i) := by rw [Hid, HST.out, hpos]; rfl
                rw [hpos] at HLP
                have HG6 : Hid (RowsL w2 (w.heap.size + 1) w2.heap.size (.slice (some ⟨g, 0, none⟩) (S (i + 1)).length cv) (S (i + 1))) := by rw [HS1.out]; exact HG2.out.mono hsz2
                clear HST HG2 hpos hG hE
                go_wp2_with fail
                refine HLP.out.mono ?_
                rintro e w3 ⟨rfl, rfl⟩
                go_wp2
                exact ⟨⟨i + 1, cv, _, by omega, by simp, by rw [HS1.out], HG6, HE2, HB2⟩, by simp [intOf]; omega⟩
              · rw [hpos] at HLP
                have HCL := Lib.hid (l5Place_spec g (S i).length cv R c2 (some ⟨b2, 0, none⟩) (S i) (rfl5 xs R i r) w2 HRD2.out rfl (by omega) HRLN.out (HH2.out.reads HXL.out) (by omega))
                rcases hct : (S i).contains (rfl5 xs R i r) with _ | _
                · have HS1 : Hid (S (i + 1) = S i ++ [rfl5 xs R i r]) := by rw [Hid, HST.out, hpos, hct]; rfl
                  rw [hct] at HCL
                  have hS1l : (S (i + 1)).length = (S i).length + 1 := by rw [HS1.out]; simp
                  clear hct HST hpos
                  go_wp2_with fail
                  refine HLP.out.mono ?_
                  rintro e w3 ⟨rfl, rfl⟩
                  go_wp2_with fail
                  refine HCL.out.mono ?_
                  rintro e w4 ⟨z, rfl, _, hz, hE3⟩
                  have hz2 : z < 0 := of_decide_eq_true hz
                  have HE3 := Lib.hid (HE2.out.trans hE3)
                  have HG3 := Lib.hid (HG2.out.ext hE3)
                  have HB3 := Lib.hid (HB2.out.ext hE3)
                  have HROW : Hid (Own w4 (w.heap.size + 1) w4.heap.size (some ⟨b2, 0, none⟩) R (rfl5 xs R i r)) := (HH2.out.ext hE3).own (by omega) (Nat.lt_of_lt_of_le hb22 hE3.le) HXL.out
                  have hle4 : w.heap.size + 1 ≤ w4.heap.size := by have := hE3.le; omega
                  clear HG2 HE2 HCL HLP hE hG HH2 HRD2 hz HB2
                  go_wp2_with (at_builtin; refine wpList_appendRowM rfl (.tmp 52) (.tmp 54) rfl (w.heap.size + 1) wr.heap.size (.slice (some ⟨g, 0, none⟩) (S i).length cv) (S i) (S (i + 1)) (rfl5 xs R i r) b2 c2 1 w4.heap.size R (S (i + 1)).length HS1.out.symm rfl rfl HXL.out rfl rfl HG3.out HROW.out hb3 (by omega) hle4 ?_; intro a5 c5 w5 hG5 hg5; have HG5 := Lib.hid hG5; have HGR := Lib.hid hg5; clear hG5 hg5)
                  have E5 := Lib.hid (HE3.out.grown HGR.out (fun z hz => by have := hvw.out z hz; omega))
                  have B5 := Lib.hid (HB3.out.grown HGR.out (fun z hz => by have := hvw.out z hz; omega))
                  exact ⟨⟨i + 1, c5, a5, by omega, by simp, by rw [hS1l], HG5, E5, B5⟩, by simp [intOf]; omega⟩
                · have HS1 : Hid (S (i + 1) = S i) := by rw [Hid, HST.out, hpos, hct]; rfl
                  rw [hct] at HCL
                  clear hct HST hpos
                  go_wp2_with fail
                  refine HLP.out.mono ?_
                  rintro e w3 ⟨rfl, rfl⟩
                  go_wp2_with fail
                  refine HCL.out.mono ?_
                  rintro e w4 ⟨z, rfl, _, hz, hE3⟩
                  have hz2 : ¬ z < 0 := of_decide_eq_false hz
                  have HG6 : Hid (RowsL w4 (w.heap.size + 1) w4.heap.size (.slice (some ⟨g, 0, none⟩) (S (i + 1)).length cv) (S (i + 1))) := by rw [HS1.out]; exact (HG2.out.ext hE3).mono (Nat.le_trans hsz2 hE3.le)
                  have HB3 := Lib.hid (HB2.out.ext hE3)
                  clear hz
                  go_wp2
                  exact ⟨⟨i + 1, cv, _, by omega, by simp, by rw [HS1.out], HG6, HE2.out.trans hE3, HB3⟩, by simp [intOf]; omega⟩
            · obtain rfl : R = i := by omega
              have hSl := (HLEN.out R).1
              have HG6 : Hid (RowsL wr (w.heap.size + 1) wr.heap.size (.slice va (G (k + 1)).length cv) (G (k + 1))) := by rw [HSUCC.out]; exact hG
              go_wp2
              exact ⟨⟨k + 1, cv, va, by rw [HSUCC.out]; omega, by simp, by rw [HSUCC.out], HG6, hE, hB⟩, by simp [intOf]; omega⟩
        · have hfull := HSTOP.out k (by omega)
          have hge : ¬ ((k : Int) < (FL.length : Int)) := by rw [← hfull]; omega
          rw [hfull] at hG ⊢
          clear hfull hlt hlen hk HSTOP HL24 HROWS HG0 HGS
          obtain ⟨g, cap, U, BK, hsl, hgl, hUC, hBK⟩ := hG.out.open (by omega)
          injection hsl with hva _ hcv
          subst hva
          subst hcv
          have HUC := Lib.hid hUC
          have HBK := Lib.hid hBK
          have HLOW := Lib.hid (show w.heap.size + 1 ≤ wr.heap.size by have := hB.out.1; omega)
          have X0 := Lib.hid ((Ext.refl wr).alloc (.cells #[] 22))
          have O0 : Hid ((wr.alloc (.cells #[] 22)).ownsRow (w.heap.size + 1) 22 1 (.slice (some ⟨wr.heap.size, 0, none⟩) 0 0) 0 (([] : List Nat).map U)) := World.ownsRow_lit wr #[] 0 HLOW.out (by unfold maxLen; omega) (by simp)
          have HW := hE
          clear hG hUC hBK hB hE
          go_wp2_with fail
          obtain ⟨W2, hW2⟩ : ∃ W2 : World, W2 = wr := ⟨_, rfl⟩
          rw [← hW2] at HUC HLOW X0 O0 hgl HW ⊢
          clear hW2
          go_loopw [9, 8, 10] (fun z v _ wr => ∃ (nl ga co : Nat) (is : List Nat), nl ≤ FL.length ∧ z = .int .i64 nl ∧ v = .slice (some ⟨ga, 0, none⟩) nl co ∧ Hid (wr.ownsRow (w.heap.size + 1) 22 1 (.slice (some ⟨ga, 0, none⟩) nl co) nl (is.map U)) ∧ Hid (is.map (row FL) = srtR FL nl ∧ is.Perm (List.range nl)) ∧ Hid (Ext W2 wr)) (fun z _ _ _ => FL.length - (intOf z).toNat)
          case atStart => exact ⟨0, W2.heap.size, 0, [], by omega, rfl, rfl, O0, ⟨rfl, List.Perm.refl _⟩, X0⟩
          case round =>
            clear O0 X0
            obtain ⟨nl, ga, co, is, hnl, rfl, rfl, hO, hIS, hE⟩ := hrel
            by_cases hlt : nl < FL.length
            · have hltI : (nl : Int) < (FL.length : Int) := by omega
              obtain ⟨huc, ⟨ck, hUk⟩, hOk⟩ := HUC.out nl hlt
              have hrl := (HFR.out _ (row_mem hlt)).1
              have hxb := (HFR.out _ (row_mem hlt)).2
              rw [hrl] at hUk hOk
              rw [hUk] at huc
              have HUK := Lib.hid hUk
              have HIL : Hid (is.length = nl) := by rw [Hid, hIS.out.2.length_eq]; simp
              have HXB2 := Lib.hid hxb
              have HA : Hid (∀ a, a ≤ nl → atR (row FL nl) (srtR FL nl) a = if 0 < a ∧ lessR (row FL nl) (gl (srtR FL nl) (a - 1)) = true then atR (row FL nl) (srtR FL nl) (a - 1) else a) := fun a ha => by
                cases a with
                | zero => rfl
                | succ a =>
                  rw [atR, Nat.add_sub_cancel]
                  by_cases h : lessR (row FL nl) (gl (srtR FL nl) a) = true
                  · rw [if_pos h, if_pos ⟨by omega, h⟩]
                  · rw [if_neg h, if_neg (fun h2 => h h2.2)]
              have HOUT : Hid (∀ a, 0 < a → a ≤ nl → ∃ j c, j < FL.length ∧ wr.cell? ⟨ga, a - 1, none⟩ = some (.slice (some ⟨BK j, 0, none⟩) R c) ∧ gl (srtR FL nl) (a - 1) = row FL j) := fun a h0 ha => by
                have hj : a - 1 < is.length := by rw [HIL.out]; omega
                have hjr : is[a - 1] < FL.length := by
                  have := List.mem_range.1 (hIS.out.2.mem_iff.1 (List.getElem_mem hj)); omega
                obtain ⟨_, ⟨c, hUj⟩, _⟩ := HUC.out _ hjr
                rw [(HFR.out _ (row_mem hjr)).1] at hUj
                refine ⟨is[a - 1], c, hjr, ?_, ?_⟩
                · obtain ⟨g2, e, _, _, hc⟩ := ownsRow_get hO.out (by omega)
                  injection e with e
                  injection e with e
                  subst e
                  rw [hc (a - 1) (by omega), List.getElem?_map, List.getElem?_eq_getElem hj, Option.map_some, hUj]
                · rw [← hIS.out.1]
                  show row (is.map (row FL)) (a - 1) = _
                  rw [row_lt (by simpa using hj), List.getElem_map]
              have HLS : Hid (∀ j cj, j < FL.length → ∀ w1, Ext wr w1 → Calls Tryz.prog 179 #[.slice (some ⟨BK nl, 0, none⟩) R ck, .slice (some ⟨BK j, 0, none⟩) R cj] w1 fun e w' => e = .returned (.bool (lessR (row FL nl) (row FL j))) ∧ ∃ q, w' = w1.drewN q) := fun j cj hj w1 h => by
                obtain ⟨_, _, hOj⟩ := HUC.out j hj
                have hrj := HFR.out _ (row_mem hj)
                rw [hrj.1] at hOj
                exact l5Less_spec R ck cj _ _ (row FL nl) (row FL j) w1 (hOk.reads.ext (hE.out.trans h)) (hOj.reads.ext (hE.out.trans h)) (by omega) HXB2.out hrj.2
              have hgc := (hE.out.cells g nl hgl).trans huc
              have hgl2 := Nat.lt_of_lt_of_le hgl hE.out.le
              have hgal : ga < wr.heap.size := (World.ownsRow.lt hO.out ga rfl).2
              obtain ⟨bk, hbk⟩ : ∃ bk, BK nl = bk := ⟨_, rfl⟩
              rw [hbk] at hgc HUK HLS
              clear huc hUk hOk hrl hxb hbk
              go_wp2_with fail
              obtain ⟨W3, hW3⟩ : ∃ W3 : World, W3 = wr := ⟨_, rfl⟩
              rw [← hW3] at hO hE HOUT HLS hgc hgl2 hgal ⊢
              clear hW3
              go_loopw [10] (fun z wr => ∃ a : Nat, a ≤ nl ∧ z = .int .i64 a ∧ Hid (atR (row FL nl) (srtR FL nl) nl = atR (row FL nl) (srtR FL nl) a) ∧ Hid (Ext W3 wr)) (fun z _ => (intOf z).toNat)
              case atStart => exact ⟨nl, by omega, rfl, rfl, Ext.refl _⟩
              case round =>
                obtain ⟨a, ha, rfl, hat, hE3⟩ := hrel
                have hAa := HA.out a ha
                by_cases h0 : 0 < a
                · obtain ⟨j, cj, hj, hcj, hgj⟩ := HOUT.out a h0 ha
                  have h0I : (0 : Int) < (a : Int) := by omega
                  have h0d : decide ((0 : Int) < (a : Int)) = true := decide_eq_true h0I
                  have hgc2 := (hE3.out.cells g nl hgl2).trans hgc
                  have hcj2 := (hE3.out.cells ga (a - 1) hgal).trans hcj
                  have lg2 := Nat.lt_of_lt_of_le hgl2 hE3.out.le
                  have lga := Nat.lt_of_lt_of_le hgal hE3.out.le
                  have vA : IntKind.i64.wrap ((a : Int) - 1) = (a : Int) - 1 := IntWalk.i64_in _ ⟨by omega, by omega⟩
                  have tA : ((a : Int) - 1).toNat = a - 1 := by omega
                  have iA : 0 ≤ (a : Int) - 1 := by omega
                  have iB : (a : Int) - 1 < (nl : Int) := by omega
                  have HLJ := Lib.hid (fun w1 (h : Ext wr w1) => HLS.out j cj hj w1 (hE3.out.trans h))
                  rw [hgj] at hAa
                  clear hcj hgj
                  rcases hls : lessR (row FL nl) (row FL j) with _ | _
                  · rw [hls, if_neg (fun h => by cases h.2)] at hAa
                    rw [hls] at HLJ
                    have HAT := Lib.hid (hat.out.trans hAa)
                    clear hls hAa hat
                    go_wp2_with fail
                    go_quiet ((go_at_call 179; exact Calls.quiet_of (HLJ.out _ (by with_reducible repeat (first | exact Ext.refl _ | refine Ext.drewN ?_ _ | refine Ext.drew ?_)))))
                    have hE4 := Lib.hid (hE3.out.drewN nq)
                    generalize wr.drewN nq = wr at *
                    obtain ⟨p, hp9⟩ : ∃ p, a = p := ⟨_, rfl⟩
                    rw [hp9] at ha HAT ⊢
                    clear hp9
                    have OX := Lib.hid (ownsRow_ext hO.out hE4.out)
                    have X2 := Lib.hid (show Ext W3 wr from hE4.out)
                    obtain ⟨vs, hvs⟩ : ∃ vs, is.map U = vs := ⟨_, rfl⟩
                    have HVS2 := Lib.hid hvs
                    rw [hvs] at OX
                    have HVL : Hid (vs.length = nl) := by rw [Hid, ← hvs, List.length_map]; exact HIL.out
                    have HVS : Hid (∀ u, u ∈ vs → u.oneCell' = true) := fun u hu => by
                      rw [← hvs] at hu
                      obtain ⟨j, hj, rfl⟩ := List.mem_map.1 hu
                      have hjr : j < FL.length := by have := List.mem_range.1 (hIS.out.2.mem_iff.1 hj); omega
                      obtain ⟨_, ⟨c, hUj⟩, _⟩ := HUC.out j hjr
                      rw [hUj]; rfl
                    have HIS : Hid ((insI p nl is).map (row FL) = srtR FL (nl + 1) ∧ (insI p nl is).Perm (List.range (nl + 1))) := ⟨by
                      rw [insI_map hIS.out.1 (by rw [srtR_len FL nl (by omega)]; exact HAT.out), srtR]; rfl, insI_perm hIS.out.2⟩
                    have hgc3 := (hE4.out.cells g nl hgl2).trans hgc
                    have lg3 := Nat.lt_of_lt_of_le hgl2 hE4.out.le
                    have HLOW := Lib.hid (Nat.le_trans HLOW.out (Nat.le_trans hE.out.le (Nat.le_refl _)))
                    have hE := Lib.hid (hE.out.trans hE4.out)
                    have hnlF : nl + 1 ≤ FL.length := by omega
                    have hnl24 : nl ≤ 24 := by omega
                    clear hvs hgc hO HOUT HLS HA hIS HAT
                    go_wp2_with fail
                    obtain ⟨hnc, hcm⟩ := ownsRow_cap OX.out
                    have HCX2 := Lib.hid hcm
                    have hpc : p ≤ co := by omega
                    have hpnI : (p : Int) ≤ (nl : Int) := by omega
                    have hpcI : (p : Int) ≤ (co : Int) := by omega
                    have hnlI : (nl : Int) < (FL.length : Int) := by omega
                    clear hcm
                    obtain ⟨i1, hi1, hy0, hy1, hy2⟩ := info_parts Tryz.infoInts
                    have HTK : Hid (∀ u, u ∈ vs.take p → u.oneCell' = true) := fun u hu => HVS.out u (List.mem_of_mem_take hu)
                    have HDR : Hid (∀ u, u ∈ vs.drop p → u.oneCell' = true) := fun u hu => HVS.out u (List.mem_of_mem_drop hu)
                    have HIM : Hid ((insI p nl is).map U = vs.take p ++ [.slice (some ⟨bk, 0, none⟩) R ck] ++ vs.drop p) := by
                      rw [Hid, insI, List.map_append, List.map_cons, List.map_take, List.map_drop, HVS2.out, HUK.out, List.append_assoc]; rfl
                    rcases (show co = p ∨ ¬ co = p by omega) with hcp | hcp
                    · skip
                      have hcp1 : (co = p) = True := eq_true hcp
                      have HCP := Lib.hid hcp
                      clear hcp
                      refine wp_region_held_drew (S := (fun w' => Ext wr w' ∧ (∀ b o, b < wr.heap.size → w'.cell? ⟨b, o, none⟩ = wr.cell? ⟨b, o, none⟩))) (by kernel_rfl) (ext2 (Ext.refl wr).drew) (fun hHeld => ?_)
                      refine wpAnyH_take (i := 1) (v := ?v8) rfl (by kernel_rfl) (by kernel_rfl) (by kernel_rfl) (fun _ _ _ h => h) (Or.inl ⟨by rfl, ?hy8⟩) hHeld ?rest8
                      case hy8 => (intro wz hSw; (try dsimp only at hSw); go_simp; (try with_reducible rfl))
                      (try simp only [Act.put, List.getElem_toArray, List.getElem_cons_succ, List.getElem_cons_zero]); (try simp only [List.setIfInBounds_toArray]); (try simp only [List.set_cons_succ]); (try simp only [List.set_cons_zero])
                      refine wpAnyH_take (i := 2) (v := ?v9) rfl (by kernel_rfl) (by kernel_rfl) (by kernel_rfl) (fun _ _ _ h => h) (Or.inl ⟨by rfl, ?hy9⟩) hHeld ?rest9
                      case hy9 => (intro wz hSw; (try dsimp only at hSw); go_simp; (try with_reducible rfl))
                      (try simp only [Act.put, List.getElem_toArray, List.getElem_cons_succ, List.getElem_cons_zero]); (try simp only [List.setIfInBounds_toArray]); (try simp only [List.set_cons_succ]); (try simp only [List.set_cons_zero])
                      refine wpAnyH_take (i := 3) (v := ?v10) rfl (by kernel_rfl) (by kernel_rfl) (by kernel_rfl) (fun _ _ _ h => h) (Or.inl ⟨by rfl, ?hy10⟩) hHeld ?rest10
                      case hy10 => (intro wz hSw; (try dsimp only at hSw); go_simp; (try with_reducible rfl))
                      (try simp only [Act.put, List.getElem_toArray, List.getElem_cons_succ, List.getElem_cons_zero]); (try simp only [List.setIfInBounds_toArray]); (try simp only [List.set_cons_succ]); (try simp only [List.set_cons_zero])
                      refine wpAnyH_take (i := 5) (v := ?v11) rfl (by kernel_rfl) (by kernel_rfl) (by kernel_rfl) (fun _ _ _ h => h) (Or.inl ⟨by rfl, ?hy11⟩) hHeld ?rest11
                      case hy11 => (intro wz hSw; (try dsimp only at hSw); go_simp; (try with_reducible rfl))
                      (try simp only [Act.put, List.getElem_toArray, List.getElem_cons_succ, List.getElem_cons_zero]); (try simp only [List.setIfInBounds_toArray]); (try simp only [List.set_cons_succ]); (try simp only [List.set_cons_zero])
                      refine wpAnyH_take (i := 6) (v := ?v12) rfl (by kernel_rfl) (by kernel_rfl) (by kernel_rfl) (fun _ _ _ h => h) (Or.inl ⟨by rfl, ?hy12⟩) hHeld ?rest12
                      case hy12 => (intro wz hSw; (try dsimp only at hSw); go_simp; (try with_reducible rfl))
                      (try simp only [Act.put, List.getElem_toArray, List.getElem_cons_succ, List.getElem_cons_zero]); (try simp only [List.setIfInBounds_toArray]); (try simp only [List.set_cons_succ]); (try simp only [List.set_cons_zero])
                      refine wpAnyH_take (i := 7) (v := ?v13) rfl (by kernel_rfl) (by kernel_rfl) (by kernel_rfl) (fun _ _ _ h => h) (Or.inl ⟨by rfl, ?hy13⟩) hHeld ?rest13
                      case hy13 => (intro wz hSw; (try dsimp only at hSw); go_simp; (try with_reducible rfl))
                      (try simp only [Act.put, List.getElem_toArray, List.getElem_cons_succ, List.getElem_cons_zero]); (try simp only [List.setIfInBounds_toArray]); (try simp only [List.set_cons_succ]); (try simp only [List.set_cons_zero])
                      refine wpAnyH_take (i := 8) (v := ?v14) rfl (by kernel_rfl) (by kernel_rfl) (by kernel_rfl) (fun _ _ _ h => h) (Or.inl ⟨by rfl, ?hy14⟩) hHeld ?rest14
                      case hy14 => (intro wz hSw; (try dsimp only at hSw); go_simp; (try with_reducible rfl))
                      (try simp only [Act.put, List.getElem_toArray, List.getElem_cons_succ, List.getElem_cons_zero]); (try simp only [List.setIfInBounds_toArray]); (try simp only [List.set_cons_succ]); (try simp only [List.set_cons_zero])
                      refine wpAnyH_take (i := 11) (v := ?v15) rfl (by kernel_rfl) (by kernel_rfl) (by kernel_rfl) (fun _ _ _ h => h) (Or.inl ⟨by rfl, ?hy15⟩) hHeld ?rest15
                      case hy15 => (intro wz hSw; (try dsimp only at hSw); go_simp; (try with_reducible rfl))
                      (try simp only [Act.put, List.getElem_toArray, List.getElem_cons_succ, List.getElem_cons_zero]); (try simp only [List.setIfInBounds_toArray]); (try simp only [List.set_cons_succ]); (try simp only [List.set_cons_zero])
                      refine wpAnyH_take (i := 12) (v := ?v16) rfl (by kernel_rfl) (by kernel_rfl) (by kernel_rfl) (fun _ _ _ h => h) (Or.inl ⟨by rfl, ?hy16⟩) hHeld ?rest16
                      case hy16 => (intro wz hSw; (try dsimp only at hSw); go_simp; (try with_reducible rfl))
                      (try simp only [Act.put, List.getElem_toArray, List.getElem_cons_succ, List.getElem_cons_zero]); (try simp only [List.setIfInBounds_toArray]); (try simp only [List.set_cons_succ]); (try simp only [List.set_cons_zero])
                      refine wpAnyH_take (i := 13) (v := ?v17) rfl (by kernel_rfl) (by kernel_rfl) (by kernel_rfl) (fun _ _ _ h => h) (Or.inl ⟨by rfl, ?hy17⟩) hHeld ?rest17
                      case hy17 => (intro wz hSw; (try dsimp only at hSw); go_simp; (try with_reducible rfl))
                      (try simp only [Act.put, List.getElem_toArray, List.getElem_cons_succ, List.getElem_cons_zero]); (try simp only [List.setIfInBounds_toArray]); (try simp only [List.set_cons_succ]); (try simp only [List.set_cons_zero])
                      refine wpAnyH_ready (rs := [0, 9]) (by kernel_rfl) (by simp) ?_
                      refine AllReadyH.cons rfl (fun K' hK => ?_) (AllReadyH.cons rfl (fun K' hK => ?_) AllReadyH.nil)
                      · skip
                        go_simp
                        refine hK.out _ _ (ext2 ((Ext.refl wr).drew.alloc _)) (fun hHeld => ?_)
                        clear hK
                        obtain ⟨V1, hV1⟩ : ∃ V1, (wr.alloc (.cells #[] 22)).drew = V1 := ⟨_, rfl⟩
                        rw [hV1] at hHeld ⊢
                        have E1 := And.left hHeld
                        have hs1 : Hid (V1.heap.size = wr.heap.size + 1) := by rw [Hid, ← hV1]; simp
                        have L1 : V1.ownsRow wr.heap.size 22 1 (.slice (some ⟨wr.heap.size, 0, none⟩) 0 0) 0 [] := by rw [← hV1]; exact ownsRow_ext (World.ownsRow_lit wr #[] 0 (Nat.le_refl _) (by unfold maxLen; omega) (by simp)) ((Ext.refl _).drew)
                        clear hV1
                        refine wpAnyH_ready (rs := [4, 9]) (by kernel_rfl) (by simp) ?_
                        refine AllReadyH.cons rfl (fun K' hK => ?_) (AllReadyH.cons rfl (fun K' hK => ?_) AllReadyH.nil)
                        · skip
                          refine wp_append_own _ (.tmp 81) (.tmp 84) 35 rfl wr.heap.size 22 i1 (.slice none 0 0) 1 24 Tryz.underlying35 hi1 hy0 hy1 hy2 rfl (by decide) (.slice (some ⟨wr.heap.size, 0, none⟩) 0 0) 0 [] rfl L1 ⟨ga, 0, none⟩ p co (vs.take p) rfl (by rw [List.length_take, HVL.out]; omega) (own_take (ownsRow_ext OX.out E1) HVL.out) HTK.out (by unfold maxLen; omega) (by omega) E1.le ?_
                          intro v1 w1 hO1 hg1 _
                          have O1 : w1.ownsRow wr.heap.size 22 1 v1 p (vs.take p) := by rw [Nat.zero_add, List.nil_append] at hO1; exact hO1
                          have F1 : Ext wr w1 := E1.grown hg1 (fun z hz => (World.ownsRow.lt L1 z hz).1)
                          obtain ⟨a1, c1, rfl⟩ := ownsRow_shape O1
                          refine hK.out _ _ (ext2 F1) (fun hHeld => ?_)
                          clear hK hO1 hg1
                          refine wpAnyH_ready (rs := [9]) (by kernel_rfl) (by simp) ?_
                          refine AllReadyH.cons rfl (fun K' hK => ?_) AllReadyH.nil
                          go_simp
                          refine hK.out _ _ (ext2 (F1.alloc _)) (fun hHeld => ?_)
                          clear hK
                          have q2 := (Ext.refl w1).alloc (.cells #[.slice (some ⟨bk, 0, none⟩) R ck] 22)
                          have S2 : Cells (w1.alloc (.cells #[.slice (some ⟨bk, 0, none⟩) R ck] 22)) w1.heap.size [.slice (some ⟨bk, 0, none⟩) R ck] := cells_new w1 #[.slice (some ⟨bk, 0, none⟩) R ck] 22
                          have O2 := ownsRow_ext O1 q2
                          obtain ⟨V2, hV2⟩ : ∃ V2, w1.alloc (.cells #[.slice (some ⟨bk, 0, none⟩) R ck] 22) = V2 := ⟨_, rfl⟩
                          rw [hV2] at S2 O2 hHeld ⊢
                          clear hV2 q2
                          have E2 := And.left hHeld
                          refine wpAnyH_ready (rs := [10]) (by kernel_rfl) (by simp) ?_
                          refine AllReadyH.cons rfl (fun K' hK => ?_) AllReadyH.nil
                          refine wp_append_own _ (.tmp 85) (.tmp 90) 35 rfl wr.heap.size 22 i1 (.slice none 0 0) 1 24 Tryz.underlying35 hi1 hy0 hy1 hy2 rfl (by decide) (.slice a1 p c1) p (vs.take p) rfl O2 ⟨w1.heap.size, 0, none⟩ 1 1 [.slice (some ⟨bk, 0, none⟩) R ck] rfl rfl (one_news (S2.2 0 _ rfl)) (fun u hu => by rw [List.mem_singleton] at hu; subst hu; rfl) (by unfold maxLen; omega) (by omega) E2.le ?_
                          intro v2 w2 hO2 hg2 _
                          have F2 : Ext wr w2 := E2.grown hg2 (fun z hz => (World.ownsRow.lt O2 z hz).1)
                          obtain ⟨a2, c2, rfl⟩ := ownsRow_shape hO2
                          refine hK.out _ _ (ext2 F2) (fun hHeld => ?_)
                          clear hK hg2
                          refine wpAnyH_ready (rs := [14]) (by kernel_rfl) (by simp) ?_
                          refine AllReadyH.cons rfl (fun K' hK => ?_) AllReadyH.nil
                          refine wp_append_own _ (.tmp 91) (.tmp 94) 35 rfl wr.heap.size 22 i1 (.slice none 0 0) 1 24 Tryz.underlying35 hi1 hy0 hy1 hy2 rfl (by decide) (.slice a2 (p + 1) c2) (p + 1) (vs.take p ++ [.slice (some ⟨bk, 0, none⟩) R ck]) rfl hO2 ⟨ga, 0, none⟩ (nl - p) (co - p) (vs.drop p) rfl (by rw [List.length_drop, HVL.out]; omega) (own_drop (ownsRow_ext OX.out F2) HVL.out _ (.inr (by have := HCP.out; omega))) HDR.out (by unfold maxLen; omega) (by omega) F2.le ?_
                          intro v3 w3 hO3 hg3 _
                          have F3 : Ext wr w3 := F2.grown hg3 (fun z hz => (World.ownsRow.lt hO2 z hz).1)
                          rw [show p + 1 + (nl - p) = nl + 1 by omega] at hO3
                          obtain ⟨a3, c3', rfl⟩ := ownsRow_shape hO3
                          obtain ⟨g3', rfl, _, _, _⟩ := ownsRow_get hO3 (by omega)
                          refine hK.out _ _ (ext2 F3) (fun hHeld => ?_)
                          clear hK hg3
                          refine wpAnyH_take (i := 15) (v := ?v18) rfl (by kernel_rfl) (by kernel_rfl) (by kernel_rfl) (fun _ _ _ h => h) (Or.inl ⟨by rfl, ?hy18⟩) hHeld ?rest18
                          case hy18 => (intro wz hSw; (try dsimp only at hSw); go_simp; (try with_reducible rfl))
                          (try simp only [Act.put, List.getElem_toArray, List.getElem_cons_succ, List.getElem_cons_zero]); (try simp only [List.setIfInBounds_toArray]); (try simp only [List.set_cons_succ]); (try simp only [List.set_cons_zero])
                          refine wpAnyH_done (by kernel_rfl) ?_ _
                          clear hHeld
                          have O9 := Lib.hid (ownsRow_low hO3 X2.out.le)
                          have O10 : Hid (w3.ownsRow (w.heap.size + 1) 22 1 (.slice (some ⟨g3', 0, none⟩) (nl + 1) c3') (nl + 1) ((insI p nl is).map U)) := by rw [HIM.out]; exact ownsRow_low O9.out HLOW.out
                          have E8 := Lib.hid (hE.out.trans F3)
                          clear O9 hO3
                          go_wp2
                          exact ⟨⟨nl + 1, g3', c3', insI p nl is, by omega, by simp, by simp, O10, HIS.out, E8⟩, by simp [intOf]; omega⟩
                        · skip
                          go_simp
                          refine hK.out _ _ (ext2 (E1.alloc _)) (fun hHeld => ?_)
                          clear hK
                          have q2 := (Ext.refl V1).alloc (.cells #[.slice (some ⟨bk, 0, none⟩) R ck] 22)
                          have S2 : Cells (V1.alloc (.cells #[.slice (some ⟨bk, 0, none⟩) R ck] 22)) V1.heap.size [.slice (some ⟨bk, 0, none⟩) R ck] := cells_new V1 #[.slice (some ⟨bk, 0, none⟩) R ck] 22
                          have L2 := ownsRow_ext L1 q2
                          obtain ⟨V2, hV2⟩ : ∃ V2, V1.alloc (.cells #[.slice (some ⟨bk, 0, none⟩) R ck] 22) = V2 := ⟨_, rfl⟩
                          rw [hV2] at L2 S2 hHeld ⊢
                          clear hV2 q2
                          have E2 := And.left hHeld
                          refine wpAnyH_ready (rs := [4]) (by kernel_rfl) (by simp) ?_
                          refine AllReadyH.cons rfl (fun K' hK => ?_) AllReadyH.nil
                          refine wp_append_own _ (.tmp 81) (.tmp 84) 35 rfl wr.heap.size 22 i1 (.slice none 0 0) 1 24 Tryz.underlying35 hi1 hy0 hy1 hy2 rfl (by decide) (.slice (some ⟨wr.heap.size, 0, none⟩) 0 0) 0 [] rfl L2 ⟨ga, 0, none⟩ p co (vs.take p) rfl (by rw [List.length_take, HVL.out]; omega) (own_take (ownsRow_ext OX.out E2) HVL.out) HTK.out (by unfold maxLen; omega) (by omega) E2.le ?_
                          intro v1 w1 hO1 hg1 _
                          have O1 : w1.ownsRow wr.heap.size 22 1 v1 p (vs.take p) := by rw [Nat.zero_add, List.nil_append] at hO1; exact hO1
                          have F1 : Ext wr w1 := E2.grown hg1 (fun z hz => (World.ownsRow.lt L2 z hz).1)
                          have S3 : Cells w1 V1.heap.size [.slice (some ⟨bk, 0, none⟩) R ck] := S2.grown hg1 (fun z hz => by simp [Value.ownBlock] at hz; have := hs1.out; omega)
                          obtain ⟨a1, c1, rfl⟩ := ownsRow_shape O1
                          refine hK.out _ _ (ext2 F1) (fun hHeld => ?_)
                          clear hK hO1 hg1
                          refine wpAnyH_ready (rs := [10]) (by kernel_rfl) (by simp) ?_
                          refine AllReadyH.cons rfl (fun K' hK => ?_) AllReadyH.nil
                          refine wp_append_own _ (.tmp 85) (.tmp 90) 35 rfl wr.heap.size 22 i1 (.slice none 0 0) 1 24 Tryz.underlying35 hi1 hy0 hy1 hy2 rfl (by decide) (.slice a1 p c1) p (vs.take p) rfl O1 ⟨V1.heap.size, 0, none⟩ 1 1 [.slice (some ⟨bk, 0, none⟩) R ck] rfl rfl (one_news (S3.2 0 _ rfl)) (fun u hu => by rw [List.mem_singleton] at hu; subst hu; rfl) (by unfold maxLen; omega) (by omega) F1.le ?_
                          intro v2 w2 hO2 hg2 _
                          have F2 : Ext wr w2 := F1.grown hg2 (fun z hz => (World.ownsRow.lt O1 z hz).1)
                          obtain ⟨a2, c2, rfl⟩ := ownsRow_shape hO2
                          refine hK.out _ _ (ext2 F2) (fun hHeld => ?_)
                          clear hK hg2
                          refine wpAnyH_ready (rs := [14]) (by kernel_rfl) (by simp) ?_
                          refine AllReadyH.cons rfl (fun K' hK => ?_) AllReadyH.nil
                          refine wp_append_own _ (.tmp 91) (.tmp 94) 35 rfl wr.heap.size 22 i1 (.slice none 0 0) 1 24 Tryz.underlying35 hi1 hy0 hy1 hy2 rfl (by decide) (.slice a2 (p + 1) c2) (p + 1) (vs.take p ++ [.slice (some ⟨bk, 0, none⟩) R ck]) rfl hO2 ⟨ga, 0, none⟩ (nl - p) (co - p) (vs.drop p) rfl (by rw [List.length_drop, HVL.out]; omega) (own_drop (ownsRow_ext OX.out F2) HVL.out _ (.inr (by have := HCP.out; omega))) HDR.out (by unfold maxLen; omega) (by omega) F2.le ?_
                          intro v3 w3 hO3 hg3 _
                          have F3 : Ext wr w3 := F2.grown hg3 (fun z hz => (World.ownsRow.lt hO2 z hz).1)
                          rw [show p + 1 + (nl - p) = nl + 1 by omega] at hO3
                          obtain ⟨a3, c3', rfl⟩ := ownsRow_shape hO3
                          obtain ⟨g3', rfl, _, _, _⟩ := ownsRow_get hO3 (by omega)
                          refine hK.out _ _ (ext2 F3) (fun hHeld => ?_)
                          clear hK hg3
                          refine wpAnyH_take (i := 15) (v := ?v19) rfl (by kernel_rfl) (by kernel_rfl) (by kernel_rfl) (fun _ _ _ h => h) (Or.inl ⟨by rfl, ?hy19⟩) hHeld ?rest19
                          case hy19 => (intro wz hSw; (try dsimp only at hSw); go_simp; (try with_reducible rfl))
                          (try simp only [Act.put, List.getElem_toArray, List.getElem_cons_succ, List.getElem_cons_zero]); (try simp only [List.setIfInBounds_toArray]); (try simp only [List.set_cons_succ]); (try simp only [List.set_cons_zero])
                          refine wpAnyH_done (by kernel_rfl) ?_ _
                          clear hHeld
                          have O9 := Lib.hid (ownsRow_low hO3 X2.out.le)
                          have O10 : Hid (w3.ownsRow (w.heap.size + 1) 22 1 (.slice (some ⟨g3', 0, none⟩) (nl + 1) c3') (nl + 1) ((insI p nl is).map U)) := by rw [HIM.out]; exact ownsRow_low O9.out HLOW.out
                          have E8 := Lib.hid (hE.out.trans F3)
                          clear O9 hO3
                          go_wp2
                          exact ⟨⟨nl + 1, g3', c3', insI p nl is, by omega, by simp, by simp, O10, HIS.out, E8⟩, by simp [intOf]; omega⟩
                      · skip
                        go_simp
                        refine hK.out _ _ (ext2 ((Ext.refl wr).drew.alloc _)) (fun hHeld => ?_)
                        clear hK
                        obtain ⟨V1, hV1⟩ : ∃ V1, (wr.alloc (.cells #[.slice (some ⟨bk, 0, none⟩) R ck] 22)).drew = V1 := ⟨_, rfl⟩
                        rw [hV1] at hHeld ⊢
                        have E1 := And.left hHeld
                        have hs1 : Hid (V1.heap.size = wr.heap.size + 1) := by rw [Hid, ← hV1]; simp
                        have S1 : Cells V1 wr.heap.size [.slice (some ⟨bk, 0, none⟩) R ck] := by rw [← hV1]; exact (cells_new wr #[.slice (some ⟨bk, 0, none⟩) R ck] 22).ext ((Ext.refl _).drew)
                        clear hV1
                        refine wpAnyH_ready (rs := [0]) (by kernel_rfl) (by simp) ?_
                        refine AllReadyH.cons rfl (fun K' hK => ?_) AllReadyH.nil
                        go_simp
                        refine hK.out _ _ (ext2 (E1.alloc _)) (fun hHeld => ?_)
                        clear hK
                        have q2 := (Ext.refl V1).alloc (.cells #[] 22)
                        have L2 : (V1.alloc (.cells #[] 22)).ownsRow wr.heap.size 22 1 (.slice (some ⟨V1.heap.size, 0, none⟩) 0 0) 0 [] := World.ownsRow_lit V1 #[] 0 E1.le (by unfold maxLen; omega) (by simp)
                        have S2 := S1.ext q2
                        obtain ⟨V2, hV2⟩ : ∃ V2, V1.alloc (.cells #[] 22) = V2 := ⟨_, rfl⟩
                        rw [hV2] at L2 S2 hHeld ⊢
                        clear hV2 q2
                        have E2 := And.left hHeld
                        refine wpAnyH_ready (rs := [4]) (by kernel_rfl) (by simp) ?_
                        refine AllReadyH.cons rfl (fun K' hK => ?_) AllReadyH.nil
                        refine wp_append_own _ (.tmp 81) (.tmp 84) 35 rfl wr.heap.size 22 i1 (.slice none 0 0) 1 24 Tryz.underlying35 hi1 hy0 hy1 hy2 rfl (by decide) (.slice (some ⟨V1.heap.size, 0, none⟩) 0 0) 0 [] rfl L2 ⟨ga, 0, none⟩ p co (vs.take p) rfl (by rw [List.length_take, HVL.out]; omega) (own_take (ownsRow_ext OX.out E2) HVL.out) HTK.out (by unfold maxLen; omega) (by omega) E2.le ?_
                        intro v1 w1 hO1 hg1 _
                        have O1 : w1.ownsRow wr.heap.size 22 1 v1 p (vs.take p) := by rw [Nat.zero_add, List.nil_append] at hO1; exact hO1
                        have F1 : Ext wr w1 := E2.grown hg1 (fun z hz => (World.ownsRow.lt L2 z hz).1)
                        have S3 : Cells w1 wr.heap.size [.slice (some ⟨bk, 0, none⟩) R ck] := S2.grown hg1 (fun z hz => by simp [Value.ownBlock] at hz; have := hs1.out; omega)
                        obtain ⟨a1, c1, rfl⟩ := ownsRow_shape O1
                        refine hK.out _ _ (ext2 F1) (fun hHeld => ?_)
                        clear hK hO1 hg1
                        refine wpAnyH_ready (rs := [10]) (by kernel_rfl) (by simp) ?_
                        refine AllReadyH.cons rfl (fun K' hK => ?_) AllReadyH.nil
                        refine wp_append_own _ (.tmp 85) (.tmp 90) 35 rfl wr.heap.size 22 i1 (.slice none 0 0) 1 24 Tryz.underlying35 hi1 hy0 hy1 hy2 rfl (by decide) (.slice a1 p c1) p (vs.take p) rfl O1 ⟨wr.heap.size, 0, none⟩ 1 1 [.slice (some ⟨bk, 0, none⟩) R ck] rfl rfl (one_news (S3.2 0 _ rfl)) (fun u hu => by rw [List.mem_singleton] at hu; subst hu; rfl) (by unfold maxLen; omega) (by omega) F1.le ?_
                        intro v2 w2 hO2 hg2 _
                        have F2 : Ext wr w2 := F1.grown hg2 (fun z hz => (World.ownsRow.lt O1 z hz).1)
                        obtain ⟨a2, c2, rfl⟩ := ownsRow_shape hO2
                        refine hK.out _ _ (ext2 F2) (fun hHeld => ?_)
                        clear hK hg2
                        refine wpAnyH_ready (rs := [14]) (by kernel_rfl) (by simp) ?_
                        refine AllReadyH.cons rfl (fun K' hK => ?_) AllReadyH.nil
                        refine wp_append_own _ (.tmp 91) (.tmp 94) 35 rfl wr.heap.size 22 i1 (.slice none 0 0) 1 24 Tryz.underlying35 hi1 hy0 hy1 hy2 rfl (by decide) (.slice a2 (p + 1) c2) (p + 1) (vs.take p ++ [.slice (some ⟨bk, 0, none⟩) R ck]) rfl hO2 ⟨ga, 0, none⟩ (nl - p) (co - p) (vs.drop p) rfl (by rw [List.length_drop, HVL.out]; omega) (own_drop (ownsRow_ext OX.out F2) HVL.out _ (.inr (by have := HCP.out; omega))) HDR.out (by unfold maxLen; omega) (by omega) F2.le ?_
                        intro v3 w3 hO3 hg3 _
                        have F3 : Ext wr w3 := F2.grown hg3 (fun z hz => (World.ownsRow.lt hO2 z hz).1)
                        rw [show p + 1 + (nl - p) = nl + 1 by omega] at hO3
                        obtain ⟨a3, c3', rfl⟩ := ownsRow_shape hO3
                        obtain ⟨g3', rfl, _, _, _⟩ := ownsRow_get hO3 (by omega)
                        refine hK.out _ _ (ext2 F3) (fun hHeld => ?_)
                        clear hK hg3
                        refine wpAnyH_take (i := 15) (v := ?v20) rfl (by kernel_rfl) (by kernel_rfl) (by kernel_rfl) (fun _ _ _ h => h) (Or.inl ⟨by rfl, ?hy20⟩) hHeld ?rest20
                        case hy20 => (intro wz hSw; (try dsimp only at hSw); go_simp; (try with_reducible rfl))
                        (try simp only [Act.put, List.getElem_toArray, List.getElem_cons_succ, List.getElem_cons_zero]); (try simp only [List.setIfInBounds_toArray]); (try simp only [List.set_cons_succ]); (try simp only [List.set_cons_zero])
                        refine wpAnyH_done (by kernel_rfl) ?_ _
                        clear hHeld
                        have O9 := Lib.hid (ownsRow_low hO3 X2.out.le)
                        have O10 : Hid (w3.ownsRow (w.heap.size + 1) 22 1 (.slice (some ⟨g3', 0, none⟩) (nl + 1) c3') (nl + 1) ((insI p nl is).map U)) := by rw [HIM.out]; exact ownsRow_low O9.out HLOW.out
                        have E8 := Lib.hid (hE.out.trans F3)
                        clear O9 hO3
                        go_wp2
                        exact ⟨⟨nl + 1, g3', c3', insI p nl is, by omega, by simp, by simp, O10, HIS.out, E8⟩, by simp [intOf]; omega⟩
                    · skip
                      have hcp1 : ¬ p = co := fun h => hcp h.symm
                      refine wp_region_held_drew (S := (fun w' => Ext wr w' ∧ (∀ b o, b < wr.heap.size → w'.cell? ⟨b, o, none⟩ = wr.cell? ⟨b, o, none⟩))) (by kernel_rfl) (ext2 (Ext.refl wr).drew) (fun hHeld => ?_)
                      refine wpAnyH_take (i := 1) (v := ?v21) rfl (by kernel_rfl) (by kernel_rfl) (by kernel_rfl) (fun _ _ _ h => h) (Or.inl ⟨by rfl, ?hy21⟩) hHeld ?rest21
                      case hy21 => (intro wz hSw; (try dsimp only at hSw); go_simp; (try with_reducible rfl))
                      (try simp only [Act.put, List.getElem_toArray, List.getElem_cons_succ, List.getElem_cons_zero]); (try simp only [List.setIfInBounds_toArray]); (try simp only [List.set_cons_succ]); (try simp only [List.set_cons_zero])
                      refine wpAnyH_take (i := 2) (v := ?v22) rfl (by kernel_rfl) (by kernel_rfl) (by kernel_rfl) (fun _ _ _ h => h) (Or.inl ⟨by rfl, ?hy22⟩) hHeld ?rest22
                      case hy22 => (intro wz hSw; (try dsimp only at hSw); go_simp; (try with_reducible rfl))
                      (try simp only [Act.put, List.getElem_toArray, List.getElem_cons_succ, List.getElem_cons_zero]); (try simp only [List.setIfInBounds_toArray]); (try simp only [List.set_cons_succ]); (try simp only [List.set_cons_zero])
                      refine wpAnyH_take (i := 3) (v := ?v23) rfl (by kernel_rfl) (by kernel_rfl) (by kernel_rfl) (fun _ _ _ h => h) (Or.inl ⟨by rfl, ?hy23⟩) hHeld ?rest23
                      case hy23 => (intro wz hSw; (try dsimp only at hSw); go_simp; (try with_reducible rfl))
                      (try simp only [Act.put, List.getElem_toArray, List.getElem_cons_succ, List.getElem_cons_zero]); (try simp only [List.setIfInBounds_toArray]); (try simp only [List.set_cons_succ]); (try simp only [List.set_cons_zero])
                      refine wpAnyH_take (i := 5) (v := ?v24) rfl (by kernel_rfl) (by kernel_rfl) (by kernel_rfl) (fun _ _ _ h => h) (Or.inl ⟨by rfl, ?hy24⟩) hHeld ?rest24
                      case hy24 => (intro wz hSw; (try dsimp only at hSw); go_simp; (try with_reducible rfl))
                      (try simp only [Act.put, List.getElem_toArray, List.getElem_cons_succ, List.getElem_cons_zero]); (try simp only [List.setIfInBounds_toArray]); (try simp only [List.set_cons_succ]); (try simp only [List.set_cons_zero])
                      refine wpAnyH_take (i := 6) (v := ?v25) rfl (by kernel_rfl) (by kernel_rfl) (by kernel_rfl) (fun _ _ _ h => h) (Or.inl ⟨by rfl, ?hy25⟩) hHeld ?rest25
                      case hy25 => (intro wz hSw; (try dsimp only at hSw); go_simp; (try with_reducible rfl))
                      (try simp only [Act.put, List.getElem_toArray, List.getElem_cons_succ, List.getElem_cons_zero]); (try simp only [List.setIfInBounds_toArray]); (try simp only [List.set_cons_succ]); (try simp only [List.set_cons_zero])
                      refine wpAnyH_take (i := 7) (v := ?v26) rfl (by kernel_rfl) (by kernel_rfl) (by kernel_rfl) (fun _ _ _ h => h) (Or.inl ⟨by rfl, ?hy26⟩) hHeld ?rest26
                      case hy26 => (intro wz hSw; (try dsimp only at hSw); go_simp; (try with_reducible rfl))
                      (try simp only [Act.put, List.getElem_toArray, List.getElem_cons_succ, List.getElem_cons_zero]); (try simp only [List.setIfInBounds_toArray]); (try simp only [List.set_cons_succ]); (try simp only [List.set_cons_zero])
                      refine wpAnyH_take (i := 8) (v := ?v27) rfl (by kernel_rfl) (by kernel_rfl) (by kernel_rfl) (fun _ _ _ h => h) (Or.inl ⟨by rfl, ?hy27⟩) hHeld ?rest27
                      case hy27 => (intro wz hSw; (try dsimp only at hSw); go_simp; (try with_reducible rfl))
                      (try simp only [Act.put, List.getElem_toArray, List.getElem_cons_succ, List.getElem_cons_zero]); (try simp only [List.setIfInBounds_toArray]); (try simp only [List.set_cons_succ]); (try simp only [List.set_cons_zero])
                      refine wpAnyH_take (i := 11) (v := ?v28) rfl (by kernel_rfl) (by kernel_rfl) (by kernel_rfl) (fun _ _ _ h => h) (Or.inl ⟨by rfl, ?hy28⟩) hHeld ?rest28
                      case hy28 => (intro wz hSw; (try dsimp only at hSw); go_simp; (try with_reducible rfl))
                      (try simp only [Act.put, List.getElem_toArray, List.getElem_cons_succ, List.getElem_cons_zero]); (try simp only [List.setIfInBounds_toArray]); (try simp only [List.set_cons_succ]); (try simp only [List.set_cons_zero])
                      refine wpAnyH_take (i := 12) (v := ?v29) rfl (by kernel_rfl) (by kernel_rfl) (by kernel_rfl) (fun _ _ _ h => h) (Or.inl ⟨by rfl, ?hy29⟩) hHeld ?rest29
                      case hy29 => (intro wz hSw; (try dsimp only at hSw); go_simp; (try with_reducible rfl))
                      (try simp only [Act.put, List.getElem_toArray, List.getElem_cons_succ, List.getElem_cons_zero]); (try simp only [List.setIfInBounds_toArray]); (try simp only [List.set_cons_succ]); (try simp only [List.set_cons_zero])
                      refine wpAnyH_take (i := 13) (v := ?v30) rfl (by kernel_rfl) (by kernel_rfl) (by kernel_rfl) (fun _ _ _ h => h) (Or.inl ⟨by rfl, ?hy30⟩) hHeld ?rest30
                      case hy30 => (intro wz hSw; (try dsimp only at hSw); go_simp; (try with_reducible rfl))
                      (try simp only [Act.put, List.getElem_toArray, List.getElem_cons_succ, List.getElem_cons_zero]); (try simp only [List.setIfInBounds_toArray]); (try simp only [List.set_cons_succ]); (try simp only [List.set_cons_zero])
                      refine wpAnyH_ready (rs := [0, 9]) (by kernel_rfl) (by simp) ?_
                      refine AllReadyH.cons rfl (fun K' hK => ?_) (AllReadyH.cons rfl (fun K' hK => ?_) AllReadyH.nil)
                      · skip
                        go_simp
                        refine hK.out _ _ (ext2 ((Ext.refl wr).drew.alloc _)) (fun hHeld => ?_)
                        clear hK
                        obtain ⟨V1, hV1⟩ : ∃ V1, (wr.alloc (.cells #[] 22)).drew = V1 := ⟨_, rfl⟩
                        rw [hV1] at hHeld ⊢
                        have E1 := And.left hHeld
                        have hs1 : Hid (V1.heap.size = wr.heap.size + 1) := by rw [Hid, ← hV1]; simp
                        have L1 : V1.ownsRow wr.heap.size 22 1 (.slice (some ⟨wr.heap.size, 0, none⟩) 0 0) 0 [] := by rw [← hV1]; exact ownsRow_ext (World.ownsRow_lit wr #[] 0 (Nat.le_refl _) (by unfold maxLen; omega) (by simp)) ((Ext.refl _).drew)
                        clear hV1
                        refine wpAnyH_ready (rs := [4, 9]) (by kernel_rfl) (by simp) ?_
                        refine AllReadyH.cons rfl (fun K' hK => ?_) (AllReadyH.cons rfl (fun K' hK => ?_) AllReadyH.nil)
                        · skip
                          refine wp_append_own _ (.tmp 81) (.tmp 84) 35 rfl wr.heap.size 22 i1 (.slice none 0 0) 1 24 Tryz.underlying35 hi1 hy0 hy1 hy2 rfl (by decide) (.slice (some ⟨wr.heap.size, 0, none⟩) 0 0) 0 [] rfl L1 ⟨ga, 0, none⟩ p co (vs.take p) rfl (by rw [List.length_take, HVL.out]; omega) (own_take (ownsRow_ext OX.out E1) HVL.out) HTK.out (by unfold maxLen; omega) (by omega) E1.le ?_
                          intro v1 w1 hO1 hg1 _
                          have O1 : w1.ownsRow wr.heap.size 22 1 v1 p (vs.take p) := by rw [Nat.zero_add, List.nil_append] at hO1; exact hO1
                          have F1 : Ext wr w1 := E1.grown hg1 (fun z hz => (World.ownsRow.lt L1 z hz).1)
                          obtain ⟨a1, c1, rfl⟩ := ownsRow_shape O1
                          refine hK.out _ _ (ext2 F1) (fun hHeld => ?_)
                          clear hK hO1 hg1
                          refine wpAnyH_ready (rs := [9]) (by kernel_rfl) (by simp) ?_
                          refine AllReadyH.cons rfl (fun K' hK => ?_) AllReadyH.nil
                          go_simp
                          refine hK.out _ _ (ext2 (F1.alloc _)) (fun hHeld => ?_)
                          clear hK
                          have q2 := (Ext.refl w1).alloc (.cells #[.slice (some ⟨bk, 0, none⟩) R ck] 22)
                          have S2 : Cells (w1.alloc (.cells #[.slice (some ⟨bk, 0, none⟩) R ck] 22)) w1.heap.size [.slice (some ⟨bk, 0, none⟩) R ck] := cells_new w1 #[.slice (some ⟨bk, 0, none⟩) R ck] 22
                          have O2 := ownsRow_ext O1 q2
                          obtain ⟨V2, hV2⟩ : ∃ V2, w1.alloc (.cells #[.slice (some ⟨bk, 0, none⟩) R ck] 22) = V2 := ⟨_, rfl⟩
                          rw [hV2] at S2 O2 hHeld ⊢
                          clear hV2 q2
                          have E2 := And.left hHeld
                          refine wpAnyH_ready (rs := [10]) (by kernel_rfl) (by simp) ?_
                          refine AllReadyH.cons rfl (fun K' hK => ?_) AllReadyH.nil
                          refine wp_append_own _ (.tmp 85) (.tmp 90) 35 rfl wr.heap.size 22 i1 (.slice none 0 0) 1 24 Tryz.underlying35 hi1 hy0 hy1 hy2 rfl (by decide) (.slice a1 p c1) p (vs.take p) rfl O2 ⟨w1.heap.size, 0, none⟩ 1 1 [.slice (some ⟨bk, 0, none⟩) R ck] rfl rfl (one_news (S2.2 0 _ rfl)) (fun u hu => by rw [List.mem_singleton] at hu; subst hu; rfl) (by unfold maxLen; omega) (by omega) E2.le ?_
                          intro v2 w2 hO2 hg2 _
                          have F2 : Ext wr w2 := E2.grown hg2 (fun z hz => (World.ownsRow.lt O2 z hz).1)
                          obtain ⟨a2, c2, rfl⟩ := ownsRow_shape hO2
                          refine hK.out _ _ (ext2 F2) (fun hHeld => ?_)
                          clear hK hg2
                          refine wpAnyH_ready (rs := [14]) (by kernel_rfl) (by simp) ?_
                          refine AllReadyH.cons rfl (fun K' hK => ?_) AllReadyH.nil
                          refine wp_append_own _ (.tmp 91) (.tmp 94) 35 rfl wr.heap.size 22 i1 (.slice none 0 0) 1 24 Tryz.underlying35 hi1 hy0 hy1 hy2 rfl (by decide) (.slice a2 (p + 1) c2) (p + 1) (vs.take p ++ [.slice (some ⟨bk, 0, none⟩) R ck]) rfl hO2 ⟨ga, p, none⟩ (nl - p) (co - p) (vs.drop p) rfl (by rw [List.length_drop, HVL.out]; omega) (own_drop (ownsRow_ext OX.out F2) HVL.out _ (.inl rfl)) HDR.out (by unfold maxLen; omega) (by omega) F2.le ?_
                          intro v3 w3 hO3 hg3 _
                          have F3 : Ext wr w3 := F2.grown hg3 (fun z hz => (World.ownsRow.lt hO2 z hz).1)
                          rw [show p + 1 + (nl - p) = nl + 1 by omega] at hO3
                          obtain ⟨a3, c3', rfl⟩ := ownsRow_shape hO3
                          obtain ⟨g3', rfl, _, _, _⟩ := ownsRow_get hO3 (by omega)
                          refine hK.out _ _ (ext2 F3) (fun hHeld => ?_)
                          clear hK hg3
                          refine wpAnyH_take (i := 15) (v := ?v31) rfl (by kernel_rfl) (by kernel_rfl) (by kernel_rfl) (fun _ _ _ h => h) (Or.inl ⟨by rfl, ?hy31⟩) hHeld ?rest31
                          case hy31 => (intro wz hSw; (try dsimp only at hSw); go_simp; (try with_reducible rfl))
                          (try simp only [Act.put, List.getElem_toArray, List.getElem_cons_succ, List.getElem_cons_zero]); (try simp only [List.setIfInBounds_toArray]); (try simp only [List.set_cons_succ]); (try simp only [List.set_cons_zero])
                          refine wpAnyH_done (by kernel_rfl) ?_ _
                          clear hHeld
                          have O9 := Lib.hid (ownsRow_low hO3 X2.out.le)
                          have O10 : Hid (w3.ownsRow (w.heap.size + 1) 22 1 (.slice (some ⟨g3', 0, none⟩) (nl + 1) c3') (nl + 1) ((insI p nl is).map U)) := by rw [HIM.out]; exact ownsRow_low O9.out HLOW.out
                          have E8 := Lib.hid (hE.out.trans F3)
                          clear O9 hO3
                          go_wp2
                          exact ⟨⟨nl + 1, g3', c3', insI p nl is, by omega, by simp, by simp, O10, HIS.out, E8⟩, by simp [intOf]; omega⟩
                        · skip
                          go_simp
                          refine hK.out _ _ (ext2 (E1.alloc _)) (fun hHeld => ?_)
                          clear hK
                          have q2 := (Ext.refl V1).alloc (.cells #[.slice (some ⟨bk, 0, none⟩) R ck] 22)
                          have S2 : Cells (V1.alloc (.cells #[.slice (some ⟨bk, 0, none⟩) R ck] 22)) V1.heap.size [.slice (some ⟨bk, 0, none⟩) R ck] := cells_new V1 #[.slice (some ⟨bk, 0, none⟩) R ck] 22
                          have L2 := ownsRow_ext L1 q2
                          obtain ⟨V2, hV2⟩ : ∃ V2, V1.alloc (.cells #[.slice (some ⟨bk, 0, none⟩) R ck] 22) = V2 := ⟨_, rfl⟩
                          rw [hV2] at L2 S2 hHeld ⊢
                          clear hV2 q2
                          have E2 := And.left hHeld
                          refine wpAnyH_ready (rs := [4]) (by kernel_rfl) (by simp) ?_
                          refine AllReadyH.cons rfl (fun K' hK => ?_) AllReadyH.nil
                          refine wp_append_own _ (.tmp 81) (.tmp 84) 35 rfl wr.heap.size 22 i1 (.slice none 0 0) 1 24 Tryz.underlying35 hi1 hy0 hy1 hy2 rfl (by decide) (.slice (some ⟨wr.heap.size, 0, none⟩) 0 0) 0 [] rfl L2 ⟨ga, 0, none⟩ p co (vs.take p) rfl (by rw [List.length_take, HVL.out]; omega) (own_take (ownsRow_ext OX.out E2) HVL.out) HTK.out (by unfold maxLen; omega) (by omega) E2.le ?_
                          intro v1 w1 hO1 hg1 _
                          have O1 : w1.ownsRow wr.heap.size 22 1 v1 p (vs.take p) := by rw [Nat.zero_add, List.nil_append] at hO1; exact hO1
                          have F1 : Ext wr w1 := E2.grown hg1 (fun z hz => (World.ownsRow.lt L2 z hz).1)
                          have S3 : Cells w1 V1.heap.size [.slice (some ⟨bk, 0, none⟩) R ck] := S2.grown hg1 (fun z hz => by simp [Value.ownBlock] at hz; have := hs1.out; omega)
                          obtain ⟨a1, c1, rfl⟩ := ownsRow_shape O1
                          refine hK.out _ _ (ext2 F1) (fun hHeld => ?_)
                          clear hK hO1 hg1
                          refine wpAnyH_ready (rs := [10]) (by kernel_rfl) (by simp) ?_
                          refine AllReadyH.cons rfl (fun K' hK => ?_) AllReadyH.nil
                          refine wp_append_own _ (.tmp 85) (.tmp 90) 35 rfl wr.heap.size 22 i1 (.slice none 0 0) 1 24 Tryz.underlying35 hi1 hy0 hy1 hy2 rfl (by decide) (.slice a1 p c1) p (vs.take p) rfl O1 ⟨V1.heap.size, 0, none⟩ 1 1 [.slice (some ⟨bk, 0, none⟩) R ck] rfl rfl (one_news (S3.2 0 _ rfl)) (fun u hu => by rw [List.mem_singleton] at hu; subst hu; rfl) (by unfold maxLen; omega) (by omega) F1.le ?_
                          intro v2 w2 hO2 hg2 _
                          have F2 : Ext wr w2 := F1.grown hg2 (fun z hz => (World.ownsRow.lt O1 z hz).1)
                          obtain ⟨a2, c2, rfl⟩ := ownsRow_shape hO2
                          refine hK.out _ _ (ext2 F2) (fun hHeld => ?_)
                          clear hK hg2
                          refine wpAnyH_ready (rs := [14]) (by kernel_rfl) (by simp) ?_
                          refine AllReadyH.cons rfl (fun K' hK => ?_) AllReadyH.nil
                          refine wp_append_own _ (.tmp 91) (.tmp 94) 35 rfl wr.heap.size 22 i1 (.slice none 0 0) 1 24 Tryz.underlying35 hi1 hy0 hy1 hy2 rfl (by decide) (.slice a2 (p + 1) c2) (p + 1) (vs.take p ++ [.slice (some ⟨bk, 0, none⟩) R ck]) rfl hO2 ⟨ga, p, none⟩ (nl - p) (co - p) (vs.drop p) rfl (by rw [List.length_drop, HVL.out]; omega) (own_drop (ownsRow_ext OX.out F2) HVL.out _ (.inl rfl)) HDR.out (by unfold maxLen; omega) (by omega) F2.le ?_
                          intro v3 w3 hO3 hg3 _
                          have F3 : Ext wr w3 := F2.grown hg3 (fun z hz => (World.ownsRow.lt hO2 z hz).1)
                          rw [show p + 1 + (nl - p) = nl + 1 by omega] at hO3
                          obtain ⟨a3, c3', rfl⟩ := ownsRow_shape hO3
                          obtain ⟨g3', rfl, _, _, _⟩ := ownsRow_get hO3 (by omega)
                          refine hK.out _ _ (ext2 F3) (fun hHeld => ?_)
                          clear hK hg3
                          refine wpAnyH_take (i := 15) (v := ?v32) rfl (by kernel_rfl) (by kernel_rfl) (by kernel_rfl) (fun _ _ _ h => h) (Or.inl ⟨by rfl, ?hy32⟩) hHeld ?rest32
                          case hy32 => (intro wz hSw; (try dsimp only at hSw); go_simp; (try with_reducible rfl))
                          (try simp only [Act.put, List.getElem_toArray, List.getElem_cons_succ, List.getElem_cons_zero]); (try simp only [List.setIfInBounds_toArray]); (try simp only [List.set_cons_succ]); (try simp only [List.set_cons_zero])
                          refine wpAnyH_done (by kernel_rfl) ?_ _
                          clear hHeld
                          have O9 := Lib.hid (ownsRow_low hO3 X2.out.le)
                          have O10 : Hid (w3.ownsRow (w.heap.size + 1) 22 1 (.slice (some ⟨g3', 0, none⟩) (nl + 1) c3') (nl + 1) ((insI p nl is).map U)) := by rw [HIM.out]; exact ownsRow_low O9.out HLOW.out
                          have E8 := Lib.hid (hE.out.trans F3)
                          clear O9 hO3
                          go_wp2
                          exact ⟨⟨nl + 1, g3', c3', insI p nl is, by omega, by simp, by simp, O10, HIS.out, E8⟩, by simp [intOf]; omega⟩
                      · skip
                        go_simp
                        refine hK.out _ _ (ext2 ((Ext.refl wr).drew.alloc _)) (fun hHeld => ?_)
                        clear hK
                        obtain ⟨V1, hV1⟩ : ∃ V1, (wr.alloc (.cells #[.slice (some ⟨bk, 0, none⟩) R ck] 22)).drew = V1 := ⟨_, rfl⟩
                        rw [hV1] at hHeld ⊢
                        have E1 := And.left hHeld
                        have hs1 : Hid (V1.heap.size = wr.heap.size + 1) := by rw [Hid, ← hV1]; simp
                        have S1 : Cells V1 wr.heap.size [.slice (some ⟨bk, 0, none⟩) R ck] := by rw [← hV1]; exact (cells_new wr #[.slice (some ⟨bk, 0, none⟩) R ck] 22).ext ((Ext.refl _).drew)
                        clear hV1
                        refine wpAnyH_ready (rs := [0]) (by kernel_rfl) (by simp) ?_
                        refine AllReadyH.cons rfl (fun K' hK => ?_) AllReadyH.nil
                        go_simp
                        refine hK.out _ _ (ext2 (E1.alloc _)) (fun hHeld => ?_)
                        clear hK
                        have q2 := (Ext.refl V1).alloc (.cells #[] 22)
                        have L2 : (V1.alloc (.cells #[] 22)).ownsRow wr.heap.size 22 1 (.slice (some ⟨V1.heap.size, 0, none⟩) 0 0) 0 [] := World.ownsRow_lit V1 #[] 0 E1.le (by unfold maxLen; omega) (by simp)
                        have S2 := S1.ext q2
                        obtain ⟨V2, hV2⟩ : ∃ V2, V1.alloc (.cells #[] 22) = V2 := ⟨_, rfl⟩
                        rw [hV2] at L2 S2 hHeld ⊢
                        clear hV2 q2
                        have E2 := And.left hHeld
                        refine wpAnyH_ready (rs := [4]) (by kernel_rfl) (by simp) ?_
                        refine AllReadyH.cons rfl (fun K' hK => ?_) AllReadyH.nil
                        refine wp_append_own _ (.tmp 81) (.tmp 84) 35 rfl wr.heap.size 22 i1 (.slice none 0 0) 1 24 Tryz.underlying35 hi1 hy0 hy1 hy2 rfl (by decide) (.slice (some ⟨V1.heap.size, 0, none⟩) 0 0) 0 [] rfl L2 ⟨ga, 0, none⟩ p co (vs.take p) rfl (by rw [List.length_take, HVL.out]; omega) (own_take (ownsRow_ext OX.out E2) HVL.out) HTK.out (by unfold maxLen; omega) (by omega) E2.le ?_
                        intro v1 w1 hO1 hg1 _
                        have O1 : w1.ownsRow wr.heap.size 22 1 v1 p (vs.take p) := by rw [Nat.zero_add, List.nil_append] at hO1; exact hO1
                        have F1 : Ext wr w1 := E2.grown hg1 (fun z hz => (World.ownsRow.lt L2 z hz).1)
                        have S3 : Cells w1 wr.heap.size [.slice (some ⟨bk, 0, none⟩) R ck] := S2.grown hg1 (fun z hz => by simp [Value.ownBlock] at hz; have := hs1.out; omega)
                        obtain ⟨a1, c1, rfl⟩ := ownsRow_shape O1
                        refine hK.out _ _ (ext2 F1) (fun hHeld => ?_)
                        clear hK hO1 hg1
                        refine wpAnyH_ready (rs := [10]) (by kernel_rfl) (by simp) ?_
                        refine AllReadyH.cons rfl (fun K' hK => ?_) AllReadyH.nil
                        refine wp_append_own _ (.tmp 85) (.tmp 90) 35 rfl wr.heap.size 22 i1 (.slice none 0 0) 1 24 Tryz.underlying35 hi1 hy0 hy1 hy2 rfl (by decide) (.slice a1 p c1) p (vs.take p) rfl O1 ⟨wr.heap.size, 0, none⟩ 1 1 [.slice (some ⟨bk, 0, none⟩) R ck] rfl rfl (one_news (S3.2 0 _ rfl)) (fun u hu => by rw [List.mem_singleton] at hu; subst hu; rfl) (by unfold maxLen; omega) (by omega) F1.le ?_
                        intro v2 w2 hO2 hg2 _
                        have F2 : Ext wr w2 := F1.grown hg2 (fun z hz => (World.ownsRow.lt O1 z hz).1)
                        obtain ⟨a2, c2, rfl⟩ := ownsRow_shape hO2
                        refine hK.out _ _ (ext2 F2) (fun hHeld => ?_)
                        clear hK hg2
                        refine wpAnyH_ready (rs := [14]) (by kernel_rfl) (by simp) ?_
                        refine AllReadyH.cons rfl (fun K' hK => ?_) AllReadyH.nil
                        refine wp_append_own _ (.tmp 91) (.tmp 94) 35 rfl wr.heap.size 22 i1 (.slice none 0 0) 1 24 Tryz.underlying35 hi1 hy0 hy1 hy2 rfl (by decide) (.slice a2 (p + 1) c2) (p + 1) (vs.take p ++ [.slice (some ⟨bk, 0, none⟩) R ck]) rfl hO2 ⟨ga, p, none⟩ (nl - p) (co - p) (vs.drop p) rfl (by rw [List.length_drop, HVL.out]; omega) (own_drop (ownsRow_ext OX.out F2) HVL.out _ (.inl rfl)) HDR.out (by unfold maxLen; omega) (by omega) F2.le ?_
                        intro v3 w3 hO3 hg3 _
                        have F3 : Ext wr w3 := F2.grown hg3 (fun z hz => (World.ownsRow.lt hO2 z hz).1)
                        rw [show p + 1 + (nl - p) = nl + 1 by omega] at hO3
                        obtain ⟨a3, c3', rfl⟩ := ownsRow_shape hO3
                        obtain ⟨g3', rfl, _, _, _⟩ := ownsRow_get hO3 (by omega)
                        refine hK.out _ _ (ext2 F3) (fun hHeld => ?_)
                        clear hK hg3
                        refine wpAnyH_take (i := 15) (v := ?v33) rfl (by kernel_rfl) (by kernel_rfl) (by kernel_rfl) (fun _ _ _ h => h) (Or.inl ⟨by rfl, ?hy33⟩) hHeld ?rest33
                        case hy33 => (intro wz hSw; (try dsimp only at hSw); go_simp; (try with_reducible rfl))
                        (try simp only [Act.put, List.getElem_toArray, List.getElem_cons_succ, List.getElem_cons_zero]); (try simp only [List.setIfInBounds_toArray]); (try simp only [List.set_cons_succ]); (try simp only [List.set_cons_zero])
                        refine wpAnyH_done (by kernel_rfl) ?_ _
                        clear hHeld
                        have O9 := Lib.hid (ownsRow_low hO3 X2.out.le)
                        have O10 : Hid (w3.ownsRow (w.heap.size + 1) 22 1 (.slice (some ⟨g3', 0, none⟩) (nl + 1) c3') (nl + 1) ((insI p nl is).map U)) := by rw [HIM.out]; exact ownsRow_low O9.out HLOW.out
                        have E8 := Lib.hid (hE.out.trans F3)
                        clear O9 hO3
                        go_wp2
                        exact ⟨⟨nl + 1, g3', c3', insI p nl is, by omega, by simp, by simp, O10, HIS.out, E8⟩, by simp [intOf]; omega⟩

                  · rw [hls, if_pos ⟨h0, rfl⟩] at hAa
                    rw [hls] at HLJ
                    have HAT := Lib.hid (hat.out.trans hAa)
                    clear hls hAa hat
                    go_wp2_with fail
                    go_quiet ((go_at_call 179; exact Calls.quiet_of (HLJ.out _ (by with_reducible repeat (first | exact Ext.refl _ | refine Ext.drewN ?_ _ | refine Ext.drew ?_)))))
                    go_wp2
                    exact ⟨⟨a - 1, by omega, by simp; omega, HAT, hE3.out.drewN _⟩, by simp [intOf]; omega⟩
                · have h0d : decide ((0 : Int) < (a : Int)) = false := decide_eq_false (by omega)
                  have h0d2 : decide (0 < a) = false := decide_eq_false h0
                  rw [if_neg (fun h => h0 h.1)] at hAa
                  have HAT := Lib.hid (hat.out.trans hAa)
                  clear hAa hat h0
                  go_wp2_with fail
                  go_quiet (fail)
                  have hE4 := Lib.hid (hE3.out.drewN nq)
                  generalize wr.drewN nq = wr at *
                  obtain ⟨p, hp9⟩ : ∃ p, a = p := ⟨_, rfl⟩
                  rw [hp9] at ha HAT ⊢
                  clear hp9
                  have OX := Lib.hid (ownsRow_ext hO.out hE4.out)
                  have X2 := Lib.hid (show Ext W3 wr from hE4.out)
                  obtain ⟨vs, hvs⟩ : ∃ vs, is.map U = vs := ⟨_, rfl⟩
                  have HVS2 := Lib.hid hvs
                  rw [hvs] at OX
                  have HVL : Hid (vs.length = nl) := by rw [Hid, ← hvs, List.length_map]; exact HIL.out
                  have HVS : Hid (∀ u, u ∈ vs → u.oneCell' = true) := fun u hu => by
                    rw [← hvs] at hu
                    obtain ⟨j, hj, rfl⟩ := List.mem_map.1 hu
                    have hjr : j < FL.length := by have := List.mem_range.1 (hIS.out.2.mem_iff.1 hj); omega
                    obtain ⟨_, ⟨c, hUj⟩, _⟩ := HUC.out j hjr
                    rw [hUj]; rfl
                  have HIS : Hid ((insI p nl is).map (row FL) = srtR FL (nl + 1) ∧ (insI p nl is).Perm (List.range (nl + 1))) := ⟨by
                    rw [insI_map hIS.out.1 (by rw [srtR_len FL nl (by omega)]; exact HAT.out), srtR]; rfl, insI_perm hIS.out.2⟩
                  have hgc3 := (hE4.out.cells g nl hgl2).trans hgc
                  have lg3 := Nat.lt_of_lt_of_le hgl2 hE4.out.le
                  have HLOW := Lib.hid (Nat.le_trans HLOW.out (Nat.le_trans hE.out.le (Nat.le_refl _)))
                  have hE := Lib.hid (hE.out.trans hE4.out)
                  have hnlF : nl + 1 ≤ FL.length := by omega
                  have hnl24 : nl ≤ 24 := by omega
                  clear hvs hgc hO HOUT HLS HA hIS HAT
                  go_wp2_with fail
                  obtain ⟨hnc, hcm⟩ := ownsRow_cap OX.out
                  have HCX2 := Lib.hid hcm
                  have hpc : p ≤ co := by omega
                  have hpnI : (p : Int) ≤ (nl : Int) := by omega
                  have hpcI : (p : Int) ≤ (co : Int) := by omega
                  have hnlI : (nl : Int) < (FL.length : Int) := by omega
                  clear hcm
                  obtain ⟨i1, hi1, hy0, hy1, hy2⟩ := info_parts Tryz.infoInts
                  have HTK : Hid (∀ u, u ∈ vs.take p → u.oneCell' = true) := fun u hu => HVS.out u (List.mem_of_mem_take hu)
                  have HDR : Hid (∀ u, u ∈ vs.drop p → u.oneCell' = true) := fun u hu => HVS.out u (List.mem_of_mem_drop hu)
                  have HIM : Hid ((insI p nl is).map U = vs.take p ++ [.slice (some ⟨bk, 0, none⟩) R ck] ++ vs.drop p) := by
                    rw [Hid, insI, List.map_append, List.map_cons, List.map_take, List.map_drop, HVS2.out, HUK.out, List.append_assoc]; rfl
                  rcases (show co = p ∨ ¬ co = p by omega) with hcp | hcp
                  · skip
                    have hcp1 : (co = p) = True := eq_true hcp
                    have HCP := Lib.hid hcp
                    clear hcp
                    refine wp_region_held_drew (S := (fun w' => Ext wr w' ∧ (∀ b o, b < wr.heap.size → w'.cell? ⟨b, o, none⟩ = wr.cell? ⟨b, o, none⟩))) (by kernel_rfl) (ext2 (Ext.refl wr).drew) (fun hHeld => ?_)
                    refine wpAnyH_take (i := 1) (v := ?v34) rfl (by kernel_rfl) (by kernel_rfl) (by kernel_rfl) (fun _ _ _ h => h) (Or.inl ⟨by rfl, ?hy34⟩) hHeld ?rest34
                    case hy34 => (intro wz hSw; (try dsimp only at hSw); go_simp; (try with_reducible rfl))
                    (try simp only [Act.put, List.getElem_toArray, List.getElem_cons_succ, List.getElem_cons_zero]); (try simp only [List.setIfInBounds_toArray]); (try simp only [List.set_cons_succ]); (try simp only [List.set_cons_zero])
                    refine wpAnyH_take (i := 2) (v := ?v35) rfl (by kernel_rfl) (by kernel_rfl) (by kernel_rfl) (fun _ _ _ h => h) (Or.inl ⟨by rfl, ?hy35⟩) hHeld ?rest35
                    case hy35 => (intro wz hSw; (try dsimp only at hSw); go_simp; (try with_reducible rfl))
                    (try simp only [Act.put, List.getElem_toArray, List.getElem_cons_succ, List.getElem_cons_zero]); (try simp only [List.setIfInBounds_toArray]); (try simp only [List.set_cons_succ]); (try simp only [List.set_cons_zero])
                    refine wpAnyH_take (i := 3) (v := ?v36) rfl (by kernel_rfl) (by kernel_rfl) (by kernel_rfl) (fun _ _ _ h => h) (Or.inl ⟨by rfl, ?hy36⟩) hHeld ?rest36
                    case hy36 => (intro wz hSw; (try dsimp only at hSw); go_simp; (try with_reducible rfl))
                    (try simp only [Act.put, List.getElem_toArray, List.getElem_cons_succ, List.getElem_cons_zero]); (try simp only [List.setIfInBounds_toArray]); (try simp only [List.set_cons_succ]); (try simp only [List.set_cons_zero])
                    refine wpAnyH_take (i := 5) (v := ?v37) rfl (by kernel_rfl) (by kernel_rfl) (by kernel_rfl) (fun _ _ _ h => h) (Or.inl ⟨by rfl, ?hy37⟩) hHeld ?rest37
                    case hy37 => (intro wz hSw; (try dsimp only at hSw); go_simp; (try with_reducible rfl))
                    (try simp only [Act.put, List.getElem_toArray, List.getElem_cons_succ, List.getElem_cons_zero]); (try simp only [List.setIfInBounds_toArray]); (try simp only [List.set_cons_succ]); (try simp only [List.set_cons_zero])
                    refine wpAnyH_take (i := 6) (v := ?v38) rfl (by kernel_rfl) (by kernel_rfl) (by kernel_rfl) (fun _ _ _ h => h) (Or.inl ⟨by rfl, ?hy38⟩) hHeld ?rest38
                    case hy38 => (intro wz hSw; (try dsimp only at hSw); go_simp; (try with_reducible rfl))
                    (try simp only [Act.put, List.getElem_toArray, List.getElem_cons_succ, List.getElem_cons_zero]); (try simp only [List.setIfInBounds_toArray]); (try simp only [List.set_cons_succ]); (try simp only [List.set_cons_zero])
                    refine wpAnyH_take (i := 7) (v := ?v39) rfl (by kernel_rfl) (by kernel_rfl) (by kernel_rfl) (fun _ _ _ h => h) (Or.inl ⟨by rfl, ?hy39⟩) hHeld ?rest39
                    case hy39 => (intro wz hSw; (try dsimp only at hSw); go_simp; (try with_reducible rfl))
                    (try simp only [Act.put, List.getElem_toArray, List.getElem_cons_succ, List.getElem_cons_zero]); (try simp only [List.setIfInBounds_toArray]); (try simp only [List.set_cons_succ]); (try simp only [List.set_cons_zero])
                    refine wpAnyH_take (i := 8) (v := ?v40) rfl (by kernel_rfl) (by kernel_rfl) (by kernel_rfl) (fun _ _ _ h => h) (Or.inl ⟨by rfl, ?hy40⟩) hHeld ?rest40
                    case hy40 => (intro wz hSw; (try dsimp only at hSw); go_simp; (try with_reducible rfl))
                    (try simp only [Act.put, List.getElem_toArray, List.getElem_cons_succ, List.getElem_cons_zero]); (try simp only [List.setIfInBounds_toArray]); (try simp only [List.set_cons_succ]); (try simp only [List.set_cons_zero])
                    refine wpAnyH_take (i := 11) (v := ?v41) rfl (by kernel_rfl) (by kernel_rfl) (by kernel_rfl) (fun _ _ _ h => h) (Or.inl ⟨by rfl, ?hy41⟩) hHeld ?rest41
                    case hy41 => (intro wz hSw; (try dsimp only at hSw); go_simp; (try with_reducible rfl))
                    (try simp only [Act.put, List.getElem_toArray, List.getElem_cons_succ, List.getElem_cons_zero]); (try simp only [List.setIfInBounds_toArray]); (try simp only [List.set_cons_succ]); (try simp only [List.set_cons_zero])
                    refine wpAnyH_take (i := 12) (v := ?v42) rfl (by kernel_rfl) (by kernel_rfl) (by kernel_rfl) (fun _ _ _ h => h) (Or.inl ⟨by rfl, ?hy42⟩) hHeld ?rest42
                    case hy42 => (intro wz hSw; (try dsimp only at hSw); go_simp; (try with_reducible rfl))
                    (try simp only [Act.put, List.getElem_toArray, List.getElem_cons_succ, List.getElem_cons_zero]); (try simp only [List.setIfInBounds_toArray]); (try simp only [List.set_cons_succ]); (try simp only [List.set_cons_zero])
                    refine wpAnyH_take (i := 13) (v := ?v43) rfl (by kernel_rfl) (by kernel_rfl) (by kernel_rfl) (fun _ _ _ h => h) (Or.inl ⟨by rfl, ?hy43⟩) hHeld ?rest43
                    case hy43 => (intro wz hSw; (try dsimp only at hSw); go_simp; (try with_reducible rfl))
                    (try simp only [Act.put, List.getElem_toArray, List.getElem_cons_succ, List.getElem_cons_zero]); (try simp only [List.setIfInBounds_toArray]); (try simp only [List.set_cons_succ]); (try simp only [List.set_cons_zero])
                    refine wpAnyH_ready (rs := [0, 9]) (by kernel_rfl) (by simp) ?_
                    refine AllReadyH.cons rfl (fun K' hK => ?_) (AllReadyH.cons rfl (fun K' hK => ?_) AllReadyH.nil)
                    · skip
                      go_simp
                      refine hK.out _ _ (ext2 ((Ext.refl wr).drew.alloc _)) (fun hHeld => ?_)
                      clear hK
                      obtain ⟨V1, hV1⟩ : ∃ V1, (wr.alloc (.cells #[] 22)).drew = V1 := ⟨_, rfl⟩
                      rw [hV1] at hHeld ⊢
                      have E1 := And.left hHeld
                      have hs1 : Hid (V1.heap.size = wr.heap.size + 1) := by rw [Hid, ← hV1]; simp
                      have L1 : V1.ownsRow wr.heap.size 22 1 (.slice (some ⟨wr.heap.size, 0, none⟩) 0 0) 0 [] := by rw [← hV1]; exact ownsRow_ext (World.ownsRow_lit wr #[] 0 (Nat.le_refl _) (by unfold maxLen; omega) (by simp)) ((Ext.refl _).drew)
                      clear hV1
                      refine wpAnyH_ready (rs := [4, 9]) (by kernel_rfl) (by simp) ?_
                      refine AllReadyH.cons rfl (fun K' hK => ?_) (AllReadyH.cons rfl (fun K' hK => ?_) AllReadyH.nil)
                      · skip
                        refine wp_append_own _ (.tmp 81) (.tmp 84) 35 rfl wr.heap.size 22 i1 (.slice none 0 0) 1 24 Tryz.underlying35 hi1 hy0 hy1 hy2 rfl (by decide) (.slice (some ⟨wr.heap.size, 0, none⟩) 0 0) 0 [] rfl L1 ⟨ga, 0, none⟩ p co (vs.take p) rfl (by rw [List.length_take, HVL.out]; omega) (own_take (ownsRow_ext OX.out E1) HVL.out) HTK.out (by unfold maxLen; omega) (by omega) E1.le ?_
                        intro v1 w1 hO1 hg1 _
                        have O1 : w1.ownsRow wr.heap.size 22 1 v1 p (vs.take p) := by rw [Nat.zero_add, List.nil_append] at hO1; exact hO1
                        have F1 : Ext wr w1 := E1.grown hg1 (fun z hz => (World.ownsRow.lt L1 z hz).1)
                        obtain ⟨a1, c1, rfl⟩ := ownsRow_shape O1
                        refine hK.out _ _ (ext2 F1) (fun hHeld => ?_)
                        clear hK hO1 hg1
                        refine wpAnyH_ready (rs := [9]) (by kernel_rfl) (by simp) ?_
                        refine AllReadyH.cons rfl (fun K' hK => ?_) AllReadyH.nil
                        go_simp
                        refine hK.out _ _ (ext2 (F1.alloc _)) (fun hHeld => ?_)
                        clear hK
                        have q2 := (Ext.refl w1).alloc (.cells #[.slice (some ⟨bk, 0, none⟩) R ck] 22)
                        have S2 : Cells (w1.alloc (.cells #[.slice (some ⟨bk, 0, none⟩) R ck] 22)) w1.heap.size [.slice (some ⟨bk, 0, none⟩) R ck] := cells_new w1 #[.slice (some ⟨bk, 0, none⟩) R ck] 22
                        have O2 := ownsRow_ext O1 q2
                        obtain ⟨V2, hV2⟩ : ∃ V2, w1.alloc (.cells #[.slice (some ⟨bk, 0, none⟩) R ck] 22) = V2 := ⟨_, rfl⟩
                        rw [hV2] at S2 O2 hHeld ⊢
                        clear hV2 q2
                        have E2 := And.left hHeld
                        refine wpAnyH_ready (rs := [10]) (by kernel_rfl) (by simp) ?_
                        refine AllReadyH.cons rfl (fun K' hK => ?_) AllReadyH.nil
                        refine wp_append_own _ (.tmp 85) (.tmp 90) 35 rfl wr.heap.size 22 i1 (.slice none 0 0) 1 24 Tryz.underlying35 hi1 hy0 hy1 hy2 rfl (by decide) (.slice a1 p c1) p (vs.take p) rfl O2 ⟨w1.heap.size, 0, none⟩ 1 1 [.slice (some ⟨bk, 0, none⟩) R ck] rfl rfl (one_news (S2.2 0 _ rfl)) (fun u hu => by rw [List.mem_singleton] at hu; subst hu; rfl) (by unfold maxLen; omega) (by omega) E2.le ?_
                        intro v2 w2 hO2 hg2 _
                        have F2 : Ext wr w2 := E2.grown hg2 (fun z hz => (World.ownsRow.lt O2 z hz).1)
                        obtain ⟨a2, c2, rfl⟩ := ownsRow_shape hO2
                        refine hK.out _ _ (ext2 F2) (fun hHeld => ?_)
                        clear hK hg2
                        refine wpAnyH_ready (rs := [14]) (by kernel_rfl) (by simp) ?_
                        refine AllReadyH.cons rfl (fun K' hK => ?_) AllReadyH.nil
                        refine wp_append_own _ (.tmp 91) (.tmp 94) 35 rfl wr.heap.size 22 i1 (.slice none 0 0) 1 24 Tryz.underlying35 hi1 hy0 hy1 hy2 rfl (by decide) (.slice a2 (p + 1) c2) (p + 1) (vs.take p ++ [.slice (some ⟨bk, 0, none⟩) R ck]) rfl hO2 ⟨ga, 0, none⟩ (nl - p) (co - p) (vs.drop p) rfl (by rw [List.length_drop, HVL.out]; omega) (own_drop (ownsRow_ext OX.out F2) HVL.out _ (.inr (by have := HCP.out; omega))) HDR.out (by unfold maxLen; omega) (by omega) F2.le ?_
                        intro v3 w3 hO3 hg3 _
                        have F3 : Ext wr w3 := F2.grown hg3 (fun z hz => (World.ownsRow.lt hO2 z hz).1)
                        rw [show p + 1 + (nl - p) = nl + 1 by omega] at hO3
                        obtain ⟨a3, c3', rfl⟩ := ownsRow_shape hO3
                        obtain ⟨g3', rfl, _, _, _⟩ := ownsRow_get hO3 (by omega)
                        refine hK.out _ _ (ext2 F3) (fun hHeld => ?_)
                        clear hK hg3
                        refine wpAnyH_take (i := 15) (v := ?v44) rfl (by kernel_rfl) (by kernel_rfl) (by kernel_rfl) (fun _ _ _ h => h) (Or.inl ⟨by rfl, ?hy44⟩) hHeld ?rest44
                        case hy44 => (intro wz hSw; (try dsimp only at hSw); go_simp; (try with_reducible rfl))
                        (try simp only [Act.put, List.getElem_toArray, List.getElem_cons_succ, List.getElem_cons_zero]); (try simp only [List.setIfInBounds_toArray]); (try simp only [List.set_cons_succ]); (try simp only [List.set_cons_zero])
                        refine wpAnyH_done (by kernel_rfl) ?_ _
                        clear hHeld
                        have O9 := Lib.hid (ownsRow_low hO3 X2.out.le)
                        have O10 : Hid (w3.ownsRow (w.heap.size + 1) 22 1 (.slice (some ⟨g3', 0, none⟩) (nl + 1) c3') (nl + 1) ((insI p nl is).map U)) := by rw [HIM.out]; exact ownsRow_low O9.out HLOW.out
                        have E8 := Lib.hid (hE.out.trans F3)
                        clear O9 hO3
                        go_wp2
                        exact ⟨⟨nl + 1, g3', c3', insI p nl is, by omega, by simp, by simp, O10, HIS.out, E8⟩, by simp [intOf]; omega⟩
                      · skip
                        go_simp
                        refine hK.out _ _ (ext2 (E1.alloc _)) (fun hHeld => ?_)
                        clear hK
                        have q2 := (Ext.refl V1).alloc (.cells #[.slice (some ⟨bk, 0, none⟩) R ck] 22)
                        have S2 : Cells (V1.alloc (.cells #[.slice (some ⟨bk, 0, none⟩) R ck] 22)) V1.heap.size [.slice (some ⟨bk, 0, none⟩) R ck] := cells_new V1 #[.slice (some ⟨bk, 0, none⟩) R ck] 22
                        have L2 := ownsRow_ext L1 q2
                        obtain ⟨V2, hV2⟩ : ∃ V2, V1.alloc (.cells #[.slice (some ⟨bk, 0, none⟩) R ck] 22) = V2 := ⟨_, rfl⟩
                        rw [hV2] at L2 S2 hHeld ⊢
                        clear hV2 q2
                        have E2 := And.left hHeld
                        refine wpAnyH_ready (rs := [4]) (by kernel_rfl) (by simp) ?_
                        refine AllReadyH.cons rfl (fun K' hK => ?_) AllReadyH.nil
                        refine wp_append_own _ (.tmp 81) (.tmp 84) 35 rfl wr.heap.size 22 i1 (.slice none 0 0) 1 24 Tryz.underlying35 hi1 hy0 hy1 hy2 rfl (by decide) (.slice (some ⟨wr.heap.size, 0, none⟩) 0 0) 0 [] rfl L2 ⟨ga, 0, none⟩ p co (vs.take p) rfl (by rw [List.length_take, HVL.out]; omega) (own_take (ownsRow_ext OX.out E2) HVL.out) HTK.out (by unfold maxLen; omega) (by omega) E2.le ?_
                        intro v1 w1 hO1 hg1 _
                        have O1 : w1.ownsRow wr.heap.size 22 1 v1 p (vs.take p) := by rw [Nat.zero_add, List.nil_append] at hO1; exact hO1
                        have F1 : Ext wr w1 := E2.grown hg1 (fun z hz => (World.ownsRow.lt L2 z hz).1)
                        have S3 : Cells w1 V1.heap.size [.slice (some ⟨bk, 0, none⟩) R ck] := S2.grown hg1 (fun z hz => by simp [Value.ownBlock] at hz; have := hs1.out; omega)
                        obtain ⟨a1, c1, rfl⟩ := ownsRow_shape O1
                        refine hK.out _ _ (ext2 F1) (fun hHeld => ?_)
                        clear hK hO1 hg1
                        refine wpAnyH_ready (rs := [10]) (by kernel_rfl) (by simp) ?_
                        refine AllReadyH.cons rfl (fun K' hK => ?_) AllReadyH.nil
                        refine wp_append_own _ (.tmp 85) (.tmp 90) 35 rfl wr.heap.size 22 i1 (.slice none 0 0) 1 24 Tryz.underlying35 hi1 hy0 hy1 hy2 rfl (by decide) (.slice a1 p c1) p (vs.take p) rfl O1 ⟨V1.heap.size, 0, none⟩ 1 1 [.slice (some ⟨bk, 0, none⟩) R ck] rfl rfl (one_news (S3.2 0 _ rfl)) (fun u hu => by rw [List.mem_singleton] at hu; subst hu; rfl) (by unfold maxLen; omega) (by omega) F1.le ?_
                        intro v2 w2 hO2 hg2 _
                        have F2 : Ext wr w2 := F1.grown hg2 (fun z hz => (World.ownsRow.lt O1 z hz).1)
                        obtain ⟨a2, c2, rfl⟩ := ownsRow_shape hO2
                        refine hK.out _ _ (ext2 F2) (fun hHeld => ?_)
                        clear hK hg2
                        refine wpAnyH_ready (rs := [14]) (by kernel_rfl) (by simp) ?_
                        refine AllReadyH.cons rfl (fun K' hK => ?_) AllReadyH.nil
                        refine wp_append_own _ (.tmp 91) (.tmp 94) 35 rfl wr.heap.size 22 i1 (.slice none 0 0) 1 24 Tryz.underlying35 hi1 hy0 hy1 hy2 rfl (by decide) (.slice a2 (p + 1) c2) (p + 1) (vs.take p ++ [.slice (some ⟨bk, 0, none⟩) R ck]) rfl hO2 ⟨ga, 0, none⟩ (nl - p) (co - p) (vs.drop p) rfl (by rw [List.length_drop, HVL.out]; omega) (own_drop (ownsRow_ext OX.out F2) HVL.out _ (.inr (by have := HCP.out; omega))) HDR.out (by unfold maxLen; omega) (by omega) F2.le ?_
                        intro v3 w3 hO3 hg3 _
                        have F3 : Ext wr w3 := F2.grown hg3 (fun z hz => (World.ownsRow.lt hO2 z hz).1)
                        rw [show p + 1 + (nl - p) = nl + 1 by omega] at hO3
                        obtain ⟨a3, c3', rfl⟩ := ownsRow_shape hO3
                        obtain ⟨g3', rfl, _, _, _⟩ := ownsRow_get hO3 (by omega)
                        refine hK.out _ _ (ext2 F3) (fun hHeld => ?_)
                        clear hK hg3
                        refine wpAnyH_take (i := 15) (v := ?v45) rfl (by kernel_rfl) (by kernel_rfl) (by kernel_rfl) (fun _ _ _ h => h) (Or.inl ⟨by rfl, ?hy45⟩) hHeld ?rest45
                        case hy45 => (intro wz hSw; (try dsimp only at hSw); go_simp; (try with_reducible rfl))
                        (try simp only [Act.put, List.getElem_toArray, List.getElem_cons_succ, List.getElem_cons_zero]); (try simp only [List.setIfInBounds_toArray]); (try simp only [List.set_cons_succ]); (try simp only [List.set_cons_zero])
                        refine wpAnyH_done (by kernel_rfl) ?_ _
                        clear hHeld
                        have O9 := Lib.hid (ownsRow_low hO3 X2.out.le)
                        have O10 : Hid (w3.ownsRow (w.heap.size + 1) 22 1 (.slice (some ⟨g3', 0, none⟩) (nl + 1) c3') (nl + 1) ((insI p nl is).map U)) := by rw [HIM.out]; exact ownsRow_low O9.out HLOW.out
                        have E8 := Lib.hid (hE.out.trans F3)
                        clear O9 hO3
                        go_wp2
                        exact ⟨⟨nl + 1, g3', c3', insI p nl is, by omega, by simp, by simp, O10, HIS.out, E8⟩, by simp [intOf]; omega⟩
                    · skip
                      go_simp
                      refine hK.out _ _ (ext2 ((Ext.refl wr).drew.alloc _)) (fun hHeld => ?_)
                      clear hK
                      obtain ⟨V1, hV1⟩ : ∃ V1, (wr.alloc (.cells #[.slice (some ⟨bk, 0, none⟩) R ck] 22)).drew = V1 := ⟨_, rfl⟩
                      rw [hV1] at hHeld ⊢
                      have E1 := And.left hHeld
                      have hs1 : Hid (V1.heap.size = wr.heap.size + 1) := by rw [Hid, ← hV1]; simp
                      have S1 : Cells V1 wr.heap.size [.slice (some ⟨bk, 0, none⟩) R ck] := by rw [← hV1]; exact (cells_new wr #[.slice (some ⟨bk, 0, none⟩) R ck] 22).ext ((Ext.refl _).drew)
                      clear hV1
                      refine wpAnyH_ready (rs := [0]) (by kernel_rfl) (by simp) ?_
                      refine AllReadyH.cons rfl (fun K' hK => ?_) AllReadyH.nil
                      go_simp
                      refine hK.out _ _ (ext2 (E1.alloc _)) (fun hHeld => ?_)
                      clear hK
                      have q2 := (Ext.refl V1).alloc (.cells #[] 22)
                      have L2 : (V1.alloc (.cells #[] 22)).ownsRow wr.heap.size 22 1 (.slice (some ⟨V1.heap.size, 0, none⟩) 0 0) 0 [] := World.ownsRow_lit V1 #[] 0 E1.le (by unfold maxLen; omega) (by simp)
                      have S2 := S1.ext q2
                      obtain ⟨V2, hV2⟩ : ∃ V2, V1.alloc (.cells #[] 22) = V2 := ⟨_, rfl⟩
                      rw [hV2] at L2 S2 hHeld ⊢
                      clear hV2 q2
                      have E2 := And.left hHeld
                      refine wpAnyH_ready (rs := [4]) (by kernel_rfl) (by simp) ?_
                      refine AllReadyH.cons rfl (fun K' hK => ?_) AllReadyH.nil
                      refine wp_append_own _ (.tmp 81) (.tmp 84) 35 rfl wr.heap.size 22 i1 (.slice none 0 0) 1 24 Tryz.underlying35 hi1 hy0 hy1 hy2 rfl (by decide) (.slice (some ⟨V1.heap.size, 0, none⟩) 0 0) 0 [] rfl L2 ⟨ga, 0, none⟩ p co (vs.take p) rfl (by rw [List.length_take, HVL.out]; omega) (own_take (ownsRow_ext OX.out E2) HVL.out) HTK.out (by unfold maxLen; omega) (by omega) E2.le ?_
                      intro v1 w1 hO1 hg1 _
                      have O1 : w1.ownsRow wr.heap.size 22 1 v1 p (vs.take p) := by rw [Nat.zero_add, List.nil_append] at hO1; exact hO1
                      have F1 : Ext wr w1 := E2.grown hg1 (fun z hz => (World.ownsRow.lt L2 z hz).1)
                      have S3 : Cells w1 wr.heap.size [.slice (some ⟨bk, 0, none⟩) R ck] := S2.grown hg1 (fun z hz => by simp [Value.ownBlock] at hz; have := hs1.out; omega)
                      obtain ⟨a1, c1, rfl⟩ := ownsRow_shape O1
                      refine hK.out _ _ (ext2 F1) (fun hHeld => ?_)
                      clear hK hO1 hg1
                      refine wpAnyH_ready (rs := [10]) (by kernel_rfl) (by simp) ?_
                      refine AllReadyH.cons rfl (fun K' hK => ?_) AllReadyH.nil
                      refine wp_append_own _ (.tmp 85) (.tmp 90) 35 rfl wr.heap.size 22 i1 (.slice none 0 0) 1 24 Tryz.underlying35 hi1 hy0 hy1 hy2 rfl (by decide) (.slice a1 p c1) p (vs.take p) rfl O1 ⟨wr.heap.size, 0, none⟩ 1 1 [.slice (some ⟨bk, 0, none⟩) R ck] rfl rfl (one_news (S3.2 0 _ rfl)) (fun u hu => by rw [List.mem_singleton] at hu; subst hu; rfl) (by unfold maxLen; omega) (by omega) F1.le ?_
                      intro v2 w2 hO2 hg2 _
                      have F2 : Ext wr w2 := F1.grown hg2 (fun z hz => (World.ownsRow.lt O1 z hz).1)
                      obtain ⟨a2, c2, rfl⟩ := ownsRow_shape hO2
                      refine hK.out _ _ (ext2 F2) (fun hHeld => ?_)
                      clear hK hg2
                      refine wpAnyH_ready (rs := [14]) (by kernel_rfl) (by simp) ?_
                      refine AllReadyH.cons rfl (fun K' hK => ?_) AllReadyH.nil
                      refine wp_append_own _ (.tmp 91) (.tmp 94) 35 rfl wr.heap.size 22 i1 (.slice none 0 0) 1 24 Tryz.underlying35 hi1 hy0 hy1 hy2 rfl (by decide) (.slice a2 (p + 1) c2) (p + 1) (vs.take p ++ [.slice (some ⟨bk, 0, none⟩) R ck]) rfl hO2 ⟨ga, 0, none⟩ (nl - p) (co - p) (vs.drop p) rfl (by rw [List.length_drop, HVL.out]; omega) (own_drop (ownsRow_ext OX.out F2) HVL.out _ (.inr (by have := HCP.out; omega))) HDR.out (by unfold maxLen; omega) (by omega) F2.le ?_
                      intro v3 w3 hO3 hg3 _
                      have F3 : Ext wr w3 := F2.grown hg3 (fun z hz => (World.ownsRow.lt hO2 z hz).1)
                      rw [show p + 1 + (nl - p) = nl + 1 by omega] at hO3
                      obtain ⟨a3, c3', rfl⟩ := ownsRow_shape hO3
                      obtain ⟨g3', rfl, _, _, _⟩ := ownsRow_get hO3 (by omega)
                      refine hK.out _ _ (ext2 F3) (fun hHeld => ?_)
                      clear hK hg3
                      refine wpAnyH_take (i := 15) (v := ?v46) rfl (by kernel_rfl) (by kernel_rfl) (by kernel_rfl) (fun _ _ _ h => h) (Or.inl ⟨by rfl, ?hy46⟩) hHeld ?rest46
                      case hy46 => (intro wz hSw; (try dsimp only at hSw); go_simp; (try with_reducible rfl))
                      (try simp only [Act.put, List.getElem_toArray, List.getElem_cons_succ, List.getElem_cons_zero]); (try simp only [List.setIfInBounds_toArray]); (try simp only [List.set_cons_succ]); (try simp only [List.set_cons_zero])
                      refine wpAnyH_done (by kernel_rfl) ?_ _
                      clear hHeld
                      have O9 := Lib.hid (ownsRow_low hO3 X2.out.le)
                      have O10 : Hid (w3.ownsRow (w.heap.size + 1) 22 1 (.slice (some ⟨g3', 0, none⟩) (nl + 1) c3') (nl + 1) ((insI p nl is).map U)) := by rw [HIM.out]; exact ownsRow_low O9.out HLOW.out
                      have E8 := Lib.hid (hE.out.trans F3)
                      clear O9 hO3
                      go_wp2
                      exact ⟨⟨nl + 1, g3', c3', insI p nl is, by omega, by simp, by simp, O10, HIS.out, E8⟩, by simp [intOf]; omega⟩
                  · skip
                    have hcp1 : ¬ p = co := fun h => hcp h.symm
                    refine wp_region_held_drew (S := (fun w' => Ext wr w' ∧ (∀ b o, b < wr.heap.size → w'.cell? ⟨b, o, none⟩ = wr.cell? ⟨b, o, none⟩))) (by kernel_rfl) (ext2 (Ext.refl wr).drew) (fun hHeld => ?_)
                    refine wpAnyH_take (i := 1) (v := ?v47) rfl (by kernel_rfl) (by kernel_rfl) (by kernel_rfl) (fun _ _ _ h => h) (Or.inl ⟨by rfl, ?hy47⟩) hHeld ?rest47
                    case hy47 => (intro wz hSw; (try dsimp only at hSw); go_simp; (try with_reducible rfl))
                    (try simp only [Act.put, List.getElem_toArray, List.getElem_cons_succ, List.getElem_cons_zero]); (try simp only [List.setIfInBounds_toArray]); (try simp only [List.set_cons_succ]); (try simp only [List.set_cons_zero])
                    refine wpAnyH_take (i := 2) (v := ?v48) rfl (by kernel_rfl) (by kernel_rfl) (by kernel_rfl) (fun _ _ _ h => h) (Or.inl ⟨by rfl, ?hy48⟩) hHeld ?rest48
                    case hy48 => (intro wz hSw; (try dsimp only at hSw); go_simp; (try with_reducible rfl))
                    (try simp only [Act.put, List.getElem_toArray, List.getElem_cons_succ, List.getElem_cons_zero]); (try simp only [List.setIfInBounds_toArray]); (try simp only [List.set_cons_succ]); (try simp only [List.set_cons_zero])
                    refine wpAnyH_take (i := 3) (v := ?v49) rfl (by kernel_rfl) (by kernel_rfl) (by kernel_rfl) (fun _ _ _ h => h) (Or.inl ⟨by rfl, ?hy49⟩) hHeld ?rest49
                    case hy49 => (intro wz hSw; (try dsimp only at hSw); go_simp; (try with_reducible rfl))
                    (try simp only [Act.put, List.getElem_toArray, List.getElem_cons_succ, List.getElem_cons_zero]); (try simp only [List.setIfInBounds_toArray]); (try simp only [List.set_cons_succ]); (try simp only [List.set_cons_zero])
                    refine wpAnyH_take (i := 5) (v := ?v50) rfl (by kernel_rfl) (by kernel_rfl) (by kernel_rfl) (fun _ _ _ h => h) (Or.inl ⟨by rfl, ?hy50⟩) hHeld ?rest50
                    case hy50 => (intro wz hSw; (try dsimp only at hSw); go_simp; (try with_reducible rfl))
                    (try simp only [Act.put, List.getElem_toArray, List.getElem_cons_succ, List.getElem_cons_zero]); (try simp only [List.setIfInBounds_toArray]); (try simp only [List.set_cons_succ]); (try simp only [List.set_cons_zero])
                    refine wpAnyH_take (i := 6) (v := ?v51) rfl (by kernel_rfl) (by kernel_rfl) (by kernel_rfl) (fun _ _ _ h => h) (Or.inl ⟨by rfl, ?hy51⟩) hHeld ?rest51
                    case hy51 => (intro wz hSw; (try dsimp only at hSw); go_simp; (try with_reducible rfl))
                    (try simp only [Act.put, List.getElem_toArray, List.getElem_cons_succ, List.getElem_cons_zero]); (try simp only [List.setIfInBounds_toArray]); (try simp only [List.set_cons_succ]); (try simp only [List.set_cons_zero])
                    refine wpAnyH_take (i := 7) (v := ?v52) rfl (by kernel_rfl) (by kernel_rfl) (by kernel_rfl) (fun _ _ _ h => h) (Or.inl ⟨by rfl, ?hy52⟩) hHeld ?rest52
                    case hy52 => (intro wz hSw; (try dsimp only at hSw); go_simp; (try with_reducible rfl))
                    (try simp only [Act.put, List.getElem_toArray, List.getElem_cons_succ, List.getElem_cons_zero]); (try simp only [List.setIfInBounds_toArray]); (try simp only [List.set_cons_succ]); (try simp only [List.set_cons_zero])
                    refine wpAnyH_take (i := 8) (v := ?v53) rfl (by kernel_rfl) (by kernel_rfl) (by kernel_rfl) (fun _ _ _ h => h) (Or.inl ⟨by rfl, ?hy53⟩) hHeld ?rest53
                    case hy53 => (intro wz hSw; (try dsimp only at hSw); go_simp; (try with_reducible rfl))
                    (try simp only [Act.put, List.getElem_toArray, List.getElem_cons_succ, List.getElem_cons_zero]); (try simp only [List.setIfInBounds_toArray]); (try simp only [List.set_cons_succ]); (try simp only [List.set_cons_zero])
                    refine wpAnyH_take (i := 11) (v := ?v54) rfl (by kernel_rfl) (by kernel_rfl) (by kernel_rfl) (fun _ _ _ h => h) (Or.inl ⟨by rfl, ?hy54⟩) hHeld ?rest54
                    case hy54 => (intro wz hSw; (try dsimp only at hSw); go_simp; (try with_reducible rfl))
                    (try simp only [Act.put, List.getElem_toArray, List.getElem_cons_succ, List.getElem_cons_zero]); (try simp only [List.setIfInBounds_toArray]); (try simp only [List.set_cons_succ]); (try simp only [List.set_cons_zero])
                    refine wpAnyH_take (i := 12) (v := ?v55) rfl (by kernel_rfl) (by kernel_rfl) (by kernel_rfl) (fun _ _ _ h => h) (Or.inl ⟨by rfl, ?hy55⟩) hHeld ?rest55
                    case hy55 => (intro wz hSw; (try dsimp only at hSw); go_simp; (try with_reducible rfl))
                    (try simp only [Act.put, List.getElem_toArray, List.getElem_cons_succ, List.getElem_cons_zero]); (try simp only [List.setIfInBounds_toArray]); (try simp only [List.set_cons_succ]); (try simp only [List.set_cons_zero])
                    refine wpAnyH_take (i := 13) (v := ?v56) rfl (by kernel_rfl) (by kernel_rfl) (by kernel_rfl) (fun _ _ _ h => h) (Or.inl ⟨by rfl, ?hy56⟩) hHeld ?rest56
                    case hy56 => (intro wz hSw; (try dsimp only at hSw); go_simp; (try with_reducible rfl))
                    (try simp only [Act.put, List.getElem_toArray, List.getElem_cons_succ, List.getElem_cons_zero]); (try simp only [List.setIfInBounds_toArray]); (try simp only [List.set_cons_succ]); (try simp only [List.set_cons_zero])
                    refine wpAnyH_ready (rs := [0, 9]) (by kernel_rfl) (by simp) ?_
                    refine AllReadyH.cons rfl (fun K' hK => ?_) (AllReadyH.cons rfl (fun K' hK => ?_) AllReadyH.nil)
                    · skip
                      go_simp
                      refine hK.out _ _ (ext2 ((Ext.refl wr).drew.alloc _)) (fun hHeld => ?_)
                      clear hK
                      obtain ⟨V1, hV1⟩ : ∃ V1, (wr.alloc (.cells #[] 22)).drew = V1 := ⟨_, rfl⟩
                      rw [hV1] at hHeld ⊢
                      have E1 := And.left hHeld
                      have hs1 : Hid (V1.heap.size = wr.heap.size + 1) := by rw [Hid, ← hV1]; simp
                      have L1 : V1.ownsRow wr.heap.size 22 1 (.slice (some ⟨wr.heap.size, 0, none⟩) 0 0) 0 [] := by rw [← hV1]; exact ownsRow_ext (World.ownsRow_lit wr #[] 0 (Nat.le_refl _) (by unfold maxLen; omega) (by simp)) ((Ext.refl _).drew)
                      clear hV1
                      refine wpAnyH_ready (rs := [4, 9]) (by kernel_rfl) (by simp) ?_
                      refine AllReadyH.cons rfl (fun K' hK => ?_) (AllReadyH.cons rfl (fun K' hK => ?_) AllReadyH.nil)
                      · skip
                        refine wp_append_own _ (.tmp 81) (.tmp 84) 35 rfl wr.heap.size 22 i1 (.slice none 0 0) 1 24 Tryz.underlying35 hi1 hy0 hy1 hy2 rfl (by decide) (.slice (some ⟨wr.heap.size, 0, none⟩) 0 0) 0 [] rfl L1 ⟨ga, 0, none⟩ p co (vs.take p) rfl (by rw [List.length_take, HVL.out]; omega) (own_take (ownsRow_ext OX.out E1) HVL.out) HTK.out (by unfold maxLen; omega) (by omega) E1.le ?_
                        intro v1 w1 hO1 hg1 _
                        have O1 : w1.ownsRow wr.heap.size 22 1 v1 p (vs.take p) := by rw [Nat.zero_add, List.nil_append] at hO1; exact hO1
                        have F1 : Ext wr w1 := E1.grown hg1 (fun z hz => (World.ownsRow.lt L1 z hz).1)
                        obtain ⟨a1, c1, rfl⟩ := ownsRow_shape O1
                        refine hK.out _ _ (ext2 F1) (fun hHeld => ?_)
                        clear hK hO1 hg1
                        refine wpAnyH_ready (rs := [9]) (by kernel_rfl) (by simp) ?_
                        refine AllReadyH.cons rfl (fun K' hK => ?_) AllReadyH.nil
                        go_simp
                        refine hK.out _ _ (ext2 (F1.alloc _)) (fun hHeld => ?_)
                        clear hK
                        have q2 := (Ext.refl w1).alloc (.cells #[.slice (some ⟨bk, 0, none⟩) R ck] 22)
                        have S2 : Cells (w1.alloc (.cells #[.slice (some ⟨bk, 0, none⟩) R ck] 22)) w1.heap.size [.slice (some ⟨bk, 0, none⟩) R ck] := cells_new w1 #[.slice (some ⟨bk, 0, none⟩) R ck] 22
                        have O2 := ownsRow_ext O1 q2
                        obtain ⟨V2, hV2⟩ : ∃ V2, w1.alloc (.cells #[.slice (some ⟨bk, 0, none⟩) R ck] 22) = V2 := ⟨_, rfl⟩
                        rw [hV2] at S2 O2 hHeld ⊢
                        clear hV2 q2
                        have E2 := And.left hHeld
                        refine wpAnyH_ready (rs := [10]) (by kernel_rfl) (by simp) ?_
                        refine AllReadyH.cons rfl (fun K' hK => ?_) AllReadyH.nil
                        refine wp_append_own _ (.tmp 85) (.tmp 90) 35 rfl wr.heap.size 22 i1 (.slice none 0 0) 1 24 Tryz.underlying35 hi1 hy0 hy1 hy2 rfl (by decide) (.slice a1 p c1) p (vs.take p) rfl O2 ⟨w1.heap.size, 0, none⟩ 1 1 [.slice (some ⟨bk, 0, none⟩) R ck] rfl rfl (one_news (S2.2 0 _ rfl)) (fun u hu => by rw [List.mem_singleton] at hu; subst hu; rfl) (by unfold maxLen; omega) (by omega) E2.le ?_
                        intro v2 w2 hO2 hg2 _
                        have F2 : Ext wr w2 := E2.grown hg2 (fun z hz => (World.ownsRow.lt O2 z hz).1)
                        obtain ⟨a2, c2, rfl⟩ := ownsRow_shape hO2
                        refine hK.out _ _ (ext2 F2) (fun hHeld => ?_)
                        clear hK hg2
                        refine wpAnyH_ready (rs := [14]) (by kernel_rfl) (by simp) ?_
                        refine AllReadyH.cons rfl (fun K' hK => ?_) AllReadyH.nil
                        refine wp_append_own _ (.tmp 91) (.tmp 94) 35 rfl wr.heap.size 22 i1 (.slice none 0 0) 1 24 Tryz.underlying35 hi1 hy0 hy1 hy2 rfl (by decide) (.slice a2 (p + 1) c2) (p + 1) (vs.take p ++ [.slice (some ⟨bk, 0, none⟩) R ck]) rfl hO2 ⟨ga, p, none⟩ (nl - p) (co - p) (vs.drop p) rfl (by rw [List.length_drop, HVL.out]; omega) (own_drop (ownsRow_ext OX.out F2) HVL.out _ (.inl rfl)) HDR.out (by unfold maxLen; omega) (by omega) F2.le ?_
                        intro v3 w3 hO3 hg3 _
                        have F3 : Ext wr w3 := F2.grown hg3 (fun z hz => (World.ownsRow.lt hO2 z hz).1)
                        rw [show p + 1 + (nl - p) = nl + 1 by omega] at hO3
                        obtain ⟨a3, c3', rfl⟩ := ownsRow_shape hO3
                        obtain ⟨g3', rfl, _, _, _⟩ := ownsRow_get hO3 (by omega)
                        refine hK.out _ _ (ext2 F3) (fun hHeld => ?_)
                        clear hK hg3
                        refine wpAnyH_take (i := 15) (v := ?v57) rfl (by kernel_rfl) (by kernel_rfl) (by kernel_rfl) (fun _ _ _ h => h) (Or.inl ⟨by rfl, ?hy57⟩) hHeld ?rest57
                        case hy57 => (intro wz hSw; (try dsimp only at hSw); go_simp; (try with_reducible rfl))
                        (try simp only [Act.put, List.getElem_toArray, List.getElem_cons_succ, List.getElem_cons_zero]); (try simp only [List.setIfInBounds_toArray]); (try simp only [List.set_cons_succ]); (try simp only [List.set_cons_zero])
                        refine wpAnyH_done (by kernel_rfl) ?_ _
                        clear hHeld
                        have O9 := Lib.hid (ownsRow_low hO3 X2.out.le)
                        have O10 : Hid (w3.ownsRow (w.heap.size + 1) 22 1 (.slice (some ⟨g3', 0, none⟩) (nl + 1) c3') (nl + 1) ((insI p nl is).map U)) := by rw [HIM.out]; exact ownsRow_low O9.out HLOW.out
                        have E8 := Lib.hid (hE.out.trans F3)
                        clear O9 hO3
                        go_wp2
                        exact ⟨⟨nl + 1, g3', c3', insI p nl is, by omega, by simp, by simp, O10, HIS.out, E8⟩, by simp [intOf]; omega⟩
                      · skip
                        go_simp
                        refine hK.out _ _ (ext2 (E1.alloc _)) (fun hHeld => ?_)
                        clear hK
                        have q2 := (Ext.refl V1).alloc (.cells #[.slice (some ⟨bk, 0, none⟩) R ck] 22)
                        have S2 : Cells (V1.alloc (.cells #[.slice (some ⟨bk, 0, none⟩) R ck] 22)) V1.heap.size [.slice (some ⟨bk, 0, none⟩) R ck] := cells_new V1 #[.slice (some ⟨bk, 0, none⟩) R ck] 22
                        have L2 := ownsRow_ext L1 q2
                        obtain ⟨V2, hV2⟩ : ∃ V2, V1.alloc (.cells #[.slice (some ⟨bk, 0, none⟩) R ck] 22) = V2 := ⟨_, rfl⟩
                        rw [hV2] at L2 S2 hHeld ⊢
                        clear hV2 q2
                        have E2 := And.left hHeld
                        refine wpAnyH_ready (rs := [4]) (by kernel_rfl) (by simp) ?_
                        refine AllReadyH.cons rfl (fun K' hK => ?_) AllReadyH.nil
                        refine wp_append_own _ (.tmp 81) (.tmp 84) 35 rfl wr.heap.size 22 i1 (.slice none 0 0) 1 24 Tryz.underlying35 hi1 hy0 hy1 hy2 rfl (by decide) (.slice (some ⟨wr.heap.size, 0, none⟩) 0 0) 0 [] rfl L2 ⟨ga, 0, none⟩ p co (vs.take p) rfl (by rw [List.length_take, HVL.out]; omega) (own_take (ownsRow_ext OX.out E2) HVL.out) HTK.out (by unfold maxLen; omega) (by omega) E2.le ?_
                        intro v1 w1 hO1 hg1 _
                        have O1 : w1.ownsRow wr.heap.size 22 1 v1 p (vs.take p) := by rw [Nat.zero_add, List.nil_append] at hO1; exact hO1
                        have F1 : Ext wr w1 := E2.grown hg1 (fun z hz => (World.ownsRow.lt L2 z hz).1)
                        have S3 : Cells w1 V1.heap.size [.slice (some ⟨bk, 0, none⟩) R ck] := S2.grown hg1 (fun z hz => by simp [Value.ownBlock] at hz; have := hs1.out; omega)
                        obtain ⟨a1, c1, rfl⟩ := ownsRow_shape O1
                        refine hK.out _ _ (ext2 F1) (fun hHeld => ?_)
                        clear hK hO1 hg1
                        refine wpAnyH_ready (rs := [10]) (by kernel_rfl) (by simp) ?_
                        refine AllReadyH.cons rfl (fun K' hK => ?_) AllReadyH.nil
                        refine wp_append_own _ (.tmp 85) (.tmp 90) 35 rfl wr.heap.size 22 i1 (.slice none 0 0) 1 24 Tryz.underlying35 hi1 hy0 hy1 hy2 rfl (by decide) (.slice a1 p c1) p (vs.take p) rfl O1 ⟨V1.heap.size, 0, none⟩ 1 1 [.slice (some ⟨bk, 0, none⟩) R ck] rfl rfl (one_news (S3.2 0 _ rfl)) (fun u hu => by rw [List.mem_singleton] at hu; subst hu; rfl) (by unfold maxLen; omega) (by omega) F1.le ?_
                        intro v2 w2 hO2 hg2 _
                        have F2 : Ext wr w2 := F1.grown hg2 (fun z hz => (World.ownsRow.lt O1 z hz).1)
                        obtain ⟨a2, c2, rfl⟩ := ownsRow_shape hO2
                        refine hK.out _ _ (ext2 F2) (fun hHeld => ?_)
                        clear hK hg2
                        refine wpAnyH_ready (rs := [14]) (by kernel_rfl) (by simp) ?_
                        refine AllReadyH.cons rfl (fun K' hK => ?_) AllReadyH.nil
                        refine wp_append_own _ (.tmp 91) (.tmp 94) 35 rfl wr.heap.size 22 i1 (.slice none 0 0) 1 24 Tryz.underlying35 hi1 hy0 hy1 hy2 rfl (by decide) (.slice a2 (p + 1) c2) (p + 1) (vs.take p ++ [.slice (some ⟨bk, 0, none⟩) R ck]) rfl hO2 ⟨ga, p, none⟩ (nl - p) (co - p) (vs.drop p) rfl (by rw [List.length_drop, HVL.out]; omega) (own_drop (ownsRow_ext OX.out F2) HVL.out _ (.inl rfl)) HDR.out (by unfold maxLen; omega) (by omega) F2.le ?_
                        intro v3 w3 hO3 hg3 _
                        have F3 : Ext wr w3 := F2.grown hg3 (fun z hz => (World.ownsRow.lt hO2 z hz).1)
                        rw [show p + 1 + (nl - p) = nl + 1 by omega] at hO3
                        obtain ⟨a3, c3', rfl⟩ := ownsRow_shape hO3
                        obtain ⟨g3', rfl, _, _, _⟩ := ownsRow_get hO3 (by omega)
                        refine hK.out _ _ (ext2 F3) (fun hHeld => ?_)
                        clear hK hg3
                        refine wpAnyH_take (i := 15) (v := ?v58) rfl (by kernel_rfl) (by kernel_rfl) (by kernel_rfl) (fun _ _ _ h => h) (Or.inl ⟨by rfl, ?hy58⟩) hHeld ?rest58
                        case hy58 => (intro wz hSw; (try dsimp only at hSw); go_simp; (try with_reducible rfl))
                        (try simp only [Act.put, List.getElem_toArray, List.getElem_cons_succ, List.getElem_cons_zero]); (try simp only [List.setIfInBounds_toArray]); (try simp only [List.set_cons_succ]); (try simp only [List.set_cons_zero])
                        refine wpAnyH_done (by kernel_rfl) ?_ _
                        clear hHeld
                        have O9 := Lib.hid (ownsRow_low hO3 X2.out.le)
                        have O10 : Hid (w3.ownsRow (w.heap.size + 1) 22 1 (.slice (some ⟨g3', 0, none⟩) (nl + 1) c3') (nl + 1) ((insI p nl is).map U)) := by rw [HIM.out]; exact ownsRow_low O9.out HLOW.out
                        have E8 := Lib.hid (hE.out.trans F3)
                        clear O9 hO3
                        go_wp2
                        exact ⟨⟨nl + 1, g3', c3', insI p nl is, by omega, by simp, by simp, O10, HIS.out, E8⟩, by simp [intOf]; omega⟩
                    · skip
                      go_simp
                      refine hK.out _ _ (ext2 ((Ext.refl wr).drew.alloc _)) (fun hHeld => ?_)
                      clear hK
                      obtain ⟨V1, hV1⟩ : ∃ V1, (wr.alloc (.cells #[.slice (some ⟨bk, 0, none⟩) R ck] 22)).drew = V1 := ⟨_, rfl⟩
                      rw [hV1] at hHeld ⊢
                      have E1 := And.left hHeld
                      have hs1 : Hid (V1.heap.size = wr.heap.size + 1) := by rw [Hid, ← hV1]; simp
                      have S1 : Cells V1 wr.heap.size [.slice (some ⟨bk, 0, none⟩) R ck] := by rw [← hV1]; exact (cells_new wr #[.slice (some ⟨bk, 0, none⟩) R ck] 22).ext ((Ext.refl _).drew)
                      clear hV1
                      refine wpAnyH_ready (rs := [0]) (by kernel_rfl) (by simp) ?_
                      refine AllReadyH.cons rfl (fun K' hK => ?_) AllReadyH.nil
                      go_simp
                      refine hK.out _ _ (ext2 (E1.alloc _)) (fun hHeld => ?_)
                      clear hK
                      have q2 := (Ext.refl V1).alloc (.cells #[] 22)
                      have L2 : (V1.alloc (.cells #[] 22)).ownsRow wr.heap.size 22 1 (.slice (some ⟨V1.heap.size, 0, none⟩) 0 0) 0 [] := World.ownsRow_lit V1 #[] 0 E1.le (by unfold maxLen; omega) (by simp)
                      have S2 := S1.ext q2
                      obtain ⟨V2, hV2⟩ : ∃ V2, V1.alloc (.cells #[] 22) = V2 := ⟨_, rfl⟩
                      rw [hV2] at L2 S2 hHeld ⊢
                      clear hV2 q2
                      have E2 := And.left hHeld
                      refine wpAnyH_ready (rs := [4]) (by kernel_rfl) (by simp) ?_
                      refine AllReadyH.cons rfl (fun K' hK => ?_) AllReadyH.nil
                      refine wp_append_own _ (.tmp 81) (.tmp 84) 35 rfl wr.heap.size 22 i1 (.slice none 0 0) 1 24 Tryz.underlying35 hi1 hy0 hy1 hy2 rfl (by decide) (.slice (some ⟨V1.heap.size, 0, none⟩) 0 0) 0 [] rfl L2 ⟨ga, 0, none⟩ p co (vs.take p) rfl (by rw [List.length_take, HVL.out]; omega) (own_take (ownsRow_ext OX.out E2) HVL.out) HTK.out (by unfold maxLen; omega) (by omega) E2.le ?_
                      intro v1 w1 hO1 hg1 _
                      have O1 : w1.ownsRow wr.heap.size 22 1 v1 p (vs.take p) := by rw [Nat.zero_add, List.nil_append] at hO1; exact hO1
                      have F1 : Ext wr w1 := E2.grown hg1 (fun z hz => (World.ownsRow.lt L2 z hz).1)
                      have S3 : Cells w1 wr.heap.size [.slice (some ⟨bk, 0, none⟩) R ck] := S2.grown hg1 (fun z hz => by simp [Value.ownBlock] at hz; have := hs1.out; omega)
                      obtain ⟨a1, c1, rfl⟩ := ownsRow_shape O1
                      refine hK.out _ _ (ext2 F1) (fun hHeld => ?_)
                      clear hK hO1 hg1
                      refine wpAnyH_ready (rs := [10]) (by kernel_rfl) (by simp) ?_
                      refine AllReadyH.cons rfl (fun K' hK => ?_) AllReadyH.nil
                      refine wp_append_own _ (.tmp 85) (.tmp 90) 35 rfl wr.heap.size 22 i1 (.slice none 0 0) 1 24 Tryz.underlying35 hi1 hy0 hy1 hy2 rfl (by decide) (.slice a1 p c1) p (vs.take p) rfl O1 ⟨wr.heap.size, 0, none⟩ 1 1 [.slice (some ⟨bk, 0, none⟩) R ck] rfl rfl (one_news (S3.2 0 _ rfl)) (fun u hu => by rw [List.mem_singleton] at hu; subst hu; rfl) (by unfold maxLen; omega) (by omega) F1.le ?_
                      intro v2 w2 hO2 hg2 _
                      have F2 : Ext wr w2 := F1.grown hg2 (fun z hz => (World.ownsRow.lt O1 z hz).1)
                      obtain ⟨a2, c2, rfl⟩ := ownsRow_shape hO2
                      refine hK.out _ _ (ext2 F2) (fun hHeld => ?_)
                      clear hK hg2
                      refine wpAnyH_ready (rs := [14]) (by kernel_rfl) (by simp) ?_
                      refine AllReadyH.cons rfl (fun K' hK => ?_) AllReadyH.nil
                      refine wp_append_own _ (.tmp 91) (.tmp 94) 35 rfl wr.heap.size 22 i1 (.slice none 0 0) 1 24 Tryz.underlying35 hi1 hy0 hy1 hy2 rfl (by decide) (.slice a2 (p + 1) c2) (p + 1) (vs.take p ++ [.slice (some ⟨bk, 0, none⟩) R ck]) rfl hO2 ⟨ga, p, none⟩ (nl - p) (co - p) (vs.drop p) rfl (by rw [List.length_drop, HVL.out]; omega) (own_drop (ownsRow_ext OX.out F2) HVL.out _ (.inl rfl)) HDR.out (by unfold maxLen; omega) (by omega) F2.le ?_
                      intro v3 w3 hO3 hg3 _
                      have F3 : Ext wr w3 := F2.grown hg3 (fun z hz => (World.ownsRow.lt hO2 z hz).1)
                      rw [show p + 1 + (nl - p) = nl + 1 by omega] at hO3
                      obtain ⟨a3, c3', rfl⟩ := ownsRow_shape hO3
                      obtain ⟨g3', rfl, _, _, _⟩ := ownsRow_get hO3 (by omega)
                      refine hK.out _ _ (ext2 F3) (fun hHeld => ?_)
                      clear hK hg3
                      refine wpAnyH_take (i := 15) (v := ?v59) rfl (by kernel_rfl) (by kernel_rfl) (by kernel_rfl) (fun _ _ _ h => h) (Or.inl ⟨by rfl, ?hy59⟩) hHeld ?rest59
                      case hy59 => (intro wz hSw; (try dsimp only at hSw); go_simp; (try with_reducible rfl))
                      (try simp only [Act.put, List.getElem_toArray, List.getElem_cons_succ, List.getElem_cons_zero]); (try simp only [List.setIfInBounds_toArray]); (try simp only [List.set_cons_succ]); (try simp only [List.set_cons_zero])
                      refine wpAnyH_done (by kernel_rfl) ?_ _
                      clear hHeld
                      have O9 := Lib.hid (ownsRow_low hO3 X2.out.le)
                      have O10 : Hid (w3.ownsRow (w.heap.size + 1) 22 1 (.slice (some ⟨g3', 0, none⟩) (nl + 1) c3') (nl + 1) ((insI p nl is).map U)) := by rw [HIM.out]; exact ownsRow_low O9.out HLOW.out
                      have E8 := Lib.hid (hE.out.trans F3)
                      clear O9 hO3
                      go_wp2
                      exact ⟨⟨nl + 1, g3', c3', insI p nl is, by omega, by simp, by simp, O10, HIS.out, E8⟩, by simp [intOf]; omega⟩

            · obtain rfl : nl = FL.length := by omega
              have HP9 : Hid (RowsP wr w.heap.size (.slice (some ⟨ga, 0, none⟩) FL.length co) PR) := by
                rw [HPD.out]
                have hil : is.length = FL.length := by rw [hIS.out.2.length_eq]; simp
                have hlt9 : ∀ i, i < FL.length → is.getD i 0 < FL.length := fun i hi => by
                  rw [List.getD_eq_getElem?_getD, List.getElem?_eq_getElem (by omega), Option.getD_some]
                  exact List.mem_range.1 (hIS.out.2.mem_iff.1 (List.getElem_mem _))
                have hlen9 : (srtR FL FL.length).length = FL.length := srtR_len FL _ (Nat.le_refl _)
                have hrow9 : ∀ i, i < FL.length → row (srtR FL FL.length) i = row FL (is.getD i 0) := fun i hi => by
                  rw [← hIS.out.1, row_lt (by simp [hil, hi]), List.getElem_map, List.getD_eq_getElem?_getD, List.getElem?_eq_getElem (by omega), Option.getD_some]
                refine ⟨is.map U, fun i => BK (is.getD i 0), ?_, by simp [hil, hlen9], fun i hi => ?_, fun i j hi hj hne e => ?_⟩
                · rw [hlen9]; exact ownsRow_low hO.out (by omega)
                · rw [hlen9] at hi
                  obtain ⟨_, ⟨c, hUj⟩, hOj⟩ := HUC.out _ (hlt9 i hi)
                  refine ⟨c, ?_, ?_⟩
                  · rw [hrow9 i hi, ← hUj, List.getElem?_map, List.getElem?_eq_getElem (by omega), Option.map_some, List.getD_eq_getElem?_getD, List.getElem?_eq_getElem (by omega), Option.getD_some]
                  · rw [hrow9 i hi]
                    exact (hOj.ext hE.out).mono (by omega) hE.out.le
                · rw [hlen9] at hi hj
                  have hnd : is.Nodup := hIS.out.2.symm.nodup List.nodup_range
                  have hne2 : is.getD i 0 ≠ is.getD j 0 := fun e => by
                    rw [List.getD_eq_getElem?_getD, List.getD_eq_getElem?_getD, List.getElem?_eq_getElem (by omega), List.getElem?_eq_getElem (by omega), Option.getD_some, Option.getD_some] at e
                    exact hne ((List.getElem_inj hnd).1 e)
                  have e' : BK (is.getD i 0) = BK (is.getD j 0) := e
                  rcases Nat.lt_or_gt_of_ne hne2 with h5 | h5
                  · have := HBK.out _ _ h5 (hlt9 j hj); omega
                  · have := HBK.out _ _ h5 (hlt9 i hi); omega
              have E9 := Lib.hid (HW.out.trans hE.out)
              clear hO
              go_wp2
              go_ret
              exact ⟨_, rfl, HP9.out, E9.out⟩
end Go.Proofs.YtlnpaplbcocmkaaGreat
