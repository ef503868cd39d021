/-
  The positive roots that the program finds.
-/
import Derived.Test.YtlnpaplbcocmkaaGreatSrt5
import Derived.Test.YtlnpaplbcocmkaaGreatRfl
import Derived.Test.YtlnpaplbcocmkaaGreatLnz
import Derived.Test.YtlnpaplbcocmkaaGreatRtk
namespace Go.Proofs.YtlnpaplbcocmkaaGreat
open Go.ChangeShapes Go.WideShapes Go.ChangeAt Go.RowKit
set_option linter.unusedVariables false
set_option linter.unusedSimpArgs false

theorem RowsS.congr5 {w : World} {base hi k : Nat} {v : Value} {f g : Nat → List Int} (h : RowsS w base hi v f k) (e : ∀ i, i < k → f i = g i) : RowsS w base hi v g k := by
  obtain ⟨vs, B, h1, h2, h3, h4⟩ := h
  refine ⟨vs, B, h1, h2, fun i hi => ?_, h4⟩
  rw [← e i hi]; exact h3 i hi
theorem row_app5 {a b : List (List Int)} {i : Nat} (h : i < a.length) : row (a ++ b) i = row a i := by simp [row, List.getD_eq_getElem?_getD, List.getElem?_append_left h]
theorem row_end5 {a : List (List Int)} {x : List Int} : row (a ++ [x]) a.length = x := by simp [row, List.getD_eq_getElem?_getD]
theorem RowsL.ext {w w' : World} {base hi : Nat} {v : Value} {L : List (List Int)} (h : RowsL w base hi v L) (hE : Ext w w') : RowsL w' base hi v L := RowsS.ext h hE
theorem RowsL.mono {w : World} {base hi hi' : Nat} {v : Value} {L : List (List Int)} (h : RowsL w base hi v L) (hh : hi ≤ hi') : RowsL w base hi' v L := RowsS.mono h hh
theorem RowsL.blk {w : World} {base hi : Nat} {v : Value} {L : List (List Int)} (h : RowsL w base hi v L) : ∀ z, v.ownBlock = some z → base ≤ z ∧ z < w.heap.size := RowsS.blk h
theorem RowsL.rd {w : World} {base hi : Nat} {v : Value} {L : List (List Int)} (h : RowsL w base hi v L) (h0 : 0 < L.length) : ∃ g cap, v = .slice (some ⟨g, 0, none⟩) L.length cap ∧ RdR w g L ∧ base ≤ g := by
  obtain ⟨us, B, h1, h2, h3, h4⟩ := h
  rcases h1.2 with ⟨e1, e2⟩ | ⟨g, cap, cur, e1, hb, hg, hn, hc, hcs, htk⟩
  · omega
  · refine ⟨g, cap, e1, ⟨(Array.getElem?_eq_some_iff.1 hg).1, fun i hi => ?_⟩, hb⟩
    obtain ⟨c, x0, h6⟩ := h3 i hi
    refine ⟨B i, c, ?_, h6.reads⟩
    · rw [cell_of_row w g i _ _ _ hg, ← Array.getElem?_toList]
      have : (cur.toList.take (L.length * 1))[i]? = us[i]? := by rw [htk]
      rw [List.getElem?_take, if_pos (by omega)] at this
      rw [this, x0]
theorem rowsL_nil (w : World) (base hi : Nat) : RowsL w base hi (.slice none 0 0) [] := ⟨[], fun _ => 0, ⟨rfl, .inl ⟨rfl, rfl⟩⟩, rfl, fun i hi => by simp at hi, fun i j h1 h2 => by simp at h2⟩
theorem wpList_appendRowL {w : World} {ops : Array Oper} {rest : List Oper} {o : Oper} {a : Act} {Q : Exit → Act → World → Prop} (hgd : o.guard = none) (s x : Operand)
    (ho : o.op = .call { callee := .builtin .append, args := #[s, x], argTypes := #[35, 35] })
    (base hi : Nat) (v : Value) (L : List (List Int)) (y : List Int) (b0 c0 c g n0 : Nat) (hg0 : g = w.heap.size) (hn0 : y.length = n0) (hs : a.eval s = v) (hx : a.eval x = .slice (some ⟨g, 0, none⟩) 1 c) (hown : RowsL w base hi v L) (hrow : Own w base w.heap.size (some ⟨b0, 0, none⟩) n0 y) (hh : hi ≤ b0) (hb : L.length + 1 ≤ 1048577) (hbase : base ≤ w.heap.size)
    (h : ∀ v' w', RowsL w' base w.heap.size v' (L ++ [y]) → w.grownBy w' v.ownBlock → (v'.ownBlock = v.ownBlock ∨ v'.ownBlock = some (w.heap.size + 1)) → wpList Tryz.prog ops Q rest (a.put o.dst v') w') : wpList Tryz.prog ops Q (o :: rest) a (w.alloc (.cells #[.slice (some ⟨b0, 0, none⟩) n0 c0] 22)) := by
  refine wpList_appendRowS hgd s x ho base hi v (row (L ++ [y])) L.length b0 c0 c g n0 hg0 (by rw [row_end5]; exact hn0) hs hx (RowsS.congr5 hown (fun i hi => (row_app5 hi).symm)) (by rw [row_end5]; exact hrow) hh hb hbase (fun v' w' h1 h2 h3 => h v' w' ?_ h2 h3)
  have e : (L ++ [y]).length = L.length + 1 := by simp
  rw [RowsL, e]; exact h1
theorem wpList_appendRowM {w : World} {ops : Array Oper} {rest : List Oper} {o : Oper} {a : Act} {Q : Exit → Act → World → Prop} (hgd : o.guard = none) (s x : Operand)
    (ho : o.op = .call { callee := .builtin .append, args := #[s, x], argTypes := #[35, 35] })
    (base hi : Nat) (v : Value) (L M : List (List Int)) (y : List Int) (b0 c0 c g n0 N1 : Nat) (hM : L ++ [y] = M) (hN1 : M.length = N1) (hg0 : g = w.heap.size) (hn0 : y.length = n0) (hs : a.eval s = v) (hx : a.eval x = .slice (some ⟨g, 0, none⟩) 1 c) (hown : RowsL w base hi v L) (hrow : Own w base w.heap.size (some ⟨b0, 0, none⟩) n0 y) (hh : hi ≤ b0) (hb : N1 ≤ 1048577) (hbase : base ≤ w.heap.size)
    (h : ∀ a' c' w', RowsL w' base w'.heap.size (.slice a' N1 c') M → w.grownBy w' v.ownBlock → wpList Tryz.prog ops Q rest (a.put o.dst (.slice a' N1 c')) w') : wpList Tryz.prog ops Q (o :: rest) a (w.alloc (.cells #[.slice (some ⟨b0, 0, none⟩) n0 c0] 22)) := by
  subst hM hN1
  refine wpList_appendRowL hgd s x ho base hi v L y b0 c0 c g n0 hg0 hn0 hs hx hown hrow hh (by simpa using hb) hbase (fun v' w' h1 h2 h3 => ?_)
  obtain ⟨a', c', rfl⟩ := RowsS.shape h1
  exact h a' c' w' (RowsL.mono h1 h2.size) h2
def basL (R i : Nat) : List (List Int) := (List.range i).map (bas R)
theorem basL_succ (R i : Nat) : basL R i ++ [bas R i] = basL R (i + 1) := by simp [basL, List.range_succ]
theorem basL_len (R i : Nat) : (basL R i).length = i := by simp [basL]
theorem bas_len (R i : Nat) : (bas R i).length = R := by simp [bas]
theorem gl_row (l : List (List Int)) (k : Nat) : gl l k = row l k := rfl

set_option maxRecDepth 100000 in
set_option maxHeartbeats 12800000 in
theorem positiveRoots_impl (B R da od n cD : Nat) (v2 v3 : Value) (xs ls : List Int) (w : World) (hB : Cells w B [.int .i64 (R : Nat), .slice (some ⟨da, od, none⟩) n cD, v2, v3]) (hr : Reads w (some ⟨da, od, none⟩) n xs) (hn : n = R * R) (hR0 : 1 ≤ R) (hR : R ≤ 4) (hok : RootsOk xs ls R) (hxb : ∀ e, -3 ≤ gi xs e ∧ gi xs e ≤ 3) :
    Calls Tryz.prog 113 #[.pointer (some ⟨B, 0, none⟩)] w fun e w' => ∃ v, e = .returned v ∧ RowsP w' w.heap.size v (posR xs R) ∧ Ext w w' := by
  have HN := Lib.hid hn
  have HR := Lib.hid hr
  have HB := Lib.hid hB
  have HXB := Lib.hid hxb
  have HF0 := fullR_len hok
  have HPM := Lib.hid hok.perm
  have HFR : Hid (∀ x, x ∈ fullR xs R → x.length = R ∧ ∀ e, -1000000 ≤ gi x e ∧ gi x e ≤ 1000000) := fun x hx => by
    have := hok.rows true 24 x hx
    exact ⟨this.1, fun e => by have := this.2 e; omega⟩
  have HSO : Hid ((posR xs R).Pairwise (fun a b => lessR b a = false)) := by
    rw [Hid, List.pairwise_iff_getElem]
    intro i j hi hj hij
    have := lessR_asymm (hok.sorted i j hij hj)
    rw [gl_lt hi, gl_lt hj] at this
    exact this
  have HSTOP : Hid (∀ k, (growR true xs R k).length ≤ k → growR true xs R k = fullR xs R) := hok.stop true
  have HL24 : Hid (∀ k, (growR true xs R k).length ≤ 24) := hok.len true
  have HROWS : Hid (∀ k x, x ∈ growR true xs R k → x.length = R ∧ ∀ e, 0 ≤ gi x e ∧ gi x e ≤ 6) := hok.rows true
  have HG0 : Hid (growR true xs R 0 = basL R R) := rfl
  have HGS : Hid (∀ k, k < (growR true xs R k).length → growR true xs R (k + 1) = stepR true xs R (growR true xs R k) (row (growR true xs R k) k) R) := fun k h => by rw [growR, if_pos h]; rfl
  obtain ⟨G, hGd⟩ : ∃ G, growR true xs R = G := ⟨_, rfl⟩
  rw [hGd] at HSTOP HL24 HROWS HG0 HGS
  obtain ⟨FL, hFL⟩ : ∃ FL, fullR xs R = FL := ⟨_, rfl⟩
  rw [hFL] at HF0 HPM HFR HSTOP
  obtain ⟨PR, hPR⟩ : ∃ PR, posR xs R = PR := ⟨_, rfl⟩
  rw [hPR] at HPM HSO ⊢
  clear hGd hFL hPR
  have hmk := make_ints R (by omega)
  have H0 : Hid (RowsL w w.heap.size w.heap.size (.slice none 0 0) (basL R 0)) := rowsL_nil w _ _
  have lB := hB.1
  have q0 := hB.2 0 _ rfl
  clear hB hr hn hok hxb
  go_enter Tryz.func113, Tryz.ntmps113
  go_wp2_with fail
  clear lB q0
  go_loopw [14, 4, 5, 3] (fun z _ _ v wr => ∃ (i cv : Nat) (va : Option Addr), i ≤ R ∧ z = .int .i64 i ∧ v = .slice va i cv ∧ Hid (RowsL wr w.heap.size wr.heap.size (.slice va i cv) (basL R i)) ∧ Hid (Ext w wr)) (fun z _ _ _ _ => R - (intOf z).toNat)
  case atStart => exact ⟨0, 0, none, by omega, rfl, rfl, H0, Ext.refl _⟩
  case round =>
    clear H0
    obtain ⟨i, cv, va, hi, rfl, rfl, hG, hE⟩ := hrel
    by_cases hlt : i < R
    · have HB1 := Lib.hid (HB.out.ext hE.out)
      have lB := HB1.out.1
      have q0 := HB1.out.2 0 _ rfl
      have hmk2 := hmk wr
      have hltI : (i : Int) < (R : Int) := by omega
      have h0 : Has (wr.alloc (.cells (ints (List.replicate R 0)) 3)) wr.heap.size (List.replicate R 0) := Has.new wr _
      have c0 := h0.cell i (by simp; exact hlt)
      have f0 := h0.free i
      clear h0
      have h1 : Has (wr.alloc (.cells ((ints (List.replicate R 0)).setIfInBounds i (.int .i64 1)) 3)) wr.heap.size (bas R i) := by rw [ints_set]; exact Has.new wr _
      have hle := hE.out.le
      have hE3 : Hid (Ext w (wr.alloc (.cells ((ints (List.replicate R 0)).setIfInBounds i (.int .i64 1)) 3))) := hE.out.alloc _
      have hG3 : Hid (RowsL (wr.alloc (.cells ((ints (List.replicate R 0)).setIfInBounds i (.int .i64 1)) 3)) w.heap.size wr.heap.size (.slice va i cv) (basL R i)) := hG.out.ext ((Ext.refl wr).alloc _)
      have HROW : Hid (Own (wr.alloc (.cells ((ints (List.replicate R 0)).setIfInBounds i (.int .i64 1)) 3)) w.heap.size (wr.alloc (.cells ((ints (List.replicate R 0)).setIfInBounds i (.int .i64 1)) 3)).heap.size (some ⟨wr.heap.size, 0, none⟩) R (bas R i)) := h1.own hle (by simp) (bas_len R i)
      have hvw : Hid (∀ z, (Value.slice va i cv).ownBlock = some z → w.heap.size ≤ z) := fun z hz => (hG.out.blk z hz).1
      clear h1 hG
      go_wp2_with (at_builtin; refine wpList_appendRowM rfl (.tmp 26) (.tmp 28) rfl w.heap.size wr.heap.size (.slice va i cv) (basL R i) (basL R (i + 1)) (bas R i) wr.heap.size R 1 (wr.heap.size + 1) R (i + 1) (basL_succ R i) (basL_len R (i + 1)) (by simp) (bas_len R i) rfl rfl hG3.out HROW.out (Nat.le_refl _) (by omega) hE3.out.le ?_; intro a5 c5 w5 hG5 hg5; have HG5 := Lib.hid hG5; have HGR := Lib.hid hg5; clear hG5 hg5)
      have E5 := Lib.hid (hE3.out.grown HGR.out hvw.out)
      exact ⟨⟨i + 1, c5, a5, by omega, by simp, rfl, HG5, E5⟩, by simp [intOf]; omega⟩
    · obtain rfl : R = i := by omega
      have hl0 : (G 0).length = R := by rw [HG0.out, basL_len]
      have hG0 : Hid (RowsL wr w.heap.size wr.heap.size (.slice va (G 0).length cv) (G 0)) := by rw [hl0, HG0.out]; exact hG
      clear hG hlt
      go_wp2_with fail
      obtain ⟨wo, rfl⟩ : ∃ wo : World, wo = wr := ⟨_, rfl⟩
      go_loopw [6, 3, 7, 8] (fun z v _ _ wr => ∃ (k cv : Nat) (va : Option Addr), k ≤ (G k).length ∧ z = .int .i64 k ∧ v = .slice va (G k).length cv ∧ Hid (RowsL wr w.heap.size wr.heap.size (.slice va (G k).length cv) (G k)) ∧ Hid (Ext w wr)) (fun z _ _ _ _ => 25 - (intOf z).toNat)
      case atStart => exact ⟨0, cv, va, by omega, rfl, by rw [hl0], hG0, hE⟩
      case round =>
        clear hG0 hE hl0
        obtain ⟨k, cv, va, hk, rfl, rfl, hG, hE⟩ := hrel
        have hlen := HL24.out k
        by_cases hlt : k < (G k).length
        · have hltI : (k : Int) < ((G k).length : Int) := by omega
          have HB1 := Lib.hid (HB.out.ext hE.out)
          have lB := HB1.out.1
          have q0 := HB1.out.2 0 _ rfl
          have HSUCC : Hid (G (k + 1) = stepR true xs R (G k) (row (G k) k) R) := HGS.out k hlt
          have hrx := HROWS.out k _ (row_mem hlt)
          have HRX := Lib.hid hrx
          have hG1 : Hid (RowsL wr w.heap.size wr.heap.size (.slice va (G k).length cv) (stepR true xs R (G k) (row (G k) k) 0)) := hG
          have HPRE : Hid (∀ i, row (stepR true xs R (G k) (row (G k) k) i) k = row (G k) k) := fun i => stepR_pre true xs R _ _ i k hlt
          have HLEN : Hid (∀ i, (G k).length ≤ (stepR true xs R (G k) (row (G k) k) i).length ∧ (stepR true xs R (G k) (row (G k) k) i).length ≤ (G k).length + i) := fun i => stepR_len true xs R _ _ i
          have HSTEP : Hid (∀ i, stepR true xs R (G k) (row (G k) k) (i + 1) = if decide (0 ≤ gi (rfl5 xs R i (row (G k) k)) i) && !(stepR true xs R (G k) (row (G k) k) i).contains (rfl5 xs R i (row (G k) k)) then stepR true xs R (G k) (row (G k) k) i ++ [rfl5 xs R i (row (G k) k)] else stepR true xs R (G k) (row (G k) k) i) := fun i => rfl
          have HRLEN : Hid (∀ i, i ≤ R → ∀ p, p < (stepR true xs R (G k) (row (G k) k) i).length → (row (stepR true xs R (G k) (row (G k) k) i) p).length ≤ 1024) := fun i hi p hp => by
            have h1 := row_mem hp
            have key : ∀ j, ∀ x, x ∈ stepR true xs R (G k) (row (G k) k) j → x.length = R := by
              intro j
              induction j with
              | zero => intro x hx; exact (HROWS.out k x hx).1
              | succ j ih =>
                intro x hx
                rw [stepR] at hx
                split at hx
                · rcases List.mem_append.1 hx with h | h
                  · exact ih x h
                  · rw [List.mem_singleton.1 h, rfl5_len]; exact (HROWS.out k _ (row_mem hlt)).1
                · exact ih x hx
            have := key i _ h1
            omega
          obtain ⟨L0, hL0⟩ : ∃ L0, G k = L0 := ⟨_, rfl⟩
          rw [hL0] at hG hG1 HSUCC HRX HPRE HLEN HSTEP HRLEN hk hlt hlen hltI ⊢
          obtain ⟨r, hrr⟩ : ∃ r, row L0 k = r := ⟨_, rfl⟩
          rw [hrr] at HSUCC HRX HPRE HLEN HSTEP HRLEN hG1
          obtain ⟨S, hS⟩ : ∃ S : Nat → List (List Int), S = fun i => stepR true xs R L0 r i := ⟨_, rfl⟩
          have hS' : ∀ i, stepR true xs R L0 r i = S i := fun i => by rw [hS]
          simp only [hS'] at HSUCC HPRE HLEN HSTEP HRLEN hG1
          have hz0 : (S 0).length = L0.length := by rw [← hS' 0]; rfl
          rw [← hz0] at hG1 ⊢
          have HZ0 := Lib.hid hz0
          have hltI2 : (k : Int) < ((S 0).length : Int) := by omega
          clear hS hS' hL0 hrx hrr hG hz0 hltI
          go_wp2_with fail
          clear lB q0
          obtain ⟨wo, rfl⟩ : ∃ wo : World, wo = wr := ⟨_, rfl⟩
          go_loopw [42, 3, 7, 8] (fun z v _ _ wr => ∃ (i cv : Nat) (va : Option Addr), i ≤ R ∧ z = .int .i64 i ∧ v = .slice va (S i).length cv ∧ Hid (RowsL wr w.heap.size wr.heap.size (.slice va (S i).length cv) (S i)) ∧ Hid (Ext w wr)) (fun z _ _ _ _ => R - (intOf z).toNat)
          case atStart => exact ⟨0, cv, va, by omega, rfl, rfl, hG1, hE⟩
          case round =>
            clear hG1 hE
            obtain ⟨i, cv, va, hi, rfl, rfl, hG, hE⟩ := hrel
            by_cases hlt2 : i < R
            · have hkS : k < (S i).length := Nat.lt_of_lt_of_le hlt (HLEN.out i).1
              have hkI : (k : Int) < ((S i).length : Int) := by omega
              have hl28 : (S i).length ≤ 32 := by have := (HLEN.out i).2; omega
              obtain ⟨g, cap, hsl, hrd, hbg⟩ := hG.out.rd (by omega)
              injection hsl with hva _ hcv
              subst hva
              obtain ⟨br, cr, hcell, hrow⟩ := hrd.2 k hkS
              rw [HPRE.out i] at hcell hrow
              have lg := hrd.1
              have HRD := Lib.hid hrd
              have HROW := Lib.hid hrow
              have HB1 := Lib.hid (HB.out.ext hE.out)
              have hrl := HRX.out.1
              rw [hrl] at hcell
              have HROW2 : Hid (Reads wr (some ⟨br, 0, none⟩) R r) := by rw [← hrl]; exact hrow
              have HX : Hid (∀ e, -1000000 ≤ gi r e ∧ gi r e ≤ 1000000) := fun e => by have := HRX.out.2 e; omega
              have HXL : Hid ((rfl5 xs R i r).length = R) := by rw [Hid, rfl5_len]; exact hrl
              have HST := Lib.hid (HSTEP.out i)
              have HRLN := Lib.hid (HRLEN.out i (by omega))
              have hiI : (i : Int) < (R : Int) := by omega
              clear hrow hrd hcv HROW
              go_wp2_with fail
              refine (reflected_impl B R da od n cD R cr i _ _ xs r _ _ HB1.out (HR.out.ext hE.out) HN.out hR0 hR HROW2.out rfl hlt2 HXB.out HX.out).mono ?_
              rintro e w2 ⟨b2, c2, rfl, hc2, hb2, hb22, hh2, hE2⟩
              have HE2 := Lib.hid (hE.out.trans hE2)
              have HG2 := Lib.hid (hG.out.ext hE2)
              have HRD2 := Lib.hid (HRD.out.ext hE2)
              have hsz2 := hE2.le
              have HH2 := Lib.hid hh2
              have cx := hh2.cell i (by rw [HXL.out]; exact hlt2)
              have lx := hh2.lt
              clear hh2 hE2 hcell lg HRD HROW2 HB1 HX
              by_cases hpos : 0 ≤ gi (rfl5 xs R i r) i
              · have HCL := Lib.hid (fun w1 (h : Ext w2 w1) => containsList_impl g (S i).length cv R c2 (some ⟨b2, 0, none⟩) (S i) (rfl5 xs R i r) w1 (HRD2.out.ext h) rfl (by omega) HRLN.out ((HH2.out.ext h).reads HXL.out) (by omega))
                rcases hct : (S i).contains (rfl5 xs R i r) with _ | _
                · have HS1 : Hid (S (i + 1) = S i ++ [rfl5 xs R i r]) := by rw [Hid, HST.out, decide_eq_true hpos, hct]; rfl
                  rw [hct] at HCL
                  have hS1l : (S (i + 1)).length = (S i).length + 1 := by rw [HS1.out]; simp
                  clear hct HST
                  go_wp2_with fail
                  refine (HCL.out _ (Ext.refl _)).mono ?_
                  rintro e w3 ⟨rfl, hE3⟩
                  have HE3 := Lib.hid (HE2.out.trans hE3)
                  have HG3 := Lib.hid (HG2.out.ext hE3)
                  have HROW : Hid (Own w3 w.heap.size w3.heap.size (some ⟨b2, 0, none⟩) R (rfl5 xs R i r)) := (HH2.out.ext hE3).own (by have := hE.out.le; omega) (Nat.lt_of_lt_of_le hb22 hE3.le) HXL.out
                  have hvw : Hid (∀ z, (Value.slice (some ⟨g, 0, none⟩) (S i).length cv).ownBlock = some z → w.heap.size ≤ z) := fun z hz => (HG2.out.blk z hz).1
                  clear HG2 HE2 HCL cx hE hG HH2 HRD2
                  go_wp2_with (at_builtin; refine wpList_appendRowM rfl (.tmp 63) (.tmp 65) rfl w.heap.size wr.heap.size (.slice (some ⟨g, 0, none⟩) (S i).length cv) (S i) (S (i + 1)) (rfl5 xs R i r) b2 c2 1 w3.heap.size R (S (i + 1)).length HS1.out.symm rfl rfl HXL.out rfl rfl HG3.out HROW.out hb2 (by omega) HE3.out.le ?_; intro a5 c5 w5 hG5 hg5; have HG5 := Lib.hid hG5; have HGR := Lib.hid hg5; clear hG5 hg5)
                  have E5 := Lib.hid (HE3.out.grown HGR.out hvw.out)
                  exact ⟨⟨i + 1, c5, a5, by omega, by simp, by rw [hS1l], HG5, E5⟩, by simp [intOf]; omega⟩
                · have HS1 : Hid (S (i + 1) = S i) := by rw [Hid, HST.out, decide_eq_true hpos, hct]; rfl
                  rw [hct] at HCL
                  clear hct HST
                  go_wp2_with fail
                  refine (HCL.out _ (Ext.refl _)).mono ?_
                  rintro e w3 ⟨rfl, hE3⟩
                  have HG6 : Hid (RowsL w3 w.heap.size w3.heap.size (.slice (some ⟨g, 0, none⟩) (S (i + 1)).length cv) (S (i + 1))) := by rw [HS1.out]; exact (HG2.out.ext hE3).mono (Nat.le_trans hsz2 hE3.le)
                  go_wp2
                  exact ⟨⟨i + 1, cv, _, by omega, by simp, by rw [HS1.out], HG6, HE2.out.trans hE3⟩, by simp [intOf]; omega⟩
              · have HS1 : Hid (S (i + 1) = S i) := by rw [Hid, HST.out, decide_eq_false hpos]; rfl
                have HG6 : Hid (RowsL w2 w.heap.size w2.heap.size (.slice (some ⟨g, 0, none⟩) (S (i + 1)).length cv) (S (i + 1))) := by rw [HS1.out]; exact HG2.out.mono hsz2
                have hneg : gi (rfl5 xs R i r) i < 0 := by omega
                clear HST HG2
                go_wp2
                exact ⟨⟨i + 1, cv, _, by omega, by simp, by rw [HS1.out], HG6, HE2⟩, by simp [intOf]; omega⟩
            · obtain rfl : R = i := by omega
              have hSl := (HLEN.out R).1
              have HG6 : Hid (RowsL wr w.heap.size wr.heap.size (.slice va (G (k + 1)).length cv) (G (k + 1))) := by rw [HSUCC.out]; exact hG
              go_wp2
              exact ⟨⟨k + 1, cv, va, by rw [HSUCC.out]; omega, by simp, by rw [HSUCC.out], HG6, hE⟩, by simp [intOf]; omega⟩
        · have hfull := HSTOP.out k (by omega)
          have hge : ¬ ((k : Int) < (FL.length : Int)) := by rw [← hfull]; omega
          rw [hfull] at hG ⊢
          clear hfull hlt hlen hk
          go_wp2_with fail
          refine (sort_rows R w.heap.size wr.heap.size (.slice va FL.length cv) FL PR _ hG.out (Nat.le_refl _) (by omega) (by omega) (by omega) HFR.out HPM.out HSO.out).mono ?_
          rintro e w3 ⟨rfl, hg3, hP⟩
          have HP := Lib.hid hP
          have E3 := Lib.hid (hE.out.grown hg3 (fun z hz => (hG.out.blk z hz).1))
          clear hP hg3
          go_wp2
          go_ret
          exact ⟨_, rfl, HP.out, E3.out⟩
end Go.Proofs.YtlnpaplbcocmkaaGreat
