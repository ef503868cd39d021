/-
  The rows that are connected with a row: the program's list.
-/
import Derived.Test.YtlnpaplbcocmkaaGreatWth
namespace Go.Proofs.YtlnpaplbcocmkaaGreat
open Go.ChangeShapes Go.WideShapes Go.ChangeAt Go.RowKit
set_option linter.unusedVariables false
set_option linter.unusedSimpArgs false

theorem rI_firstAt (l : List Nat) (c : Nat) : ∃ q, FirstAt (rI l) c l.length q ∧ (q < l.length ↔ c ∈ l) := by
  by_cases h : c ∈ l
  · obtain ⟨q, h1, h2, h3⟩ := first_mem h
    refine ⟨q, ⟨by omega, fun _ => by rw [gi_rI, ni, h2], fun i hi e => h3 i hi ?_⟩, ⟨fun _ => h, fun _ => h1⟩⟩
    rw [gi_rI, ni] at e; omega
  · refine ⟨l.length, ⟨Nat.le_refl _, fun h => by omega, fun i hi e => ?_⟩, ⟨fun h => by omega, fun h2 => absurd h2 h⟩⟩
    rw [gi_rI, ni] at e
    exact not_first h i hi (by omega)
theorem connK_stable {b : Nat → Nat → Bool} {R row k : Nat} (h : (connK b R row k).length ≤ k) : ∀ d, connK b R row (k + d) = connK b R row k
  | 0 => rfl
  | d + 1 => by
    have e := connK_stable h d
    rw [← Nat.add_assoc, connK, e, if_neg (by omega)]
theorem connJ_pre (b : Nat → Nat → Bool) (r : Nat) (l : List Nat) : ∀ j, ∃ t, connJ b r l j = l ++ t
  | 0 => ⟨[], by simp [connJ]⟩
  | j + 1 => by
    obtain ⟨t, ht⟩ := connJ_pre b r l j
    rw [connJ]
    split
    · exact ⟨t ++ [j], by rw [ht, List.append_assoc]⟩
    · exact ⟨t, ht⟩
theorem ni_pre {l t : List Nat} {k : Nat} (h : k < l.length) : ni (l ++ t) k = ni l k := by
  simp [ni, List.getD_eq_getElem?_getD, List.getElem?_append_left h]
theorem ni_mem {l : List Nat} {k : Nat} (h : k < l.length) : ni l k ∈ l := by
  have e : ni l k = l[k] := by simp [ni, h]
  rw [e]; exact List.getElem_mem _

set_option maxRecDepth 100000 in
set_option maxHeartbeats 6400000 in
theorem connectedWith_impl (B R da od n cD : Nat) (v2 v3 : Value) (xs : List Int) (row : Nat) (w : World) (hB : Cells w B [.int .i64 (R : Nat), .slice (some ⟨da, od, none⟩) n cD, v2, v3]) (hr : Reads w (some ⟨da, od, none⟩) n xs) (hn : n = R * R) (hR : R ≤ 4) (h0 : row < R) :
    Calls Tryz.prog 99 #[.pointer (some ⟨B, 0, none⟩), .int .i64 row] w fun e w' => ∃ a c, e = .returned (.slice a (conn (bx xs R) R row).length c) ∧ Own w' w.heap.size w'.heap.size a (conn (bx xs R) R row).length (rI (conn (bx xs R) R row)) ∧ SlcOk a (conn (bx xs R) R row).length c ∧ Ext w w' := by
  have HB := Lib.hid hB
  have HR := Lib.hid hr
  have HN := Lib.hid hn
  have HCN := Lib.hid (conn_bx xs R hR)
  have HST := Lib.hid (fun k => connK_stable (b := bx xs R) (R := R) (row := row) (k := k))
  have HKS : Hid (∀ k, k < (connK (bx xs R) R row k).length → connK (bx xs R) R row (k + 1) = connJ (bx xs R) (ni (connK (bx xs R) R row k) k) (connK (bx xs R) R row k) R) := fun k h => by rw [connK, if_pos h]
  have HJS : Hid (∀ r l j, connJ (bx xs R) r l (j + 1) = if bx xs R r j && !(connJ (bx xs R) r l j).contains j then connJ (bx xs R) r l j ++ [j] else connJ (bx xs R) r l j) := fun r l j => by rw [connJ]
  have hR0 : 0 < R := by omega
  have lB := hB.1
  have q0 := hB.2 0 _ rfl
  clear hB hr hn
  have G0 : Hid (Grows (w.alloc (.cells #[.int .i64 row] 3)) w.heap.size (.slice (some ⟨w.heap.size, 0, none⟩) 1 1) (connK (bx xs R) R row 0).length (rI (connK (bx xs R) R row 0))) := World.ownsRow_lit w #[.int .i64 row] 1 (Nat.le_refl _) (by unfold maxLen; omega) (by simp)
  have HCQ : Hid (∀ W, Ext w W → W.cell? ⟨B, 0, none⟩ = some (.int .i64 (R : Nat))) := fun W h => (HB.out.ext h).2 0 _ rfl
  have HLB : Hid (∀ W, Ext w W → B < W.heap.size) := fun W h => Nat.lt_of_lt_of_le lB h.le
  clear lB q0
  go_enter Tryz.func99, Tryz.ntmps99
  go_wp2_with fail
  go_loopw [6, 5, 7, 8] (fun z v _ _ wr => ∃ (k cv : Nat) (va : Option Addr), k ≤ R ∧ z = .int .i64 k ∧ v = .slice va (connK (bx xs R) R row k).length cv ∧ Hid (Grows wr w.heap.size (.slice va (connK (bx xs R) R row k).length cv) (connK (bx xs R) R row k).length (rI (connK (bx xs R) R row k))) ∧ Hid (Ext w wr)) (fun z _ _ _ _ => R - (intOf z).toNat)
  case atStart => exact ⟨0, 1, some ⟨w.heap.size, 0, none⟩, by omega, rfl, rfl, G0, (Ext.refl w).alloc _⟩
  case round =>
    clear G0
    obtain ⟨k, cv, va, hk, rfl, rfl, hG, hE⟩ := hrel
    obtain ⟨hx1, hx2, hx3⟩ := HCN.out.kk row h0 k hk
    by_cases hlt : k < (connK (bx xs R) R row k).length
    · have HKK := Lib.hid (HKS.out k hlt)
      have hkR : k < R := by omega
      have HRL : Hid (ni (connK (bx xs R) R row k) k < R) := hx1 _ (ni_mem hlt)
      have HNK : Hid (∀ j, ∃ t, connJ (bx xs R) (ni (connK (bx xs R) R row k) k) (connK (bx xs R) R row k) j = connK (bx xs R) R row k ++ t) := fun j => connJ_pre _ _ _ j
      have HJJ := Lib.hid (fun j h => HCN.out.jj row h0 k hk j h)
      obtain ⟨L, hL⟩ : ∃ L, connK (bx xs R) R row k = L := ⟨_, rfl⟩
      rw [hL] at HKK HRL HNK HJJ hG hlt ⊢
      have hrm : ni L k ∈ L := ni_mem hlt
      have HPRE : Hid (∀ t, ni (L ++ t) k = ni L k ∧ ni L k ∈ L ++ t) := fun t => ⟨ni_pre hlt, List.mem_append.2 (Or.inl hrm)⟩
      obtain ⟨r, hr⟩ : ∃ r, ni L k = r := ⟨_, rfl⟩
      rw [hr] at HKK HRL HNK HJJ HPRE
      have hrR := HRL.out
      have c0 := HCQ.out _ hE.out
      have lB := HLB.out _ hE.out
      have hlt2 : (k : Int) < (L.length : Int) := by omega
      clear hr hrm hx1 hx2 hx3 hL HRL
      have G1 : Hid (Grows wr w.heap.size (.slice va L.length cv) (connJ (bx xs R) r L 0).length (rI (connJ (bx xs R) r L 0))) := hG
      obtain ⟨N, hN⟩ : ∃ N, L.length = N := ⟨_, rfl⟩
      have HNL := Lib.hid hN
      rw [hN] at hlt2 hlt G1 ⊢
      clear hG hN
      go_wp2_with fail
      clear c0 lB
      go_loopw [22, 7, 8, 5] (fun z _ _ v wr => ∃ (j cv : Nat) (va : Option Addr), j ≤ R ∧ z = .int .i64 j ∧ v = .slice va (connJ (bx xs R) r L j).length cv ∧ Hid (Grows wr w.heap.size (.slice va (connJ (bx xs R) r L j).length cv) (connJ (bx xs R) r L j).length (rI (connJ (bx xs R) r L j))) ∧ Hid (Ext w wr)) (fun z _ _ _ _ => R - (intOf z).toNat)
      case atStart => exact ⟨0, cv, va, by omega, rfl, by rw [connJ, HNL.out], by rw [connJ, HNL.out]; rw [connJ, HNL.out] at G1; exact G1, hE⟩
      case round =>
        clear G1 hE
        obtain ⟨j, cv, va, hj, rfl, rfl, hG, hE⟩ := hrel
        by_cases hjR : j < R
        · obtain ⟨t, ht⟩ := HNK.out j
          obtain ⟨hz1, hz2⟩ := HJJ.out j (by omega)
          obtain ⟨hz3, hz4⟩ := HJJ.out (j + 1) (by omega)
          have HS := Lib.hid (HJS.out r L j)
          have hkl : k < (connJ (bx xs R) r L j).length := by rw [ht, List.length_append, HNL.out]; omega
          have HGK : Hid (gi (rI (connJ (bx xs R) r L j)) k = (r : Int)) := by rw [Hid, gi_rI, ht, (HPRE.out t).1]
          have HRM : Hid (r ∈ connJ (bx xs R) r L j) := by rw [Hid, ht]; exact (HPRE.out t).2
          obtain ⟨p, hp, hpi⟩ := rI_firstAt (connJ (bx xs R) r L j) j
          have HP := Lib.hid hp
          have HPI := Lib.hid hpi
          obtain ⟨M, hM⟩ : ∃ M, connJ (bx xs R) r L j = M := ⟨_, rfl⟩
          rw [hM] at hG hkl HGK HRM HP HPI HS hz2 ⊢
          clear hM ht hp hpi hz1 hz3
          have HG2 := Lib.hid hz4
          obtain ⟨m, hm⟩ : ∃ m, M.length = m := ⟨_, rfl⟩
          have HML := Lib.hid hm
          rw [hm] at hG hkl HP HPI hz2 ⊢
          clear hm hz4
          obtain ⟨va', cv', hv', hnv, hO⟩ := hG.out.reads2
          injection hv' with e1 e2 e3
          subst e1; subst e3
          have HO := Lib.hid hO
          have hb : ∃ g, va = some ⟨g, 0, none⟩ ∧ g < wr.heap.size ∧ wr.cell? ⟨g, k, none⟩ = some (.int .i64 (r : Nat)) := by
            rcases hO.2 with ⟨_, h⟩ | ⟨g, h1, _, h3, h4⟩
            · omega
            · exact ⟨g, h1, h3, by rw [← HGK.out]; exact h4.cell k (by rw [rI_length, HML.out]; exact hkl)⟩
          obtain ⟨g, rfl, hgl, hgc⟩ := hb
          have hklI : (k : Int) < (m : Int) := by omega
          have hsz := hE.out.le
          clear hO hnv
          go_wp2_with fail
          refine (at_impl B R da od n cD v2 v3 xs r j _ (HB.out.ext hE.out) (HR.out.ext hE.out) HN.out hR hrR hjR).mono ?_
          rintro e w2 ⟨rfl, h2⟩
          have hgl2 : g < w2.heap.size := Nat.lt_of_lt_of_le hgl h2.le
          have hgc2 : w2.cell? ⟨g, k, none⟩ = some (.int .i64 (r : Nat)) := (h2.cells g k hgl).trans hgc
          have E2 := Lib.hid (hE.out.trans h2)
          have G2 := Lib.hid (hG.out.ext h2)
          have O2 := Lib.hid (HO.out.ext h2)
          have hsz2 := E2.out.le
          clear hgl hgc hG hE HO hsz
          -- the flag, and what stands behind it
          have key : ∀ (bb : Bool) (w3 : World), Hid (Ext w w3) → Hid (Grows w3 w.heap.size (.slice (some ⟨g, 0, none⟩) m cv) m (rI M)) → Hid (bb = true ↔ (gi xs (r * R + j) ≠ 0 ∨ gi xs (j * R + r) ≠ 0)) →
              Hid (((bb = true ∧ ¬ j ∈ M) → (bx xs R r j && !M.contains j) = true) ∧ (¬ (bb = true ∧ ¬ j ∈ M) → (bx xs R r j && !M.contains j) = false)) := by
            intro bb w3 _ _ hbb
            constructor
            · rintro ⟨h1, h2⟩
              have hne : r ≠ j := fun e => h2 (e ▸ HRM.out)
              have h3 : M.contains j = false := by
                rcases h : M.contains j with _ | _
                · rfl
                · exact absurd (List.contains_iff_mem.1 h) h2
              rw [h3, bx, decide_eq_true hrR, decide_eq_true hjR]
              simp only [Bool.not_false, Bool.and_true, Bool.and_eq_true, Bool.or_eq_true, bne_iff_ne]
              exact ⟨hne, hbb.out.1 h1⟩
            · intro h1
              by_cases h2 : j ∈ M
              · rw [List.contains_iff_mem.2 h2]; simp
              · have h3 : ¬ bb = true := fun h => h1 ⟨h, h2⟩
                have h4 : ¬ (gi xs (r * R + j) ≠ 0 ∨ gi xs (j * R + r) ≠ 0) := fun h => h3 (hbb.out.2 h)
                have h5 : gi xs (r * R + j) = 0 := Classical.byContradiction fun h => h4 (Or.inl h)
                have h6 : gi xs (j * R + r) = 0 := Classical.byContradiction fun h => h4 (Or.inr h)
                rw [bx, h5, h6]; simp
          by_cases h1 : gi xs (r * R + j) = 0
          · have hz : (gi xs (r * R + j) == 0) = true := by simpa using h1
            go_wp2_with fail
            refine (at_impl B R da od n cD v2 v3 xs j r _ (HB.out.ext E2.out) (HR.out.ext E2.out) HN.out hR hjR hrR).mono ?_
            rintro e w3 ⟨rfl, h3⟩
            have E3 := Lib.hid (E2.out.trans h3)
            have G3 := Lib.hid (G2.out.ext h3)
            have O3 := Lib.hid (O2.out.ext h3)
            have hsz2 := E3.out.le
            clear E2 G2 O2 h3 hgl2 hgc2
            by_cases h2 : gi xs (j * R + r) = 0
            · have hz2 : (gi xs (j * R + r) == 0) = true := by simpa using h2
              have hbb : Hid (false = true ↔ (gi xs (r * R + j) ≠ 0 ∨ gi xs (j * R + r) ≠ 0)) := ⟨(fun h => nomatch h), fun h => h.elim (fun h => absurd h1 h) (fun h => absurd h2 h)⟩

              have HF : Hid (connJ (bx xs R) r L (j + 1) = M) := by rw [Hid, HS.out, (key false _ E3 G3 hbb).out.2 (fun h => by cases h.1)]; rfl
              clear key
              go_wp2
              exact ⟨⟨j + 1, cv, some ⟨g, 0, none⟩, by omega, by simp, by rw [HF.out, HML.out], by rw [HF.out, HML.out]; exact G3, E3⟩, by simp [intOf]; omega⟩
            · have hz2 : (gi xs (j * R + r) == 0) = false := by simpa using h2
              have hbb : Hid (true = true ↔ (gi xs (r * R + j) ≠ 0 ∨ gi xs (j * R + r) ≠ 0)) := ⟨fun _ => Or.inr h2, fun _ => rfl⟩

              by_cases hjm : j ∈ M
              · have hd : Hid (decide (p < m) = true) := decide_eq_true (HPI.out.2 hjm)
                have HF : Hid (connJ (bx xs R) r L (j + 1) = M) := by rw [Hid, HS.out, (key true _ E3 G3 hbb).out.2 (fun h => h.2 hjm)]; rfl
                clear key hjm
                go_wp2_with fail
                refine (contains_fn (some ⟨g, 0, none⟩) m cv (rI M) j p _ O3.out.reads (by omega) HP.out).mono ?_
                rintro e w' ⟨rfl, rfl⟩
                rw [hd.out]
                go_wp2
                exact ⟨⟨j + 1, cv, some ⟨g, 0, none⟩, by omega, by simp, by rw [HF.out, HML.out], by rw [HF.out, HML.out]; exact G3, E3⟩, by simp [intOf]; omega⟩
              · have hd : Hid (decide (p < m) = false) := decide_eq_false (fun h => hjm (HPI.out.1 h))
                have HF : Hid (connJ (bx xs R) r L (j + 1) = M ++ [j]) := by rw [Hid, HS.out, (key true _ E3 G3 hbb).out.1 ⟨rfl, hjm⟩]; rfl
                clear key hjm
                go_wp2_with fail
                refine (contains_fn (some ⟨g, 0, none⟩) m cv (rI M) j p _ O3.out.reads (by omega) HP.out).mono ?_
                rintro e w' ⟨rfl, rfl⟩
                rw [hd.out]
                go_wp2_with (at_builtin; refine wpList_append1 rfl _ _ rfl w.heap.size (.slice (some ⟨g, 0, none⟩) m cv) _ _ (j : Int) 1 rfl rfl G3.out (by omega) hsz2 ?_)
                intro v' w4 hG4 hg4
                have E4 := Lib.hid (G3.out.extAfter hg4 E3.out (Nat.le_refl _))
                obtain ⟨va4, cv4, rfl, hnv4, ho4⟩ := hG4.reads2
                have HF2 : Hid (rI (connJ (bx xs R) r L (j + 1)) = rI M ++ [(j : Int)]) := by rw [Hid, HF.out, rI_app]; rfl
                have HFL : Hid ((connJ (bx xs R) r L (j + 1)).length = m + 1) := by rw [Hid, HF.out, List.length_append, HML.out]; rfl
                have G4 : Hid (Grows w4 w.heap.size (.slice va4 (connJ (bx xs R) r L (j + 1)).length cv4) (connJ (bx xs R) r L (j + 1)).length (rI (connJ (bx xs R) r L (j + 1)))) := by
                  rw [HFL.out, HF2.out]; exact hG4
                clear hG4 hg4 ho4 hnv4 G3 O3
                go_wp2
                exact ⟨⟨j + 1, cv4, va4, by omega, by simp, by rw [HFL.out], G4, E4⟩, by simp [intOf]; omega⟩
          · have hz : (gi xs (r * R + j) == 0) = false := by simpa using h1
            have hbb : Hid (true = true ↔ (gi xs (r * R + j) ≠ 0 ∨ gi xs (j * R + r) ≠ 0)) := ⟨fun _ => Or.inl h1, fun _ => rfl⟩

            by_cases hjm : j ∈ M
            · have hd : Hid (decide (p < m) = true) := decide_eq_true (HPI.out.2 hjm)
              have HF : Hid (connJ (bx xs R) r L (j + 1) = M) := by rw [Hid, HS.out, (key true _ E2 G2 hbb).out.2 (fun h => h.2 hjm)]; rfl
              clear key hjm
              go_wp2_with fail
              refine (contains_fn (some ⟨g, 0, none⟩) m cv (rI M) j p _ O2.out.reads (by omega) HP.out).mono ?_
              rintro e w' ⟨rfl, rfl⟩
              rw [hd.out]
              go_wp2
              exact ⟨⟨j + 1, cv, some ⟨g, 0, none⟩, by omega, by simp, by rw [HF.out, HML.out], by rw [HF.out, HML.out]; exact G2, E2⟩, by simp [intOf]; omega⟩
            · have hd : Hid (decide (p < m) = false) := decide_eq_false (fun h => hjm (HPI.out.1 h))
              have HF : Hid (connJ (bx xs R) r L (j + 1) = M ++ [j]) := by rw [Hid, HS.out, (key true _ E2 G2 hbb).out.1 ⟨rfl, hjm⟩]; rfl
              clear key hjm
              go_wp2_with fail
              refine (contains_fn (some ⟨g, 0, none⟩) m cv (rI M) j p _ O2.out.reads (by omega) HP.out).mono ?_
              rintro e w' ⟨rfl, rfl⟩
              rw [hd.out]
              go_wp2_with (at_builtin; refine wpList_append1 rfl _ _ rfl w.heap.size (.slice (some ⟨g, 0, none⟩) m cv) _ _ (j : Int) 1 rfl rfl G2.out (by omega) hsz2 ?_)
              intro v' w4 hG4 hg4
              have E4 := Lib.hid (G2.out.extAfter hg4 E2.out (Nat.le_refl _))
              obtain ⟨va4, cv4, rfl, hnv4, ho4⟩ := hG4.reads2
              have HF2 : Hid (rI (connJ (bx xs R) r L (j + 1)) = rI M ++ [(j : Int)]) := by rw [Hid, HF.out, rI_app]; rfl
              have HFL : Hid ((connJ (bx xs R) r L (j + 1)).length = m + 1) := by rw [Hid, HF.out, List.length_append, HML.out]; rfl
              have G4 : Hid (Grows w4 w.heap.size (.slice va4 (connJ (bx xs R) r L (j + 1)).length cv4) (connJ (bx xs R) r L (j + 1)).length (rI (connJ (bx xs R) r L (j + 1)))) := by
                rw [HFL.out, HF2.out]; exact hG4
              clear hG4 hg4 ho4 hnv4 G2 O2
              go_wp2
              exact ⟨⟨j + 1, cv4, va4, by omega, by simp, by rw [HFL.out], G4, E4⟩, by simp [intOf]; omega⟩
        · obtain rfl : R = j := by omega
          have HF : Hid (connJ (bx xs R) r L R = connK (bx xs R) R row (k + 1)) := HKK.out.symm
          rw [HF.out] at hG ⊢
          clear HKK
          go_wp2
          exact ⟨⟨k + 1, cv, va, by omega, by simp, rfl, hG, hE⟩, by simp [intOf]; omega⟩
    · have HF : Hid (connK (bx xs R) R row k = conn (bx xs R) R row) := by
        have := HST.out k (by omega) (R - k)
        rw [show k + (R - k) = R by omega] at this
        exact this.symm
      rw [HF.out] at hG hlt ⊢
      obtain ⟨va', cv', hv', hnv, hO⟩ := hG.out.reads2
      injection hv' with e1 e2 e3
      subst e1; subst e3
      have HO := Lib.hid hO
      have HSL : Hid (SlcOk va (conn (bx xs R) R row).length cv) := by
        refine ⟨?_, ?_, fun h => (hnv h).2⟩
        · rcases hG.out.2 with ⟨e1, e2⟩ | ⟨g, cap, cur, e1, hb, hg, hn, hc, hs, ht⟩
          · omega
          · injection e1 with _ _ e4; omega
        · rcases hG.out.2 with ⟨e1, e2⟩ | ⟨g, cap, cur, e1, hb, hg, hn, hc, hs, ht⟩
          · injection e1 with _ _ e4; omega
          · injection e1 with _ _ e4; omega
      obtain ⟨nc, hnc⟩ : ∃ nc, (conn (bx xs R) R row).length = nc := ⟨_, rfl⟩
      have HNC := Lib.hid hnc
      rw [hnc] at HO HSL hG hlt ⊢
      clear hnc
      have hlt2 : ¬ (k : Int) < (nc : Int) := by omega
      clear hnv hO hG hx1 hx2 hx3
      go_wp2
      go_ret
      exact ⟨va, cv, by rw [HNC.out]; rfl, by rw [HNC.out]; exact HO.out, by rw [HNC.out]; exact HSL.out, hE.out⟩
end Go.Proofs.YtlnpaplbcocmkaaGreat
