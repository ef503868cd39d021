/-
  The places of subsets as a map: placesOfSubsets of the program.
-/
import Derived.Test.YtapaopapgnfdkaaSetO
import Derived.Test.YtapaopapgnfdkaaLng
import Derived.Maps.OwnRows
import Derived.Maps.OwnOps
import Derived.Carry
namespace Go.Proofs.Ytapaopapgnfdkaa
open Go.ChangeShapes Go.WideShapes Go.ChangeAt Go.RowKit
open Go.Maps (Keyed int_keyed keyOf_int_mk)
set_option linter.unusedVariables false
set_option linter.unusedSimpArgs false

/-- What the map holds behind i lists of one size. -/
def plI (L : List (List Int)) (D : DataW Unit) : Nat → DataW Unit
  | 0 => D
  | i + 1 => (plI L D i).put (.int .i64 ((setL (row L i)).1 : Nat)) (.lit (.int .i64 (i : Nat)))
/-- .. and behind all sizes below k. -/
def plK (n : Nat) : Nat → DataW Unit
  | 0 => .map []
  | k + 1 => plI (subsM n k) (plK n k) (subsM n k).length
theorem subsM_len (n : Nat) (hn : n ≤ 7) (k : Int) : (subsM n k).length ≤ 128 := by
  unfold subsM
  split
  · refine Nat.le_trans (subsN_len n n _ 0 (by omega)) ?_
    have : 2 ^ n ≤ 2 ^ 7 := Nat.pow_le_pow_right (by omega) hn
    simpa using this
  · simp
theorem subsM_row (n : Nat) (hn : n ≤ 7) (k : Int) {i : Nat} (hi : i < (subsM n k).length) : (row (subsM n k) i).length ≤ 7 ∧ ∀ q, q < (row (subsM n k) i).length → 0 ≤ gi (row (subsM n k) i) q ∧ gi (row (subsM n k) i) q < 7 := by
  unfold subsM at hi ⊢
  split
  · next h =>
    rw [if_pos h] at hi
    rw [Bool.and_eq_true, inB_iff, inB_iff] at h
    simp only [Int.toNat_natCast] at hi ⊢
    have hm : row (subsN n k.toNat 0) i ∈ subsN n k.toNat 0 := by
      rw [row, List.getD_eq_getElem?_getD, List.getElem?_eq_getElem hi]
      exact List.getElem_mem hi
    obtain ⟨h1, h2⟩ := mem_subsN hm
    refine ⟨by rw [h1]; omega, fun q hq => ?_⟩
    have := h2 (gi (row (subsN n k.toNat 0) i) q) (by
      rw [gi, List.getD_eq_getElem?_getD, List.getElem?_eq_getElem hq]
      exact List.getElem_mem hq)
    omega
  · next h => rw [if_neg h] at hi; simp at hi
theorem RowsR.at1 {w : World} {lo hi k : Nat} {a : Option Addr} {rs : List (List Int)} (h : RowsR w lo hi a k rs) {i : Nat} (hi' : i < k) : ∃ g A c, a = some ⟨g, 0, none⟩ ∧ w.cell? ⟨g, i, none⟩ = some (.slice A (row rs i).length c) ∧ Own w lo hi A (row rs i).length (row rs i) := by
  rcases h.3 with h3 | ⟨g, cur, A, C, e1, e2, e3, e4, e5, e6⟩
  · omega
  · exact ⟨g, A i, C i, e1, by rw [cell_of_row w g i _ _ _ e4]; exact (e5 i hi').1, (e5 i hi').2⟩
theorem set_small (xs : List Int) (hx : ∀ q, q < xs.length → 0 ≤ gi xs q ∧ gi xs q < 7) : (setL xs).1 < 128 := by
  unfold setL
  rcases h : setSt xs xs.length with _ | ⟨s, g⟩
  · simp
  · exact (setSt_bd hx _ (Nat.le_refl _) s g h).1
theorem wf_small (n : Nat) (h : n ≤ 1048576) : (Lit.int .i64 (n : Int)).wf = true := by
  have h1 : IntKind.i64.min = -9223372036854775808 := rfl
  have h2 : IntKind.i64.max = 9223372036854775807 := rfl
  simp only [Lit.wf, h1, h2, Bool.and_eq_true, decide_eq_true_eq]
  omega

set_option maxRecDepth 100000 in
set_option maxHeartbeats 3200000 in
theorem placesOfSubsets_impl (n : Nat) (w : World) (hn : n ≤ 7) :
    Calls Try.prog 198 #[.int .i64 n] w fun e w' => ∃ M c, e = .returned (.map (some M)) ∧ World.ownsMap w' Try.prog 3 (plainElem Try.prog 3) M c (plK n (n + 1)) ∧ w.heap.size ≤ M ∧ Ext w w' := by
  have hv1 : IntKind.i64.wrap ((n : Int) + 1) = ((n + 1 : Nat) : Int) := by rw [Int.natCast_add]; exact IntWalk.i64_in _ ⟨by omega, by omega⟩
  have HLN := Lib.hid (subsM_len n hn)
  have HRW : Hid (∀ (k : Int) i, i < (subsM n k).length → (row (subsM n k) i).length ≤ 7 ∧ ∀ q, q < (row (subsM n k) i).length → 0 ≤ gi (row (subsM n k) i) q ∧ gi (row (subsM n k) i) q < 7) := fun k i hi => subsM_row n hn k hi
  have HK : Hid (Keyed Try.prog 3) := int_keyed Try.underlying3
  have M0 : Hid (World.ownsMap (w.alloc (.map #[] 0)) Try.prog 3 (plainElem Try.prog 3) w.heap.size 0 (plK n 0)) := World.ownsMap_made w Try.prog 3 (plainElem Try.prog 3)
  have E0 := Lib.hid ((Ext.refl w).alloc (.map #[] 0))
  have hmm := @run_makeMap Try.prog
  go_enter Try.func198, Try.ntmps198
  go_wp2_with fail
  clear hmm
  generalize hW1 : (w.alloc (.map #[] 0)) = W1 at *
  clear hW1
  go_loopw [12, 4, 5, 6, 7, 8] (fun z _ _ _ _ _ wr => ∃ k c : Nat, k ≤ n + 1 ∧ c ≤ k * 128 ∧ z = .int .i64 k ∧ Hid (World.ownsMap wr Try.prog 3 (plainElem Try.prog 3) w.heap.size c (plK n k)) ∧ Hid (Ext w wr)) (fun z _ _ _ _ _ _ => n + 1 - (intOf z).toNat)
  case atStart => exact ⟨0, 0, by omega, by omega, rfl, M0, E0⟩
  case round =>
    clear M0 E0
    obtain ⟨k, c, hk, hc, rfl, hM, hE⟩ := hrel
    by_cases hlt : k < n + 1
    · have hlt2 : (k : Int) < ((n + 1 : Nat) : Int) := by omega
      have HSB := Lib.hid (fun w1 => subsetsOf_impl (n := (n : Int)) (k := (k : Int)) (w := w1) (d := subsM n k) rfl)
      have hle := HLN.out k
      have HRK := Lib.hid (HRW.out k)
      have HPK : Hid (plK n (k + 1) = plI (subsM n k) (plK n k) (subsM n k).length) := rfl
      have hMI : Hid (World.ownsMap wr Try.prog 3 (plainElem Try.prog 3) w.heap.size c (plI (subsM n k) (plK n k) 0)) := hM
      clear hM
      generalize subsM n (k : Int) = SB at *
      go_wp2_with fail
      refine (HSB.out _).mono ?_
      rintro e w2 ⟨v, rfl, ⟨a, m, cv, rfl, hR, hm⟩, h2⟩
      have hml : SB.length = m := hR.1
      have HML := Lib.hid hml
      have hM2 : Hid (World.ownsMap w2 Try.prog 3 (plainElem Try.prog 3) w.heap.size c (plI SB (plK n k) 0)) := hMI.out.kept (ext_grownBy h2 none) (by simp)
      have HR2 := Lib.hid hR
      have hE2 := Lib.hid (hE.out.trans h2)
      have hmle : m ≤ 128 := by omega
      have hsz := h2.le
      have hE0 := hE.out.le
      have hMI0 := hMI.out.lt
      clear hR h2 hMI hE HSB
      have HSZ : Hid (w.heap.size < wr.heap.size ∧ w.heap.size < w2.heap.size) := ⟨hMI0, by have := hMI0; omega⟩
      go_wp2_with fail
      generalize wr.heap.size = lo0 at *
      go_loopw [19, 5, 6, 7, 8] (fun z _ _ _ _ wr => ∃ i c : Nat, i ≤ m ∧ c ≤ k * 128 + i ∧ z = .int .i64 i ∧ Hid (World.ownsMap wr Try.prog 3 (plainElem Try.prog 3) w.heap.size c (plI SB (plK n k) i)) ∧ Hid (Ext w wr) ∧ Hid (RowsR wr lo0 w2.heap.size a m SB)) (fun z _ _ _ _ _ => m - (intOf z).toNat)
      case atStart => exact ⟨0, c, by omega, by omega, rfl, hM2, hE2, HR2⟩
      case round =>
        clear hM2 hE2 HR2
        obtain ⟨i, c1, hi, hc1, rfl, hM, hE, hR⟩ := hrel
        by_cases hli : i < m
        · obtain ⟨g, A, cr, hag, hcell, hO⟩ := hR.out.at1 hli
          subst hag
          obtain ⟨hl7, hel⟩ := HRK.out i (by rw [HML.out]; exact hli)
          have HST := Lib.hid (fun w1 (h : Ext wr w1) => setOf_impl A (row SB i).length cr (row SB i) w1 (hO.reads.ext h) hl7 hel)
          have hss := set_small (row SB i) hel
          have HPI : Hid (plI SB (plK n k) (i + 1) = (plI SB (plK n k) i).put (.int .i64 ((setL (row SB i)).1 : Nat)) (.lit (.int .i64 (i : Nat)))) := rfl
          clear hO hel
          generalize setL (row SB i) = sl at *
          obtain ⟨ss, sg⟩ := sl
          simp only at hss HPI HST
          go_wp2_with fail
          refine (HST.out _ (Ext.refl _)).mono ?_
          rintro e w3 ⟨rfl, h3⟩
          have hM3 := hM.out.kept (ext_grownBy h3 none) (by simp)
          have hE3 := Lib.hid (hE.out.trans h3)
          have hR3 := Lib.hid (hR.out.ext h3)
          clear hM hE hR h3 hcell
          have hcm : c1 < maxLen := by unfold maxLen; omega
          go_wp2_with (refine wpList_mapUpdate_own (H := Unit) _ rfl (.tmp 29) (.tmp 30) (.tmp 31) 141 rfl 3 3 HK.out Try.underlying141 (plainElem Try.prog 3) w.heap.size c1 _ rfl hM3 hcm (.int .i64 (ss : Nat)) (.int .i64 (i : Nat)) (.int .i64 (ss : Nat)) rfl rfl (keyOf_int_mk Try.underlying3 (wf_small ss (by omega))) (.lit (.int .i64 (i : Nat))) [] (plainElem_int Try.underlying3 (wf_small i (by omega))) ?_)
          intro w4 hM4 hg4
          rw [← HPI.out] at hM4
          have HM4 := Lib.hid hM4
          have E4 := Lib.hid (hE3.out.grown hg4 (fun z hz => by simp at hz; omega))
          have R4 := Lib.hid (hR3.out.grown hg4 (fun z hz => by simp at hz; have := HSZ.out; omega))
          clear hM3 hM4 hg4 hE3 hR3
          go_wp2
          exact ⟨⟨i + 1, c1 + 1, by omega, by omega, by simp, HM4, E4, R4⟩, by simp [intOf]; omega⟩
        · obtain rfl : m = i := by omega
          have hMN : Hid (World.ownsMap wr Try.prog 3 (plainElem Try.prog 3) w.heap.size c1 (plK n (k + 1))) := by rw [Hid, HPK.out, HML.out]; exact hM.out
          clear hM hR
          go_wp2
          exact ⟨⟨k + 1, c1, by omega, by omega, by simp, hMN, hE⟩, by simp [intOf]; omega⟩
    · obtain rfl : k = n + 1 := by omega
      have hge : ¬ ((n + 1 : Nat) : Int) < ((n + 1 : Nat) : Int) := by omega
      go_wp2
      go_ret
      first
        | exact ⟨w.heap.size, c, rfl, hM.out, Nat.le_refl _, hE.out⟩
        | exact ⟨w.heap.size, rfl, ⟨c, hM.out⟩, Nat.le_refl _, hE.out⟩
end Go.Proofs.Ytapaopapgnfdkaa
