/-
  Rows taken out of a list of rows where it lies: slices.DeleteFunc with the closure of InversionsOf.
-/
import Derived.Test.YthhgodjobddenaaGreatGs5
import Derived.Test.YthhgodjobddenaaGreatTw6
import Derived.Lib.SliceRun
import Derived.BigFrame
namespace Go.Proofs.YthhgodjobddenaaGreat
open Go.ChangeShapes Go.WideShapes Go.ChangeAt Go.RowKit
set_option linter.unusedVariables false
set_option linter.unusedSimpArgs false

/-- A block of rows: what its first cells hold. -/
def RowV (w : World) (g : Nat) (V : Nat → Value) (N : Nat) : Prop := ∃ cur : Array Value, w.heap[g]? = some (.cells cur 22 (0, 0)) ∧ N ≤ cur.size ∧ ∀ q, q < N → cur[q]? = some (V q)
theorem RowV.lt {w : World} {g N : Nat} {V : Nat → Value} (h : RowV w g V N) : g < w.heap.size := by
  obtain ⟨r, h, _⟩ := h
  exact (Array.getElem?_eq_some_iff.1 h).1
theorem RowV.cell {w : World} {g N q : Nat} {V : Nat → Value} (h : RowV w g V N) (hq : q < N) : w.cell? ⟨g, q, none⟩ = some (V q) := by
  obtain ⟨r, h, _, h2⟩ := h
  rw [cell_of_row w g q _ _ _ h]; exact h2 q hq
theorem RowV.free {w : World} {g N : Nat} {V : Nat → Value} (h : RowV w g V N) (q : Nat) : w.frozen? ⟨g, q, none⟩ = false := by
  obtain ⟨r, h, _⟩ := h
  exact frozen_of_row w g q _ _ h
theorem RowV.set {w : World} {g N j : Nat} {V : Nat → Value} (h : RowV w g V N) (hj : j < N) (u : Value) : RowV (w.setCell ⟨g, j, none⟩ u) g (fun q => if q = j then u else V q) N := by
  obtain ⟨r, h, h1, h2⟩ := h
  refine ⟨r.setIfInBounds j u, heap_setCell_same w g j _ _ _ h, by simpa using h1, fun q hq => ?_⟩
  rw [Array.getElem?_setIfInBounds]
  by_cases e : q = j
  · subst e; rw [if_pos rfl, if_pos (by omega)]; simp
  · rw [if_neg (Ne.symm e)]; simp only [if_neg e]; exact h2 q hq
theorem RowV.ext {w w' : World} {g N : Nat} {V : Nat → Value} (h : RowV w g V N) (hE : Ext w w') : RowV w' g V N := by
  have hl := h.lt
  obtain ⟨r, h, h1⟩ := h
  exact ⟨r, by rw [hE.block g hl]; exact h, h1⟩
theorem grownBy_both {w w1 w2 : World} {r : Option Nat} (h : w.grownBy w1 r) (h' : w1.grownBy w2 r) : w.grownBy w2 r :=
  ⟨h'.os.trans h.os, h'.tape.trans h.tape, h'.output.trans h.output, Nat.le_trans h.size h'.size, fun k hk hne => (h'.block k (Nat.lt_of_lt_of_le hk h.size) hne).trans (h.block k hk hne)⟩
theorem setCells_row {g : Nat} {t : TypeId} : ∀ (vs : List Value) (o : Nat) (w : World) (cur : Array Value), w.heap[g]? = some (.cells cur t (0, 0)) → ∃ cur' : Array Value, (w.setCells g o vs).heap[g]? = some (.cells cur' t (0, 0)) ∧ cur'.size = cur.size ∧ (∀ q, q < o → cur'[q]? = cur[q]?) ∧ w.grownBy (w.setCells g o vs) (some g)
  | [], o, w, cur, h => ⟨cur, h, rfl, fun _ _ => rfl, grownBy_refl _ _⟩
  | v :: vs, o, w, cur, h => by
    obtain ⟨c2, h1, h2, h3, h4⟩ := setCells_row vs (o + 1) (w.setCell ⟨g, o, none⟩ v) _ (heap_setCell_same w g o _ _ _ h)
    refine ⟨c2, h1, by simpa using h2, fun q hq => ?_, ?_⟩
    · rw [h3 q (by omega), Array.getElem?_setIfInBounds, if_neg (by omega)]
    · have h5 : w.grownBy (w.setCell ⟨g, o, none⟩ v) (some g) := grownBy_set (p := ⟨g, o, none⟩) (grownBy_refl _ _) rfl _
      exact grownBy_both h5 h4
/-- The numbers below j that stay. -/
def kept (D : Nat → Bool) (j : Nat) : List Nat := (List.range j).filter fun i => !D i
theorem kept_succ (D : Nat → Bool) (j : Nat) : kept D (j + 1) = if D j then kept D j else kept D j ++ [j] := by
  simp only [kept, List.range_succ, List.filter_append]
  cases h : D j <;> simp [h]
theorem kept_le (D : Nat → Bool) (j : Nat) : (kept D j).length ≤ j := by
  have := List.length_filter_le (fun i => !D i) (List.range j)
  simpa [kept] using this
theorem kept_lt {D : Nat → Bool} {p : Nat} (hp : D p = true) : ∀ j, p < j → (kept D j).length < j
  | 0, h => by omega
  | j + 1, h => by
    rw [kept_succ]
    by_cases e : p = j
    · subst e; rw [hp, if_pos rfl]; have := kept_le D p; omega
    · have ih := kept_lt hp j (by omega)
      split
      · omega
      · simp; omega
theorem kept_all {D : Nat → Bool} : ∀ {j : Nat}, (∀ i, i < j → D i = false) → kept D j = List.range j
  | 0, _ => rfl
  | j + 1, h => by rw [kept_succ, h j (by omega), kept_all (fun i hi => h i (by omega)), List.range_succ]; rfl
theorem kept_mem {D : Nat → Bool} {j q : Nat} (h : q < (kept D j).length) : (kept D j).getD q 0 < j := by
  have h1 : (kept D j).getD q 0 = (kept D j)[q] := by simp [List.getD_eq_getElem?_getD, h]
  rw [h1]
  have h2 := List.getElem_mem h
  exact List.mem_range.1 (List.mem_filter.1 (show (kept D j)[q] ∈ (List.range j).filter _ from h2)).1
theorem kept_nodup (D : Nat → Bool) (j : Nat) : (kept D j).Nodup := List.Pairwise.filter _ List.nodup_range
theorem getD_app {l : List Nat} {x q : Nat} : (l ++ [x]).getD q 0 = if q < l.length then l.getD q 0 else if q = l.length then x else 0 := by
  simp only [List.getD_eq_getElem?_getD, List.getElem?_append]
  by_cases h : q < l.length
  · simp [h]
  · rw [if_neg h, if_neg h]
    by_cases e : q = l.length
    · subst e; simp
    · rw [if_neg e]
      rw [List.getElem?_eq_none (by simp; omega)]; rfl
/-- Where DeleteFunc stands behind j rows. -/
def delV (V : Nat → Value) (U : Nat → Value) (D : Nat → Bool) (j N : Nat) : Prop := (∀ q, q < (kept D j).length → V q = U ((kept D j).getD q 0)) ∧ ∀ q, j ≤ q → q < N → V q = U q
theorem delV_skip {V U : Nat → Value} {D : Nat → Bool} {j N : Nat} (h : delV V U D j N) (hD : D j = true) : delV V U D (j + 1) N := by
  rw [delV, kept_succ, if_pos hD]
  exact ⟨h.1, fun q h1 h2 => h.2 q (by omega) h2⟩
theorem delV_take {V U : Nat → Value} {D : Nat → Bool} {j N : Nat} (h : delV V U D j N) (hD : D j = false) (hj : (kept D j).length ≤ j) : delV (fun q => if q = (kept D j).length then U j else V q) U D (j + 1) N := by
  rw [delV, kept_succ, hD]
  refine ⟨fun q hq => ?_, fun q h1 h2 => ?_⟩
  · simp only [Bool.false_eq_true, if_false] at hq ⊢
    rw [getD_app]
    by_cases e : q = (kept D j).length
    · rw [if_pos e, if_neg (by omega), if_pos e]
    · have : q < (kept D j).length := by simp at hq; omega
      rw [if_neg e, if_pos this]; exact h.1 q this
  · show (if q = (kept D j).length then U j else V q) = U q
    rw [if_neg (by omega)]; exact h.2 q (by omega) h2
theorem zeroS (w : World) : (zeroValue 22).run Tryz.prog w = .ok (.slice none 0 0) w := by kernel_rfl

set_option maxRecDepth 100000 in
set_option maxHeartbeats 3200000 in
theorem indexDel (g N c K F1 F2 : Nat) (Bk C : Nat → Nat) (L : List (List Int)) (D : Nat → Bool) (W4 w : World) (hV : RowV w g (fun i => (.slice (some ⟨Bk (i), 0, none⟩) K (C (i)))) N) (hrows : ∀ i, i < N → Has w (Bk i) (row L i)) (hE : Ext W4 w) (hNm : N ≤ 1024) (HD : ∀ (w1 : World) (i : Nat), Ext W4 w1 → i < N → Has w1 (Bk i) (row L i) → Calls Tryz.prog 80 #[(.slice (some ⟨Bk (i), 0, none⟩) K (C (i))), .pointer (some ⟨F1, 0, none⟩), .pointer (some ⟨F2, 0, none⟩)] w1 fun e w' => e = .returned (.bool (D i)) ∧ Ext w1 w') :
    Calls Tryz.prog 108 #[.slice (some ⟨g, 0, none⟩) N c, .func (.func 80) #[] #[.pointer (some ⟨F1, 0, none⟩), .pointer (some ⟨F2, 0, none⟩)]] w fun e w' => ∃ z : Int, e = .returned (.int .i64 z) ∧ ((z = -1 ∧ ∀ i, i < N → D i = false) ∨ ∃ p : Nat, z = p ∧ p < N ∧ D p = true ∧ ∀ i, i < p → D i = false) ∧ Ext w w' := by
  have HV := Lib.hid hV
  have HR := Lib.hid hrows
  have HE := Lib.hid hE
  have HD := Lib.hid HD
  clear hV hrows hE
  go_enter Tryz.func108, Tryz.ntmps108
  go_wp2_with fail
  go_loopw [8, 5] (fun z _ wr => ∃ e : Nat, e ≤ N ∧ z = .int .i64 e ∧ Hid (Ext w wr) ∧ Hid (∀ p, p < e → D p = false)) (fun z _ _ => N - (intOf z).toNat)
  case atStart => exact ⟨0, by omega, rfl, Ext.refl _, fun p h => by omega⟩
  case round =>
    obtain ⟨e, he, rfl, hX, hD⟩ := hrel
    by_cases hlt : e < N
    · have h1 := HV.out.ext hX.out
      have hc := h1.cell hlt
      have lg := h1.lt
      have hltI : (e : Int) < (N : Int) := by omega
      have HC := Lib.hid (HD.out wr e (HE.out.trans hX.out) hlt ((HR.out e hlt).ext hX.out))
      clear h1
      rcases hd : D e with _ | _
      · have HD2 : Hid (∀ p, p < e + 1 → D p = false) := fun p hp => by
          by_cases ep : p = e
          · rw [ep]; exact hd
          · exact hD.out p (by omega)
        rw [hd] at HC
        go_wp2_with fail
        refine HC.out.mono ?_
        rintro e' w' ⟨rfl, h9⟩
        go_wp2
        exact ⟨⟨e + 1, by omega, by simp, hX.out.trans h9, HD2⟩, by (simp [intOf]) <;> omega⟩
      · rw [hd] at HC
        go_wp2_with fail
        refine HC.out.mono ?_
        rintro e' w' ⟨rfl, h9⟩
        go_wp2
        go_ret
        exact ⟨e, rfl, .inr ⟨e, rfl, hlt, hd, hD.out⟩, hX.out.trans h9⟩
    · obtain rfl : N = e := by omega
      go_wp2
      go_ret
      exact ⟨-1, rfl, .inl ⟨rfl, hD.out⟩, hX.out⟩
set_option maxRecDepth 100000 in
set_option maxHeartbeats 6400000 in
theorem deleteRows (g N c K F1 F2 : Nat) (Bk C : Nat → Nat) (L : List (List Int)) (D : Nat → Bool) (W4 w : World) (hV : RowV w g (fun i => (.slice (some ⟨Bk (i), 0, none⟩) K (C (i)))) N) (hgW : W4.heap.size ≤ g) (hcN : N ≤ c) (hrows : ∀ i, i < N → Has w (Bk i) (row L i)) (hne : ∀ i, i < N → Bk i ≠ g) (hE : Ext W4 w) (hNm : N ≤ 1024) (HD : ∀ (w1 : World) (i : Nat), Ext W4 w1 → i < N → Has w1 (Bk i) (row L i) → Calls Tryz.prog 80 #[(.slice (some ⟨Bk (i), 0, none⟩) K (C (i))), .pointer (some ⟨F1, 0, none⟩), .pointer (some ⟨F2, 0, none⟩)] w1 fun e w' => e = .returned (.bool (D i)) ∧ Ext w1 w') :
    Calls Tryz.prog 78 #[.slice (some ⟨g, 0, none⟩) N c, .func (.func 80) #[] #[.pointer (some ⟨F1, 0, none⟩), .pointer (some ⟨F2, 0, none⟩)]] w fun e w' => e = .returned (.slice (some ⟨g, 0, none⟩) (kept D N).length c) ∧ RowV w' g (fun q => (.slice (some ⟨Bk ((kept D N).getD q 0), 0, none⟩) K (C ((kept D N).getD q 0)))) (kept D N).length ∧ (∀ i, i < N → Has w' (Bk i) (row L i)) ∧ Ext W4 w' := by
  have HIX := Lib.hid (indexDel g N c K F1 F2 Bk C L D W4 w hV hrows hE hNm HD)
  have HV := Lib.hid hV
  have HR := Lib.hid hrows
  have HE := Lib.hid hE
  have HD := Lib.hid HD
  have HNE := Lib.hid hne
  clear hV hrows hE hne
  go_enter Tryz.func78, Tryz.ntmps78
  go_wp2_with fail
  refine HIX.out.mono ?_
  rintro e w2 ⟨z, rfl, hz, h2⟩
  rcases hz with ⟨rfl, hall⟩ | ⟨p, rfl, hpN, hDp, hbef⟩
  · have HK : Hid (kept D N = List.range N) := kept_all hall
    have HV2 := Lib.hid (HV.out.ext h2)
    have HR2 : Hid (∀ i, i < N → Has w2 (Bk i) (row L i)) := fun i hi => (HR.out i hi).ext h2
    have HE2 := Lib.hid (HE.out.trans h2)
    clear hall h2 HIX
    go_wp2
    go_ret
    refine ⟨by rw [HK.out]; simp, ?_, HR2.out, HE2.out⟩
    rw [HK.out]
    obtain ⟨r, r1, r2, r3⟩ := HV2.out
    refine ⟨r, r1, by simpa using r2, fun q hq => ?_⟩
    rw [List.length_range] at hq
    rw [r3 q hq]
    have e9 : (List.range N).getD q 0 = q := by simp [List.getD_eq_getElem?_getD, hq]
    show some (Value.slice (some ⟨Bk (q), 0, none⟩) K (C (q))) = some (Value.slice (some ⟨Bk ((List.range N).getD q 0), 0, none⟩) K (C ((List.range N).getD q 0)))
    rw [e9]
  · have HV2 := Lib.hid (HV.out.ext h2)
    have HR2 : Hid (∀ i, i < N → Has w2 (Bk i) (row L i)) := fun i hi => (HR.out i hi).ext h2
    have HE2 := Lib.hid (HE.out.trans h2)
    have HKP : Hid ((kept D (p + 1)).length = p) := by
      rw [Hid, kept_succ, hDp, if_pos rfl, kept_all hbef, List.length_range]
    have HKL : Hid (∀ j, p < j → (kept D j).length < j) := fun j hj => kept_lt hDp j hj
    have HDV : Hid (delV (fun i => (.slice (some ⟨Bk (i), 0, none⟩) K (C (i)))) (fun i => (.slice (some ⟨Bk (i), 0, none⟩) K (C (i)))) D (p + 1) N) := by
      refine ⟨fun q hq => ?_, fun q _ _ => rfl⟩
      rw [HKP.out] at hq
      have e1 : (kept D (p + 1)).getD q 0 = q := by
        rw [kept_succ, hDp, if_pos rfl, kept_all hbef]
        simp [List.getD_eq_getElem?_getD, hq]
      show (Value.slice (some ⟨Bk (q), 0, none⟩) K (C (q))) = (Value.slice (some ⟨Bk ((kept D (p + 1)).getD q 0), 0, none⟩) K (C ((kept D (p + 1)).getD q 0)))
      rw [e1]
    have v1 : IntKind.i64.wrap ((p : Int) + 1) = (p : Int) + 1 := IntWalk.i64_in _ ⟨by omega, by omega⟩
    have hp1 : ¬ ((p : Int) = -1) := by omega
    clear hbef h2 HIX hDp
    go_wp2_with fail
    go_loopw [6, 5, 7] (fun z y _ wr => ∃ (j : Nat) (V : Nat → Value), p < j ∧ j ≤ N ∧ z = .int .i64 j ∧ y = .int .i64 ((kept D j).length : Nat) ∧ Hid (RowV wr g V N) ∧ Hid (delV V (fun i => (.slice (some ⟨Bk (i), 0, none⟩) K (C (i)))) D j N) ∧ Hid (∀ i, i < N → Has wr (Bk i) (row L i)) ∧ Hid (Ext W4 wr)) (fun z _ _ _ => N - (intOf z).toNat)
    case atStart => exact ⟨p + 1, _, by omega, by omega, by simp, by rw [HKP.out], HV2, HDV, HR2, HE2⟩
    case round =>
      clear HV2 HDV HR2 HE2 v1 hp1
      obtain ⟨j, V, hpj, hj, rfl, rfl, hV, hDV, hR, hX⟩ := hrel
      have hkl := HKL.out j hpj
      by_cases hlt : j < N
      · have hVj : V j = (.slice (some ⟨Bk (j), 0, none⟩) K (C (j))) := hDV.out.2 j (Nat.le_refl _) hlt
        have cJ := hV.out.cell hlt
        rw [hVj] at cJ
        have lg := hV.out.lt
        have hjI : (j : Int) < (N : Int) := by omega
        have HC := Lib.hid (HD.out wr j hX.out hlt (hR.out j hlt))
        have v2 : IntKind.i64.wrap ((j : Int) + 1) = (j : Int) + 1 := IntWalk.i64_in _ ⟨by omega, by omega⟩
        rcases hd : D j with _ | _
        · rw [hd] at HC
          have HDT := Lib.hid (delV_take hDV.out hd (by omega))
          have HLK : Hid ((kept D (j + 1)).length = (kept D j).length + 1) := by rw [Hid, kept_succ, hd]; simp
          obtain ⟨m, hm⟩ : ∃ m, (kept D j).length = m := ⟨_, rfl⟩
          rw [hm] at HDT HLK hkl ⊢
          have hmI : (m : Int) < (N : Int) := by omega
          have v3 : IntKind.i64.wrap ((m : Int) + 1) = (m : Int) + 1 := IntWalk.i64_in _ ⟨by omega, by omega⟩
          clear hVj hm
          go_wp2_with fail
          refine HC.out.mono ?_
          rintro e' w5 ⟨rfl, h5⟩
          have HV5 := Lib.hid (hV.out.ext h5)
          have hc5 := HV5.out.cell (q := m) (by omega)
          have hf5 := HV5.out.free m
          have lg5 := HV5.out.lt
          have HV6 := Lib.hid (HV5.out.set (j := m) (by omega) (.slice (some ⟨Bk (j), 0, none⟩) K (C (j))))
          have HR6 : Hid (∀ i, i < N → Has (w5.setCell ⟨g, m, none⟩ (.slice (some ⟨Bk (j), 0, none⟩) K (C (j)))) (Bk i) (row L i)) := fun i hi => ((hR.out i hi).ext h5).setOther (p := ⟨g, m, none⟩) (fun e => HNE.out i hi e.symm) _
          have HX6 : Hid (Ext W4 (w5.setCell ⟨g, m, none⟩ (.slice (some ⟨Bk (j), 0, none⟩) K (C (j))))) := (hX.out.trans h5).setCell (p := ⟨g, m, none⟩) hgW _
          clear hV hR hX HV5 h5 hDV
          go_wp2
          refine ⟨?_, by (simp [intOf]) <;> omega⟩
          (repeat apply Exists.intro)
          refine ⟨?rela, rfl⟩
          exact ⟨j + 1, _, by omega, by omega, by simp, by rw [HLK.out]; simp, HV6, HDT, HR6, HX6⟩
        · rw [hd] at HC
          have HDT := Lib.hid (delV_skip hDV.out hd)
          have HLK : Hid ((kept D (j + 1)).length = (kept D j).length) := by rw [Hid, kept_succ, hd, if_pos rfl]
          obtain ⟨m, hm⟩ : ∃ m, (kept D j).length = m := ⟨_, rfl⟩
          rw [hm] at HLK ⊢
          clear hVj hm
          go_wp2_with fail
          refine HC.out.mono ?_
          rintro e' w5 ⟨rfl, h5⟩
          have HV5 := Lib.hid (hV.out.ext h5)
          have HR5 : Hid (∀ i, i < N → Has w5 (Bk i) (row L i)) := fun i hi => (hR.out i hi).ext h5
          have HX5 := Lib.hid (hX.out.trans h5)
          clear hV hR hX h5 hDV
          go_wp2
          refine ⟨?_, by (simp [intOf]) <;> omega⟩
          (repeat apply Exists.intro)
          refine ⟨?relb, rfl⟩
          exact ⟨j + 1, V, by omega, by omega, by simp, by rw [HLK.out], HV5, HDT, HR5, HX5⟩
      · obtain rfl : N = j := by omega
        obtain ⟨m, hm⟩ : ∃ m, (kept D N).length = m := ⟨_, rfl⟩
        have HM := Lib.hid hm
        rw [hm] at hkl ⊢
        have hmI : (m : Int) ≤ (N : Int) := by omega
        have hmC : (N : Int) ≤ (c : Int) := by omega
        have hne1 : ¬ (c = m) := by omega
        have hne2 : ¬ (m = c) := by omega
        have hne3 : ¬ ((c : Int) = (m : Int)) := by omega
        have hmc2 : (m : Int) ≤ (c : Int) := by omega
        have hcl : ∀ ty, (Builtin.clear_ #[41] ty #[.slice (some ⟨g, m, none⟩) (N - m) (c - m)]).run Tryz.prog wr = .ok (.tuple #[]) (wr.setCells g m (List.replicate (N - m) (.slice none 0 0))) :=
          fun ty => Lib.run_clear_slice wr 41 22 ty (.slice none 0 0) Tryz.underlying41 zeroS rfl rfl g m (N - m) (c - m) (by omega) (fun q hq => by rw [hV.out.cell (by omega)]; rfl) (fun q hq => hV.out.free _)
        obtain ⟨r, r1, r2, r3⟩ := hV.out
        obtain ⟨r', s1, s2, s3, s4⟩ := setCells_row (List.replicate (N - m) (.slice none 0 0)) m wr r r1
        have HF : Hid (RowV (wr.setCells g m (List.replicate (N - m) (.slice none 0 0))) g (fun q => (.slice (some ⟨Bk ((kept D N).getD q 0), 0, none⟩) K (C ((kept D N).getD q 0)))) m) := by
          refine ⟨r', s1, by omega, fun q hq => ?_⟩
          rw [s3 q hq, r3 q (by omega), hDV.out.1 q (by rw [HM.out]; exact hq)]
        have HR9 : Hid (∀ i, i < N → Has (wr.setCells g m (List.replicate (N - m) (.slice none 0 0))) (Bk i) (row L i)) := fun i hi => (hR.out i hi).grownOther s4 (fun k hk => by cases hk; exact Ne.symm (HNE.out i hi))
        have HX9 : Hid (Ext W4 (wr.setCells g m (List.replicate (N - m) (.slice none 0 0)))) := hX.out.grown s4 (fun k hk => by cases hk; exact hgW)
        clear r1 r2 r3 s1 s2 s3 s4 hV hDV hR hX hm
        go_wp2_with (simp only [hcl])
        go_ret
        exact ⟨by rw [HM.out]; rfl, by rw [HM.out]; exact HF.out, HR9.out, HX9.out⟩

set_option maxRecDepth 100000 in
set_option maxHeartbeats 3200000 in
theorem inversions_1 (F1 F2 B R da od n cD bw ow lw cw bx cx : Nat) (v2 v3 : Value) (xs wd y : List Int) (w : World) (hF1 : Cells w F1 [.slice (some ⟨bw, ow, none⟩) lw cw]) (hF2 : Cells w F2 [.pointer (some ⟨B, 0, none⟩)]) (hB : Cells w B [.int .i64 (R : Nat), .slice (some ⟨da, od, none⟩) n cD, v2, v3]) (hr : Reads w (some ⟨da, od, none⟩) n xs) (hn : n = R * R) (hR0 : 1 ≤ R) (hR : R ≤ 4) (hxb : ∀ e, -3 ≤ gi xs e ∧ gi xs e ≤ 3) (hW : Reads w (some ⟨bw, ow, none⟩) lw wd) (hlw : lw ≤ 1048576) (hwd : rowB R wd = true) (hy : Has w bx y) (hc : RClo xs R) (hys : sysB (posR xs R) y = true) :
    Calls Tryz.prog 80 #[.slice (some ⟨bx, 0, none⟩) R cx, .pointer (some ⟨F1, 0, none⟩), .pointer (some ⟨F2, 0, none⟩)] w fun e w' => e = .returned (.bool (decide (0 < htS (actR xs R wd y)))) ∧ Ext w w' := by
  have hmf : ∀ (fn : Fn) (first cap : Array Value) (w : World), (Instr.makeFunc fn first cap).run Tryz.prog w = .ok (.func fn first cap) w := fun _ _ _ _ => rfl
  have l1 := hF1.1
  have f1 := hF1.2 0 _ rfl
  have l2 := hF2.1
  have f2 := hF2.2 0 _ rfl
  have HBW := Lib.hid (byWord_reflected B R da od n cD bw ow lw cw bx 0 cx v2 v3 xs wd y (fun u => sysB (posR xs R) u = true) w hB hr hn hR0 hR hxb hW hlw (fun e he => rowB_at hwd he) (hy.reads (hc.row y hys).1) hys (fun u hu => ⟨(hc.row u hu).1, fun e => by have := (hc.row u hu).2 e; omega⟩) (fun u i hi hu => hc.turn u i hi hu))
  obtain ⟨A, hA⟩ : ∃ A, actR xs R wd y = A := ⟨_, rfl⟩
  have hA2 : wd.foldr (fun i a => rfl5 xs R i.toNat a) y = A := hA
  rw [hA]
  simp only [Hid, hA2] at HBW
  have HBW := Lib.hid HBW
  have HC := Lib.hid hc
  clear hF1 hF2 hB hr hxb hW hwd hy hc hys hA hA2
  go_enter Tryz.func80, Tryz.ntmps80
  go_wp2_with fail
  refine HBW.out.mono ?_
  rintro e w2 ⟨b, c9, rfl, h1, h2, h3, h4, h5, h6⟩
  have HS := Lib.hid (HC.out.row A h5)
  have HH := Lib.hid h4
  have HE := Lib.hid h6
  clear h4 h5 h6 HBW
  go_wp2_with fail
  refine (heightOf_impl R c9 (some ⟨b, 0, none⟩) A _ (HH.out.reads HS.out.1) (by omega) (fun e => by have := HS.out.2 e; omega)).mono ?_
  rintro e w3 ⟨rfl, rfl⟩
  obtain ⟨ht, hht⟩ : ∃ ht, htS A = ht := ⟨_, rfl⟩
  rw [hht]
  have HHT := Lib.hid hht
  clear hht
  go_wp2
  go_ret
  exact ⟨by rw [HHT.out]; rfl, HE.out⟩
end Go.Proofs.YthhgodjobddenaaGreat
