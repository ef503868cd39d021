/-
  A list without one of its places: the program's.
-/
import Derived.Test.YtlnpaplbcocmkaaGreatLik
namespace Go.Proofs.YtlnpaplbcocmkaaGreat
open Go.ChangeShapes Go.WideShapes Go.ChangeAt Go.RowKit
set_option linter.unusedVariables false
set_option linter.unusedSimpArgs false

theorem Reads.takeO {w : World} {b off m : Nat} {xs : List Int} (h : Reads w (some ⟨b, off, none⟩) m xs) (i : Nat) (hi : i ≤ m) : Reads w (some ⟨b, off, none⟩) i (xs.take i) := by
  have hl := h.1
  refine ⟨by simp; omega, ?_⟩
  rcases h.2 with h0 | ⟨b2, o2, e, hb, hc⟩
  · exact .inl (by omega)
  · refine .inr ⟨b2, o2, e, hb, fun j hj => ?_⟩
    rw [hc j (by omega)]
    simp [gi, List.getElem?_take, hj]
theorem Reads.dropO {w : World} {b off m : Nat} {xs : List Int} (h : Reads w (some ⟨b, off, none⟩) m xs) (i : Nat) (hi : i ≤ m) : Reads w (some ⟨b, off + i, none⟩) (m - i) (xs.drop i) := by
  have hl := h.1
  refine ⟨by simp; omega, ?_⟩
  rcases h.2 with h0 | ⟨b2, o2, e, hb, hc⟩
  · exact .inl (by omega)
  · simp only [Option.some.injEq, Addr.mk.injEq, and_true] at e
    obtain ⟨rfl, rfl⟩ := e
    refine .inr ⟨b, off + i, rfl, hb, fun j hj => ?_⟩
    rw [show off + i + j = off + (i + j) by omega, hc (i + j) (by omega)]
    simp [gi]

set_option maxRecDepth 100000 in
set_option maxHeartbeats 1600000 in
theorem without_at (b off m c i : Nat) (rows : List Nat) (w : World) (hr : Reads w (some ⟨b, off, none⟩) m (rI rows)) (hm : m ≤ 4) (hmc : m ≤ c) (hcm : c ≤ maxLen) (hi : i < m) (hc : c = i + 1) :
    Calls Tryz.prog 185 #[.slice (some ⟨b, off, none⟩) m c, .int .i64 i] w fun e w' => ∃ a' c', e = .returned (.slice a' (m - 1) c') ∧ Own w' w.heap.size w'.heap.size a' (m - 1) (rI (rows.eraseIdx i)) ∧ SlcOk a' (m - 1) c' ∧ Ext w w' := by
  have hrl : rows.length = m := by rw [← rI_length]; exact hr.1
  have HR1 : Hid (∀ W, Ext w W → Reads W (some ⟨b, off, none⟩) i ((rI rows).take i)) := fun W h => (hr.ext h).takeO i (by omega)
  have hmi : m = i + 1 := by omega
  have hx2 : (rI rows).drop (i + 1) = [] := List.drop_eq_nil_of_le (by rw [rI_length, hrl]; omega)
  have HR2 : Hid (∀ W, Ext w W → Reads W (some ⟨b, off, none⟩) (m - (i + 1)) ((rI rows).drop (i + 1))) := fun W h => by rw [hx2, hmi, Nat.sub_self]; exact reads_nil _ _
  have hq : (c = i + 1) = True := eq_true hc
  have hq2 : (i + 1 = c) = True := eq_true hc.symm
  clear hx2 hmi
  have HER := Lib.hid (rI_erase rows i)
  have HCC : Hid (Calls Tryz.prog 127 #[.slice (some ⟨w.heap.size, 0, none⟩) 2 2] (w.alloc (.cells #[.slice (some ⟨b, off, none⟩) i c, .slice (some ⟨b, off, none⟩) (m - (i + 1)) (c - (i + 1))] 22)).drew fun e w' => ∃ a' c', e = .returned (.slice a' (m - 1) c') ∧ Own w' w.heap.size w'.heap.size a' (m - 1) (rI (rows.eraseIdx i)) ∧ SlcOk a' (m - 1) c' ∧ Ext w w') := by
    have hq := cells_new w #[.slice (some ⟨b, off, none⟩) i c, .slice (some ⟨b, off, none⟩) (m - (i + 1)) (c - (i + 1))] 22
    have hd := hq.ext (Ext.refl _).drew
    have hE : Ext w (w.alloc (.cells #[.slice (some ⟨b, off, none⟩) i c, .slice (some ⟨b, off, none⟩) (m - (i + 1)) (c - (i + 1))] 22)).drew := ((Ext.refl w).alloc _).drew
    refine (concat_any w.heap.size i (m - (i + 1)) c (c - (i + 1)) 2 _ _ _ _ _ (hd.2 0 _ rfl) (hd.2 1 _ rfl) hd.1 (HR1.out _ hE) (HR2.out _ hE) (.inr ⟨_, _, rfl⟩) (.inr ⟨_, _, rfl⟩) (by omega) (by omega) (fun h => by cases h) (fun h => by cases h)).mono ?_
    rintro e w2 ⟨a', c', rfl, ho, hn, h2⟩
    rw [HER.out]
    rw [show i + (m - (i + 1)) = m - 1 by omega] at *
    exact ⟨a', c', rfl, ho.mono hE.le (Nat.le_refl _), hn, hE.trans h2⟩
  have hi1 : (i : Int) ≤ (m : Int) := by omega
  have hic : (i : Int) ≤ (c : Int) := by omega
  have hi2 : (i : Int) + 1 ≤ (m : Int) := by omega
  have hi3 : (0 : Int) ≤ (i : Int) + 1 := by omega
  have hi4 : IntKind.i64.wrap ((i : Int) + 1) = (i : Int) + 1 := IntWalk.i64_in _ ⟨by omega, by omega⟩
  have hi5 : ((i : Int) + 1).toNat = i + 1 := by omega
  have hi0 : (0 : Int) ≤ (i : Int) := by omega
  have hmm : (m : Int) ≤ (c : Int) := by omega
  have hcc2 : (c : Int) ≤ 9223372036854775807 := by unfold maxLen at hcm; omega
  clear hr hrl HR1 HR2 HER hc
  go_enter Tryz.func185, Tryz.ntmps185
  go_wp2_with fail
  go_region_held3 (fun w' => Ext w w' ∧ (∀ b o, b < w.heap.size → w'.cell? ⟨b, o, none⟩ = w.cell? ⟨b, o, none⟩)) (first | assumption | (refine ext2 ?_; with_reducible assumption) | (with_reducible exact ext2 (Ext.trans (And.left ‹Ext w _ ∧ _›) ‹Ext _ _›)) | (refine ext2 ?_; with_reducible repeat (first | exact Ext.refl _ | exact And.left ‹Ext w _ ∧ _› | refine Ext.drew ?_ | refine Ext.drewN ?_ _ | refine Ext.alloc ?_ _))) (first
    | (go_at_call 127; (with_reducible refine HCC.out.mono ?_); rintro e w2 ⟨a', c', rfl, ho, hn, h2⟩)
    | fail)
  all_goals
    go_wp2
    go_ret
    exact ⟨a', c', rfl, ho, hn, h2⟩

set_option maxRecDepth 100000 in
set_option maxHeartbeats 1600000 in
theorem without_past (b off m c i : Nat) (rows : List Nat) (w : World) (hr : Reads w (some ⟨b, off, none⟩) m (rI rows)) (hm : m ≤ 4) (hmc : m ≤ c) (hcm : c ≤ maxLen) (hi : i < m) (hc : c ≠ i + 1) :
    Calls Tryz.prog 185 #[.slice (some ⟨b, off, none⟩) m c, .int .i64 i] w fun e w' => ∃ a' c', e = .returned (.slice a' (m - 1) c') ∧ Own w' w.heap.size w'.heap.size a' (m - 1) (rI (rows.eraseIdx i)) ∧ SlcOk a' (m - 1) c' ∧ Ext w w' := by
  have hrl : rows.length = m := by rw [← rI_length]; exact hr.1
  have HR1 : Hid (∀ W, Ext w W → Reads W (some ⟨b, off, none⟩) i ((rI rows).take i)) := fun W h => (hr.ext h).takeO i (by omega)
  have HR2 : Hid (∀ W, Ext w W → Reads W (some ⟨b, off + (i + 1), none⟩) (m - (i + 1)) ((rI rows).drop (i + 1))) := fun W h => (hr.ext h).dropO (i + 1) (by omega)
  have hq : ¬ c = i + 1 := hc
  have hq2 : ¬ i + 1 = c := fun h => hc h.symm
  have HER := Lib.hid (rI_erase rows i)
  have HCC : Hid (Calls Tryz.prog 127 #[.slice (some ⟨w.heap.size, 0, none⟩) 2 2] (w.alloc (.cells #[.slice (some ⟨b, off, none⟩) i c, .slice (some ⟨b, off + (i + 1), none⟩) (m - (i + 1)) (c - (i + 1))] 22)).drew fun e w' => ∃ a' c', e = .returned (.slice a' (m - 1) c') ∧ Own w' w.heap.size w'.heap.size a' (m - 1) (rI (rows.eraseIdx i)) ∧ SlcOk a' (m - 1) c' ∧ Ext w w') := by
    have hq := cells_new w #[.slice (some ⟨b, off, none⟩) i c, .slice (some ⟨b, off + (i + 1), none⟩) (m - (i + 1)) (c - (i + 1))] 22
    have hd := hq.ext (Ext.refl _).drew
    have hE : Ext w (w.alloc (.cells #[.slice (some ⟨b, off, none⟩) i c, .slice (some ⟨b, off + (i + 1), none⟩) (m - (i + 1)) (c - (i + 1))] 22)).drew := ((Ext.refl w).alloc _).drew
    refine (concat_any w.heap.size i (m - (i + 1)) c (c - (i + 1)) 2 _ _ _ _ _ (hd.2 0 _ rfl) (hd.2 1 _ rfl) hd.1 (HR1.out _ hE) (HR2.out _ hE) (.inr ⟨_, _, rfl⟩) (.inr ⟨_, _, rfl⟩) (by omega) (by omega) (fun h => by cases h) (fun h => by cases h)).mono ?_
    rintro e w2 ⟨a', c', rfl, ho, hn, h2⟩
    rw [HER.out]
    rw [show i + (m - (i + 1)) = m - 1 by omega] at *
    exact ⟨a', c', rfl, ho.mono hE.le (Nat.le_refl _), hn, hE.trans h2⟩
  have hi1 : (i : Int) ≤ (m : Int) := by omega
  have hic : (i : Int) ≤ (c : Int) := by omega
  have hi2 : (i : Int) + 1 ≤ (m : Int) := by omega
  have hi3 : (0 : Int) ≤ (i : Int) + 1 := by omega
  have hi4 : IntKind.i64.wrap ((i : Int) + 1) = (i : Int) + 1 := IntWalk.i64_in _ ⟨by omega, by omega⟩
  have hi5 : ((i : Int) + 1).toNat = i + 1 := by omega
  have hi0 : (0 : Int) ≤ (i : Int) := by omega
  have hmm : (m : Int) ≤ (c : Int) := by omega
  have hcc2 : (c : Int) ≤ 9223372036854775807 := by unfold maxLen at hcm; omega
  clear hr hrl HR1 HR2 HER hc
  go_enter Tryz.func185, Tryz.ntmps185
  go_wp2_with fail
  go_region_held3 (fun w' => Ext w w' ∧ (∀ b o, b < w.heap.size → w'.cell? ⟨b, o, none⟩ = w.cell? ⟨b, o, none⟩)) (first | assumption | (refine ext2 ?_; with_reducible assumption) | (with_reducible exact ext2 (Ext.trans (And.left ‹Ext w _ ∧ _›) ‹Ext _ _›)) | (refine ext2 ?_; with_reducible repeat (first | exact Ext.refl _ | exact And.left ‹Ext w _ ∧ _› | refine Ext.drew ?_ | refine Ext.drewN ?_ _ | refine Ext.alloc ?_ _))) (first
    | (go_at_call 127; (with_reducible refine HCC.out.mono ?_); rintro e w2 ⟨a', c', rfl, ho, hn, h2⟩)
    | fail)
  all_goals
    go_wp2
    go_ret
    exact ⟨a', c', rfl, ho, hn, h2⟩

theorem without_impl (a : Option Addr) (m c i : Nat) (rows : List Nat) (w : World) (hr : Reads w a m (rI rows)) (hm : m ≤ 4) (hs : SlcOk a m c) (hi : i < m) :
    Calls Tryz.prog 185 #[.slice a m c, .int .i64 i] w fun e w' => ∃ a' c', e = .returned (.slice a' (m - 1) c') ∧ Own w' w.heap.size w'.heap.size a' (m - 1) (rI (rows.eraseIdx i)) ∧ SlcOk a' (m - 1) c' ∧ Ext w w' := by
  rcases hr.2 with h | ⟨b, off, rfl, _⟩
  · omega
  · by_cases hc : c = i + 1
    · exact without_at b off m c i rows w hr hm hs.1 hs.2.1 hi hc
    · exact without_past b off m c i rows w hr hm hs.1 hs.2.1 hi hc
/-- What the search for an order leaves. -/
def OrdPost (w : World) (aP : Option Addr) (r : Option (List Nat)) (e : Ending) (w' : World) : Prop :=
  Ext w w' ∧ ((r = none ∧ e = .returned (.tuple #[.slice none 0 0, .bool false])) ∨ ∃ σ a c, r = some σ ∧ e = .returned (.tuple #[.slice a σ.length c, .bool true]) ∧ Reads w' a σ.length (rI σ) ∧ (a = aP ∨ ∀ z, blk a = some z → w.heap.size ≤ z))
theorem orderM_succ (k : Nat) (xs : List Int) (R m : Nat) (placed left : List Nat) (h : likeB k xs R placed = true) (r : Option (List Nat)) (i : Nat) (hi : i ≤ m + 1)
    (h0 : ∀ p, p < i → orderM k xs R m (placed ++ [ni left p]) (left.eraseIdx p) = none) (h1 : (i = m + 1 ∧ r = none) ∨ (i < m + 1 ∧ ∃ σ, r = some σ ∧ orderM k xs R m (placed ++ [ni left i]) (left.eraseIdx i) = some σ)) : orderM k xs R (m + 1) placed left = r := by
  rw [orderM, if_pos h]
  rcases h1 with ⟨rfl, rfl⟩ | ⟨h1, σ, rfl, h2⟩
  · rw [List.findSome?_eq_none_iff]
    exact fun p hp => h0 p (List.mem_range.1 hp)
  · rw [List.findSome?_eq_some_iff]
    refine ⟨List.range i, i, List.range' (i + 1) (m - i), ?_, h2, fun p hp => h0 p (List.mem_range.1 hp)⟩
    rw [List.range_eq_range', List.range_eq_range', show m + 1 = i + ((m - i) + 1) by omega, ← List.range'_append_1, Nat.zero_add, List.range'_succ]
set_option maxRecDepth 100000 in
set_option maxHeartbeats 3200000 in
theorem orderLike_impl (B R da od n cD : Nat) (v2 v3 : Value) (xs : List Int) {k : Nat} {u : TypeId} {v : Value} {gr gb gn : FuncId} {vr vb vn : Value} (hF : FamOk k u v gr gb gn vr vb vn) (W : World) (hB : Cells W B [.int .i64 (R : Nat), .slice (some ⟨da, od, none⟩) n cD, v2, v3]) (hr : Reads W (some ⟨da, od, none⟩) n xs) (hn : n = R * R) (hR : R ≤ 4) :
    ∀ (m : Nat) (placed left : List Nat) (aP aL : Option Addr) (cP cL : Nat) (w : World), Ext W w → left.length = m → placed.length + m ≤ 4 → (∀ x, x ∈ placed ++ left → x < R) → Reads w aP placed.length (rI placed) → Plain aP placed.length → (aP = none → cP = 0) → Reads w aL m (rI left) → SlcOk aL m cL →
    Calls Tryz.prog 145 #[.pointer (some ⟨B, 0, none⟩), .iface u v, .slice aP placed.length cP, .slice aL m cL] w (OrdPost w aP (orderM k xs R m placed left)) := by
  intro m
  induction m with
  | zero =>
    intro placed left aP aL cP cL w hE hl h4 hx hP hPP hPc hL hLs
    have HL := isLike_impl B R da od n cD v2 v3 xs hF aP placed.length cP placed w (hB.ext hE) (hr.ext hE) hn hR hP (by omega) (fun i hi => hx _ (by
      have e : ni placed i = placed[i] := by simp [ni, hi]
      rw [e]; exact List.mem_append.2 (Or.inl (List.getElem_mem _))))
    have HL := Lib.hid HL
    have HP := Lib.hid hP
    rcases hk : likeB k xs R placed with _ | _
    · have HO : Hid (orderM k xs R 0 placed left = none) := by rw [Hid, orderM, hk]; rfl
      rw [hk] at HL
      clear hP hPP hPc hL hLs hB hr hn hF hx hk hl hE h4
      generalize placed.length = np at *
      go_enter Tryz.func145, Tryz.ntmps145
      go_wp2_with fail
      refine HL.out.mono ?_
      rintro e w2 ⟨rfl, h2⟩
      go_wp2
      go_ret2
      exact ⟨h2, .inl ⟨HO.out, rfl⟩⟩
    · have HO : Hid (orderM k xs R 0 placed left = some placed) := by rw [Hid, orderM, hk]; rfl
      rw [hk] at HL
      obtain ⟨np, hnp⟩ : ∃ np, placed.length = np := ⟨_, rfl⟩
      have HNP := Lib.hid hnp
      rw [hnp] at HL HP ⊢
      clear hP hPP hPc hL hLs hB hr hn hF hx hk hl hE h4 hnp
      go_enter Tryz.func145, Tryz.ntmps145
      go_wp2_with fail
      refine HL.out.mono ?_
      rintro e w2 ⟨rfl, h2⟩
      go_wp2
      go_ret2
      exact ⟨h2, .inr ⟨placed, aP, cP, HO.out, by rw [HNP.out]; rfl, by rw [HNP.out]; exact HP.out.ext h2, .inl rfl⟩⟩
  | succ m ih =>
    intro placed left aP aL cP cL w hE hl h4 hx hP hPP hPc hL hLs
    have HLK := Lib.hid (isLike_impl B R da od n cD v2 v3 xs hF aP placed.length cP placed w (hB.ext hE) (hr.ext hE) hn hR hP (by omega) (fun i hi => hx _ (by
      have e : ni placed i = placed[i] := by simp [ni, hi]
      rw [e]; exact List.mem_append.2 (Or.inl (List.getElem_mem _)))))
    have HP := Lib.hid hP
    have HL := Lib.hid hL
    have HE := Lib.hid hE
    have HX := Lib.hid hx
    have HPP := Lib.hid hPP
    have HPC := Lib.hid hPc
    have HLS := Lib.hid hLs
    have HLL := Lib.hid hl
    have IH := Lib.hid ih
    rcases hk : likeB k xs R placed with _ | _
    · have HO : Hid (orderM k xs R (m + 1) placed left = none) := by rw [Hid, orderM, hk]; rfl
      rw [hk] at HLK
      clear hP hPP hPc hL hLs hB hr hn hF hx hk hl hE ih IH
      generalize placed.length = np at *
      go_enter Tryz.func145, Tryz.ntmps145
      go_wp2_with fail
      refine HLK.out.mono ?_
      rintro e w2 ⟨rfl, h2⟩
      go_wp2
      go_ret2
      exact ⟨h2, .inl ⟨HO.out, rfl⟩⟩
    · have HSU := Lib.hid (orderM_succ k xs R m placed left hk)
      rw [hk] at HLK
      obtain ⟨np, hnp⟩ : ∃ np, placed.length = np := ⟨_, rfl⟩
      have HNP := Lib.hid hnp
      rw [hnp] at HLK HP HPP h4 ⊢
      have hm1 : ¬ (m : Int) + 1 = 0 := by omega
      have hm2 : ((m : Int) + 1 == 0) = false := by simp; omega
      clear hP hPP hPc hL hLs hB hr hn hF hx hk hl hE hnp ih
      go_enter Tryz.func145, Tryz.ntmps145
      go_wp2_with fail
      refine HLK.out.mono ?_
      rintro e w2 ⟨rfl, h2⟩
      clear HLK
      go_wp2_with fail
      go_loopw [25, 10, 11, 12, 13] (fun z _ _ _ _ wr => ∃ i : Nat, i ≤ m + 1 ∧ z = .int .i64 i ∧ Hid (Ext w wr) ∧ Hid (∀ p, p < i → orderM k xs R m (placed ++ [ni left p]) (left.eraseIdx p) = none)) (fun z _ _ _ _ _ => m + 1 - (intOf z).toNat)
      case atStart => exact ⟨0, by omega, rfl, h2, fun p h => by omega⟩
      case round =>
        clear h2
        obtain ⟨i, hi, rfl, hE, hD⟩ := hrel
        by_cases h1 : i < m + 1
        · have h1' : (i : Int) < (m : Int) + 1 := by omega
          have HRW := HL.out.ext hE.out
          obtain ⟨b0, o0, rfl⟩ : ∃ b0 o0, aL = some ⟨b0, o0, none⟩ := by
            rcases HRW.2 with h | ⟨b3, o3, h, _⟩
            · omega
            · exact ⟨b3, o3, h⟩
          have c0 : wr.cell? ⟨b0, o0 + i, none⟩ = some (.int .i64 (ni left i : Nat)) := by
            rcases HRW.2 with h | ⟨b3, o3, h, hb3, hc3⟩
            · omega
            · simp only [Option.some.injEq, Addr.mk.injEq, and_true] at h
              obtain ⟨rfl, rfl⟩ := h
              rw [← gi_rI]; exact hc3 i h1
          have hmem : ni left i ∈ left := by
            have e : ni left i = left[i]'(by rw [HLL.out]; exact h1) := by simp [ni, show i < left.length by rw [HLL.out]; exact h1]
            rw [e]; exact List.getElem_mem _
          have HXI : Hid (∀ x, x ∈ (placed ++ [ni left i]) ++ left.eraseIdx i → x < R) := fun x hx => by
            refine HX.out x ?_
            rcases List.mem_append.1 hx with h | h
            · rcases List.mem_append.1 h with h | h
              · exact List.mem_append.2 (Or.inl h)
              · rw [List.mem_singleton] at h; subst h; exact List.mem_append.2 (Or.inr hmem)
            · exact List.mem_append.2 (Or.inr (List.mem_of_mem_eraseIdx h))
          have HEL : Hid ((left.eraseIdx i).length = m) := by rw [Hid, List.length_eraseIdx, if_pos (by rw [HLL.out]; exact h1), HLL.out, Nat.add_sub_cancel]
          have HAL : Hid ((placed ++ [ni left i]).length = np + 1) := by rw [Hid, List.length_append, HNP.out]; rfl
          have HRA : Hid (rI (placed ++ [ni left i]) = rI placed ++ [((ni left i : Nat) : Int)]) := rI_app _ _
          obtain ⟨r, hr⟩ : ∃ r, ni left i = r := ⟨_, rfl⟩
          rw [hr] at c0 HXI HAL HRA
          have HRI := Lib.hid hr
          clear hr hmem HRW
          have hp1 : Ext wr (wr.alloc (.cells #[.int .i64 (r : Nat)] 3)) := (Ext.refl wr).alloc _
          have HR2 : Hid (Reads ((wr.alloc (.cells #[.int .i64 (r : Nat)] 3)).alloc (.cells #[.slice aP np cP, .slice (some ⟨wr.heap.size, 0, none⟩) 1 1] 22)) (some ⟨wr.heap.size, 0, none⟩) 1 [((r : Nat) : Int)]) := by
            have h9 : Has (wr.alloc (.cells #[.int .i64 (r : Nat)] 3)) wr.heap.size [((r : Nat) : Int)] := Has.new wr [((r : Nat) : Int)]
            exact (h9.alloc _).reads rfl
          have hq := cells_new (wr.alloc (.cells #[.int .i64 (r : Nat)] 3)) #[.slice aP np cP, .slice (some ⟨wr.heap.size, 0, none⟩) 1 1] 22
          rw [show (wr.alloc (.cells #[.int .i64 (r : Nat)] 3)).heap.size = wr.heap.size + 1 by simp] at hq
          have HCQ := Lib.hid hq
          have HPX : Hid (Ext wr ((wr.alloc (.cells #[.int .i64 (r : Nat)] 3)).alloc (.cells #[.slice aP np cP, .slice (some ⟨wr.heap.size, 0, none⟩) 1 1] 22))) := hp1.alloc _
          clear hq hp1
          go_wp2_with fail
          generalize ((wr.alloc (.cells #[.int .i64 (r : Nat)] 3)).alloc (.cells #[.slice aP np cP, .slice (some ⟨wr.heap.size, 0, none⟩) 1 1] 22)) = W2 at *
          refine (concat_any (wr.heap.size + 1) np 1 cP 1 2 aP (some ⟨wr.heap.size, 0, none⟩) (rI placed) [((r : Nat) : Int)] W2 (HCQ.out.2 0 _ rfl) (HCQ.out.2 1 _ rfl) HCQ.out.1 (HP.out.ext (hE.out.trans HPX.out)) HR2.out HPP.out (.inr ⟨_, _, rfl⟩) (by omega) (by omega) HPC.out (fun h => by cases h)).mono ?_
          rintro e w3 ⟨a3, c3, rfl, ho3, hs3, h3⟩
          have E3 := Lib.hid ((hE.out.trans HPX.out).trans h3)
          have HO3 := Lib.hid ho3
          have HS3 := Lib.hid hs3
          have HB3 : Hid (∀ z, blk a3 = some z → w.heap.size ≤ z) := fun z hz => Nat.le_trans (hE.out.trans HPX.out).le (ho3.blk z hz).1
          clear ho3 hs3 h3 HPX HR2 HCQ hE c0
          go_wp2_with fail
          refine (without_impl (some ⟨b0, o0, none⟩) (m + 1) cL i left _ (HL.out.ext E3.out) (by omega) HLS.out h1).mono ?_
          rintro e w4 ⟨a4, c4, rfl, ho4, hs4, h4'⟩
          have E4 := Lib.hid (E3.out.trans h4')
          have HO3' := Lib.hid (HO3.out.ext h4')
          have HO4 := Lib.hid ho4
          have HE4 : Hid (w.heap.size ≤ w4.heap.size) := E4.out.le
          have HS4 := Lib.hid hs4
          rw [Nat.add_sub_cancel] at HO4 HS4 ⊢
          clear ho4 hs4 h4' E3 HO3
          go_wp2_with fail
          have hcall := IH.out (placed ++ [r]) (left.eraseIdx i) a3 a4 c3 c4 w4 (HE.out.trans E4.out) HEL.out (by rw [HAL.out]; omega) HXI.out (by rw [HAL.out, HRA.out]; exact HO3'.out.reads) (by rw [HAL.out]; exact Plain.ofOwn HO3'.out) HS3.out.2.2 HO4.out.reads HS4.out
          rw [HAL.out] at hcall
          refine hcall.mono ?_
          clear hcall
          rintro e w5 ⟨h5, hres⟩
          have E5 := Lib.hid (E4.out.trans h5)
          clear h5 E4 HO3' HO4 HS3 HS4
          rcases hres with ⟨hno, rfl⟩ | ⟨σ, a5, c5, hyes, rfl, hr5, hf5⟩
          · have hD3 : Hid (∀ p, p < i + 1 → orderM k xs R m (placed ++ [ni left p]) (left.eraseIdx p) = none) := fun p hp => by
              by_cases e : p = i
              · subst e; rw [HRI.out]; exact hno
              · exact hD.out p (by omega)
            clear hno hD
            go_wp2
            exact ⟨⟨i + 1, by omega, by simp, E5, hD3⟩, by simp [intOf]; omega⟩
          · have HF := Lib.hid (HSU.out (some σ) i hi hD.out (.inr ⟨h1, σ, rfl, by rw [HRI.out]; exact hyes⟩))
            have HR5 := Lib.hid hr5
            have HF5 : Hid (∀ z, blk a5 = some z → w.heap.size ≤ z) := fun z hz => by
              rcases hf5 with e | e
              · exact HB3.out z (e ▸ hz)
              · exact Nat.le_trans HE4.out (e z hz)
            obtain ⟨nq, hnq⟩ : ∃ nq, σ.length = nq := ⟨_, rfl⟩
            have HNQ := Lib.hid hnq
            rw [hnq] at HR5 ⊢
            clear hyes hD hr5 hnq
            go_wp2
            go_ret2
            exact ⟨E5.out, .inr ⟨σ, a5, c5, HF.out, by rw [HNQ.out]; rfl, by rw [HNQ.out]; exact HR5.out, .inr HF5.out⟩⟩
        · obtain rfl : i = m + 1 := by omega
          have HF := Lib.hid (HSU.out none (m + 1) (Nat.le_refl _) hD.out (.inl ⟨rfl, rfl⟩))
          go_wp2
          go_ret2
          exact ⟨hE.out, .inl ⟨HF.out, rfl⟩⟩
end Go.Proofs.YtlnpaplbcocmkaaGreat
