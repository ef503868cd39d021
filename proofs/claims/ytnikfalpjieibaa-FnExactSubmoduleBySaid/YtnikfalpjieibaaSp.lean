/-
  Spaces: what is asked of each row, and SpaceOk of both texts.
-/
import Derived.Test.YtnikfalpjieibaaNc
import Derived.Test.YtnikfalpjieibaaR1
import Derived.Deep.RegionWith
namespace Go.Proofs.Ytnikfalpjieibaa
open Go.RowKit
set_option linter.unusedVariables false

/-! Spaces by their shape. -/
/-- A row of a matrix, as a list. -/
def rowL (C : Nat) (xs : List Int) (r : Nat) : List Int := (xs.drop (r * C)).take C
/-- The place of its first number other than 0 (C where there is none). -/
def lead (C : Nat) (xs : List Int) (r : Nat) : Nat := fz (rowL C xs r) 0
/-- What is asked of row r of a space. -/
def RowOk (R C : Nat) (xs : List Int) (r : Nat) : Prop := lead C xs r < C ∧ at2 C xs r (lead C xs r) = 1 ∧ (r = 0 ∨ lead C xs (r - 1) < lead C xs r) ∧ ∀ i, i < R → i ≠ r → at2 C xs i (lead C xs r) = 0
def leads (R C : Nat) (xs : List Int) : List Nat := (List.range R).map (lead C xs)
section
variable {P : Int} {R C : Nat} {xs : List Int}
theorem rowL_length (hl : xs.length = R * C) {r : Nat} (hr : r < R) : (rowL C xs r).length = C := row_len hl hr
theorem gi_rowL {r c : Nat} (hc : c < C) : gi (rowL C xs r) c = at2 C xs r c := by
  rw [rowL, gi_take _ _ _ hc, gi_drop]; rfl
theorem lead_spec (hl : xs.length = R * C) {r : Nat} (hr : r < R) : lead C xs r ≤ C ∧ (∀ c, c < lead C xs r → at2 C xs r c = 0) ∧ (lead C xs r < C → at2 C xs r (lead C xs r) ≠ 0) := by
  have hlr := rowL_length hl hr
  obtain ⟨a, b, c, d⟩ := fz_spec (rowL C xs r) _ 0 rfl (Nat.zero_le _)
  rw [hlr] at b d
  refine ⟨b, fun q hq => ?_, fun h => ?_⟩
  · have := c q (Nat.zero_le _) hq
    rwa [gi_rowL (by unfold lead at hq; omega)] at this
  · have h2 := d h
    rw [gi_rowL (show fz (rowL C xs r) 0 < C from h)] at h2
    exact h2
theorem leads_length : (leads R C xs).length = R := by simp [leads]
theorem leads_get {i : Nat} (h : i < R) : (leads R C xs).getD i 0 = lead C xs i := by simp [leads, List.getD_eq_getElem?_getD, h]
theorem rowsOk_rref (hp : 0 < P) (hl : xs.length = R * C) (hx : Res xs P) (h : ∀ r, r < R → RowOk R C xs r) : Rref P C (at2 C xs) (leads R C xs) := by
  have hup : ∀ i j, i < j → j < R → lead C xs i < lead C xs j := by
    intro i j hij hj
    induction j with
    | zero => omega
    | succ j ih =>
      have h1 := (h (j + 1) hj).2.2.1
      rcases h1 with h1 | h1
      · omega
      · rw [Nat.add_sub_cancel] at h1
        by_cases e : i = j
        · subst e; exact h1
        · have := ih (by omega) (by omega); omega
  refine ⟨fun i hi => ?_, fun i j hij hj => ?_, fun i hi => ?_, fun i j hi hj hne => ?_, fun i hi c hc => ?_, fun i _ c _ => at2_res hx hp i c⟩ <;> rw [leads_length] at *
  · rw [leads_get hi]; exact (h i hi).1
  · rw [leads_get (by omega), leads_get hj]; exact hup i j hij hj
  · rw [leads_get hi]; exact (h i hi).2.1
  · rw [leads_get hi]; exact (h i hi).2.2.2 j hj hne
  · rw [leads_get hi] at hc; exact (lead_spec hl hi).2.1 c hc
/-- A matrix is a space exactly if each row is as is asked. -/
theorem rowsOk_iff (hp : IsP P) (hl : xs.length = R * C) (hx : Res xs P) : (∀ r, r < R → RowOk R C xs r) ↔ IsSp P R C xs := by
  have h0 := hp.1
  constructor
  · intro h
    exact isSp_of_rref hp hl hx (rowsOk_rref (by omega) hl hx h) leads_length
  · intro hs
    have hr := hs.rref hp hl hx
    have hlead : ∀ r, r < R → lead C xs r = (redM P R C xs).pv.getD r 0 := by
      intro r hrR
      have hr' : r < (redM P R C xs).pv.length := by rw [hs.1]; exact hrR
      obtain ⟨a, b, c⟩ := lead_spec hl hrR
      have h1 := hr.one r hr'
      have h2 := hr.lt r hr'
      rcases Nat.lt_trichotomy (lead C xs r) ((redM P R C xs).pv.getD r 0) with hlt | heq | hgt
      · exact absurd (hr.zero r hr' _ hlt) (c (by omega))
      · exact heq
      · have := b _ hgt
        rw [h1] at this; omega
    intro r hrR
    have hr' : r < (redM P R C xs).pv.length := by rw [hs.1]; exact hrR
    refine ⟨by rw [hlead r hrR]; exact hr.lt r hr', by rw [hlead r hrR]; exact hr.one r hr', ?_, fun i hi hne => ?_⟩
    · by_cases e : r = 0
      · exact .inl e
      · right
        rw [hlead r hrR, hlead (r - 1) (by omega)]
        exact hr.up (r - 1) r (by omega) hr'
    · rw [hlead r hrR]
      exact hr.only r i hr' (by rw [hs.1]; exact hi) hne
theorem leads_pv (hp : IsP P) (hl : xs.length = R * C) (hx : Res xs P) (hs : IsSp P R C xs) : leads R C xs = (redM P R C xs).pv :=
  (rref_span hp hl hx (rowsOk_rref (by have := hp.1; omega) hl hx ((rowsOk_iff hp hl hx).2 hs)) leads_length).1.symm
end

/-- Column c has only zeros outside of row r. -/
def OnlyP (R C : Nat) (xs : List Int) (r c k : Nat) : Prop := ∀ i, i < k → i ≠ r → at2 C xs i c = 0
noncomputable def onlyB (R C : Nat) (xs : List Int) (r c : Nat) : Bool := @decide (OnlyP R C xs r c R) (Classical.propDecidable _)
theorem onlyB_true {R C : Nat} {xs : List Int} {r c : Nat} (h : OnlyP R C xs r c R) : onlyB R C xs r c = true := by simp [onlyB, h]
theorem onlyB_false {R C : Nat} {xs : List Int} {r c : Nat} (h : ¬ OnlyP R C xs r c R) : onlyB R C xs r c = false := by simp [onlyB, h]
set_option maxHeartbeats 1600000 in
theorem onlyIn_impl (P : Int) (R C r c b0 o0 n d : Nat) (xs : List Int) (w : World) (hr : Reads w (some ⟨b0, o0, none⟩) n xs) (hn : n = R * C) (hb : n ≤ 1048576) (hc : c < C) (hR : R ≤ 1048576) (hrr : r ≤ 1048576) :
    Calls Try.prog 147 #[.agg #[.int .i64 P, .int .i64 R, .int .i64 C, .slice (some ⟨b0, o0, none⟩) n d], .int .i64 r, .int .i64 c] w fun e w' => e = .returned (.bool (onlyB R C xs r c)) ∧ Ext w w' := by
  have HR := Lib.hid hr
  have HN := Lib.hid hn
  clear hr hn
  have hE : Hid (Ext w (w.alloc (.cells #[.int .i64 P, .int .i64 R, .int .i64 C, .slice (some ⟨b0, o0, none⟩) n d] 37))) := (Ext.refl w).alloc _
  go_enter Try.func147, Try.ntmps147
  go_wp2
  go_loop [10, 7] (fun z _ => ∃ i : Nat, i ≤ R ∧ z = .int .i64 i ∧ Hid (OnlyP R C xs r c i)) (fun z _ => R - (intOf z).toNat)
  case atStart => exact ⟨0, by omega, rfl, fun i hi => by omega⟩
  case round =>
    obtain ⟨i, hi, rfl, hf⟩ := hrel
    by_cases hlt : i < R
    · by_cases hir : i = r
      · have hb1 : ((i : Int) != (r : Int)) = false := by subst hir; simp
        have HF : Hid (OnlyP R C xs r c (i + 1)) := fun j hj hne => by
          by_cases e : j = i
          · exact absurd (e.trans hir) hne
          · exact hf.out j (by omega) hne
        clear hir
        go_wp2
        exact ⟨⟨i + 1, by omega, by simp, HF⟩, by simp [intOf]; omega⟩
      · have hb1 : ((i : Int) != (r : Int)) = true := by simp; omega
        have hpl := place_lt hlt hc
        have hcell : (w.alloc (.cells #[.int .i64 P, .int .i64 R, .int .i64 C, .slice (some ⟨b0, o0, none⟩) n d] 37)).cell? ⟨b0, o0 + (i * C + c), none⟩ = some (.int .i64 (gi xs (i * C + c))) := by
          rcases (HR.out.ext hE.out).2 with h | ⟨b', off', h, hb', hc'⟩
          · have := HN.out; omega
          simp only [Option.some.injEq, Addr.mk.injEq, and_true] at h
          obtain ⟨rfl, rfl⟩ := h
          exact hc' _ (by rw [HN.out]; exact hpl)
        have e1 : (i : Int) * (C : Int) = ((i * C : Nat) : Int) := by simp
        have g1 : 0 ≤ (i : Int) * (C : Int) := by rw [e1]; omega
        have g2 : (i : Int) * (C : Int) + (c : Int) < (n : Int) := by rw [e1, HN.out]; omega
        have g3 : 0 ≤ (i : Int) * (C : Int) + (c : Int) := by omega
        clear e1 hpl
        have HIR := Lib.hid hir
        clear hir
        by_cases h0 : gi xs (i * C + c) = 0
        · have hb0 : (gi xs (i * C + c) != 0) = false := by simpa using h0
          have HF : Hid (OnlyP R C xs r c (i + 1)) := fun j hj hne => by
            by_cases e : j = i
            · rw [e]; exact h0
            · exact hf.out j (by omega) hne
          clear h0
          go_wp2
          exact ⟨⟨i + 1, by omega, by simp, HF⟩, by simp [intOf]; omega⟩
        · have hb0 : (gi xs (i * C + c) != 0) = true := by simpa using h0
          have HF : Hid (onlyB R C xs r c = false) := onlyB_false (fun h => h0 (h i hlt HIR.out))
          clear h0
          go_wp2
          go_ret
          exact ⟨ret_bool HF.out.symm, hE.out⟩
    · obtain rfl : R = i := by omega
      have HF : Hid (onlyB R C xs r c = true) := onlyB_true hf.out
      go_wp2
      go_ret
      exact ⟨ret_bool HF.out.symm, hE.out⟩

/-- The leads that were found in the first k rows. -/
def plTo (R C : Nat) (xs : List Int) : Nat → List Int
  | 0 => List.replicate R 0
  | k + 1 => (plTo R C xs k).set k (lead C xs k)
theorem plTo_length (R C : Nat) (xs : List Int) (k : Nat) : (plTo R C xs k).length = R := by
  induction k with
  | zero => simp [plTo]
  | succ k ih => simp [plTo, ih]
theorem gi_plTo (R C : Nat) (xs : List Int) (k i : Nat) (hi : i < k) (hk : k ≤ R) : gi (plTo R C xs k) i = (lead C xs i : Int) := by
  induction k with
  | zero => omega
  | succ k ih =>
    rw [plTo, gi_set _ _ _ _ (by rw [plTo_length]; omega)]
    by_cases e : i = k
    · subst e; rw [if_pos rfl]
    · rw [if_neg e]; exact ih (by omega) (by omega)
theorem plTo_all (R C : Nat) (xs : List Int) : plTo R C xs R = pvI (leads R C xs) := by
  refine ext_gi (by rw [plTo_length, pvI_length, leads_length]) (fun i hi => ?_)
  rw [plTo_length] at hi
  rw [gi_plTo _ _ _ _ _ hi (Nat.le_refl _), gi_pvI, leads_get hi]
theorem reads_row {w : World} {b0 o0 R C n : Nat} {xs : List Int} (h : Reads w (some ⟨b0, o0, none⟩) n xs) (hn : n = R * C) {r : Nat} (hr : r < R) : Reads w (some ⟨b0, o0 + r * C, none⟩) C (rowL C xs r) := by
  have hl : xs.length = R * C := by rw [h.1, hn]
  refine ⟨rowL_length hl hr, ?_⟩
  by_cases hC : C = 0
  · exact .inl hC
  · have := row_lt (C := C) hr
    rcases h.2 with h2 | ⟨b, off, h2, hb, hc⟩
    · omega
    · simp only [Option.some.injEq, Addr.mk.injEq, and_true] at h2
      obtain ⟨rfl, rfl⟩ := h2
      refine .inr ⟨_, _, rfl, hb, fun j hj => ?_⟩
      rw [Nat.add_assoc, hc _ (by omega), gi_rowL hj]; rfl
noncomputable def rowsB (R C : Nat) (xs : List Int) : Bool := @decide (∀ r, r < R → RowOk R C xs r) (Classical.propDecidable _)
theorem rowsB_true {R C : Nat} {xs : List Int} (h : ∀ r, r < R → RowOk R C xs r) : rowsB R C xs = true := by simp only [rowsB, decide_eq_true_eq]; exact h
theorem rowsB_false {R C : Nat} {xs : List Int} {r : Nat} (hr : r < R) (h : ¬ RowOk R C xs r) : rowsB R C xs = false := by
  simp only [rowsB, decide_eq_false_iff_not]; exact fun h2 => h (h2 r hr)
/-- What pivotsOf leaves. -/
def PvPost (w : World) (R C : Nat) (xs : List Int) (ok : Bool) (e : Ending) (w' : World) : Prop := ∃ a m c, e = .returned (.tuple #[.slice a m c, .bool ok]) ∧ (ok = true → Own w' w.heap.size w'.heap.size a m (pvI (leads R C xs)) ∧ m = R) ∧ (ok = false → a = none ∧ m = 0 ∧ c = 0) ∧ Ext w w'

set_option maxRecDepth 100000 in
set_option maxHeartbeats 12800000 in
theorem pivotsOf_main (P : Int) (R C a0 oa n : Nat) (xs : List Int) (w : World) (hr : Reads w (some ⟨a0, oa, none⟩) n xs) (hn : n = R * C) (hb : n ≤ 1048576) (hR : R ≤ 40) (hC : C ≤ 40) (hok : mok P R C xs = true) (hx : Res xs P) :
    Calls Try.prog 144 #[.agg #[.int .i64 P, .int .i64 R, .int .i64 C, .slice (some ⟨a0, oa, none⟩) n n]] w (PvPost w R C xs (rowsB R C xs)) := by
  have HR := Lib.hid hr
  have HN := Lib.hid hn
  have HOK := Lib.hid hok
  have HX := Lib.hid hx
  have HL : Hid (xs.length = R * C) := by show xs.length = R * C; rw [hr.1, hn]
  have hm1 : n ≤ maxLen := by unfold maxLen; omega
  have hmk := make_ints R (by omega)
  clear hr hn hok hx
  go_enter Try.func144, Try.ntmps144
  have A0_1 := Lib.hid (cells_new' w #[.int .i64 P, .int .i64 R, .int .i64 C, .slice (some ⟨a0, oa, none⟩) n n] 37 (w.heap.size) (by simp))
  have E_2 := Lib.hid ((Ext.refl w).alloc (.cells #[.int .i64 P, .int .i64 R, .int .i64 C, .slice (some ⟨a0, oa, none⟩) n n] 37))
  have lA0 := A0_1.out.1
  have qA00 := A0_1.out.2 0 _ rfl
  have qA01 := A0_1.out.2 1 _ rfl
  have qA02 := A0_1.out.2 2 _ rfl
  have qA03 := A0_1.out.2 3 _ rfl
  try simp only [World.size_alloc] at lA0
  go_wp2_with fail
  refine (matrixOk_impl _ _ _ _ _ _ xs _ (HR.out.ext E_2.out) hm1).mono ?_
  rintro e w_3 ⟨rfl, h_3⟩
  clear lA0 qA00 qA01 qA02 qA03
  have A0_4 := Lib.hid (A0_1.out.ext h_3)
  clear A0_1
  have E_5 := Lib.hid (E_2.out.trans h_3)
  clear E_2
  rw [HOK.out]
  have l_A := Lib.hid A0_4.out.1
  have lA0 := A0_4.out.1
  have qA00 := A0_4.out.2 0 _ rfl
  have qA01 := A0_4.out.2 1 _ rfl
  have qA02 := A0_4.out.2 2 _ rfl
  have qA03 := A0_4.out.2 3 _ rfl
  try simp only [World.size_alloc] at lA0
  go_upto_region 4 with fail
  have L0 : Hid (Loc w (w_3.alloc (.cells (ints (List.replicate R 0)) 3)) w.heap.size w_3.heap.size [.int .i64 P, .int .i64 R, .int .i64 C, .slice (some ⟨a0, oa, none⟩) n n] (plTo R C xs 0)) :=
    ⟨A0_4.out.ext ((Ext.refl _).alloc _), Has.new _ _, E_5.out.alloc _, by have := l_A.out; omega, by simp, by have := l_A.out; omega⟩
  generalize w_3.alloc (.cells (ints (List.replicate R 0)) 3) = W at L0 ⊢
  have hbp : Hid (w.heap.size < w_3.heap.size) := l_A.out
  generalize w_3.heap.size = p at L0 hbp ⊢
  clear lA0 qA00 qA01 qA02 qA03
  clear A0_4 E_5 l_A hmk h_3
  have lA := L0.out.box.1
  have q1 := L0.out.box.2 1 _ rfl
  go_wp2_with fail
  clear lA q1
  go_loopw [16, 5, 6, 7] (fun z _ _ _ wr => ∃ r : Nat, r ≤ R ∧ z = .int .i64 r ∧ Hid (∀ i, i < r → RowOk R C xs i) ∧ Hid (Loc w wr w.heap.size p [.int .i64 P, .int .i64 R, .int .i64 C, .slice (some ⟨a0, oa, none⟩) n n] (plTo R C xs r))) (fun z _ _ _ _ => R - (intOf z).toNat)
  case atStart => exact ⟨0, by omega, rfl, fun i hi => by omega, L0⟩
  case round =>
    clear L0
    obtain ⟨r, hr, rfl, hf, L⟩ := hrel
    by_cases hlt : r < R
    · obtain ⟨k1, k2, k3⟩ := lead_spec HL.out hlt
      have hrn := row_n hlt HN.out
      have lA := L.out.box.1
      have q0 := L.out.box.2 0 _ rfl
      have q1 := L.out.box.2 1 _ rfl
      have q2 := L.out.box.2 2 _ rfl
      have q3 := L.out.box.2 3 _ rfl
      go_wp2_with fail
      refine (rowOf_impl P R C r a0 oa n _ hrn hb (by omega)).mono ?_
      rintro e w2 ⟨rfl, h2⟩
      clear lA q0 q1 q2 q3
      have L2 := Lib.hid (L.out.step h2)
      clear L h2
      go_wp2_with fail
      refine (firstNonzero_impl _ _ _ (rowL C xs r) _ (reads_row (HR.out.ext L2.out.ext) HN.out hlt) (by unfold maxLen; omega)).mono ?_
      rintro e w' ⟨rfl, rfl⟩
      have hlr := rowL_length HL.out hlt
      by_cases hno : lead C xs r = C
      · have hz : fzR (rowL C xs r) = -1 := if_pos (by rw [hlr]; exact hno)
        have HW : Hid (¬ RowOk R C xs r) := fun h => by have := h.1; omega
        rw [hz]
        clear hz hno k1 k2 k3 hlr hrn
        have HF : Hid (rowsB R C xs = false) := rowsB_false hlt HW.out
        go_wp2
        go_ret2
        rw [HF.out]
        exact ⟨none, 0, 0, rfl, fun h => by simp at h, fun _ => ⟨rfl, rfl, rfl⟩, L2.out.ext⟩
      · have hlc : lead C xs r < C := by omega
        have hz : fzR (rowL C xs r) = ((lead C xs r : Nat) : Int) := if_neg (by rw [hlr]; exact hno)
        rw [hz]
        have HK3 := Lib.hid (k3 hlc)
        have HQ : Hid (lead C xs r = lead C xs r) := rfl
        have hx1 := reads_row (HR.out.ext L2.out.ext) HN.out hlt
        have hcell : w2.cell? ⟨a0, oa + r * C + lead C xs r, none⟩ = some (.int .i64 (at2 C xs r (lead C xs r))) := by
          rcases hx1.2 with h | ⟨b', off', h, hb', hc'⟩
          · omega
          simp only [Option.some.injEq, Addr.mk.injEq, and_true] at h
          obtain ⟨rfl, rfl⟩ := h
          rw [hc' _ hlc, gi_rowL hlc]
        clear hx1 hz hno k1 k2 k3 hlr
        have HWI : Hid (∀ i, i < r + 1 → (i = r → RowOk R C xs r) → RowOk R C xs i) := fun i hi h => by
          by_cases e : i = r
          · rw [e]; exact h e
          · exact hf.out i (by omega)
        have HPL : Hid (plTo R C xs (r + 1) = (plTo R C xs r).set r (lead C xs r)) := rfl
        have HRK : Hid (RowOk R C xs r ↔ lead C xs r < C ∧ at2 C xs r (lead C xs r) = 1 ∧ (r = 0 ∨ lead C xs (r - 1) < lead C xs r) ∧ ∀ i, i < R → i ≠ r → at2 C xs i (lead C xs r) = 0) := Iff.rfl
        clear HQ HK3
        generalize lead C xs r = c at hlc hcell HPL HRK ⊢
        by_cases h1 : at2 C xs r c = 1
        case neg =>
          have hb1 : (at2 C xs r c != 1) = true := by simpa using h1
          have HW : Hid (¬ RowOk R C xs r) := fun h => h1 (HRK.out.1 h).2.1
          clear h1
          have HF : Hid (rowsB R C xs = false) := rowsB_false hlt HW.out
          go_wp2
          go_ret2
          rw [HF.out]
          exact ⟨none, 0, 0, rfl, fun h => by simp at h, fun _ => ⟨rfl, rfl, rfl⟩, L2.out.ext⟩
        rw [h1] at hcell
        have HA := Lib.hid h1
        clear h1
        by_cases hr0 : 0 < r
        case neg =>
          have HR0 : Hid (r = 0) := by show r = 0; omega
          have hb3 : decide (0 < r) = false := by simpa using hr0
          have lA := L2.out.box.1
          have q0 := L2.out.box.2 0 _ rfl
          have q1 := L2.out.box.2 1 _ rfl
          have q2 := L2.out.box.2 2 _ rfl
          have q3 := L2.out.box.2 3 _ rfl
          go_wp2_with fail
          refine (onlyIn_impl P R C r c a0 oa n _ xs _ (HR.out.ext L2.out.ext) HN.out hb hlc (by omega) (by omega)).mono ?_
          rintro e w5 ⟨rfl, h5⟩
          clear lA q0 q1 q2 q3
          have L5 := Lib.hid (L2.out.step h5)
          clear L2 h5
          by_cases hon : OnlyP R C xs r c R
          case neg =>
            have HW : Hid (¬ RowOk R C xs r) := fun h => hon (fun i hi hne => (HRK.out.1 h).2.2.2 i hi hne)
            rw [onlyB_false hon]
            clear hon
            have HF : Hid (rowsB R C xs = false) := rowsB_false hlt HW.out
            go_wp2
            go_ret2
            rw [HF.out]
            exact ⟨none, 0, 0, rfl, fun h => by simp at h, fun _ => ⟨rfl, rfl, rfl⟩, L5.out.ext⟩
          have HOKR : Hid (RowOk R C xs r) := HRK.out.2 ⟨hlc, HA.out, .inl HR0.out, hon⟩
          rw [onlyB_true hon]
          have HF2 : Hid (∀ i, i < r + 1 → RowOk R C xs i) := fun i hi => HWI.out i hi (fun _ => HOKR.out)
          have hf5 := L5.out.has.free r
          have hc5 := L5.out.has.cell r (by rw [plTo_length]; exact hlt)
          have N : Hid (Loc w (w5.setCell ⟨p, r, none⟩ (.int .i64 c)) w.heap.size p [.int .i64 P, .int .i64 R, .int .i64 C, .slice (some ⟨a0, oa, none⟩) n n] (plTo R C xs (r + 1))) := by rw [HPL.out]; exact L5.out.set r (by rw [plTo_length]; exact hlt) _
          clear hon hf
          go_wp2
          exact ⟨⟨r + 1, by omega, by simp, HF2, N⟩, by simp [intOf]; omega⟩
        have hx2 := L2.out.has.cell (r - 1) (by rw [plTo_length]; omega)
        rw [gi_plTo _ _ _ _ _ (by omega) hr] at hx2
        have g1 : 0 ≤ (r : Int) - 1 := by omega
        have g2 : (r : Int) - 1 < (R : Int) := by omega
        have g3 : ((r : Int) - 1).toNat = r - 1 := by omega
        have HLP : Hid (r = 0 ∨ lead C xs (r - 1) < c ↔ lead C xs (r - 1) < c) := ⟨fun h => h.resolve_left (by omega), fun h => .inr h⟩
        generalize lead C xs (r - 1) = c' at hx2 HRK HLP
        by_cases hle : c ≤ c'
        case pos =>
          have HW : Hid (¬ RowOk R C xs r) := fun h => by have := HLP.out.1 (HRK.out.1 h).2.2.1; omega
          have HF : Hid (rowsB R C xs = false) := rowsB_false hlt HW.out
          go_wp2
          go_ret2
          rw [HF.out]
          exact ⟨none, 0, 0, rfl, fun h => by simp at h, fun _ => ⟨rfl, rfl, rfl⟩, L2.out.ext⟩
        have HLT : Hid (r = 0 ∨ c' < c) := .inr (by omega)
        have lA := L2.out.box.1
        have q0 := L2.out.box.2 0 _ rfl
        have q1 := L2.out.box.2 1 _ rfl
        have q2 := L2.out.box.2 2 _ rfl
        have q3 := L2.out.box.2 3 _ rfl
        go_wp2_with fail
        refine (onlyIn_impl P R C r c a0 oa n _ xs _ (HR.out.ext L2.out.ext) HN.out hb hlc (by omega) (by omega)).mono ?_
        rintro e w5 ⟨rfl, h5⟩
        clear lA q0 q1 q2 q3
        have L5 := Lib.hid (L2.out.step h5)
        clear L2 h5
        by_cases hon : OnlyP R C xs r c R
        case neg =>
          have HW : Hid (¬ RowOk R C xs r) := fun h => hon (fun i hi hne => (HRK.out.1 h).2.2.2 i hi hne)
          rw [onlyB_false hon]
          clear hon
          have HF : Hid (rowsB R C xs = false) := rowsB_false hlt HW.out
          go_wp2
          go_ret2
          rw [HF.out]
          exact ⟨none, 0, 0, rfl, fun h => by simp at h, fun _ => ⟨rfl, rfl, rfl⟩, L5.out.ext⟩
        have HOKR : Hid (RowOk R C xs r) := HRK.out.2 ⟨hlc, HA.out, HLT.out, hon⟩
        rw [onlyB_true hon]
        have HF2 : Hid (∀ i, i < r + 1 → RowOk R C xs i) := fun i hi => HWI.out i hi (fun _ => HOKR.out)
        have hf5 := L5.out.has.free r
        have hc5 := L5.out.has.cell r (by rw [plTo_length]; exact hlt)
        have N : Hid (Loc w (w5.setCell ⟨p, r, none⟩ (.int .i64 c)) w.heap.size p [.int .i64 P, .int .i64 R, .int .i64 C, .slice (some ⟨a0, oa, none⟩) n n] (plTo R C xs (r + 1))) := by rw [HPL.out]; exact L5.out.set r (by rw [plTo_length]; exact hlt) _
        clear hon hf
        go_wp2
        exact ⟨⟨r + 1, by omega, by simp, HF2, N⟩, by simp [intOf]; omega⟩
    · obtain rfl : R = r := by omega
      have HF : Hid (rowsB R C xs = true) := rowsB_true hf.out
      have HO := Lib.hid (L.out.own (plTo_length R C xs R))
      go_wp2
      go_ret2
      rw [HF.out]
      exact ⟨_, R, R, rfl, fun _ => ⟨by rw [← plTo_all]; exact HO.out, rfl⟩, fun h => by simp at h, L.out.ext⟩
end Go.Proofs.Ytnikfalpjieibaa

/-
  SpaceOk of both texts.
-/
namespace Go.Proofs.Ytnikfalpjieibaa
open Go.RowKit
set_option linter.unusedVariables false

noncomputable def spB (P : Int) (R C : Nat) (xs : List Int) : Bool := @decide (IsSp P R C xs) (Classical.propDecidable _)
noncomputable def spaceM (P R C : Int) (xs : List Int) : Bool := mok P R C xs && spB P R.toNat C.toNat xs
theorem rowsB_sp {P : Int} {R C : Nat} {xs : List Int} (hp : IsP P) (hl : xs.length = R * C) (hx : Res xs P) : rowsB R C xs = spB P R C xs := by
  have h := rowsOk_iff hp hl hx
  by_cases e : IsSp P R C xs
  · rw [rowsB_true (h.2 e)]; simp [spB, e]
  · have : ¬ ∀ r, r < R → RowOk R C xs r := fun h2 => e (h.1 h2)
    simp only [rowsB, spB, e, decide_false, decide_eq_false_iff_not]; exact this
theorem drewN_ext {w : World} (m : Nat) : Ext w (w.drewN m) := below_drewN m

set_option maxRecDepth 100000 in
set_option maxHeartbeats 3200000 in
theorem pivotsOf_impl {P R C : Int} {a0 oa n : Nat} {xs : List Int} {w : World}  (h : Reads w (some ⟨a0, oa, none⟩) n xs) (hm : n ≤ 1048576)  :
    Calls Try.prog 144 #[.agg #[.int .i64 P, .int .i64 R, .int .i64 C, .slice (some ⟨a0, oa, none⟩) n n]] w fun e w' => PvPost w R.toNat C.toNat xs (spaceM P R C xs) e w' := by
  have HR := Lib.hid h
  have hm1 : n ≤ maxLen := by unfold maxLen; omega
  clear h
  rcases h1 : mok P R C xs with _ | _
  · have HS : Hid (spaceM P R C xs = false) := by simp [Hid, spaceM, h1]
    go_enter Try.func144, Try.ntmps144
    have A0_1 := Lib.hid (cells_new' w #[.int .i64 P, .int .i64 R, .int .i64 C, .slice (some ⟨a0, oa, none⟩) n n] 37 (w.heap.size) (by simp))
    have E_2 := Lib.hid ((Ext.refl w).alloc (.cells #[.int .i64 P, .int .i64 R, .int .i64 C, .slice (some ⟨a0, oa, none⟩) n n] 37))
    have lA0 := A0_1.out.1
    have qA00 := A0_1.out.2 0 _ rfl
    have qA01 := A0_1.out.2 1 _ rfl
    have qA02 := A0_1.out.2 2 _ rfl
    have qA03 := A0_1.out.2 3 _ rfl
    try simp only [World.size_alloc] at lA0
    go_wp2_with fail
    refine (matrixOk_impl _ _ _ _ _ _ xs _ (HR.out.ext E_2.out) hm1).mono ?_
    rintro e w_3 ⟨rfl, h_3⟩
    clear lA0 qA00 qA01 qA02 qA03
    have A0_4 := Lib.hid (A0_1.out.ext h_3)
    clear A0_1
    have E_5 := Lib.hid (E_2.out.trans h_3)
    clear E_2
    rw [h1]
    go_wp2
    go_ret2
    rw [HS.out]
    exact ⟨none, 0, 0, rfl, fun h => by simp at h, fun _ => ⟨rfl, rfl, rfl⟩, E_5.out⟩
  have hl := mok_len h1
  have hx := mok_res h1
  have hp := mok_lo h1
  have hp2 := mok_hi h1
  have hpr := (mok_iff.1 h1).1
  have hq1 := inB_iff.1 (mok_iff.1 h1).2.1
  have hq2 := inB_iff.1 (mok_iff.1 h1).2.2.1
  have HM1 := Lib.hid h1
  obtain ⟨R, rfl⟩ := Int.eq_ofNat_of_zero_le hq1.1
  obtain ⟨C, rfl⟩ := Int.eq_ofNat_of_zero_le hq2.1
  have hR : R ≤ 40 := by omega
  have hC : C ≤ 40 := by omega
  have hn1 : n = R * C := by rw [HR.out.1, ← Int.natCast_mul] at hl; omega
  have HN := Lib.hid hn1
  have HX := Lib.hid hx
  have HPR := Lib.hid hpr
  have hRb : R ≤ 1048576 := by omega
  have hCb : C ≤ 1048576 := by omega
  clear hl hx hpr hq1 hq2 h1 hn1
  have e := rowsB_sp (isP_iff.1 HPR.out) (show xs.length = R * C by rw [HR.out.1]; exact HN.out) HX.out
  have h := pivotsOf_main P R C _ _ n xs w HR.out HN.out hm hR hC HM1.out HX.out
  rw [e] at h
  have e2 : spaceM P (R : Int) (C : Int) xs = spB P R C xs := by rw [spaceM, HM1.out, Bool.true_and, Int.toNat_natCast, Int.toNat_natCast]
  rw [e2]
  exact h

set_option maxRecDepth 100000 in
set_option maxHeartbeats 3200000 in
theorem spaceOk_impl {P R C : Int} {a0 oa n : Nat} {xs : List Int} {w : World} {i : Bool} (h : Reads w (some ⟨a0, oa, none⟩) n xs) (hm : n ≤ 1048576) (hM : spaceM P R C xs = i) :
    Calls Try.prog 135 #[.agg #[.int .i64 P, .int .i64 R, .int .i64 C, .slice (some ⟨a0, oa, none⟩) n n]] w fun e w' => e = .returned (.bool i) ∧ Ext w w' := by
  have HR := Lib.hid h
  have hm1 : n ≤ maxLen := by unfold maxLen; omega
  clear h
  have HI := Lib.hid hM
  clear hM
  go_enter Try.func135, Try.ntmps135
  have A0_1 := Lib.hid (cells_new' w #[.int .i64 P, .int .i64 R, .int .i64 C, .slice (some ⟨a0, oa, none⟩) n n] 37 (w.heap.size) (by simp))
  have E_2 := Lib.hid ((Ext.refl w).alloc (.cells #[.int .i64 P, .int .i64 R, .int .i64 C, .slice (some ⟨a0, oa, none⟩) n n] 37))
  have lA0 := A0_1.out.1
  have qA00 := A0_1.out.2 0 _ rfl
  have qA01 := A0_1.out.2 1 _ rfl
  have qA02 := A0_1.out.2 2 _ rfl
  have qA03 := A0_1.out.2 3 _ rfl
  try simp only [World.size_alloc] at lA0
  go_wp2_with fail
  refine (pivotsOf_impl (HR.out.ext E_2.out) hm).mono ?_
  rintro e w_3 ⟨pa, pm, pc, rfl, _, _, h_3⟩
  clear lA0 qA00 qA01 qA02 qA03
  have A0_4 := Lib.hid (A0_1.out.ext h_3)
  clear A0_1
  have E_5 := Lib.hid (E_2.out.trans h_3)
  clear E_2
  go_wp2
  go_ret
  exact ⟨ret_bool HI.out, E_5.out⟩

noncomputable def eqSB (R K : Nat) (xs ys : List Int) : Bool := decide (R = K) && sameB xs ys
set_option maxRecDepth 100000 in
set_option maxHeartbeats 3200000 in
theorem l1Equal_spec (P C : Int) (R K n n' c c' : Nat) (a a' : Option Addr) (xs ys : List Int) (w : World) (hr : Reads w a n xs) (hr' : Reads w a' n' ys) (hm : n ≤ 1048576) (hm' : n' ≤ 1048576) :
    Calls Try.prog 50 #[.agg #[.int .i64 P, .int .i64 R, .int .i64 C, .slice a n c], .agg #[.int .i64 P, .int .i64 K, .int .i64 C, .slice a' n' c']] w fun e w' => e = .returned (.bool (eqSB R K xs ys)) ∧ Ext w w' := by
  have HR := Lib.hid hr
  have HR' := Lib.hid hr'
  clear hr hr'
  by_cases hRK : R = K
  case neg =>
    have hb : ((R : Int) == (K : Int)) = false := by simp; omega
    have HF : Hid (eqSB R K xs ys = false) := by simp [Hid, eqSB, hRK]
    clear hRK
    go_enter Try.func50, Try.ntmps50
    have A0_1 := Lib.hid ((cells_new' w #[.int .i64 P, .int .i64 R, .int .i64 C, .slice a n c] 37 (w.heap.size) (by simp)).ext ((Ext.refl _).alloc (.cells #[.int .i64 P, .int .i64 K, .int .i64 C, .slice a' n' c'] 37)))
    have A1_2 := Lib.hid (cells_new' (w.alloc (.cells #[.int .i64 P, .int .i64 R, .int .i64 C, .slice a n c] 37)) #[.int .i64 P, .int .i64 K, .int .i64 C, .slice a' n' c'] 37 (w.heap.size + 1) (by simp))
    have E_3 := Lib.hid (((Ext.refl w).alloc (.cells #[.int .i64 P, .int .i64 R, .int .i64 C, .slice a n c] 37)).alloc (.cells #[.int .i64 P, .int .i64 K, .int .i64 C, .slice a' n' c'] 37))
    have lA0 := A0_1.out.1
    have qA00 := A0_1.out.2 0 _ rfl
    have qA01 := A0_1.out.2 1 _ rfl
    have qA02 := A0_1.out.2 2 _ rfl
    have qA03 := A0_1.out.2 3 _ rfl
    have lA1 := A1_2.out.1
    have qA10 := A1_2.out.2 0 _ rfl
    have qA11 := A1_2.out.2 1 _ rfl
    have qA12 := A1_2.out.2 2 _ rfl
    have qA13 := A1_2.out.2 3 _ rfl
    try simp only [World.size_alloc] at lA0 lA1
    go_wp2
    go_ret
    exact ⟨ret_bool HF.out.symm, E_3.out⟩
  subst hRK
  have HF : Hid (eqSB R R xs ys = sameB xs ys) := by simp [Hid, eqSB]
  go_enter Try.func50, Try.ntmps50
  have A0_1 := Lib.hid ((cells_new' w #[.int .i64 P, .int .i64 R, .int .i64 C, .slice a n c] 37 (w.heap.size) (by simp)).ext ((Ext.refl _).alloc (.cells #[.int .i64 P, .int .i64 R, .int .i64 C, .slice a' n' c'] 37)))
  have A1_2 := Lib.hid (cells_new' (w.alloc (.cells #[.int .i64 P, .int .i64 R, .int .i64 C, .slice a n c] 37)) #[.int .i64 P, .int .i64 R, .int .i64 C, .slice a' n' c'] 37 (w.heap.size + 1) (by simp))
  have E_3 := Lib.hid (((Ext.refl w).alloc (.cells #[.int .i64 P, .int .i64 R, .int .i64 C, .slice a n c] 37)).alloc (.cells #[.int .i64 P, .int .i64 R, .int .i64 C, .slice a' n' c'] 37))
  have lA0 := A0_1.out.1
  have qA00 := A0_1.out.2 0 _ rfl
  have qA01 := A0_1.out.2 1 _ rfl
  have qA02 := A0_1.out.2 2 _ rfl
  have qA03 := A0_1.out.2 3 _ rfl
  have lA1 := A1_2.out.1
  have qA10 := A1_2.out.2 0 _ rfl
  have qA11 := A1_2.out.2 1 _ rfl
  have qA12 := A1_2.out.2 2 _ rfl
  have qA13 := A1_2.out.2 3 _ rfl
  try simp only [World.size_alloc] at lA0 lA1
  go_wp2_with fail
  refine (l1Same_spec _ _ _ _ _ _ xs ys _ (HR.out.ext E_3.out) (HR'.out.ext E_3.out) hm hm').mono ?_
  rintro e w_4 ⟨rfl, mq, rfl⟩
  have E2 := Lib.hid (E_3.out.trans (drewN_ext mq))
  generalize sameB xs ys = bq at HF ⊢
  go_wp2
  go_ret
  exact ⟨ret_bool HF.out.symm, E2.out⟩

set_option maxRecDepth 100000 in
set_option maxHeartbeats 6400000 in
theorem spaceOk_spec {P R C : Int} {a : Addr} {n c : Nat} {xs : List Int} {w : World} {i : Bool} (h : Reads w (some a) n xs) (hm : n ≤ 1048576) (hM : spaceM P R C xs = i) :
    Calls Try.prog 118 #[.agg #[.int .i64 P, .int .i64 R, .int .i64 C, .slice (some a) n c]] w fun e w' => e = .returned (.bool i) ∧ Ext w w' := by
  have HR := Lib.hid h
  have hm1 : n ≤ maxLen := by unfold maxLen; omega
  clear h
  subst hM
  rcases h1 : mok P R C xs with _ | _
  · have HS : Hid (spaceM P R C xs = false) := by simp [Hid, spaceM, h1]
    go_enter Try.func118, Try.ntmps118
    have A0_1 := Lib.hid (cells_new' w #[.int .i64 P, .int .i64 R, .int .i64 C, .slice (some a) n c] 37 (w.heap.size) (by simp))
    have E_2 := Lib.hid ((Ext.refl w).alloc (.cells #[.int .i64 P, .int .i64 R, .int .i64 C, .slice (some a) n c] 37))
    have HMK : Hid (∀ w1, Ext (w.alloc (.cells #[.int .i64 P, .int .i64 R, .int .i64 C, .slice (some a) n c] 37)) w1 → Calls Try.prog 49 #[.agg #[.int .i64 P, .int .i64 R, .int .i64 C, .slice (some a) n c]] w1 fun e w' => e = .returned (.bool false) ∧ Ext w1 w') := fun w1 hE => by have := matrixOk_spec P R C _ n c xs w1 (HR.out.ext (E_2.out.trans hE)) hm1; rw [h1] at this; exact this
    have lA0 := A0_1.out.1
    have qA00 := A0_1.out.2 0 _ rfl
    have qA01 := A0_1.out.2 1 _ rfl
    have qA02 := A0_1.out.2 2 _ rfl
    have qA03 := A0_1.out.2 3 _ rfl
    try simp only [World.size_alloc] at lA0
    go_wp2_with fail
    go_region_with ((go_at_call 49; refine (HMK.out _ (Ext.refl _).drew).mono ?_; rintro e w8 ⟨rfl, h8⟩))
    all_goals
      have E2 := Lib.hid (E_2.out.trans ((Ext.refl _).drew.trans h8))
      go_wp2
      refine bodyPost_ret (v := .bool false) (by simp [results, Try.results118, go_sem]) rfl ⟨ret_bool HS.out.symm, E2.out⟩
  have hl := mok_len h1
  have hx := mok_res h1
  have hp := mok_lo h1
  have hp2 := mok_hi h1
  have hpr := (mok_iff.1 h1).1
  have hq1 := inB_iff.1 (mok_iff.1 h1).2.1
  have hq2 := inB_iff.1 (mok_iff.1 h1).2.2.1
  have HM1 := Lib.hid h1
  obtain ⟨R, rfl⟩ := Int.eq_ofNat_of_zero_le hq1.1
  obtain ⟨C, rfl⟩ := Int.eq_ofNat_of_zero_le hq2.1
  have hR : R ≤ 40 := by omega
  have hC : C ≤ 40 := by omega
  have hn1 : n = R * C := by rw [HR.out.1, ← Int.natCast_mul] at hl; omega
  have HN := Lib.hid hn1
  have HX := Lib.hid hx
  have HPR := Lib.hid hpr
  have hRb : R ≤ 1048576 := by omega
  have hCb : C ≤ 1048576 := by omega
  clear hl hx hpr hq1 hq2 h1 hn1
  go_enter Try.func118, Try.ntmps118
  have A0_1 := Lib.hid (cells_new' w #[.int .i64 P, .int .i64 R, .int .i64 C, .slice (some a) n c] 37 (w.heap.size) (by simp))
  have E_2 := Lib.hid ((Ext.refl w).alloc (.cells #[.int .i64 P, .int .i64 R, .int .i64 C, .slice (some a) n c] 37))
  have HMK : Hid (∀ w1, Ext (w.alloc (.cells #[.int .i64 P, .int .i64 R, .int .i64 C, .slice (some a) n c] 37)) w1 → Calls Try.prog 49 #[.agg #[.int .i64 P, .int .i64 R, .int .i64 C, .slice (some a) n c]] w1 fun e w' => e = .returned (.bool true) ∧ Ext w1 w') := fun w1 hE => by have := matrixOk_spec P R C _ n c xs w1 (HR.out.ext (E_2.out.trans hE)) hm1; rw [HM1.out] at this; exact this
  have HSP : Hid (∀ w1, Ext (w.alloc (.cells #[.int .i64 P, .int .i64 R, .int .i64 C, .slice (some a) n c] 37)) w1 → Calls Try.prog 84 #[.agg #[.int .i64 P, .int .i64 R, .int .i64 C, .slice (some a) n c]] w1 fun e w' => ∃ b c', e = .returned (.agg #[.int .i64 P, .int .i64 ((redM P R C xs).pv.length : Nat), .int .i64 C, .slice (some ⟨b, 0, none⟩) ((redM P R C xs).pv.length * C) c']) ∧ w1.heap.size ≤ b ∧ b < w'.heap.size ∧ Has w' b (spanL P R C xs) ∧ Ext w1 w' ∧ (redM P R C xs).pv.length * C ≤ c') := fun w1 hE =>
    l1Span_spec P R C n c _ xs w1 (HR.out.ext (E_2.out.trans hE)) HN.out hm hRb hCb HPR.out HX.out (by simp)
  have HSL : Hid ((spanL P R C xs).length = (redM P R C xs).pv.length * C) := spanL_length (by rw [HR.out.1]; exact HN.out)
  have hK := spanK_le (P := P) (xs := xs) HN.out
  have HF : Hid (spaceM P R C xs = eqSB R (redM P R C xs).pv.length xs (spanL P R C xs)) := by
    rw [Hid, spaceM, HM1.out, Bool.true_and, Int.toNat_natCast, Int.toNat_natCast]
    by_cases hs : IsSp P R C xs
    · have e1 : decide (R = (redM P R C xs).pv.length) = true := decide_eq_true hs.1.symm
      have e2 : decide (xs = spanL P R C xs) = true := decide_eq_true hs.2.symm
      rw [show spB P R C xs = true by simp [spB, hs], eqSB, sameB, e1, e2]
      rfl
    · have h2 : ¬ (R = (redM P R C xs).pv.length ∧ xs = spanL P R C xs) := fun h => hs ⟨h.1.symm, h.2.symm⟩
      simp only [spB, eqSB, sameB, hs, decide_false]
      rw [← Bool.decide_and, decide_eq_false h2]
  generalize spaceM P R C xs = sv at HF
  have lA0 := A0_1.out.1
  have qA00 := A0_1.out.2 0 _ rfl
  have qA01 := A0_1.out.2 1 _ rfl
  have qA02 := A0_1.out.2 2 _ rfl
  have qA03 := A0_1.out.2 3 _ rfl
  try simp only [World.size_alloc] at lA0
  go_wp2_with fail
  have lA1 : w.heap.size < ((w.alloc (.cells #[.int .i64 P, .int .i64 R, .int .i64 C, .slice (some a) n c] 37))).drew.heap.size := by simp
  have lA2 : w.heap.size < ((w.alloc (.cells #[.int .i64 P, .int .i64 R, .int .i64 C, .slice (some a) n c] 37))).heap.size := by simp
  go_region_with (first
    | (go_at_call 49; refine (HMK.out _ (Ext.refl _).drew).mono ?_; rintro e w8 ⟨rfl, h8⟩; have k8 := (Ext.refl (w.alloc (.cells #[.int .i64 P, .int .i64 R, .int .i64 C, .slice (some a) n c] 37))).drew.trans h8; have a0 : w8.cell? ⟨w.heap.size, 0, none⟩ = some (.int .i64 P) := (k8.cells _ 0 lA2).trans qA00; have a1 : w8.cell? ⟨w.heap.size, 1, none⟩ = some (.int .i64 R) := (k8.cells _ 1 lA2).trans qA01; have a2 : w8.cell? ⟨w.heap.size, 2, none⟩ = some (.int .i64 C) := (k8.cells _ 2 lA2).trans qA02; have a3 : w8.cell? ⟨w.heap.size, 3, none⟩ = some (.slice (some a) n c) := (k8.cells _ 3 lA2).trans qA03; have l8 := Nat.lt_of_lt_of_le lA1 h8.le)
    | (go_at_call 84; refine (HSP.out _ k8).mono ?_; rintro e w9 ⟨b, c9, rfl, hb1, hb2, hh, h9, hcc⟩; have k9 := k8.trans h9; have b0 : w9.cell? ⟨w.heap.size, 0, none⟩ = some (.int .i64 P) := (k9.cells _ 0 lA2).trans qA00; have b1 : w9.cell? ⟨w.heap.size, 1, none⟩ = some (.int .i64 R) := (k9.cells _ 1 lA2).trans qA01; have b2 : w9.cell? ⟨w.heap.size, 2, none⟩ = some (.int .i64 C) := (k9.cells _ 2 lA2).trans qA02; have b3 : w9.cell? ⟨w.heap.size, 3, none⟩ = some (.slice (some a) n c) := (k9.cells _ 3 lA2).trans qA03; have l9 := Nat.lt_of_lt_of_le l8 h9.le)
    | (go_at_call 50; refine (l1Equal_spec P C R (redM P R C xs).pv.length n _ c _ _ _ xs (spanL P R C xs) _ (HR.out.ext (E_2.out.trans k9)) (hh.reads HSL.out) hm (by omega)).mono ?_; rintro e w10 ⟨rfl, h10⟩))
  all_goals
    have E2 := Lib.hid (E_2.out.trans (k9.trans h10))
    generalize eqSB R (redM P R C xs).pv.length xs (spanL P R C xs) = bq at HF ⊢
    go_wp2
    go_ret
    exact ⟨ret_bool HF.out.symm, E2.out⟩
end Go.Proofs.Ytnikfalpjieibaa
