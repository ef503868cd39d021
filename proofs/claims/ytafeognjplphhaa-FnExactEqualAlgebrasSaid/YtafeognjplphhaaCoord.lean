/-
  CoordinatesIn of both texts.
-/
import Derived.Test.YtafeognjplphhaaSolveM
import Derived.Test.YtafeognjplphhaaSpOk2
namespace Go.Proofs.Ytafeognjplphhaa
open Go.ChangeShapes Go.WideShapes Go.ChangeAt Go.RowKit
set_option linter.unusedVariables false

/-! The transpose, place by place. -/
theorem gi_colTo {xs l : List Int} {R C i : Nat} (hi : i < R) (hl : l.length = C * R) (k : Nat) (hk : k ≤ C) (j q : Nat) (hj : j < C) (hq : q < R) :
    gi (colTo xs R C i l k) (j * R + q) = if q = i ∧ j < k then gi xs (i * C + j) else gi l (j * R + q) := by
  induction k with
  | zero => rw [colTo, if_neg (by omega)]
  | succ k ih =>
    have hp := place_lt (R := C) (C := R) (show k < C by omega) hi
    rw [colTo, gi_set _ _ _ _ (by rw [colTo_length, hl]; exact hp), ih (by omega)]
    by_cases e : q = i ∧ j = k
    · obtain ⟨rfl, rfl⟩ := e
      rw [if_pos rfl, if_pos (by omega)]
    · have hne : j * R + q ≠ k * R + i := by
        by_cases e2 : j = k
        · subst e2; omega
        · exact at2_place hq hi e2
      rw [if_neg hne]
      by_cases e3 : q = i ∧ j < k
      · rw [if_pos e3, if_pos (by omega)]
      · rw [if_neg e3, if_neg (by omega)]
theorem gi_transTo {xs : List Int} {R C : Nat} (k : Nat) (hk : k ≤ R) (j q : Nat) (hj : j < C) (hq : q < R) :
    gi (transTo xs R C k) (j * R + q) = if q < k then gi xs (q * C + j) else 0 := by
  induction k with
  | zero =>
    rw [transTo, if_neg (by omega)]; exact gi_rep _ _
  | succ k ih =>
    rw [transTo, gi_colTo (by omega) (transTo_length _ _ _ _) C (Nat.le_refl _) j q hj hq, ih (by omega)]
    by_cases e : q = k
    · subst e; rw [if_pos ⟨rfl, hj⟩, if_pos (by omega)]
    · rw [if_neg (by omega)]
      by_cases e2 : q < k
      · rw [if_pos e2, if_pos (by omega)]
      · rw [if_neg e2, if_neg (by omega)]
theorem at2_transTo {xs : List Int} {R C : Nat} (c i : Nat) (hc : c < C) (hi : i < R) : at2 R (transTo xs R C R) c i = at2 C xs i c := by
  unfold at2
  rw [gi_transTo R (Nat.le_refl _) c i hc hi, if_pos hi]
theorem colTo_res {P : Int} {xs l : List Int} {R C i : Nat} (hp : 0 < P) (hx : Res xs P) (hl : Res l P) (k : Nat) : Res (colTo xs R C i l k) P := by
  induction k with
  | zero => exact hl
  | succ k ih => exact res_set _ _ _ _ ih (res_gi _ _ hx hp _).1 (res_gi _ _ hx hp _).2
theorem transTo_res {P : Int} {xs : List Int} {R C : Nat} (hp : 2 ≤ P) (hx : Res xs P) (k : Nat) : Res (transTo xs R C k) P := by
  induction k with
  | zero => exact res_zero _ hp
  | succ k ih => exact colTo_res (by omega) hx ih C

set_option maxHeartbeats 800000 in
theorem equal_fn (a a' : Option Addr) (n n' c c' : Nat) (xs ys : List Int) (w : World) (hr : Reads w a n xs) (hr' : Reads w a' n' ys) (hm : n ≤ 1048576) (hm' : n' ≤ 1048576) :
    Calls Try.prog 79 #[.slice a n c, .slice a' n' c'] w fun e w' => e = .returned (.bool (sameB xs ys)) ∧ ∃ m, w' = w.drewN m := by
  have hl := Lib.hid hr.1
  have hl' := Lib.hid hr'.1
  have HR := Lib.hid hr.2
  have HR' := Lib.hid hr'.2
  clear hr hr'
  by_cases hnn : n = n'
  case neg =>
    have hb : ((n : Int) != (n' : Int)) = true := by simp; omega
    have HF : Hid (sameB xs ys = false) := by
      refine decide_eq_false (fun e => hnn ?_)
      rw [← hl.out, ← hl'.out, e]
    clear hnn
    go_enter Try.func79, Try.ntmps79
    go_wp2
    go_ret
    exact ⟨ret_bool HF.out.symm, 0, rfl⟩
  subst hnn
  go_enter Try.func79, Try.ntmps79
  go_wp2
  go_loopw [13, 5] (fun z _ wr => ∃ (k m : Nat), k ≤ n ∧ z = .int .i64 k ∧ wr = w.drewN m ∧ Hid (∀ i, i < k → gi xs i = gi ys i)) (fun z _ _ => n - (intOf z).toNat)
  case atStart => exact ⟨0, 0, by omega, rfl, rfl, fun i hi => by omega⟩
  case round =>
    obtain ⟨k, m, hk, rfl, rfl, hf⟩ := hrel
    by_cases hlt : k < n
    · rcases HR.out with h | ⟨b, off, rfl, hb, hc⟩
      · omega
      rcases HR'.out with h | ⟨b', off', rfl, hb', hc'⟩
      · omega
      have hc1 := hc k hlt
      have hc2 := hc' k hlt
      have hlt' : (k : Int) < (n : Int) := by omega
      clear hc hc'
      by_cases h0 : gi xs k = gi ys k
      · have hb0 : (gi xs k != gi ys k) = false := by simpa using h0
        have HF : Hid (∀ i, i < k + 1 → gi xs i = gi ys i) := fun i hi => by
          by_cases e : i = k
          · subst e; exact h0
          · exact hf.out i (by omega)
        clear h0
        go_wp2
        go_quiet (fail)
        go_wp2
        exact ⟨⟨k + 1, m + nq, by omega, by simp, by simp, HF⟩, by simp [intOf]; omega⟩
      · have hb0 : (gi xs k != gi ys k) = true := by simpa using h0
        have HF : Hid (sameB xs ys = false) := decide_eq_false (fun e => h0 (by rw [e]))
        clear h0
        go_wp2
        go_quiet (fail)
        go_wp2
        go_ret
        exact ⟨ret_bool HF.out.symm, m + nq, by simp⟩
    · obtain rfl : k = n := by omega
      have HF : Hid (sameB xs ys = true) := decide_eq_true (ext_gi (by rw [hl.out, hl'.out]) (fun i hi => hf.out i (by rw [hl.out] at hi; exact hi)))
      go_wp2
      go_ret
      exact ⟨ret_bool HF.out.symm, m, rfl⟩

noncomputable def coOk (P : Int) (R C : Nat) (xs vs : List Int) : Bool := sameB (coTo P C xs vs (redM P R C xs).pv R) vs
noncomputable def coM (P R C : Int) (xs vs : List Int) : List Int × Bool :=
  if spaceM P R C xs && (((vs.length : Int) == C) && resB vs P) then (if coOk P R.toNat C.toNat xs vs then (coL (redM P R.toNat C.toNat xs).pv vs, true) else ([], false)) else ([], false)

set_option maxRecDepth 100000 in
set_option maxHeartbeats 6400000 in
theorem coordinatesIn_impl {P R C : Int} {a0 oa v0 ov n nv : Nat} {xs vs : List Int} {w : World} {d : List Int} {ok : Bool} (h : Reads w (some ⟨a0, oa, none⟩) n xs) (hm : n ≤ 1048576) (h' : Reads w (some ⟨v0, ov, none⟩) nv vs) (hm' : nv ≤ 1048576) (hM : coM P R C xs vs = (d, ok)) :
    Calls Try.prog 35 #[.agg #[.int .i64 P, .int .i64 R, .int .i64 C, .slice (some ⟨a0, oa, none⟩) n n], .slice (some ⟨v0, ov, none⟩) nv nv] w fun e w' => ∃ v, e = .returned (.tuple #[v, .bool ok]) ∧ Rints w w' v d ∧ Ext w w' := by
  have HR := Lib.hid h
  have HV := Lib.hid h'
  have hm1 : n ≤ maxLen := by unfold maxLen; omega
  have hm2 : nv ≤ maxLen := by unfold maxLen; omega
  clear h h'
  have FIN : ∀ (w1 : World) (e : Ending), e = .returned (.tuple #[.slice none 0 0, .bool false]) → Ext w w1 → ∃ v, e = .returned (.tuple #[v, .bool false]) ∧ Rints w w1 v [] ∧ Ext w w1 := fun w1 e he hE => ⟨_, he, ⟨none, 0, 0, rfl, own_nil _ _ _, by omega⟩, hE⟩
  have HFIN := Lib.hid FIN
  clear FIN
  rcases h1 : spaceM P R C xs with _ | _
  · simp only [coM, h1, Bool.false_and, Bool.false_eq_true, if_false, Prod.mk.injEq] at hM
    obtain ⟨rfl, rfl⟩ := hM
    have H1 := Lib.hid h1
    clear h1
    go_enter Try.func35, Try.ntmps35
    have A0_1 := Lib.hid (cells_new' w #[.int .i64 P, .int .i64 R, .int .i64 C, .slice (some ⟨a0, oa, none⟩) n n] 26 (w.heap.size) (by simp))
    have E_2 := Lib.hid ((Ext.refl w).alloc (.cells #[.int .i64 P, .int .i64 R, .int .i64 C, .slice (some ⟨a0, oa, none⟩) n n] 26))
    have lA0 := A0_1.out.1
    have qA00 := A0_1.out.2 0 _ rfl
    have qA01 := A0_1.out.2 1 _ rfl
    have qA02 := A0_1.out.2 2 _ rfl
    have qA03 := A0_1.out.2 3 _ rfl
    try simp only [World.size_alloc] at lA0
    go_wp2_with fail
    refine (pivotsOf_impl (HR.out.ext E_2.out) hm).mono ?_
    rw [H1.out]
    rintro e w_3 ⟨pa, pm, pc, rfl, _, hn0, h_3⟩
    clear hn0
    clear lA0 qA00 qA01 qA02 qA03
    have A0_4 := Lib.hid (A0_1.out.ext h_3)
    clear A0_1
    have E_5 := Lib.hid (E_2.out.trans h_3)
    clear E_2
    go_wp2
    go_ret2
    exact HFIN.out _ _ rfl E_5.out
  have hmo : mok P R C xs = true := by
    simp only [spaceM, Bool.and_eq_true] at h1; exact h1.1
  have hp := mok_lo hmo
  have hp2 := mok_hi hmo
  have hl1 := mok_len hmo
  have HPR := Lib.hid (mok_iff.1 hmo).1
  have HX := Lib.hid (mok_res hmo)
  have hq1 := inB_iff.1 (mok_iff.1 hmo).2.1
  have hq2 := inB_iff.1 (mok_iff.1 hmo).2.2.1
  have H1 := Lib.hid h1
  simp only [coM, h1, Bool.true_and] at hM
  obtain ⟨R, rfl⟩ := Int.eq_ofNat_of_zero_le hq1.1
  obtain ⟨C, rfl⟩ := Int.eq_ofNat_of_zero_le hq2.1
  have hR : R ≤ 40 := by omega
  have hC : C ≤ 40 := by omega
  have HN : Hid (n = R * C) := by rw [HR.out.1, ← Int.natCast_mul] at hl1; show n = R * C; omega
  have HS : Hid (IsSp P R C xs) := by
    simp only [spaceM, Bool.and_eq_true, Int.toNat_natCast, spB, decide_eq_true_eq] at h1; exact h1.2
  simp only [Int.toNat_natCast] at hM
  clear hl1 hq1 hq2 h1 hmo
  have hvl := HV.out.1
  rw [hvl] at hM
  clear hvl
  rcases hv : (((nv : Int) == (C : Int)) && resB vs P) with _ | _
  · simp only [hv, Bool.false_eq_true, if_false, Prod.mk.injEq] at hM
    obtain ⟨rfl, rfl⟩ := hM
    have H2 := Lib.hid hv
    clear hv
    go_enter Try.func35, Try.ntmps35
    have A0_1 := Lib.hid (cells_new' w #[.int .i64 P, .int .i64 R, .int .i64 C, .slice (some ⟨a0, oa, none⟩) n n] 26 (w.heap.size) (by simp))
    have E_2 := Lib.hid ((Ext.refl w).alloc (.cells #[.int .i64 P, .int .i64 R, .int .i64 C, .slice (some ⟨a0, oa, none⟩) n n] 26))
    have lA0 := A0_1.out.1
    have qA00 := A0_1.out.2 0 _ rfl
    have qA01 := A0_1.out.2 1 _ rfl
    have qA02 := A0_1.out.2 2 _ rfl
    have qA03 := A0_1.out.2 3 _ rfl
    try simp only [World.size_alloc] at lA0
    go_wp2_with fail
    refine (pivotsOf_impl (HR.out.ext E_2.out) hm).mono ?_
    rw [H1.out]
    rintro e w_3 ⟨pa, pm, pc, rfl, hpo0, hn0, h_3⟩
    obtain ⟨hpo, hpm⟩ := hpo0 rfl
    clear hn0 hpo0
    simp only [Int.toNat_natCast] at hpo hpm
    obtain rfl : R = pm := hpm.symm
    clear hpm
    have HPP := Lib.hid hpo
    clear hpo
    clear lA0 qA00 qA01 qA02 qA03
    have A0_4 := Lib.hid (A0_1.out.ext h_3)
    clear A0_1
    have E_5 := Lib.hid (E_2.out.trans h_3)
    clear E_2
    have lA0 := A0_4.out.1
    have qA00 := A0_4.out.2 0 _ rfl
    have qA01 := A0_4.out.2 1 _ rfl
    have qA02 := A0_4.out.2 2 _ rfl
    have qA03 := A0_4.out.2 3 _ rfl
    try simp only [World.size_alloc] at lA0
    go_wp2_with fail
    refine (isVector_impl _ _ _ vs _ _ _ (HV.out.ext E_5.out) hm2).mono ?_
    rintro e w' ⟨rfl, rfl⟩
    rw [H2.out]
    go_wp2
    go_ret2
    exact HFIN.out _ _ rfl E_5.out
  have H2 := Lib.hid hv
  simp only [hv, if_true] at hM
  simp only [Bool.and_eq_true, beq_iff_eq] at hv
  obtain ⟨hv1, hv2⟩ := hv
  have hn : nv = C := by omega
  have hy : Res vs P := by simpa [resB] using hv2
  have HY := Lib.hid hy
  have HM := Lib.hid hM
  clear hM hv1 hv2 hy
  subst hn
  have HPV := Lib.hid (leads_pv (isP_iff.1 HPR.out) (show xs.length = R * nv by rw [HR.out.1]; exact HN.out) HX.out HS.out)
  have hpl : (redM P R nv xs).pv.length = R := HS.out.1
  have hplt := (redTo_pv (P := P) (R := R) (C := nv) (xs := xs) nv).2.2
  have HPL : Hid (∀ x, x ∈ (redM P R nv xs).pv → x < nv) := hplt
  have HPN := Lib.hid hpl
  have hoc : coOk P R nv xs vs = sameB (coTo P nv xs vs (redM P R nv xs).pv R) vs := rfl
  have HOC := Lib.hid hoc
  clear hoc hplt hpl
  go_enter Try.func35, Try.ntmps35
  have A0_1 := Lib.hid (cells_new' w #[.int .i64 P, .int .i64 R, .int .i64 nv, .slice (some ⟨a0, oa, none⟩) n n] 26 (w.heap.size) (by simp))
  have E_2 := Lib.hid ((Ext.refl w).alloc (.cells #[.int .i64 P, .int .i64 R, .int .i64 nv, .slice (some ⟨a0, oa, none⟩) n n] 26))
  have lA0 := A0_1.out.1
  have qA00 := A0_1.out.2 0 _ rfl
  have qA01 := A0_1.out.2 1 _ rfl
  have qA02 := A0_1.out.2 2 _ rfl
  have qA03 := A0_1.out.2 3 _ rfl
  try simp only [World.size_alloc] at lA0
  go_wp2_with fail
  refine (pivotsOf_impl (HR.out.ext E_2.out) hm).mono ?_
  rw [H1.out]
  rintro e w_3 ⟨pa, pm, pc, rfl, hpo0, hn0, h_3⟩
  obtain ⟨hpo, hpm⟩ := hpo0 rfl
  clear hn0 hpo0
  simp only [Int.toNat_natCast] at hpo hpm
  obtain rfl : R = pm := hpm.symm
  clear hpm
  have HPP := Lib.hid hpo
  clear hpo
  clear lA0 qA00 qA01 qA02 qA03
  have A0_4 := Lib.hid (A0_1.out.ext h_3)
  clear A0_1
  have E_5 := Lib.hid (E_2.out.trans h_3)
  clear E_2
  have hpo := HPP.out
  rw [HPV.out] at hpo
  have HPO := Lib.hid hpo
  clear hpo HPV HPP
  generalize (redM P R nv xs).pv = pv at *
  have lA0 := A0_4.out.1
  have qA00 := A0_4.out.2 0 _ rfl
  have qA01 := A0_4.out.2 1 _ rfl
  have qA02 := A0_4.out.2 2 _ rfl
  have qA03 := A0_4.out.2 3 _ rfl
  try simp only [World.size_alloc] at lA0
  go_wp2_with fail
  refine (isVector_impl _ _ _ vs _ _ _ (HV.out.ext E_5.out) hm2).mono ?_
  rintro e w' ⟨rfl, rfl⟩
  rw [H2.out]
  clear lA0 qA00 qA01 qA02 qA03
  have lA0 := A0_4.out.1
  have qA00 := A0_4.out.2 0 _ rfl
  have qA01 := A0_4.out.2 1 _ rfl
  have qA02 := A0_4.out.2 2 _ rfl
  have qA03 := A0_4.out.2 3 _ rfl
  try simp only [World.size_alloc] at lA0
  have hmk1 := make_ints R (by omega)
  have hmk2 := make_ints nv (by omega)
  go_wp2_with fail
  clear hmk1 hmk2
  clear lA0 qA00 qA01 qA02 qA03
  have X0 : Hid (Has ((w_3.alloc (.cells (ints (List.replicate R 0)) 3)).alloc (.cells (ints (List.replicate nv 0)) 3)) w_3.heap.size (mix (coL pv vs) (List.replicate R 0) 0)) := by
    rw [Hid, mix_zero]; exact (Has.new w_3 (List.replicate R 0)).alloc _
  have S0 : Hid (Has ((w_3.alloc (.cells (ints (List.replicate R 0)) 3)).alloc (.cells (ints (List.replicate nv 0)) 3)) (w_3.heap.size + 1) (coTo P nv xs vs pv 0)) := by
    have := Has.new (w_3.alloc (.cells (ints (List.replicate R 0)) 3)) (List.replicate nv 0)
    rw [World.size_alloc] at this
    exact this
  have E0 : Hid (Ext w_3 ((w_3.alloc (.cells (ints (List.replicate R 0)) 3)).alloc (.cells (ints (List.replicate nv 0)) 3))) := ((Ext.refl _).alloc _).alloc _
  have hcl : (coL pv vs).length = R := by rw [coL, List.length_map]; exact HPN.out
  have HZL : Hid ((coL pv vs).length = (List.replicate R (0 : Int)).length) := by rw [Hid, List.length_replicate]; exact hcl
  have HCL := Lib.hid hcl
  clear hcl
  have HCG : Hid (∀ r, r < R → gi (coL pv vs) r = gi vs (pv.getD r 0)) := fun r hr => by
    have hp := HPN.out
    simp [gi, coL, List.getD_eq_getElem?_getD, show r < pv.length by omega]
  go_loopw [36, 10, 11] (fun z _ _ wr => ∃ r : Nat, r ≤ R ∧ z = .int .i64 r ∧ Hid (Ext w_3 wr) ∧ Hid (Has wr w_3.heap.size (mix (coL pv vs) (List.replicate R 0) r)) ∧ Hid (Has wr (w_3.heap.size + 1) (coTo P nv xs vs pv r))) (fun z _ _ _ => R - (intOf z).toNat)
  case atStart => exact ⟨0, by omega, rfl, E0, X0, S0⟩
  case round =>
    clear X0 S0 E0
    obtain ⟨r, hr, rfl, hE, hX, hS⟩ := hrel
    by_cases hlt : r < R
    · have hp1 := HPL.out (pv.getD r 0) (by rw [List.getD_eq_getElem?_getD, List.getElem?_eq_getElem (by rw [HPN.out]; exact hlt)]; simp)
      have A1 := A0_4.out.ext hE.out
      have lA := A1.1
      have q0 := A1.2 0 _ rfl
      have q1 := A1.2 1 _ rfl
      have q2 := A1.2 2 _ rfl
      have q3 := A1.2 3 _ rfl
      have HG := Lib.hid (HCG.out r hlt)
      have HC1 : Hid (coTo P nv xs vs pv (r + 1) = axL P (gi vs (pv.getD r 0)) xs 0 (r * nv) nv (coTo P nv xs vs pv r)) := rfl
      rcases (HPO.out.ext hE.out).reads.2 with h | ⟨b', off', rfl, hb', hc'⟩
      · omega
      have x2 := hc' r hlt
      rw [gi_pvI] at x2
      have hbl := HPO.out.blk b' rfl
      generalize pv.getD r 0 = z at x2 hp1 HG HC1
      rcases (HV.out.ext (E_5.out.trans hE.out)).2 with h | ⟨b'', off'', h, hb'', hc''⟩
      · omega
      simp only [Option.some.injEq, Addr.mk.injEq, and_true] at h
      obtain ⟨rfl, rfl⟩ := h
      have x4 := hc'' z hp1
      have hml : (mix (coL pv vs) (List.replicate R 0) r).length = R := by rw [mix_length _ _ _ HZL.out (by rw [List.length_replicate]; exact hr), List.length_replicate]
      have x5 := hX.out.cell r (by rw [hml]; exact hlt)
      have x6 := hX.out.free r
      have N1 : Hid (Has (wr.setCell ⟨w_3.heap.size, r, none⟩ (.int .i64 (gi vs z))) w_3.heap.size (mix (coL pv vs) (List.replicate R 0) (r + 1))) := by
        have := hX.out.set r (by rw [hml]; exact hlt) (gi (coL pv vs) r)
        rw [mix_set _ _ _ HZL.out (by rw [List.length_replicate]; exact hlt), HG.out] at this
        exact this
      have N2 : Hid (Ext w_3 (wr.setCell ⟨w_3.heap.size, r, none⟩ (.int .i64 (gi vs z)))) := hE.out.setCell (p := ⟨w_3.heap.size, r, none⟩) (Nat.le_refl _) _
      have N3 : Hid (Has (wr.setCell ⟨w_3.heap.size, r, none⟩ (.int .i64 (gi vs z))) (w_3.heap.size + 1) (coTo P nv xs vs pv r)) := Has.setOther hS.out (by simp) _
      have hv0 := HY.out z (by rw [HV.out.1]; exact hp1)
      have N4 := Lib.hid hv0
      clear hc' hc'' hml A1 hv0
      go_wp2_with fail
      clear lA q0 q1 q2 q3 x2 x4 x5 x6 hE hX hS hb' hb'' hbl
      have x7 := N1.out.cell r (by rw [mix_length _ _ _ HZL.out (by rw [List.length_replicate]; exact hlt), List.length_replicate]; exact hlt)
      rw [show gi (mix (coL pv vs) (List.replicate R 0) (r + 1)) r = gi (coL pv vs) r by
        rw [mix]
        have h1 : r < ((coL pv vs).take (r + 1)).length := by rw [List.length_take, HCL.out]; omega
        rw [gi_append_l h1, gi_take _ _ _ (by omega)], HG.out] at x7
      generalize wr.setCell ⟨w_3.heap.size, r, none⟩ (.int .i64 (gi vs z)) = W2 at *
      have A1 := A0_4.out.ext N2.out
      have lA := A1.1
      have q0 := A1.2 0 _ rfl
      have q1 := A1.2 1 _ rfl
      have q2 := A1.2 2 _ rfl
      have q3 := A1.2 3 _ rfl
      have lX := N1.out.lt
      have nA : w.heap.size ≠ w_3.heap.size + 1 := by have := A0_4.out.1; omega
      have HRD := Lib.hid (HR.out.ext (E_5.out.trans N2.out))
      have hrow : r * nv + nv ≤ n := by
        have := row_lt (C := nv) hlt
        rw [HN.out]; exact this
      have HROW := Lib.hid hrow
      have HLT0 : Hid (a0 < w_3.heap.size ∨ nv = 0) := by
        rcases (HR.out.ext E_5.out).2 with h | ⟨b3, o3, h, hb3, _⟩
        · right; have := hrow; omega
        · left
          simp only [Option.some.injEq, Addr.mk.injEq, and_true] at h
          omega
      have HAX : Hid (∀ w3, Ext W2 w3 → Calls Try.prog 78 #[.slice (some ⟨w_3.heap.size + 1, 0, none⟩) nv nv, .int .i64 (gi vs z), .slice (some ⟨a0, oa + r * nv, none⟩) nv (n - r * nv), .int .i64 P] w3 fun e w' => e = .returned (.tuple #[]) ∧ Has w' (w_3.heap.size + 1) (coTo P nv xs vs pv (r + 1)) ∧ w3.grownBy w' (some (w_3.heap.size + 1))) := fun w3 hE3 => by
        rw [HC1.out]
        refine addToRow_impl (w_3.heap.size + 1) 0 nv nv (gi vs z) a0 (oa + r * nv) _ xs (r * nv) P (coTo P nv xs vs pv r) w3 (N3.out.ext hE3) (by omega) (by rw [coTo_length]; omega) (fun wz l' hg hz ho hl j hj => ?_) hp hp2 N4.out.1 N4.out.2 (fun j hj => coTo_res hp pv r _ (by rw [coTo_length]; omega)) (fun j hj => HX.out _ (by rw [HR.out.1]; have := HROW.out; omega))
        rcases (HRD.out.ext hE3).2 with h | ⟨b3, o3, h, hb3, hc3⟩
        · have := HROW.out; omega
        · simp only [Option.some.injEq, Addr.mk.injEq, and_true] at h
          obtain ⟨rfl, rfl⟩ := h
          have := HLT0.out
          rw [World.cell?_of_block (w := w3) (hg.block _ hb3 (by simp; omega)), Nat.add_assoc]
          exact hc3 (r * nv + j) (by have := HROW.out; omega)
      clear hrow
      go_region_held3 (fun w' => W2.grownBy w' (some (w_3.heap.size + 1)) ∧ ∀ B o, B ≠ w_3.heap.size + 1 → B < W2.heap.size → w'.cell? ⟨B, o, none⟩ = W2.cell? ⟨B, o, none⟩) (first | exact keptB_refl _ _ | exact keptB_drew | (with_reducible exact keptB_call ‹W2.grownBy _ (some (w_3.heap.size + 1)) ∧ _› ‹Ext _ _›) | (with_reducible exact keptB_grown ‹W2.grownBy _ (some (w_3.heap.size + 1)) ∧ _› ‹World.grownBy _ _ (some (w_3.heap.size + 1))›)) (first
        | (go_at_call 68; with_reducible refine (rowOf_impl _ _ _ _ _ _ _ _ (row_n hlt HN.out) hm (by omega)).mono ?_; rintro e w3 ⟨rfl, hE⟩)
        | (go_at_call 78; with_reducible refine (HAX.out _ ((Ext.refl _).drew.trans hE)).mono ?_; rintro e w4 ⟨rfl, hh4, hg4⟩))
      all_goals
        have G4 : Hid (W2.grownBy w4 (some (w_3.heap.size + 1))) := (‹W2.grownBy w4 (some (w_3.heap.size + 1)) ∧ _› : W2.grownBy w4 (some (w_3.heap.size + 1)) ∧ _).1
        have M1 : Hid (Has w4 w_3.heap.size (mix (coL pv vs) (List.replicate R 0) (r + 1))) := N1.out.grownOther G4.out (fun k hk => by simp at hk; omega)
        have M2 : Hid (Ext w_3 w4) := N2.out.grown G4.out (fun k hk => by simp at hk; omega)
        have M3 := Lib.hid hh4
        clear G4 hh4 hg4 hE HAX HRD N1 N2 N3 N4 lA q0 q1 q2 q3 x7 lX HROW HLT0 HG HC1
        go_wp2
        exact ⟨⟨r + 1, by omega, by simp, M2, M1, M3⟩, by simp [intOf]; omega⟩
    · obtain rfl : R = r := by omega
      have hmf : mix (coL pv vs) (List.replicate R 0) R = coL pv vs := by
        have := mix_full (coL pv vs) (List.replicate R (0 : Int)) HZL.out
        rwa [List.length_replicate] at this
      rw [hmf] at hX
      have HX2 := Lib.hid hX.out
      have HSR := Lib.hid (hS.out.reads (n := nv) (coTo_length pv R))
      have HVR := Lib.hid (HV.out.ext (E_5.out.trans hE.out))
      have HEE := Lib.hid (E_5.out.trans hE.out)
      have hlo := E_5.out.le
      clear hmf hX hS hE
      go_wp2_with fail
      refine (equal_fn _ _ nv nv _ _ (coTo P nv xs vs pv R) vs wr HSR.out HVR.out (by omega) hm').mono ?_
      rintro e w' ⟨rfl, m, rfl⟩
      have HX3 := Lib.hid (HX2.out.ext (drewN_ext m))
      have HE3 := Lib.hid (HEE.out.trans (drewN_ext m))
      rw [← HOC.out]
      rcases hok : coOk P R nv xs vs with _ | _
      · rw [hok] at HM
        have hM := HM.out
        simp only [Bool.false_eq_true, if_false, Prod.mk.injEq] at hM
        obtain ⟨rfl, rfl⟩ := hM
        clear hok HM HOC HX2 HSR HVR HEE HX3
        go_wp2
        go_ret2
        exact HFIN.out _ _ rfl HE3.out
      · rw [hok] at HM
        have hM := HM.out
        simp only [if_true, Prod.mk.injEq] at hM
        obtain ⟨rfl, rfl⟩ := hM
        clear hok HM HOC HX2 HSR HVR HEE
        go_wp2
        go_ret2
        exact ⟨_, rfl, ⟨_, _, _, rfl, HX3.out.own hlo HX3.out.lt HCL.out, by omega⟩, HE3.out⟩

set_option maxRecDepth 100000 in
set_option maxHeartbeats 3200000 in
theorem l1Coordinates_spec (P : Int) (R C n c cv : Nat) (a av : Option Addr) (xs vs : List Int) (w : World) (hpr : isP P = true) (hr : Reads w a n xs) (hv : Reads w av C vs) (hn : n = R * C) (hR : R ≤ 40) (hC : C ≤ 40) (hx : Res xs P) (hy : Res vs P) :
    Calls Try.prog 76 #[.agg #[.int .i64 P, .int .i64 R, .int .i64 C, .slice a n c], .slice av C cv] w (SolPost w (solOk P C R (transTo xs R C R) vs) (solL P C R (transTo xs R C R) vs)) := by
  have HR := Lib.hid hr
  have HV := Lib.hid hv
  have HPR := Lib.hid hpr
  have HN := Lib.hid hn
  have HX := Lib.hid hx
  have HY := Lib.hid hy
  have hp := isP_lo hpr
  clear hr hv hpr hn hx hy
  go_enter Try.func76, Try.ntmps76
  have A0_1 := Lib.hid (cells_new' w #[.int .i64 P, .int .i64 R, .int .i64 C, .slice a n c] 26 (w.heap.size) (by simp))
  have E_2 := Lib.hid ((Ext.refl w).alloc (.cells #[.int .i64 P, .int .i64 R, .int .i64 C, .slice a n c] 26))
  have lA0 := A0_1.out.1
  have qA00 := A0_1.out.2 0 _ rfl
  have qA01 := A0_1.out.2 1 _ rfl
  have qA02 := A0_1.out.2 2 _ rfl
  have qA03 := A0_1.out.2 3 _ rfl
  try simp only [World.size_alloc] at lA0
  go_wp2_with fail
  refine (l1Transpose_spec P R C _ _ _ xs _ (HR.out.ext E_2.out) HN.out hR hC).mono ?_
  rintro e w_3 ⟨b, rfl, hb1, hb2, hh, h_3⟩
  clear lA0 qA00 qA01 qA02 qA03
  have A0_4 := Lib.hid (A0_1.out.ext h_3)
  clear A0_1
  have E_5 := Lib.hid (E_2.out.trans h_3)
  clear E_2
  have HH := Lib.hid hh
  clear hh hb1 hb2
  go_wp2_with fail
  refine (l1Solve_spec P C R (C * R) _ _ _ _ (transTo xs R C R) vs _ HPR.out (HH.out.reads (transTo_length _ _ _ _)) (HV.out.ext E_5.out) rfl (by omega) (by omega) (transTo_res hp HX.out _) HY.out).mono ?_
  rintro e w_6 ⟨s, m, cc, rfl, ho, h_6⟩
  have E2 := Lib.hid (E_5.out.trans h_6)
  have HO := Lib.hid (ho.mono E_5.out.le (Nat.le_refl _))
  clear ho h_6
  generalize hq : solOk P C R (transTo xs R C R) vs = q at HO ⊢
  have HQ := Lib.hid hq
  clear hq
  go_wp2
  go_ret2
  rw [HQ.out]
  exact ⟨s, m, cc, rfl, HO.out, E2.out⟩

theorem co_eq {P : Int} {R C : Nat} {xs vs : List Int} (hp : IsP P) (hl : xs.length = R * C) (hx : Res xs P) (hs : IsSp P R C xs) (hv : Res vs P) (hvl : vs.length = C) :
    coOk P R C xs vs = solOk P C R (transTo xs R C R) vs ∧ (solOk P C R (transTo xs R C R) vs = true → solL P C R (transTo xs R C R) vs = coL (redM P R C xs).pv vs) := by
  have ht := transTo_length xs R C R
  have htr := transTo_res (R := R) (C := C) hp.1 hx R
  have hT := fun c i (hc : c < C) (hi : i < R) => at2_transTo (xs := xs) c i hc hi
  have h1 := co_iff hp hl hx hs hv hvl
  have h2 := trans_sol hp hl hx hv ht htr hT
  refine ⟨?_, fun h => co_sol hp hl hx hs hv ht htr hT h⟩
  rcases h : solOk P C R (transTo xs R C R) vs with _ | _
  · refine decide_eq_false (fun e => ?_)
    have := h2.2 (h1.1 e)
    rw [h] at this; exact absurd this (by decide)
  · exact decide_eq_true (h1.2 (h2.1 h))

set_option maxRecDepth 100000 in
set_option maxHeartbeats 6400000 in
theorem coordinatesIn_spec {P R C : Int} {a av : Addr} {n c nv cv : Nat} {xs vs : List Int} {w : World} {d : List Int} {ok : Bool} (h : Reads w (some a) n xs) (hm : n ≤ 1048576) (h' : Reads w (some av) nv vs) (hm' : nv ≤ 1048576) (hM : coM P R C xs vs = (d, ok)) :
    Calls Try.prog 34 #[.agg #[.int .i64 P, .int .i64 R, .int .i64 C, .slice (some a) n c], .slice (some av) nv cv] w fun e w' => ∃ v, e = .returned (.tuple #[v, .bool ok]) ∧ Rints w w' v d ∧ Ext w w' := by
  have HR := Lib.hid h
  have HV := Lib.hid h'
  have hm1 : n ≤ maxLen := by unfold maxLen; omega
  have hm2 : nv ≤ maxLen := by unfold maxLen; omega
  clear h h'
  have FIN : ∀ (w1 : World) (e : Ending), e = .returned (.tuple #[.slice none 0 0, .bool false]) → Ext w w1 → ∃ v, e = .returned (.tuple #[v, .bool false]) ∧ Rints w w1 v [] ∧ Ext w w1 := fun w1 e he hE => ⟨_, he, ⟨none, 0, 0, rfl, own_nil _ _ _, by omega⟩, hE⟩
  have HFIN := Lib.hid FIN
  clear FIN
  rcases h1 : spaceM P R C xs with _ | _
  · simp only [coM, h1, Bool.false_and, Bool.false_eq_true, if_false, Prod.mk.injEq] at hM
    obtain ⟨rfl, rfl⟩ := hM
    have H1 := Lib.hid h1
    clear h1
    go_enter Try.func34, Try.ntmps34
    have A0_1 := Lib.hid (cells_new' w #[.int .i64 P, .int .i64 R, .int .i64 C, .slice (some a) n c] 26 (w.heap.size) (by simp))
    have E_2 := Lib.hid ((Ext.refl w).alloc (.cells #[.int .i64 P, .int .i64 R, .int .i64 C, .slice (some a) n c] 26))
    have lA0 := A0_1.out.1
    have qA00 := A0_1.out.2 0 _ rfl
    have qA01 := A0_1.out.2 1 _ rfl
    have qA02 := A0_1.out.2 2 _ rfl
    have qA03 := A0_1.out.2 3 _ rfl
    try simp only [World.size_alloc] at lA0
    go_wp2_with fail
    refine (spaceOk_spec (HR.out.ext E_2.out) hm H1.out).mono ?_
    rintro e w_3 ⟨rfl, h_3⟩
    clear lA0 qA00 qA01 qA02 qA03
    have A0_4 := Lib.hid (A0_1.out.ext h_3)
    clear A0_1
    have E_5 := Lib.hid (E_2.out.trans h_3)
    clear E_2
    go_wp2
    go_ret2
    exact HFIN.out _ _ rfl E_5.out
  have hmo : mok P R C xs = true := by
    simp only [spaceM, Bool.and_eq_true] at h1; exact h1.1
  have hp := mok_lo hmo
  have hp2 := mok_hi hmo
  have hl1 := mok_len hmo
  have HPR := Lib.hid (mok_iff.1 hmo).1
  have HX := Lib.hid (mok_res hmo)
  have hq1 := inB_iff.1 (mok_iff.1 hmo).2.1
  have hq2 := inB_iff.1 (mok_iff.1 hmo).2.2.1
  have H1 := Lib.hid h1
  simp only [coM, h1, Bool.true_and] at hM
  obtain ⟨R, rfl⟩ := Int.eq_ofNat_of_zero_le hq1.1
  obtain ⟨C, rfl⟩ := Int.eq_ofNat_of_zero_le hq2.1
  have hR : R ≤ 40 := by omega
  have hC : C ≤ 40 := by omega
  have HN : Hid (n = R * C) := by rw [HR.out.1, ← Int.natCast_mul] at hl1; show n = R * C; omega
  have HS : Hid (IsSp P R C xs) := by
    simp only [spaceM, Bool.and_eq_true, Int.toNat_natCast, spB, decide_eq_true_eq] at h1; exact h1.2
  simp only [Int.toNat_natCast] at hM
  clear hl1 hq1 hq2 h1 hmo
  have hvl := HV.out.1
  rw [hvl] at hM
  clear hvl
  by_cases hn : nv = C
  case neg =>
    have hb : ((nv : Int) == (C : Int)) = false := by simp; omega
    have hb2 : ((nv : Int) != (C : Int)) = true := by simp; omega
    simp only [hb, Bool.false_and, Bool.false_eq_true, if_false, Prod.mk.injEq] at hM
    obtain ⟨rfl, rfl⟩ := hM
    clear hb hn
    go_enter Try.func34, Try.ntmps34
    have A0_1 := Lib.hid (cells_new' w #[.int .i64 P, .int .i64 R, .int .i64 C, .slice (some a) n c] 26 (w.heap.size) (by simp))
    have E_2 := Lib.hid ((Ext.refl w).alloc (.cells #[.int .i64 P, .int .i64 R, .int .i64 C, .slice (some a) n c] 26))
    have lA0 := A0_1.out.1
    have qA00 := A0_1.out.2 0 _ rfl
    have qA01 := A0_1.out.2 1 _ rfl
    have qA02 := A0_1.out.2 2 _ rfl
    have qA03 := A0_1.out.2 3 _ rfl
    try simp only [World.size_alloc] at lA0
    go_wp2_with fail
    refine (spaceOk_spec (HR.out.ext E_2.out) hm H1.out).mono ?_
    rintro e w_3 ⟨rfl, h_3⟩
    clear lA0 qA00 qA01 qA02 qA03
    have A0_4 := Lib.hid (A0_1.out.ext h_3)
    clear A0_1
    have E_5 := Lib.hid (E_2.out.trans h_3)
    clear E_2
    have lA0 := A0_4.out.1
    have qA00 := A0_4.out.2 0 _ rfl
    have qA01 := A0_4.out.2 1 _ rfl
    have qA02 := A0_4.out.2 2 _ rfl
    have qA03 := A0_4.out.2 3 _ rfl
    try simp only [World.size_alloc] at lA0
    go_wp2
    go_ret2
    exact HFIN.out _ _ rfl E_5.out
  subst hn
  simp only [beq_self_eq_true, Bool.true_and] at hM
  rcases hv : resB vs P with _ | _
  · simp only [hv, Bool.false_eq_true, if_false, Prod.mk.injEq] at hM
    obtain ⟨rfl, rfl⟩ := hM
    have H2 := Lib.hid hv
    clear hv
    go_enter Try.func34, Try.ntmps34
    have A0_1 := Lib.hid (cells_new' w #[.int .i64 P, .int .i64 R, .int .i64 nv, .slice (some a) n c] 26 (w.heap.size) (by simp))
    have E_2 := Lib.hid ((Ext.refl w).alloc (.cells #[.int .i64 P, .int .i64 R, .int .i64 nv, .slice (some a) n c] 26))
    have lA0 := A0_1.out.1
    have qA00 := A0_1.out.2 0 _ rfl
    have qA01 := A0_1.out.2 1 _ rfl
    have qA02 := A0_1.out.2 2 _ rfl
    have qA03 := A0_1.out.2 3 _ rfl
    try simp only [World.size_alloc] at lA0
    go_wp2_with fail
    refine (spaceOk_spec (HR.out.ext E_2.out) hm H1.out).mono ?_
    rintro e w_3 ⟨rfl, h_3⟩
    clear lA0 qA00 qA01 qA02 qA03
    have A0_4 := Lib.hid (A0_1.out.ext h_3)
    clear A0_1
    have E_5 := Lib.hid (E_2.out.trans h_3)
    clear E_2
    have lA0 := A0_4.out.1
    have qA00 := A0_4.out.2 0 _ rfl
    have qA01 := A0_4.out.2 1 _ rfl
    have qA02 := A0_4.out.2 2 _ rfl
    have qA03 := A0_4.out.2 3 _ rfl
    try simp only [World.size_alloc] at lA0
    go_wp2_with fail
    refine (l1Residues_spec _ _ _ vs _ _ (HV.out.ext E_5.out) hm2).mono ?_
    rintro e w' ⟨rfl, rfl⟩
    rw [H2.out]
    go_wp2
    go_ret2
    exact HFIN.out _ _ rfl E_5.out
  have H2 := Lib.hid hv
  simp only [hv, if_true] at hM
  have hy : Res vs P := by simpa [resB] using hv
  have HY := Lib.hid hy
  have HM := Lib.hid hM
  have HCE := Lib.hid (co_eq (isP_iff.1 HPR.out) (show xs.length = R * nv by rw [HR.out.1]; exact HN.out) HX.out HS.out hy HV.out.1)
  have HCL : Hid ((coL (redM P R nv xs).pv vs).length = R) := by rw [Hid, coL, List.length_map]; exact HS.out.1
  clear hM hv hy
  go_enter Try.func34, Try.ntmps34
  have A0_1 := Lib.hid (cells_new' w #[.int .i64 P, .int .i64 R, .int .i64 nv, .slice (some a) n c] 26 (w.heap.size) (by simp))
  have E_2 := Lib.hid ((Ext.refl w).alloc (.cells #[.int .i64 P, .int .i64 R, .int .i64 nv, .slice (some a) n c] 26))
  have lA0 := A0_1.out.1
  have qA00 := A0_1.out.2 0 _ rfl
  have qA01 := A0_1.out.2 1 _ rfl
  have qA02 := A0_1.out.2 2 _ rfl
  have qA03 := A0_1.out.2 3 _ rfl
  try simp only [World.size_alloc] at lA0
  go_wp2_with fail
  refine (spaceOk_spec (HR.out.ext E_2.out) hm H1.out).mono ?_
  rintro e w_3 ⟨rfl, h_3⟩
  clear lA0 qA00 qA01 qA02 qA03
  have A0_4 := Lib.hid (A0_1.out.ext h_3)
  clear A0_1
  have E_5 := Lib.hid (E_2.out.trans h_3)
  clear E_2
  have lA0 := A0_4.out.1
  have qA00 := A0_4.out.2 0 _ rfl
  have qA01 := A0_4.out.2 1 _ rfl
  have qA02 := A0_4.out.2 2 _ rfl
  have qA03 := A0_4.out.2 3 _ rfl
  try simp only [World.size_alloc] at lA0
  go_wp2_with fail
  refine (l1Residues_spec _ _ _ vs _ _ (HV.out.ext E_5.out) hm2).mono ?_
  rintro e w' ⟨rfl, rfl⟩
  rw [H2.out]
  clear lA0 qA00 qA01 qA02 qA03
  have lA0 := A0_4.out.1
  have qA00 := A0_4.out.2 0 _ rfl
  have qA01 := A0_4.out.2 1 _ rfl
  have qA02 := A0_4.out.2 2 _ rfl
  have qA03 := A0_4.out.2 3 _ rfl
  try simp only [World.size_alloc] at lA0
  go_wp2_with fail
  refine (l1Coordinates_spec P R nv n _ _ _ _ xs vs _ HPR.out (HR.out.ext E_5.out) (HV.out.ext E_5.out) HN.out hR (by omega) HX.out HY.out).mono ?_
  rintro e w_6 ⟨s, m, cc, rfl, ho, h_6⟩
  clear lA0 qA00 qA01 qA02 qA03
  have E2 := Lib.hid (E_5.out.trans h_6)
  have HO := Lib.hid (ho.mono E_5.out.le (Nat.le_refl _))
  clear ho h_6
  have hM := HM.out
  rw [HCE.out.1] at hM
  have HC2 := Lib.hid HCE.out.2
  clear HCE HM
  rcases hok : solOk P nv R (transTo xs R nv R) vs with _ | _
  · rw [hok] at hM HO
    simp only [Bool.false_eq_true, if_false, Prod.mk.injEq] at hM
    obtain ⟨rfl, rfl⟩ := hM
    have ho := HO.out
    simp only [Bool.false_eq_true, if_false] at ho
    have HO2 := Lib.hid ho
    clear hok ho HO HC2
    go_wp2
    go_ret2
    exact ⟨_, rfl, ⟨_, _, _, rfl, HO2.out, by have := HO2.out.1; simp at this; omega⟩, E2.out⟩
  · rw [hok] at hM HO
    simp only [if_true, Prod.mk.injEq] at hM
    obtain ⟨rfl, rfl⟩ := hM
    have ho := HO.out
    simp only [if_true] at ho
    rw [HC2.out hok] at ho
    have HO2 := Lib.hid ho
    clear hok ho HO HC2
    go_wp2
    go_ret2
    exact ⟨_, rfl, ⟨_, _, _, rfl, HO2.out, by have := HO2.out.1; rw [HCL.out] at this; omega⟩, E2.out⟩
end Go.Proofs.Ytafeognjplphhaa
