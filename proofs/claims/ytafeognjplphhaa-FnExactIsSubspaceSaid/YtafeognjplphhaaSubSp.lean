/-
  IsSubspace of both texts.
-/
import Derived.Test.YtafeognjplphhaaCoord
import Derived.Test.YtafeognjplphhaaSum
namespace Go.Proofs.Ytafeognjplphhaa
open Go.ChangeShapes Go.WideShapes Go.ChangeAt Go.RowKit
set_option linter.unusedVariables false

set_option maxHeartbeats 800000 in
theorem l1Row_spec (P R : Int) (C i b0 o0 n d : Nat) (w : World) (hlt : (i + 1) * C ≤ n) (hn : n ≤ 1048576) (hi : i ≤ 1048576) (hd : n ≤ d) (hd2 : d ≤ maxLen) :
    Calls Try.prog 116 #[.agg #[.int .i64 P, .int .i64 R, .int .i64 C, .slice (some ⟨b0, o0, none⟩) n d], .int .i64 i] w fun e w' => e = .returned (.slice (some ⟨b0, o0 + i * C, none⟩) C (d - i * C)) ∧ Ext w w' := by
  unfold maxLen at hd2
  have e0 : (i + 1) * C = i * C + C := by rw [Nat.add_mul]; omega
  have e1 : (i : Int) * (C : Int) = ((i * C : Nat) : Int) := by simp
  have e2 : ((i : Int) + 1) * (C : Int) = ((i * C + C : Nat) : Int) := by rw [← e0]; simp
  have g1 : 0 ≤ (i : Int) * (C : Int) := by rw [e1]; omega
  have g2 : (i : Int) * (C : Int) ≤ 1048576 := by rw [e1]; omega
  have g3 : 0 ≤ ((i : Int) + 1) * (C : Int) := by rw [e2]; omega
  have g4 : ((i : Int) + 1) * (C : Int) ≤ (d : Int) := by rw [e2]; omega
  have g7 : ((i : Int) + 1) * (C : Int) ≤ 1048576 := by rw [e2]; omega
  have g5 : (i : Int) * (C : Int) ≤ ((i : Int) + 1) * (C : Int) := by rw [e1, e2]; omega
  have g6 : (i : Int) ≤ 1048576 := by omega
  have E0 := Lib.hid e0
  clear e0 e1 e2
  have HLT := Lib.hid hlt
  go_enter Try.func116, Try.ntmps116
  go_wp2
  case inl =>
    have e3 : C = 0 := by have := E0.out; omega
    subst e3
    simp only [Nat.mul_zero] at h
    subst h
    go_ret
    exact ⟨by simp, (Ext.refl _).alloc _⟩
  case inr =>
    have e3 : (i + 1) * C - i * C = C := by have := E0.out; omega
    go_ret
    exact ⟨by simp [e3], (Ext.refl _).alloc _⟩

theorem reads_rowG {w : World} {b0 o0 R C n : Nat} {xs : List Int} (h : Reads w (some ⟨b0, o0, none⟩) n xs) (hn : n = R * C) {r : Nat} (hr : r < R) : Reads w (some ⟨b0, o0 + r * C, none⟩) C (rowL C xs r) := reads_row h hn hr
/-- All rows of the first lie in the space of the second: as the specification asks it. -/
def WithP (P : Int) (R R' C : Nat) (xs ys : List Int) : Prop := ∀ i, i < R → solOk P C R' (transTo ys R' C R') (rowL C xs i) = true
def InP2 (P : Int) (R R' C : Nat) (xs ys : List Int) : Prop := ∀ i, i < R → InSp P R' C (at2 C ys) (at2 C xs i)
noncomputable def withB (P : Int) (R R' C : Nat) (xs ys : List Int) : Bool := @decide (WithP P R R' C xs ys) (Classical.propDecidable _)
noncomputable def inB2 (P : Int) (R R' C : Nat) (xs ys : List Int) : Bool := @decide (InP2 P R R' C xs ys) (Classical.propDecidable _)
theorem withB_true {P : Int} {R R' C : Nat} {xs ys : List Int} (h : WithP P R R' C xs ys) : withB P R R' C xs ys = true := by simp [withB, h]
theorem withB_false {P : Int} {R R' C : Nat} {xs ys : List Int} (h : ¬ WithP P R R' C xs ys) : withB P R R' C xs ys = false := by simp [withB, h]
theorem inB2_true {P : Int} {R R' C : Nat} {xs ys : List Int} (h : InP2 P R R' C xs ys) : inB2 P R R' C xs ys = true := by simp [inB2, h]
theorem inB2_false {P : Int} {R R' C : Nat} {xs ys : List Int} (h : ¬ InP2 P R R' C xs ys) : inB2 P R R' C xs ys = false := by simp [inB2, h]
theorem rowR_res {P : Int} {C : Nat} {xs : List Int} (hP : 0 < P) (hx : Res xs P) (i : Nat) : Res (rowL C xs i) P := rowL_res hP hx _ _
theorem with_in {P : Int} {R R' C : Nat} {xs ys : List Int} (hp : IsP P) (hl : xs.length = R * C) (hl' : ys.length = R' * C) (hx : Res xs P) (hy : Res ys P) : withB P R R' C xs ys = inB2 P R R' C xs ys := by
  have h : ∀ i, i < R → (solOk P C R' (transTo ys R' C R') (rowL C xs i) = true ↔ InSp P R' C (at2 C ys) (at2 C xs i)) := fun i hi => by
    rw [trans_sol hp hl' hy (rowR_res (by have := hp.1; omega) hx i) (transTo_length _ _ _ _) (transTo_res hp.1 hy _) (fun c i hc hi => at2_transTo c i hc hi)]
    exact ⟨fun h => h.congr (fun c hc => by rw [gi_rowL hc]; exact Eqm.refl _), fun h => h.congr (fun c hc => by rw [gi_rowL hc]; exact Eqm.refl _)⟩
  have key : WithP P R R' C xs ys ↔ InP2 P R R' C xs ys := ⟨fun h2 i hi => (h i hi).1 (h2 i hi), fun h2 i hi => (h i hi).2 (h2 i hi)⟩
  by_cases e : InP2 P R R' C xs ys
  · rw [inB2_true e, withB_true (key.2 e)]
  · rw [inB2_false e, withB_false (fun h => e (key.1 h))]

set_option maxRecDepth 100000 in
set_option maxHeartbeats 6400000 in
theorem l1Within_spec (P : Int) (R R' C a0 oa n cn n' cn' : Nat) (a' : Option Addr) (xs ys : List Int) (w : World) (hpr : isP P = true) (hr : Reads w (some ⟨a0, oa, none⟩) n xs) (hr' : Reads w a' n' ys) (hn : n = R * C) (hn' : n' = R' * C) (hR : R ≤ 40) (hR' : R' ≤ 40) (hC : C ≤ 40) (hx : Res xs P) (hy : Res ys P) (hcn : n ≤ cn) (hcn2 : cn ≤ maxLen) :
    Calls Try.prog 80 #[.agg #[.int .i64 P, .int .i64 R, .int .i64 C, .slice (some ⟨a0, oa, none⟩) n cn], .agg #[.int .i64 P, .int .i64 R', .int .i64 C, .slice a' n' cn']] w fun e w' => e = .returned (.bool (withB P R R' C xs ys)) ∧ Ext w w' := by
  have HR := Lib.hid hr
  have HR' := Lib.hid hr'
  have HPR := Lib.hid hpr
  have HN := Lib.hid hn
  have HN' := Lib.hid hn'
  have HX := Lib.hid hx
  have HY := Lib.hid hy
  have HCN := Lib.hid hcn2
  have hp := isP_lo hpr
  have hnb : n ≤ 1048576 := by have := mul40 hR hC; omega
  clear hr hr' hpr hn hn' hx hy hcn2
  go_enter Try.func80, Try.ntmps80
  have A0_1 := Lib.hid ((cells_new' w #[.int .i64 P, .int .i64 R, .int .i64 C, .slice (some ⟨a0, oa, none⟩) n cn] 26 (w.heap.size) (by simp)).ext ((Ext.refl _).alloc (.cells #[.int .i64 P, .int .i64 R', .int .i64 C, .slice a' n' cn'] 26)))
  have A1_2 := Lib.hid (cells_new' (w.alloc (.cells #[.int .i64 P, .int .i64 R, .int .i64 C, .slice (some ⟨a0, oa, none⟩) n cn] 26)) #[.int .i64 P, .int .i64 R', .int .i64 C, .slice a' n' cn'] 26 (w.heap.size + 1) (by simp))
  have E_3 := Lib.hid (((Ext.refl w).alloc (.cells #[.int .i64 P, .int .i64 R, .int .i64 C, .slice (some ⟨a0, oa, none⟩) n cn] 26)).alloc (.cells #[.int .i64 P, .int .i64 R', .int .i64 C, .slice a' n' cn'] 26))
  go_wp2_with fail
  have E0 := Lib.hid (Ext.refl (((w.alloc (.cells #[.int .i64 P, .int .i64 R, .int .i64 C, .slice (some ⟨a0, oa, none⟩) n cn] 26)).alloc (.cells #[.int .i64 P, .int .i64 R', .int .i64 C, .slice a' n' cn'] 26))))
  generalize hW1 : ((w.alloc (.cells #[.int .i64 P, .int .i64 R, .int .i64 C, .slice (some ⟨a0, oa, none⟩) n cn] 26)).alloc (.cells #[.int .i64 P, .int .i64 R', .int .i64 C, .slice a' n' cn'] 26)) = W1 at *
  clear hW1
  go_loopw [5, 6, 7] (fun z _ _ wr => ∃ i : Nat, i ≤ R ∧ z = .int .i64 i ∧ Hid (Ext W1 wr) ∧ Hid (∀ k, k < i → solOk P C R' (transTo ys R' C R') (rowL C xs k) = true)) (fun z _ _ _ => R - (intOf z).toNat)
  case atStart => exact ⟨0, by omega, rfl, E0, fun k hk => by omega⟩
  case round =>
    clear E0
    obtain ⟨i, hi, rfl, hE, hF⟩ := hrel
    have pc := A0_1.out.ext hE.out
    have lp := pc.1
    have p0 := pc.2 0 _ rfl
    have p1 := pc.2 1 _ rfl
    have p2 := pc.2 2 _ rfl
    have p3 := pc.2 3 _ rfl
    clear pc
    have qc := A1_2.out.ext hE.out
    have lq := qc.1
    have q0 := qc.2 0 _ rfl
    have q1 := qc.2 1 _ rfl
    have q2 := qc.2 2 _ rfl
    have q3 := qc.2 3 _ rfl
    clear qc
    by_cases hlt : i < R
    · have HROW := Lib.hid (reads_rowG (HR.out.ext (E_3.out.trans hE.out)) HN.out hlt)
      have HY' := Lib.hid (HR'.out.ext (E_3.out.trans hE.out))
      have hrn := row_n hlt HN.out
      have HRN := Lib.hid hrn
      clear hrn
      have hco : ∀ w3, Ext wr w3 → Calls Try.prog 76 #[.agg #[.int .i64 P, .int .i64 R', .int .i64 C, .slice a' n' cn'], .slice (some ⟨a0, oa + i * C, none⟩) C (cn - i * C)] w3 (SolPost w3 (solOk P C R' (transTo ys R' C R') (rowL C xs i)) (solL P C R' (transTo ys R' C R') (rowL C xs i))) := fun w3 hE3 =>
        l1Coordinates_spec P R' C n' _ _ _ _ ys (rowL C xs i) w3 HPR.out (HY'.out.ext hE3) (HROW.out.ext hE3) HN'.out hR' hC HY.out (rowR_res (by omega) HX.out _)
      rcases hok : solOk P C R' (transTo ys R' C R') (rowL C xs i) with _ | _
      · rw [hok] at hco
        have HCO := Lib.hid hco
        have HF2 : Hid (withB P R R' C xs ys = false) := by
          refine withB_false (fun h => ?_)
          have := h i hlt
          rw [hok] at this; exact absurd this (by decide)
        clear hco hok hF
        go_wp2_with fail
        go_region_held3 (fun w' => Ext wr w' ∧ (∀ b o, b < wr.heap.size → w'.cell? ⟨b, o, none⟩ = wr.cell? ⟨b, o, none⟩)) (first | (with_reducible exact ext2 (Ext.trans (And.left ‹Ext wr _ ∧ _›) ‹Ext _ _›)) | (refine ext2 ?_; with_reducible repeat (first | exact Ext.refl _ | refine Ext.drew ?_))) (first
          | (go_at_call 116; with_reducible refine (l1Row_spec P R C i a0 oa n cn _ HRN.out hnb (by omega) hcn HCN.out).mono ?_; rintro e w3 ⟨rfl, h3⟩)
          | (go_at_call 76; (with_reducible refine (HCO.out _ (And.left ‹Ext wr _ ∧ _›)).mono ?_); rintro e w4 ⟨s4, m4, c4, rfl, ho4, h4⟩))
        all_goals
          have hx := (And.left ‹Ext wr w4 ∧ _›)
          have HZ := Lib.hid ((E_3.out.trans hE.out).trans hx)
          clear hx ho4
          go_wp2
          go_ret
          exact ⟨ret_bool HF2.out.symm, HZ.out⟩
      · rw [hok] at hco
        have HCO := Lib.hid hco
        have HF2 : Hid (∀ k, k < i + 1 → solOk P C R' (transTo ys R' C R') (rowL C xs k) = true) := fun k hk => by
          by_cases e : k = i
          · subst e; exact hok
          · exact hF.out k (by omega)
        clear hco hok hF
        go_wp2_with fail
        go_region_held3 (fun w' => Ext wr w' ∧ (∀ b o, b < wr.heap.size → w'.cell? ⟨b, o, none⟩ = wr.cell? ⟨b, o, none⟩)) (first | (with_reducible exact ext2 (Ext.trans (And.left ‹Ext wr _ ∧ _›) ‹Ext _ _›)) | (refine ext2 ?_; with_reducible repeat (first | exact Ext.refl _ | refine Ext.drew ?_))) (first
          | (go_at_call 116; with_reducible refine (l1Row_spec P R C i a0 oa n cn _ HRN.out hnb (by omega) hcn HCN.out).mono ?_; rintro e w3 ⟨rfl, h3⟩)
          | (go_at_call 76; (with_reducible refine (HCO.out _ (And.left ‹Ext wr _ ∧ _›)).mono ?_); rintro e w4 ⟨s4, m4, c4, rfl, ho4, h4⟩))
        all_goals
          have hx := (And.left ‹Ext wr w4 ∧ _›)
          have HZ := Lib.hid (hE.out.trans hx)
          clear hx ho4
          go_wp2
          exact ⟨⟨i + 1, by omega, by simp, HZ, HF2⟩, by simp [intOf]; omega⟩
    · obtain rfl : R = i := by omega
      have HF2 : Hid (withB P R R' C xs ys = true) := withB_true hF.out
      have HZ := Lib.hid (E_3.out.trans hE.out)
      clear hF
      go_wp2
      go_ret
      exact ⟨ret_bool HF2.out.symm, HZ.out⟩

noncomputable def subM (P R C : Int) (xs : List Int) (P' R' C' : Int) (xs' : List Int) : Bool := bothM P R C xs P' R' C' xs' && inB2 P R.toNat R'.toNat C.toNat xs xs'
theorem both_sp {P R C P' R' C' : Int} {xs xs' : List Int} (h : bothM P R C xs P' R' C' xs' = true) : IsSp P' R'.toNat C'.toNat xs' := by
  simp only [bothM, spaceM, spB, Bool.and_eq_true, decide_eq_true_eq] at h
  exact h.1.1.2.2

set_option maxRecDepth 100000 in
set_option maxHeartbeats 6400000 in
theorem isSubspace_impl {P R C P' R' C' : Int} {a0 oa b0 ob n n' : Nat} {xs xs' : List Int} {w : World} {i : Bool} (h : Reads w (some ⟨a0, oa, none⟩) n xs) (hm : n ≤ 1048576) (h' : Reads w (some ⟨b0, ob, none⟩) n' xs') (hm' : n' ≤ 1048576) (hM : subM P R C xs P' R' C' xs' = i) :
    Calls Try.prog 37 #[.agg #[.int .i64 P, .int .i64 R, .int .i64 C, .slice (some ⟨a0, oa, none⟩) n n], .agg #[(.int .i64 P'), (.int .i64 R'), (.int .i64 C'), (.slice (some ⟨b0, ob, none⟩) n' n')]] w fun e w' => e = .returned (.bool i) ∧ Ext w w' := by
  have HR := Lib.hid h
  have HR' := Lib.hid h'
  have HM := Lib.hid hM
  clear h h' hM
  rcases hB0 : bothM P R C xs P' R' C' xs' with _ | _
  · have HF : Hid (i = false) := by rw [Hid, ← HM.out, subM, hB0]; rfl
    have HS : Hid (sumM P R C xs P' R' C' xs' = (⟨0, 0, 0, []⟩, false)) := by rw [Hid, sumM, hB0]; rfl
    clear hB0
    go_enter Try.func37, Try.ntmps37
    have A0_1 := Lib.hid ((cells_new' w #[.int .i64 P, .int .i64 R, .int .i64 C, .slice (some ⟨a0, oa, none⟩) n n] 26 (w.heap.size) (by simp)).ext ((Ext.refl _).alloc (.cells #[(.int .i64 P'), (.int .i64 R'), (.int .i64 C'), (.slice (some ⟨b0, ob, none⟩) n' n')] 26)))
    have A1_2 := Lib.hid (cells_new' (w.alloc (.cells #[.int .i64 P, .int .i64 R, .int .i64 C, .slice (some ⟨a0, oa, none⟩) n n] 26)) #[(.int .i64 P'), (.int .i64 R'), (.int .i64 C'), (.slice (some ⟨b0, ob, none⟩) n' n')] 26 (w.heap.size + 1) (by simp))
    have E_3 := Lib.hid (((Ext.refl w).alloc (.cells #[.int .i64 P, .int .i64 R, .int .i64 C, .slice (some ⟨a0, oa, none⟩) n n] 26)).alloc (.cells #[(.int .i64 P'), (.int .i64 R'), (.int .i64 C'), (.slice (some ⟨b0, ob, none⟩) n' n')] 26))
    have lA0 := A0_1.out.1
    have qA00 := A0_1.out.2 0 _ rfl
    have qA01 := A0_1.out.2 1 _ rfl
    have qA02 := A0_1.out.2 2 _ rfl
    have qA03 := A0_1.out.2 3 _ rfl
    have lA1 := A1_2.out.1
    have qA10 := A1_2.out.2 0 _ rfl
    have qA11 := A1_2.out.2 1 _ rfl
    have qA12 := A1_2.out.2 2 _ rfl
    have qA13 := A1_2.out.2 3 _ rfl
    try simp only [World.size_alloc] at lA0 lA1
    go_wp2_with fail
    refine (sumSpaces_impl (HR.out.ext E_3.out) hm (HR'.out.ext E_3.out) hm' HS.out).mono ?_
    rintro e w_4 ⟨v, rfl, ⟨a2, n2, c2, rfl, ho2, hm2⟩, h_4⟩
    clear lA0 qA00 qA01 qA02 qA03 lA1 qA10 qA11 qA12 qA13
    have A0_5 := Lib.hid (A0_1.out.ext h_4)
    clear A0_1
    have A1_6 := Lib.hid (A1_2.out.ext h_4)
    clear A1_2
    have E_7 := Lib.hid (E_3.out.trans h_4)
    clear E_3
    clear ho2
    have P_8 := (Ext.refl w_4).alloc (.cells #[.int .i64 0, .int .i64 0, .int .i64 0, .slice a2 n2 c2] 26)
    have A0_9 := Lib.hid (A0_5.out.ext P_8)
    clear A0_5
    have A1_10 := Lib.hid (A1_6.out.ext P_8)
    clear A1_6
    have E_11 := Lib.hid (E_7.out.trans P_8)
    clear E_7
    clear P_8
    have M_12 := Lib.hid (cells_new w_4 #[.int .i64 0, .int .i64 0, .int .i64 0, .slice a2 n2 c2] 26)
    have lA0 := A0_9.out.1
    have qA00 := A0_9.out.2 0 _ rfl
    have qA01 := A0_9.out.2 1 _ rfl
    have qA02 := A0_9.out.2 2 _ rfl
    have qA03 := A0_9.out.2 3 _ rfl
    have lA1 := A1_10.out.1
    have qA10 := A1_10.out.2 0 _ rfl
    have qA11 := A1_10.out.2 1 _ rfl
    have qA12 := A1_10.out.2 2 _ rfl
    have qA13 := A1_10.out.2 3 _ rfl
    have lM := M_12.out.1
    have qM0 := M_12.out.2 0 _ rfl
    have qM1 := M_12.out.2 1 _ rfl
    have qM2 := M_12.out.2 2 _ rfl
    have qM3 := M_12.out.2 3 _ rfl
    try simp only [World.size_alloc] at lA0 lA1 lM
    go_wp2
    go_ret
    exact ⟨ret_bool HF.out.symm, E_11.out⟩
  have hB := hB0
  obtain ⟨h1, h2, e1, e2⟩ := both_parts hB
  have HSP := Lib.hid (both_sp hB)
  have HB := Lib.hid hB
  clear hB hB0
  obtain rfl : P = P' := e1
  obtain rfl : C = C' := e2
  have hl1 := mok_len h1
  have hl2 := mok_len h2
  have hp := mok_lo h1
  have HPR := Lib.hid (mok_iff.1 h1).1
  have HX := Lib.hid (mok_res h1)
  have HY := Lib.hid (mok_res h2)
  have hq1 := inB_iff.1 (mok_iff.1 h1).2.1
  have hq2 := inB_iff.1 (mok_iff.1 h1).2.2.1
  have hq3 := inB_iff.1 (mok_iff.1 h2).2.1
  obtain ⟨R, rfl⟩ := Int.eq_ofNat_of_zero_le hq1.1
  obtain ⟨C, rfl⟩ := Int.eq_ofNat_of_zero_le hq2.1
  obtain ⟨R', rfl⟩ := Int.eq_ofNat_of_zero_le hq3.1
  have hR : R ≤ 40 := by omega
  have hC : C ≤ 40 := by omega
  have hR' : R' ≤ 40 := by omega
  have HN : Hid (n = R * C) := by rw [HR.out.1, ← Int.natCast_mul] at hl1; show n = R * C; omega
  have HN' : Hid (n' = R' * C) := by rw [HR'.out.1, ← Int.natCast_mul] at hl2; show n' = R' * C; omega
  simp only [Int.toNat_natCast] at HSP HM
  clear hl1 hl2 hq1 hq2 hq3 h1 h2
  have HS : Hid (sumM P R C xs P R' C xs' = (⟨P, ((redM P (R + R') C (xs ++ xs')).pv.length : Nat), C, spanL P (R + R') C (xs ++ xs')⟩, true)) := by
    rw [Hid, sumM, HB.out, if_pos rfl, Int.toNat_natCast, Int.toNat_natCast, Int.toNat_natCast]
  have hsi := sub_iff (Ra := R) (xa := xs) (isP_iff.1 HPR.out) (by rw [HR.out.1]; exact HN.out) (by rw [HR'.out.1]; exact HN'.out) HX.out HY.out HSP.out
  have hsub : subM P R C xs P R' C xs' = inB2 P R R' C xs xs' := by rw [subM, HB.out, Bool.true_and, Int.toNat_natCast, Int.toNat_natCast, Int.toNat_natCast]
  have HW : Hid (((((redM P (R + R') C (xs ++ xs')).pv.length : Nat) : Int) == (R' : Int)) = i) := by
    rw [Hid, ← HM.out, hsub]
    by_cases e : (redM P (R + R') C (xs ++ xs')).pv.length = R'
    · rw [inB2_true (hsi.1 e)]; exact beq_iff_eq.2 (by omega)
    · rw [inB2_false (fun h => e (hsi.2 h))]; simp; omega
  clear hsi hsub
  generalize (redM P (R + R') C (xs ++ xs')).pv.length = K at HS HW
  generalize spanL P (R + R') C (xs ++ xs') = L at HS
  go_enter Try.func37, Try.ntmps37
  have A0_1 := Lib.hid ((cells_new' w #[.int .i64 P, .int .i64 R, .int .i64 C, .slice (some ⟨a0, oa, none⟩) n n] 26 (w.heap.size) (by simp)).ext ((Ext.refl _).alloc (.cells #[.int .i64 P, .int .i64 R', .int .i64 C, .slice (some ⟨b0, ob, none⟩) n' n'] 26)))
  have A1_2 := Lib.hid (cells_new' (w.alloc (.cells #[.int .i64 P, .int .i64 R, .int .i64 C, .slice (some ⟨a0, oa, none⟩) n n] 26)) #[.int .i64 P, .int .i64 R', .int .i64 C, .slice (some ⟨b0, ob, none⟩) n' n'] 26 (w.heap.size + 1) (by simp))
  have E_3 := Lib.hid (((Ext.refl w).alloc (.cells #[.int .i64 P, .int .i64 R, .int .i64 C, .slice (some ⟨a0, oa, none⟩) n n] 26)).alloc (.cells #[.int .i64 P, .int .i64 R', .int .i64 C, .slice (some ⟨b0, ob, none⟩) n' n'] 26))
  have lA0 := A0_1.out.1
  have qA00 := A0_1.out.2 0 _ rfl
  have qA01 := A0_1.out.2 1 _ rfl
  have qA02 := A0_1.out.2 2 _ rfl
  have qA03 := A0_1.out.2 3 _ rfl
  have lA1 := A1_2.out.1
  have qA10 := A1_2.out.2 0 _ rfl
  have qA11 := A1_2.out.2 1 _ rfl
  have qA12 := A1_2.out.2 2 _ rfl
  have qA13 := A1_2.out.2 3 _ rfl
  try simp only [World.size_alloc] at lA0 lA1
  go_wp2_with fail
  refine (sumSpaces_impl (HR.out.ext E_3.out) hm (HR'.out.ext E_3.out) hm' HS.out).mono ?_
  rintro e w_4 ⟨v, rfl, ⟨a2, n2, c2, rfl, ho2, hm2⟩, h_4⟩
  clear lA0 qA00 qA01 qA02 qA03 lA1 qA10 qA11 qA12 qA13
  have A0_5 := Lib.hid (A0_1.out.ext h_4)
  clear A0_1
  have A1_6 := Lib.hid (A1_2.out.ext h_4)
  clear A1_2
  have E_7 := Lib.hid (E_3.out.trans h_4)
  clear E_3
  clear ho2
  have P_8 := (Ext.refl w_4).alloc (.cells #[.int .i64 P, .int .i64 K, .int .i64 C, .slice a2 n2 c2] 26)
  have A0_9 := Lib.hid (A0_5.out.ext P_8)
  clear A0_5
  have A1_10 := Lib.hid (A1_6.out.ext P_8)
  clear A1_6
  have E_11 := Lib.hid (E_7.out.trans P_8)
  clear E_7
  clear P_8
  have M_12 := Lib.hid (cells_new w_4 #[.int .i64 P, .int .i64 K, .int .i64 C, .slice a2 n2 c2] 26)
  have lA0 := A0_9.out.1
  have qA00 := A0_9.out.2 0 _ rfl
  have qA01 := A0_9.out.2 1 _ rfl
  have qA02 := A0_9.out.2 2 _ rfl
  have qA03 := A0_9.out.2 3 _ rfl
  have lA1 := A1_10.out.1
  have qA10 := A1_10.out.2 0 _ rfl
  have qA11 := A1_10.out.2 1 _ rfl
  have qA12 := A1_10.out.2 2 _ rfl
  have qA13 := A1_10.out.2 3 _ rfl
  have lM := M_12.out.1
  have qM0 := M_12.out.2 0 _ rfl
  have qM1 := M_12.out.2 1 _ rfl
  have qM2 := M_12.out.2 2 _ rfl
  have qM3 := M_12.out.2 3 _ rfl
  try simp only [World.size_alloc] at lA0 lA1 lM
  go_wp2
  go_ret
  exact ⟨ret_bool HW.out, E_11.out⟩

set_option maxRecDepth 100000 in
set_option maxHeartbeats 6400000 in
theorem isSubspace_spec {P R C P' R' C' : Int} {a0 oa b0 ob n n' : Nat} {xs xs' : List Int} {w : World} {i : Bool} (h : Reads w (some ⟨a0, oa, none⟩) n xs) (hm : n ≤ 1048576) (h' : Reads w (some ⟨b0, ob, none⟩) n' xs') (hm' : n' ≤ 1048576) (hM : subM P R C xs P' R' C' xs' = i) :
    Calls Try.prog 36 #[.agg #[.int .i64 P, .int .i64 R, .int .i64 C, .slice (some ⟨a0, oa, none⟩) n n], .agg #[(.int .i64 P'), (.int .i64 R'), (.int .i64 C'), (.slice (some ⟨b0, ob, none⟩) n' n')]] w fun e w' => e = .returned (.bool i) ∧ Ext w w' := by
  have HR := Lib.hid h
  have HR' := Lib.hid h'
  have HM := Lib.hid hM
  clear h h' hM
  rcases hB0 : bothM P R C xs P' R' C' xs' with _ | _
  · have HF : Hid (i = false) := by rw [Hid, ← HM.out, subM, hB0]; rfl
    have HB := Lib.hid hB0
    clear hB0
    go_enter Try.func36, Try.ntmps36
    have A0_1 := Lib.hid ((cells_new' w #[.int .i64 P, .int .i64 R, .int .i64 C, .slice (some ⟨a0, oa, none⟩) n n] 26 (w.heap.size) (by simp)).ext ((Ext.refl _).alloc (.cells #[(.int .i64 P'), (.int .i64 R'), (.int .i64 C'), (.slice (some ⟨b0, ob, none⟩) n' n')] 26)))
    have A1_2 := Lib.hid (cells_new' (w.alloc (.cells #[.int .i64 P, .int .i64 R, .int .i64 C, .slice (some ⟨a0, oa, none⟩) n n] 26)) #[(.int .i64 P'), (.int .i64 R'), (.int .i64 C'), (.slice (some ⟨b0, ob, none⟩) n' n')] 26 (w.heap.size + 1) (by simp))
    have E_3 := Lib.hid (((Ext.refl w).alloc (.cells #[.int .i64 P, .int .i64 R, .int .i64 C, .slice (some ⟨a0, oa, none⟩) n n] 26)).alloc (.cells #[(.int .i64 P'), (.int .i64 R'), (.int .i64 C'), (.slice (some ⟨b0, ob, none⟩) n' n')] 26))
    have lA0 := A0_1.out.1
    have qA00 := A0_1.out.2 0 _ rfl
    have qA01 := A0_1.out.2 1 _ rfl
    have qA02 := A0_1.out.2 2 _ rfl
    have qA03 := A0_1.out.2 3 _ rfl
    have lA1 := A1_2.out.1
    have qA10 := A1_2.out.2 0 _ rfl
    have qA11 := A1_2.out.2 1 _ rfl
    have qA12 := A1_2.out.2 2 _ rfl
    have qA13 := A1_2.out.2 3 _ rfl
    try simp only [World.size_alloc] at lA0 lA1
    go_wp2_with fail
    refine (both_spec (HR.out.ext E_3.out) hm (HR'.out.ext E_3.out) hm' HB.out).mono ?_
    rintro e w_4 ⟨rfl, h_4⟩
    clear lA0 qA00 qA01 qA02 qA03 lA1 qA10 qA11 qA12 qA13
    have A0_5 := Lib.hid (A0_1.out.ext h_4)
    clear A0_1
    have A1_6 := Lib.hid (A1_2.out.ext h_4)
    clear A1_2
    have E_7 := Lib.hid (E_3.out.trans h_4)
    clear E_3
    go_wp2
    go_ret
    exact ⟨ret_bool HF.out.symm, E_7.out⟩
  have hB := hB0
  obtain ⟨h1, h2, e1, e2⟩ := both_parts hB
  have HSP := Lib.hid (both_sp hB)
  have HB := Lib.hid hB
  clear hB hB0
  obtain rfl : P = P' := e1
  obtain rfl : C = C' := e2
  have hl1 := mok_len h1
  have hl2 := mok_len h2
  have hp := mok_lo h1
  have HPR := Lib.hid (mok_iff.1 h1).1
  have HX := Lib.hid (mok_res h1)
  have HY := Lib.hid (mok_res h2)
  have hq1 := inB_iff.1 (mok_iff.1 h1).2.1
  have hq2 := inB_iff.1 (mok_iff.1 h1).2.2.1
  have hq3 := inB_iff.1 (mok_iff.1 h2).2.1
  obtain ⟨R, rfl⟩ := Int.eq_ofNat_of_zero_le hq1.1
  obtain ⟨C, rfl⟩ := Int.eq_ofNat_of_zero_le hq2.1
  obtain ⟨R', rfl⟩ := Int.eq_ofNat_of_zero_le hq3.1
  have hR : R ≤ 40 := by omega
  have hC : C ≤ 40 := by omega
  have hR' : R' ≤ 40 := by omega
  have HN : Hid (n = R * C) := by rw [HR.out.1, ← Int.natCast_mul] at hl1; show n = R * C; omega
  have HN' : Hid (n' = R' * C) := by rw [HR'.out.1, ← Int.natCast_mul] at hl2; show n' = R' * C; omega
  simp only [Int.toNat_natCast] at HSP HM
  clear hl1 hl2 hq1 hq2 hq3 h1 h2
  have HW : Hid (i = withB P R R' C xs xs') := by
    rw [Hid, with_in (isP_iff.1 HPR.out) (by rw [HR.out.1]; exact HN.out) (by rw [HR'.out.1]; exact HN'.out) HX.out HY.out, ← HM.out, subM, HB.out, Bool.true_and, Int.toNat_natCast, Int.toNat_natCast, Int.toNat_natCast]
  go_enter Try.func36, Try.ntmps36
  have A0_1 := Lib.hid ((cells_new' w #[.int .i64 P, .int .i64 R, .int .i64 C, .slice (some ⟨a0, oa, none⟩) n n] 26 (w.heap.size) (by simp)).ext ((Ext.refl _).alloc (.cells #[.int .i64 P, .int .i64 R', .int .i64 C, .slice (some ⟨b0, ob, none⟩) n' n'] 26)))
  have A1_2 := Lib.hid (cells_new' (w.alloc (.cells #[.int .i64 P, .int .i64 R, .int .i64 C, .slice (some ⟨a0, oa, none⟩) n n] 26)) #[.int .i64 P, .int .i64 R', .int .i64 C, .slice (some ⟨b0, ob, none⟩) n' n'] 26 (w.heap.size + 1) (by simp))
  have E_3 := Lib.hid (((Ext.refl w).alloc (.cells #[.int .i64 P, .int .i64 R, .int .i64 C, .slice (some ⟨a0, oa, none⟩) n n] 26)).alloc (.cells #[.int .i64 P, .int .i64 R', .int .i64 C, .slice (some ⟨b0, ob, none⟩) n' n'] 26))
  have lA0 := A0_1.out.1
  have qA00 := A0_1.out.2 0 _ rfl
  have qA01 := A0_1.out.2 1 _ rfl
  have qA02 := A0_1.out.2 2 _ rfl
  have qA03 := A0_1.out.2 3 _ rfl
  have lA1 := A1_2.out.1
  have qA10 := A1_2.out.2 0 _ rfl
  have qA11 := A1_2.out.2 1 _ rfl
  have qA12 := A1_2.out.2 2 _ rfl
  have qA13 := A1_2.out.2 3 _ rfl
  try simp only [World.size_alloc] at lA0 lA1
  go_wp2_with fail
  refine (both_spec (HR.out.ext E_3.out) hm (HR'.out.ext E_3.out) hm' HB.out).mono ?_
  rintro e w_4 ⟨rfl, h_4⟩
  clear lA0 qA00 qA01 qA02 qA03 lA1 qA10 qA11 qA12 qA13
  have A0_5 := Lib.hid (A0_1.out.ext h_4)
  clear A0_1
  have A1_6 := Lib.hid (A1_2.out.ext h_4)
  clear A1_2
  have E_7 := Lib.hid (E_3.out.trans h_4)
  clear E_3
  have lA0 := A0_5.out.1
  have qA00 := A0_5.out.2 0 _ rfl
  have qA01 := A0_5.out.2 1 _ rfl
  have qA02 := A0_5.out.2 2 _ rfl
  have qA03 := A0_5.out.2 3 _ rfl
  have lA1 := A1_6.out.1
  have qA10 := A1_6.out.2 0 _ rfl
  have qA11 := A1_6.out.2 1 _ rfl
  have qA12 := A1_6.out.2 2 _ rfl
  have qA13 := A1_6.out.2 3 _ rfl
  try simp only [World.size_alloc] at lA0 lA1
  go_wp2_with fail
  refine (l1Within_spec P R R' C _ _ _ _ _ _ _ xs xs' _ HPR.out (HR.out.ext E_7.out) (HR'.out.ext E_7.out) HN.out HN'.out hR hR' hC HX.out HY.out (Nat.le_refl _) (by unfold maxLen; omega)).mono ?_
  rintro e w_8 ⟨rfl, h_8⟩
  rw [← HW.out]
  clear lA0 qA00 qA01 qA02 qA03 lA1 qA10 qA11 qA12 qA13
  have A0_9 := Lib.hid (A0_5.out.ext h_8)
  clear A0_5
  have A1_10 := Lib.hid (A1_6.out.ext h_8)
  clear A1_6
  have E_11 := Lib.hid (E_7.out.trans h_8)
  clear E_7
  go_wp2
  go_ret
  exact ⟨rfl, E_11.out⟩
end Go.Proofs.Ytafeognjplphhaa
