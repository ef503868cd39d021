/-
  Whether an algebra is valid, in the program.
-/
import Derived.Test.YtgmipolgnpjmnaaLie3
namespace Go.Proofs.Ytgmipolgnpjmnaa
open Go.ChangeShapes Go.WideShapes Go.ChangeAt Go.RowKit
set_option linter.unusedVariables false

noncomputable def dimB (P D : Int) : Bool := isP P && inB D 0 28
set_option maxHeartbeats 400000 in
theorem dimOk_impl (P D : Int) (w : World) :
    Calls Try.prog 142 #[.int .i64 P, .int .i64 D] w fun e w' => e = .returned (.bool (dimB P D)) ∧ w = w' := by
  have HD : Hid (dimB P D = (isP P && inB D 0 28)) := rfl
  generalize dimB P D = q at HD
  rcases hp : isP P with _ | _
  · have HF : Hid (q = false) := by rw [Hid, HD.out, hp]; rfl
    go_enter Try.func142, Try.ntmps142
    go_wp2_with fail
    refine (isPrime_impl _ _).mono ?_
    rintro e w' ⟨rfl, rfl⟩
    rw [hp]
    go_wp2
    go_ret
    exact ⟨ret_bool HF.out.symm, rfl⟩
  have HP := Lib.hid hp
  clear hp
  by_cases h1 : 0 ≤ D
  · by_cases h2 : D ≤ 28
    · have HF : Hid (q = true) := by rw [Hid, HD.out, HP.out, Bool.true_and]; exact inB_iff.2 ⟨h1, h2⟩
      go_enter Try.func142, Try.ntmps142
      go_wp2_with fail
      refine (isPrime_impl _ _).mono ?_
      rintro e w' ⟨rfl, rfl⟩
      rw [HP.out]
      go_wp2
      go_ret
      exact ⟨ret_bool (by rw [HF.out]; try simp [h2]), rfl⟩
    · have HF : Hid (q = false) := by rw [Hid, HD.out, HP.out, Bool.true_and]; exact inB_false.2 (fun h => h2 h.2)
      have hb : decide (D ≤ 28) = false := by simpa using h2
      go_enter Try.func142, Try.ntmps142
      go_wp2_with fail
      refine (isPrime_impl _ _).mono ?_
      rintro e w' ⟨rfl, rfl⟩
      rw [HP.out]
      go_wp2
      go_ret
      exact ⟨ret_bool (by rw [HF.out]; try simp [h2]), rfl⟩
  · have HF : Hid (q = false) := by rw [Hid, HD.out, HP.out, Bool.true_and]; exact inB_false.2 (fun h => h1 h.1)
    have hb : decide (0 ≤ D) = false := by simpa using h1
    go_enter Try.func142, Try.ntmps142
    go_wp2_with fail
    refine (isPrime_impl _ _).mono ?_
    rintro e w' ⟨rfl, rfl⟩
    rw [HP.out]
    go_wp2
    go_ret
    exact ⟨ret_bool (by rw [HF.out]; try simp [h1]), rfl⟩

noncomputable def sizB (P D : Int) (xs : List Int) : Bool := dimB P D && (((xs.length : Int) == D * D * D) && resB xs P)
set_option maxRecDepth 100000 in
set_option maxHeartbeats 1600000 in
theorem sizeFits_impl (P D : Int) (B n d : Nat) (a : Option Addr) (l : List Int) (w : World) (hc : Cells w B [.int .i64 P, .int .i64 D, .slice a n d]) (hT : Reads w a n l) (hm : n ≤ maxLen) :
    Calls Try.prog 109 #[.pointer (some ⟨B, 0, none⟩)] w fun e w' => e = .returned (.bool (sizB P D l)) ∧ Ext w w' := by
  have HC := Lib.hid hc
  have HT := Lib.hid hT
  have lB := hc.1
  have q0 := hc.2 0 _ rfl
  have q1 := hc.2 1 _ rfl
  have q2 := hc.2 2 _ rfl
  have HS : Hid (sizB P D l = (dimB P D && (((n : Int) == D * D * D) && resB l P))) := by rw [Hid, sizB, hT.1]
  generalize sizB P D l = q at HS
  clear hc hT
  rcases hd : dimB P D with _ | _
  · have HF : Hid (q = false) := by rw [Hid, HS.out, hd]; rfl
    have hdm := fun w => dimOk_impl P D w
    rw [hd] at hdm
    have HDM := Lib.hid hdm
    clear hd hdm
    go_enter Try.func109, Try.ntmps109
    go_wp2_with fail
    go_quiet ((go_at_call 142; exact Calls.quiet_of_same ((HDM.out _).mono fun _ _ ⟨he, hw⟩ => ⟨he, hw.symm⟩)))
    go_wp2
    go_ret
    exact ⟨ret_bool HF.out.symm, by with_reducible repeat (first | exact Ext.refl _ | refine Ext.drewN ?_ _)⟩
  have hdd : 0 ≤ D ∧ D ≤ 28 := by
    simp only [dimB, Bool.and_eq_true] at hd; exact inB_iff.1 hd.2
  obtain ⟨hd0, hd28⟩ := hdd
  have HF : Hid (q = (((n : Int) == D * D * D) && resB l P)) := by rw [Hid, HS.out, hd, Bool.true_and]
  have hdm := fun w => dimOk_impl P D w
  rw [hd] at hdm
  have HDM := Lib.hid hdm
  have hiv := fun w (hr : Reads w a n l) => isVector_impl a n d l (D * D * D) P w hr hm
  rw [← HF.out] at hiv
  have HIV := Lib.hid hiv
  clear hd hdm hiv HS
  obtain ⟨D, rfl⟩ := Int.eq_ofNat_of_zero_le hd0
  have hD : D ≤ 28 := by omega
  have h28 := cube28 hD
  have h27 : D * D ≤ 784 := Nat.mul_le_mul hD hD
  have e1 : (D : Int) * (D : Int) = ((D * D : Nat) : Int) := by simp
  have e2 : (D : Int) * (D : Int) * (D : Int) = ((D * D * D : Nat) : Int) := by simp
  have v1 : IntKind.i64.wrap ((D : Int) * (D : Int)) = (D : Int) * (D : Int) := IntWalk.i64_in _ ⟨by rw [e1]; omega, by rw [e1]; omega⟩
  have v2 : IntKind.i64.wrap ((D : Int) * (D : Int) * (D : Int)) = (D : Int) * (D : Int) * (D : Int) := IntWalk.i64_in _ ⟨by rw [e2]; omega, by rw [e2]; omega⟩
  clear e1 e2 hd0 hd28
  go_enter Try.func109, Try.ntmps109
  go_wp2_with fail
  go_quiet (first
    | (go_at_call 142; exact Calls.quiet_of_same ((HDM.out _).mono fun _ _ ⟨he, hw⟩ => ⟨he, hw.symm⟩))
    | (go_at_call 143; exact Calls.quiet_of_same ((HIV.out _ (HT.out.ext ((Ext.refl _).drewN _))).mono fun _ _ ⟨he, hw⟩ => ⟨he, hw.symm⟩)))
  go_wp2
  go_ret
  exact ⟨rfl, by with_reducible repeat (first | exact Ext.refl _ | refine Ext.drewN ?_ _)⟩

noncomputable def algB (P D : Int) (xs : List Int) : Bool := sizB P D xs && (altB P D.toNat xs && jacB P D.toNat xs)
structure AlgP (P : Int) (D : Nat) (n : Nat) (xs : List Int) : Prop where
  pr : isP P = true
  dim : D ≤ 28
  len : n = D * D * D
  res : Res xs P
  alt : AltP P D xs
  jac : JacP P D xs
theorem sizB_parts {P D : Int} {xs : List Int} (h : sizB P D xs = true) : isP P = true ∧ ∃ d : Nat, D = d ∧ d ≤ 28 ∧ xs.length = d * d * d ∧ Res xs P := by
  simp only [sizB, dimB, Bool.and_eq_true, beq_iff_eq] at h
  obtain ⟨⟨h1, h2⟩, h3, h4⟩ := h
  have h5 := inB_iff.1 h2
  obtain ⟨d, rfl⟩ := Int.eq_ofNat_of_zero_le h5.1
  refine ⟨h1, d, rfl, by omega, ?_, by simpa [resB] using h4⟩
  have : ((xs.length : Nat) : Int) = ((d * d * d : Nat) : Int) := by rw [h3]; simp
  omega
theorem algB_parts {P D : Int} {xs : List Int} {n : Nat} (h : algB P D xs = true) (hn : xs.length = n) : ∃ d : Nat, D = d ∧ AlgP P d n xs := by
  simp only [algB, Bool.and_eq_true] at h
  obtain ⟨h1, h2, h3⟩ := h
  obtain ⟨p1, d, rfl, p2, p3, p4⟩ := sizB_parts h1
  rw [Int.toNat_natCast] at h2 h3
  exact ⟨d, rfl, p1, p2, by rw [← hn, p3], p4, by simpa [altB] using h2, by simpa [jacB] using h3⟩

/-- What wrap hands on: a pointer to the algebra, and whether it is valid. -/
def WrapPost (w : World) (P D : Int) (v : Value) (ok : Bool) (e : Ending) (w' : World) : Prop := ∃ B, e = .returned (.tuple #[.pointer (some ⟨B, 0, none⟩), .bool ok]) ∧ Cells w' B [.int .i64 P, .int .i64 D, v] ∧ w.heap.size ≤ B ∧ Ext w w'
set_option maxRecDepth 100000 in
set_option maxHeartbeats 1600000 in
theorem wrap_impl (P D : Int) (a0 oa n d : Nat) (l : List Int) (w : World) (hT : Reads w (some ⟨a0, oa, none⟩) n l) (hm : n ≤ 1048576) (hd : n ≤ d) (hd2 : d ≤ maxLen) :
    Calls Try.prog 53 #[.agg #[.int .i64 P, .int .i64 D, .slice (some ⟨a0, oa, none⟩) n d]] w (WrapPost w P D (.slice (some ⟨a0, oa, none⟩) n d) (algB P D l)) := by
  have HT := Lib.hid hT
  have HD2 := Lib.hid hd2
  have HA : Hid (algB P D l = (sizB P D l && (altB P D.toNat l && jacB P D.toNat l))) := rfl
  have HL := Lib.hid hT.1
  have hm2 : n ≤ maxLen := by unfold maxLen; omega
  generalize algB P D l = q at HA
  clear hT hd2
  go_enter Try.func53, Try.ntmps53
  go_wp2_with fail
  have B0 := Lib.hid ((cells_new' (w.alloc (.cells #[.int .i64 P, .int .i64 D, .slice (some ⟨a0, oa, none⟩) n d] 26)) #[.int .i64 P, .int .i64 D, .slice (some ⟨a0, oa, none⟩) n d] 62 (w.heap.size + 1) (by simp)))
  have E0 := Lib.hid (((Ext.refl w).alloc (.cells #[.int .i64 P, .int .i64 D, .slice (some ⟨a0, oa, none⟩) n d] 26)).alloc (.cells #[.int .i64 P, .int .i64 D, .slice (some ⟨a0, oa, none⟩) n d] 62))
  refine (sizeFits_impl P D (w.heap.size + 1) n d _ l _ B0.out (HT.out.ext E0.out) hm2).mono ?_
  rintro e w1 ⟨rfl, h1⟩
  have B1 := Lib.hid (B0.out.ext h1)
  have E1 := Lib.hid (E0.out.trans h1)
  clear B0 E0 h1
  rcases hs : sizB P D l with _ | _
  · have HF : Hid (q = false) := by rw [Hid, HA.out, hs]; rfl
    clear hs
    go_wp2
    go_ret2
    rw [HF.out]
    exact ⟨w.heap.size + 1, rfl, B1.out, Nat.le_succ _, E1.out⟩
  have HF : Hid (q = (altB P D.toNat l && jacB P D.toNat l)) := by rw [Hid, HA.out, hs, Bool.true_and]
  obtain ⟨hpr, D, rfl, hD, hl, hx⟩ := sizB_parts hs
  have hp := isP_lo hpr
  have hp2 := isP_hi hpr
  have HN : Hid (n = D * D * D) := by rw [Hid, ← HL.out, hl]
  have HX := Lib.hid hx
  rw [Int.toNat_natCast] at HF
  clear hs hl hx hpr HA
  go_wp2_with fail
  refine (alternates_impl P D (w.heap.size + 1) a0 oa n d l w1 B1.out hD HN.out hd HD2.out (HT.out.ext E1.out) hp hp2 HX.out).mono ?_
  rintro e w2 ⟨rfl, h2⟩
  have B2 := Lib.hid (B1.out.ext h2)
  have E2 := Lib.hid (E1.out.trans h2)
  clear B1 E1 h2
  rcases hs : altB P D l with _ | _
  · have HF : Hid (q = false) := by rw [Hid, HF.out, hs]; rfl
    clear hs
    go_wp2
    go_ret2
    rw [HF.out]
    exact ⟨w.heap.size + 1, rfl, B2.out, Nat.le_succ _, E2.out⟩
  have HF : Hid (q = jacB P D l) := by rw [Hid, HF.out, hs, Bool.true_and]
  clear hs
  go_wp2_with fail
  refine (obeysJacobi_impl P D (w.heap.size + 1) a0 oa n d l w2 B2.out hD HN.out hd HD2.out (HT.out.ext E2.out) hp hp2 HX.out).mono ?_
  rintro e w3 ⟨rfl, h3⟩
  have B3 := Lib.hid (B2.out.ext h3)
  have E3 := Lib.hid (E2.out.trans h3)
  clear B2 E2 h3
  rw [← HF.out]
  go_wp2
  go_ret2
  exact ⟨w.heap.size + 1, rfl, B3.out, Nat.le_succ _, E3.out⟩

end Go.Proofs.Ytgmipolgnpjmnaa
