/-
  NilpotencyOf of both texts.
-/
import Derived.Test.YtgmipolgnpjmnaaNc
import Derived.Test.YtgmipolgnpjmnaaMulS
import Derived.Test.YtgmipolgnpjmnaaMz
import Derived.Test.YtgmipolgnpjmnaaAd
import Derived.Test.YtgmipolgnpjmnaaRi
namespace Go.Proofs.Ytgmipolgnpjmnaa
open Go.RowKit
set_option linter.unusedVariables false

/-- The power k. -/
def powTo (P : Int) (xs : List Int) (K : Nat) : Nat → List Int
  | 0 => unitTo K K
  | k + 1 => mulTo P (powTo P xs K k) xs K K K K
theorem powTo_length (P : Int) (xs : List Int) (K k : Nat) : (powTo P xs K k).length = K * K := by
  cases k with
  | zero => exact unitTo_length K K
  | succ k => exact mulTo_length ..
theorem unitTo_res (P : Int) (hp : 2 ≤ P) (m k : Nat) : Res (unitTo m k) P := by
  induction k with
  | zero => intro j hj; rw [unitTo, gi_replicate]; omega
  | succ k ih => exact res_set _ _ _ _ ih (by omega) (by omega)
theorem powTo_res (P : Int) (hp : 2 ≤ P) (xs : List Int) (K k : Nat) : Res (powTo P xs K k) P := by
  cases k with
  | zero => exact unitTo_res P hp K K
  | succ k => exact mulTo_res _ (by omega) _ _ _ _ _ _
/-- The first power from k on that is 0, or -1. -/
def nilF (P : Int) (xs : List Int) (K k : Nat) : Int := if k ≤ K then (if fz (powTo P xs K k) 0 = (powTo P xs K k).length then (k : Int) else nilF P xs K (k + 1)) else -1
termination_by K + 1 - k
theorem nilF_zero {P : Int} {xs : List Int} {K k : Nat} (h : k ≤ K) (h0 : fz (powTo P xs K k) 0 = (powTo P xs K k).length) : nilF P xs K k = (k : Int) := by rw [nilF, if_pos h, if_pos h0]
theorem nilF_next {P : Int} {xs : List Int} {K k : Nat} (h : k ≤ K) (h0 : ¬ fz (powTo P xs K k) 0 = (powTo P xs K k).length) : nilF P xs K k = nilF P xs K (k + 1) := by rw [nilF, if_pos h, if_neg h0]
theorem nilF_end {P : Int} {xs : List Int} {K : Nat} : nilF P xs K (K + 1) = -1 := by rw [nilF, if_neg (by omega)]
noncomputable def nilM (P R C : Int) (xs : List Int) : Int := if mok P R C xs && (R == C) then nilF P xs R.toNat 0 else -1
theorem cells_set4 {w : World} {A B : Nat} {vs : List Value} (h : Cells w A vs) (hne : A ≠ B) (v0 v1 v2 v3 : Value) : Cells ((((w.setCell ⟨B, 0, none⟩ v0).setCell ⟨B, 1, none⟩ v1).setCell ⟨B, 2, none⟩ v2).setCell ⟨B, 3, none⟩ v3) A vs := by
  have s : ∀ {w : World} (j : Nat) (v : Value), Cells w A vs → Cells (w.setCell ⟨B, j, none⟩ v) A vs := fun j v h => h.grown (grownBy_set (p := ⟨B, j, none⟩) (grownBy_refl _ (some B)) rfl v) (fun k hk => by simp at hk; omega)
  exact s _ _ (s _ _ (s _ _ (s _ _ h)))
theorem has_set4 {w : World} {b B : Nat} {xs : List Int} (h : Has w b xs) (hne : B ≠ b) (v0 v1 v2 v3 : Value) : Has ((((w.setCell ⟨B, 0, none⟩ v0).setCell ⟨B, 1, none⟩ v1).setCell ⟨B, 2, none⟩ v2).setCell ⟨B, 3, none⟩ v3) b xs :=
  (((h.setOther (p := ⟨B, 0, none⟩) hne _).setOther (p := ⟨B, 1, none⟩) hne _).setOther (p := ⟨B, 2, none⟩) hne _).setOther (p := ⟨B, 3, none⟩) hne _

set_option maxRecDepth 100000 in
set_option maxHeartbeats 6400000 in
theorem nilpotencyOf_spec {P R C : Int} {a : Addr} {n c : Nat} {xs : List Int} {w : World} {i : Int} (h : Reads w (some a) n xs) (hm : n ≤ 1048576) (hM : nilM P R C xs = i) :
    Calls Try.prog 74 #[.agg #[.int .i64 P, .int .i64 R, .int .i64 C, .slice (some a) n c]] w fun e w' => e = .returned (.int .i64 i) ∧ Ext w w' := by
  have HR := Lib.hid h
  have hm1 : n ≤ maxLen := by unfold maxLen; omega
  clear h
  rcases h1 : mok P R C xs with _ | _
  · simp only [nilM, h1, Bool.false_and, Bool.false_eq_true, if_false] at hM
    subst hM
    go_enter Try.func74, Try.ntmps74
    have A0_1 := Lib.hid (cells_new' w #[.int .i64 P, .int .i64 R, .int .i64 C, .slice (some a) n c] 36 (w.heap.size) (by simp))
    have E_2 := Lib.hid ((Ext.refl w).alloc (.cells #[.int .i64 P, .int .i64 R, .int .i64 C, .slice (some a) n c] 36))
    have lA0 := A0_1.out.1
    have qA00 := A0_1.out.2 0 _ rfl
    have qA01 := A0_1.out.2 1 _ rfl
    have qA02 := A0_1.out.2 2 _ rfl
    have qA03 := A0_1.out.2 3 _ rfl
    try simp only [World.size_alloc] at lA0
    go_wp2_with fail
    refine (matrixOk_spec _ _ _ _ _ _ xs _ (HR.out.ext E_2.out) hm1).mono ?_
    rintro e w_3 ⟨rfl, h_3⟩
    clear lA0 qA00 qA01 qA02 qA03
    have A0_4 := Lib.hid (A0_1.out.ext h_3)
    clear A0_1
    have E_5 := Lib.hid (E_2.out.trans h_3)
    clear E_2
    rw [h1]
    have lA0 := A0_4.out.1
    have qA00 := A0_4.out.2 0 _ rfl
    have qA01 := A0_4.out.2 1 _ rfl
    have qA02 := A0_4.out.2 2 _ rfl
    have qA03 := A0_4.out.2 3 _ rfl
    try simp only [World.size_alloc] at lA0
    go_wp2
    go_ret
    exact ⟨rfl, E_5.out⟩
  by_cases e1 : R = C
  case neg =>
    have hb0 : (R == C) = false := by simpa using e1
    have hb2 : (R != C) = true := by simpa using e1
    simp only [nilM, h1, hb0, Bool.and_false, Bool.false_eq_true, if_false] at hM
    subst hM
    clear e1
    go_enter Try.func74, Try.ntmps74
    have A0_1 := Lib.hid (cells_new' w #[.int .i64 P, .int .i64 R, .int .i64 C, .slice (some a) n c] 36 (w.heap.size) (by simp))
    have E_2 := Lib.hid ((Ext.refl w).alloc (.cells #[.int .i64 P, .int .i64 R, .int .i64 C, .slice (some a) n c] 36))
    have lA0 := A0_1.out.1
    have qA00 := A0_1.out.2 0 _ rfl
    have qA01 := A0_1.out.2 1 _ rfl
    have qA02 := A0_1.out.2 2 _ rfl
    have qA03 := A0_1.out.2 3 _ rfl
    try simp only [World.size_alloc] at lA0
    go_wp2_with fail
    refine (matrixOk_spec _ _ _ _ _ _ xs _ (HR.out.ext E_2.out) hm1).mono ?_
    rintro e w_3 ⟨rfl, h_3⟩
    clear lA0 qA00 qA01 qA02 qA03
    have A0_4 := Lib.hid (A0_1.out.ext h_3)
    clear A0_1
    have E_5 := Lib.hid (E_2.out.trans h_3)
    clear E_2
    rw [h1]
    have lA0 := A0_4.out.1
    have qA00 := A0_4.out.2 0 _ rfl
    have qA01 := A0_4.out.2 1 _ rfl
    have qA02 := A0_4.out.2 2 _ rfl
    have qA03 := A0_4.out.2 3 _ rfl
    try simp only [World.size_alloc] at lA0
    go_wp2
    go_ret
    exact ⟨rfl, E_5.out⟩
  subst e1
  have hbb : (R == R) = true := by simp
  simp only [nilM, h1, hbb, Bool.and_self, if_true] at hM
  clear hbb
  have hl := mok_len h1
  have hx := mok_res h1
  have hp := mok_lo h1
  have hp2 := mok_hi h1
  have hpr := (mok_iff.1 h1).1
  have hq1 := inB_iff.1 (mok_iff.1 h1).2.1
  have hq2 := inB_iff.1 (mok_iff.1 h1).2.2.1
  have HM1 := Lib.hid h1
  obtain ⟨R, rfl⟩ := Int.eq_ofNat_of_zero_le hq1.1
  have hR : R ≤ 40 := by omega
  have hC : R ≤ 40 := by omega
  have hn1 : n = R * R := by rw [HR.out.1, ← Int.natCast_mul] at hl; omega
  have HN := Lib.hid hn1
  have HX := Lib.hid hx
  have HPR := Lib.hid hpr
  have hRb : R ≤ 1048576 := by omega
  have hCb : R ≤ 1048576 := by omega
  clear hl hx hpr hq1 hq2 h1 hn1
  simp only [Int.toNat_natCast] at hM
  have HI := Lib.hid hM
  have g40 := mul40 hR hR
  clear hM
  go_enter Try.func74, Try.ntmps74
  have A0_1 := Lib.hid (cells_new' w #[.int .i64 P, .int .i64 R, .int .i64 R, .slice (some a) n c] 36 (w.heap.size) (by simp))
  have E_2 := Lib.hid ((Ext.refl w).alloc (.cells #[.int .i64 P, .int .i64 R, .int .i64 R, .slice (some a) n c] 36))
  have lA0 := A0_1.out.1
  have qA00 := A0_1.out.2 0 _ rfl
  have qA01 := A0_1.out.2 1 _ rfl
  have qA02 := A0_1.out.2 2 _ rfl
  have qA03 := A0_1.out.2 3 _ rfl
  try simp only [World.size_alloc] at lA0
  go_wp2_with fail
  refine (matrixOk_spec _ _ _ _ _ _ xs _ (HR.out.ext E_2.out) hm1).mono ?_
  rintro e w_3 ⟨rfl, h_3⟩
  clear lA0 qA00 qA01 qA02 qA03
  have A0_4 := Lib.hid (A0_1.out.ext h_3)
  clear A0_1
  have E_5 := Lib.hid (E_2.out.trans h_3)
  clear E_2
  rw [HM1.out]
  have l_A := Lib.hid A0_4.out.1
  have lA0 := A0_4.out.1
  have qA00 := A0_4.out.2 0 _ rfl
  have qA01 := A0_4.out.2 1 _ rfl
  have qA02 := A0_4.out.2 2 _ rfl
  have qA03 := A0_4.out.2 3 _ rfl
  try simp only [World.size_alloc] at lA0
  go_wp2_with fail
  refine (l1Unit_spec P R _ hR).mono ?_
  rintro e w_6 ⟨b, rfl, hb1, hb2, hh, h_6⟩
  clear lA0 qA00 qA01 qA02 qA03
  have A0_7 := Lib.hid (A0_4.out.ext h_6)
  clear A0_4
  have E_8 := Lib.hid (E_5.out.trans h_6)
  clear E_5
  have H0 : Hid (Has (w_6.alloc (.cells #[.int .i64 P, .int .i64 R, .int .i64 R, .slice (some ⟨b, 0, none⟩) (R * R) (R * R)] 36)) b (powTo P xs R 0)) := hh.alloc _
  clear hh
  have P_9 := (Ext.refl w_6).alloc (.cells #[.int .i64 P, .int .i64 R, .int .i64 R, .slice (some ⟨b, 0, none⟩) (R * R) (R * R)] 36)
  have A0_10 := Lib.hid (A0_7.out.ext P_9)
  clear A0_7
  have E_11 := Lib.hid (E_8.out.trans P_9)
  clear E_8
  clear P_9
  have M_12 := Lib.hid (cells_new w_6 #[.int .i64 P, .int .i64 R, .int .i64 R, .slice (some ⟨b, 0, none⟩) (R * R) (R * R)] 36)
  go_wp2_with fail
  have hwb : Hid (w.heap.size < b ∧ b ≠ w_6.heap.size) := ⟨by have := l_A.out; omega, by omega⟩
  have hwB : Hid (w.heap.size < w_6.heap.size) := by have := l_A.out; show w.heap.size < w_6.heap.size; omega
  clear hb1 hb2 l_A
  generalize w_6.heap.size = B at *
  go_loopw [4] (fun z wr => ∃ (k b : Nat), k ≤ R + 1 ∧ z = .int .i64 k ∧ Hid (nilF P xs R 0 = nilF P xs R k) ∧ Hid (Cells wr w.heap.size [.int .i64 P, .int .i64 R, .int .i64 R, .slice (some a) n c]) ∧ Hid (Cells wr B [.int .i64 P, .int .i64 R, .int .i64 R, .slice (some ⟨b, 0, none⟩) (R * R) (R * R)]) ∧ Hid (Has wr b (powTo P xs R k)) ∧ Hid (Ext w wr) ∧ Hid (w.heap.size < b ∧ b ≠ B)) (fun z _ => R + 1 - (intOf z).toNat)
  case atStart => exact ⟨0, b, by omega, rfl, rfl, A0_10, M_12, H0, E_11, hwb⟩
  case round =>
    clear A0_10 M_12 H0 E_11 hwb
    obtain ⟨k, b, hk, rfl, hf, MA, MB, H, E, hwb⟩ := hrel
    have lA := MA.out.1
    have a0 := MA.out.2 0 _ rfl
    have a1 := MA.out.2 1 _ rfl
    have a2 := MA.out.2 2 _ rfl
    have a3 := MA.out.2 3 _ rfl
    have lB := MB.out.1
    have p0 := MB.out.2 0 _ rfl
    have p1 := MB.out.2 1 _ rfl
    have p2 := MB.out.2 2 _ rfl
    have p3 := MB.out.2 3 _ rfl
    have tB := MB.out.3
    have hlen : Hid ((powTo P xs R k).length = R * R) := powTo_length ..
    by_cases hlt : k ≤ R
    · have HZ := Lib.hid (@nilF_zero P xs R k hlt)
      have HX2 := Lib.hid (@nilF_next P xs R k hlt)
      have hres : Hid (Res (powTo P xs R k) P) := powTo_res P hp xs R k
      have hsucc : Hid (powTo P xs R (k + 1) = mulTo P (powTo P xs R k) xs R R R R) := rfl
      generalize powTo P xs R k = pk at H hlen HZ HX2 hres hsucc
      go_wp2_with fail
      refine (l1IsZero_spec _ _ _ pk _ (H.out.reads hlen.out) (by unfold maxLen; omega)).mono ?_
      rintro e w' ⟨rfl, rfl⟩
      by_cases h0 : fz pk 0 = pk.length
      · have HF : Hid (i = (k : Int)) := by rw [Hid, ← HI.out, hf.out, HZ.out h0]
        have hz : zeroB pk = true := decide_eq_true h0
        rw [hz]
        clear h0 hz
        go_wp2
        go_ret
        exact ⟨ret_int HF.out.symm, E.out⟩
      · have HF : Hid (nilF P xs R 0 = nilF P xs R (k + 1)) := by rw [Hid, hf.out, HX2.out h0]
        have hz : zeroB pk = false := decide_eq_false h0
        rw [hz]
        clear h0 hz
        
        go_wp2_with fail
        refine (l1Mul_spec P R R R _ _ _ _ _ _ pk xs _ (H.out.reads hlen.out) (HR.out.ext E.out) rfl HN.out hR hR hR hp hp2 hres.out HX.out).mono ?_
        rintro e w2 ⟨b2, rfl, hb1, hb2, hh, h2⟩
        have hne : B ≠ b2 := by omega
        have N1 := Lib.hid (cells_set4 (MA.out.ext h2) (show w.heap.size ≠ B by have := hwB.out; omega) (.int .i64 P) (.int .i64 R) (.int .i64 R) (.slice (some ⟨b2, 0, none⟩) (R * R) (R * R)))
        have N2 := Lib.hid (early4 (lo := 0) (v0 := .int .i64 P) (v1 := .int .i64 R) (v2 := .int .i64 R) (v3 := .slice (some ⟨b2, 0, none⟩) (R * R) (R * R)) (MB.out.ext h2))
        have N3 : Hid (Has ((((w2.setCell ⟨B, 0, none⟩ (.int .i64 P)).setCell ⟨B, 1, none⟩ (.int .i64 R)).setCell ⟨B, 2, none⟩ (.int .i64 R)).setCell ⟨B, 3, none⟩ (.slice (some ⟨b2, 0, none⟩) (R * R) (R * R))) b2 (powTo P xs R (k + 1))) := by rw [hsucc.out]; exact has_set4 hh hne _ _ _ _
        have N4 := Lib.hid (ext4 (E.out.trans h2) (Nat.le_of_lt hwB.out) (.int .i64 P) (.int .i64 R) (.int .i64 R) (.slice (some ⟨b2, 0, none⟩) (R * R) (R * R)))
        have N5 : Hid (w.heap.size < b2 ∧ b2 ≠ B) := ⟨by have := hwB.out; omega, by omega⟩
        have M2 := Lib.hid (MB.out.ext h2)
        clear lA a0 a1 a2 a3 lB p0 p1 p2 p3 tB MA MB H E hb1 hb2 hh h2 hwb hne
        have lB := M2.out.1
        have p0 := M2.out.2 0 _ rfl
        have p1 := M2.out.2 1 _ rfl
        have p2 := M2.out.2 2 _ rfl
        have p3 := M2.out.2 3 _ rfl
        have tB := M2.out.3
        go_wp2
        exact ⟨⟨k + 1, b2, by omega, by simp, HF, N1, N2, N3, N4, N5⟩, by simp [intOf]; omega⟩
    · obtain rfl : k = R + 1 := by omega
      have HF : Hid (i = -1) := by rw [Hid, ← HI.out, hf.out, nilF_end]
      go_wp2
      go_ret
      exact ⟨ret_int HF.out.symm, E.out⟩

set_option maxRecDepth 100000 in
set_option maxHeartbeats 6400000 in
theorem nilpotencyOf_impl {P R C : Int} {a0 oa n : Nat} {xs : List Int} {w : World} {i : Int} (h : Reads w (some ⟨a0, oa, none⟩) n xs) (hm : n ≤ 1048576) (hM : nilM P R C xs = i) :
    Calls Try.prog 80 #[.agg #[.int .i64 P, .int .i64 R, .int .i64 C, .slice (some ⟨a0, oa, none⟩) n n]] w fun e w' => e = .returned (.int .i64 i) ∧ Ext w w' := by
  have HR := Lib.hid h
  have hm1 : n ≤ maxLen := by unfold maxLen; omega
  clear h
  rcases hb1 : (mok P R C xs && (R == C)) with _ | _
  · simp only [nilM, hb1, Bool.false_eq_true, if_false] at hM
    subst hM
    go_enter Try.func80, Try.ntmps80
    have A0_1 := Lib.hid (cells_new' w #[.int .i64 P, .int .i64 R, .int .i64 C, .slice (some ⟨a0, oa, none⟩) n n] 36 (w.heap.size) (by simp))
    have E_2 := Lib.hid ((Ext.refl w).alloc (.cells #[.int .i64 P, .int .i64 R, .int .i64 C, .slice (some ⟨a0, oa, none⟩) n n] 36))
    have lA0 := A0_1.out.1
    have qA00 := A0_1.out.2 0 _ rfl
    have qA01 := A0_1.out.2 1 _ rfl
    have qA02 := A0_1.out.2 2 _ rfl
    have qA03 := A0_1.out.2 3 _ rfl
    try simp only [World.size_alloc] at lA0
    go_wp2_with fail
    refine (squareOk_impl _ _ _ _ _ _ xs _ (HR.out.ext E_2.out) hm1).mono ?_
    rintro e w_3 ⟨rfl, h_3⟩
    clear lA0 qA00 qA01 qA02 qA03
    have A0_4 := Lib.hid (A0_1.out.ext h_3)
    clear A0_1
    have E_5 := Lib.hid (E_2.out.trans h_3)
    clear E_2
    rw [hb1]
    have lA0 := A0_4.out.1
    have qA00 := A0_4.out.2 0 _ rfl
    have qA01 := A0_4.out.2 1 _ rfl
    have qA02 := A0_4.out.2 2 _ rfl
    have qA03 := A0_4.out.2 3 _ rfl
    try simp only [World.size_alloc] at lA0
    go_wp2
    go_ret
    exact ⟨rfl, E_5.out⟩
  obtain ⟨h1, h2⟩ := Bool.and_eq_true_iff.1 hb1
  have h2' : R = C := by simpa using h2
  subst h2'
  have HB := Lib.hid hb1
  simp only [nilM, hb1, if_true] at hM
  clear hb1 h2
  have hl := mok_len h1
  have hx := mok_res h1
  have hp := mok_lo h1
  have hp2 := mok_hi h1
  have hpr := (mok_iff.1 h1).1
  have hq1 := inB_iff.1 (mok_iff.1 h1).2.1
  have hq2 := inB_iff.1 (mok_iff.1 h1).2.2.1
  have HM1 := Lib.hid h1
  obtain ⟨R, rfl⟩ := Int.eq_ofNat_of_zero_le hq1.1
  have hR : R ≤ 40 := by omega
  have hC : R ≤ 40 := by omega
  have hn1 : n = R * R := by rw [HR.out.1, ← Int.natCast_mul] at hl; omega
  have HN := Lib.hid hn1
  have HX := Lib.hid hx
  have HPR := Lib.hid hpr
  have hRb : R ≤ 1048576 := by omega
  have hCb : R ≤ 1048576 := by omega
  clear hl hx hpr hq1 hq2 h1 hn1
  simp only [Int.toNat_natCast] at hM
  have HI := Lib.hid hM
  have g40 := mul40 hR hR
  clear hM
  go_enter Try.func80, Try.ntmps80
  have A0_1 := Lib.hid (cells_new' w #[.int .i64 P, .int .i64 R, .int .i64 R, .slice (some ⟨a0, oa, none⟩) n n] 36 (w.heap.size) (by simp))
  have E_2 := Lib.hid ((Ext.refl w).alloc (.cells #[.int .i64 P, .int .i64 R, .int .i64 R, .slice (some ⟨a0, oa, none⟩) n n] 36))
  have lA0 := A0_1.out.1
  have qA00 := A0_1.out.2 0 _ rfl
  have qA01 := A0_1.out.2 1 _ rfl
  have qA02 := A0_1.out.2 2 _ rfl
  have qA03 := A0_1.out.2 3 _ rfl
  try simp only [World.size_alloc] at lA0
  go_wp2_with fail
  refine (squareOk_impl _ _ _ _ _ _ xs _ (HR.out.ext E_2.out) hm1).mono ?_
  rintro e w_3 ⟨rfl, h_3⟩
  clear lA0 qA00 qA01 qA02 qA03
  have A0_4 := Lib.hid (A0_1.out.ext h_3)
  clear A0_1
  have E_5 := Lib.hid (E_2.out.trans h_3)
  clear E_2
  rw [HB.out]
  have l_A := Lib.hid A0_4.out.1
  have lA0 := A0_4.out.1
  have qA00 := A0_4.out.2 0 _ rfl
  have qA01 := A0_4.out.2 1 _ rfl
  have qA02 := A0_4.out.2 2 _ rfl
  have qA03 := A0_4.out.2 3 _ rfl
  try simp only [World.size_alloc] at lA0
  go_wp2_with fail
  refine (unit_impl P R _ hR).mono ?_
  rintro e w_6 ⟨b, rfl, hb1, hb2, hh, h_6⟩
  clear lA0 qA00 qA01 qA02 qA03
  have A0_7 := Lib.hid (A0_4.out.ext h_6)
  clear A0_4
  have E_8 := Lib.hid (E_5.out.trans h_6)
  clear E_5
  have H0 : Hid (Has (w_6.alloc (.cells #[.int .i64 P, .int .i64 R, .int .i64 R, .slice (some ⟨b, 0, none⟩) (R * R) (R * R)] 36)) b (powTo P xs R 0)) := hh.alloc _
  clear hh
  have P_9 := (Ext.refl w_6).alloc (.cells #[.int .i64 P, .int .i64 R, .int .i64 R, .slice (some ⟨b, 0, none⟩) (R * R) (R * R)] 36)
  have A0_10 := Lib.hid (A0_7.out.ext P_9)
  clear A0_7
  have E_11 := Lib.hid (E_8.out.trans P_9)
  clear E_8
  clear P_9
  have M_12 := Lib.hid (cells_new w_6 #[.int .i64 P, .int .i64 R, .int .i64 R, .slice (some ⟨b, 0, none⟩) (R * R) (R * R)] 36)
  have lA0 := A0_10.out.1
  have qA00 := A0_10.out.2 0 _ rfl
  have qA01 := A0_10.out.2 1 _ rfl
  have qA02 := A0_10.out.2 2 _ rfl
  have qA03 := A0_10.out.2 3 _ rfl
  try simp only [World.size_alloc] at lA0
  go_wp2_with fail
  clear lA0 qA00 qA01 qA02 qA03
  have hwb : Hid (w.heap.size < b ∧ b ≠ w_6.heap.size) := ⟨by have := l_A.out; omega, by omega⟩
  have hwB : Hid (w.heap.size < w_6.heap.size) := by have := l_A.out; show w.heap.size < w_6.heap.size; omega
  clear hb1 hb2 l_A
  generalize w_6.heap.size = B at *
  go_loopw [16, 4] (fun z _ wr => ∃ (k b : Nat), k ≤ R + 1 ∧ z = .int .i64 k ∧ Hid (nilF P xs R 0 = nilF P xs R k) ∧ Hid (Cells wr w.heap.size [.int .i64 P, .int .i64 R, .int .i64 R, .slice (some ⟨a0, oa, none⟩) n n]) ∧ Hid (Cells wr B [.int .i64 P, .int .i64 R, .int .i64 R, .slice (some ⟨b, 0, none⟩) (R * R) (R * R)]) ∧ Hid (Has wr b (powTo P xs R k)) ∧ Hid (Ext w wr) ∧ Hid (w.heap.size < b ∧ b ≠ B)) (fun z _ _ => R + 1 - (intOf z).toNat)
  case atStart => exact ⟨0, b, by omega, rfl, rfl, A0_10, M_12, H0, E_11, hwb⟩
  case round =>
    clear A0_10 M_12 H0 E_11 hwb
    obtain ⟨k, b, hk, rfl, hf, MA, MB, H, E, hwb⟩ := hrel
    have lA := MA.out.1
    have a0 := MA.out.2 0 _ rfl
    have a1 := MA.out.2 1 _ rfl
    have a2 := MA.out.2 2 _ rfl
    have a3 := MA.out.2 3 _ rfl
    have lB := MB.out.1
    have p0 := MB.out.2 0 _ rfl
    have p1 := MB.out.2 1 _ rfl
    have p2 := MB.out.2 2 _ rfl
    have p3 := MB.out.2 3 _ rfl
    have tB := MB.out.3
    have hlen : Hid ((powTo P xs R k).length = R * R) := powTo_length ..
    by_cases hlt : k ≤ R
    · have HZ := Lib.hid (@nilF_zero P xs R k hlt)
      have HX2 := Lib.hid (@nilF_next P xs R k hlt)
      have hres : Hid (Res (powTo P xs R k) P) := powTo_res P hp xs R k
      have hsucc : Hid (powTo P xs R (k + 1) = mulTo P (powTo P xs R k) xs R R R R) := rfl
      generalize powTo P xs R k = pk at H hlen HZ HX2 hres hsucc
      go_wp2_with fail
      refine (firstNonzero_impl _ _ _ pk _ (H.out.reads hlen.out) (by unfold maxLen; omega)).mono ?_
      rintro e w' ⟨rfl, rfl⟩
      by_cases h0 : fz pk 0 = pk.length
      · have HF : Hid (i = (k : Int)) := by rw [Hid, ← HI.out, hf.out, HZ.out h0]
        have hz : fzR pk = -1 := if_pos h0
        rw [hz]
        clear h0 hz
        go_wp2
        go_ret
        exact ⟨ret_int HF.out.symm, E.out⟩
      · have HF : Hid (nilF P xs R 0 = nilF P xs R (k + 1)) := by rw [Hid, hf.out, HX2.out h0]
        have hz : fzR pk = ((fz pk 0 : Nat) : Int) := if_neg h0
        rw [hz]
        clear h0 hz
        generalize fz pk 0 = fq
        go_wp2_with fail
        refine (product_impl P R R R _ _ _ _ _ _ pk xs _ (H.out.reads hlen.out) (HR.out.ext E.out) rfl HN.out hR hR hR hp hp2 hres.out HX.out).mono ?_
        rintro e w2 ⟨b2, rfl, hb1, hb2, hh, h2⟩
        have hne : B ≠ b2 := by omega
        have N1 := Lib.hid (cells_set4 (MA.out.ext h2) (show w.heap.size ≠ B by have := hwB.out; omega) (.int .i64 P) (.int .i64 R) (.int .i64 R) (.slice (some ⟨b2, 0, none⟩) (R * R) (R * R)))
        have N2 := Lib.hid (early4 (lo := 0) (v0 := .int .i64 P) (v1 := .int .i64 R) (v2 := .int .i64 R) (v3 := .slice (some ⟨b2, 0, none⟩) (R * R) (R * R)) (MB.out.ext h2))
        have N3 : Hid (Has ((((w2.setCell ⟨B, 0, none⟩ (.int .i64 P)).setCell ⟨B, 1, none⟩ (.int .i64 R)).setCell ⟨B, 2, none⟩ (.int .i64 R)).setCell ⟨B, 3, none⟩ (.slice (some ⟨b2, 0, none⟩) (R * R) (R * R))) b2 (powTo P xs R (k + 1))) := by rw [hsucc.out]; exact has_set4 hh hne _ _ _ _
        have N4 := Lib.hid (ext4 (E.out.trans h2) (Nat.le_of_lt hwB.out) (.int .i64 P) (.int .i64 R) (.int .i64 R) (.slice (some ⟨b2, 0, none⟩) (R * R) (R * R)))
        have N5 : Hid (w.heap.size < b2 ∧ b2 ≠ B) := ⟨by have := hwB.out; omega, by omega⟩
        have M2 := Lib.hid (MB.out.ext h2)
        clear lA a0 a1 a2 a3 lB p0 p1 p2 p3 tB MA MB H E hb1 hb2 hh h2 hwb hne
        have lB := M2.out.1
        have p0 := M2.out.2 0 _ rfl
        have p1 := M2.out.2 1 _ rfl
        have p2 := M2.out.2 2 _ rfl
        have p3 := M2.out.2 3 _ rfl
        have tB := M2.out.3
        go_wp2
        exact ⟨⟨k + 1, b2, by omega, by simp, HF, N1, N2, N3, N4, N5⟩, by simp [intOf]; omega⟩
    · obtain rfl : k = R + 1 := by omega
      have HF : Hid (i = -1) := by rw [Hid, ← HI.out, hf.out, nilF_end]
      go_wp2
      go_ret
      exact ⟨ret_int HF.out.symm, E.out⟩
end Go.Proofs.Ytgmipolgnpjmnaa
