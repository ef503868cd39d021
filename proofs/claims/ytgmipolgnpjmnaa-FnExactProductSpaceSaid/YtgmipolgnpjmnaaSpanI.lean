/-
  Copies and spans of matrices in the program.
-/
import Derived.Test.YtgmipolgnpjmnaaCopyI
namespace Go.Proofs.Ytgmipolgnpjmnaa
open Go.ChangeShapes Go.WideShapes Go.ChangeAt Go.RowKit
set_option linter.unusedVariables false

theorem spl_all (l xs : List Int) (h : xs.length = l.length) : spl l 0 xs = xs := by
  simp [spl, h]
theorem prodN (R C n : Nat) (hn : n = R * C) (hb : n ≤ 1048576) : 0 ≤ (R : Int) * (C : Int) ∧ (R : Int) * (C : Int) ≤ 1048576 ∧ ((R : Int) * (C : Int)).toNat = n := by
  rw [← Int.natCast_mul, Int.toNat_natCast, ← hn]; omega

set_option maxRecDepth 100000 in
set_option maxHeartbeats 3200000 in
theorem copyMatrix_impl (P : Int) (R C n c : Nat) (a : Option Addr) (xs : List Int) (w : World) (hr : Reads w a n xs) (hn : n = R * C) (hb : n ≤ 1048576) :
    Calls Try.prog 117 #[.agg #[.int .i64 P, .int .i64 R, .int .i64 C, .slice a n c]] w fun e w' => ∃ b, e = .returned (.agg #[.int .i64 P, .int .i64 R, .int .i64 C, .slice (some ⟨b, 0, none⟩) n n]) ∧ w.heap.size ≤ b ∧ b < w'.heap.size ∧ Has w' b xs ∧ Ext w w' := by
  have HR := Lib.hid hr
  obtain ⟨g0, g1, g2⟩ := prodN R C n hn hb
  have G2 := Lib.hid g2
  have HL : Hid (xs.length = n) := hr.1
  clear hr hn g2
  go_enter Try.func117, Try.ntmps117
  have A0_1 := Lib.hid ((cells_new' w #[.int .i64 P, .int .i64 R, .int .i64 C, .slice a n c] 36 (w.heap.size) (by simp)).ext ((Ext.refl _).alloc (.cells #[.int .i64 0, .int .i64 0, .int .i64 0, .slice none 0 0] 36)))
  have R_2 := Lib.hid (cells_new' (w.alloc (.cells #[.int .i64 P, .int .i64 R, .int .i64 C, .slice a n c] 36)) #[.int .i64 0, .int .i64 0, .int .i64 0, .slice none 0 0] 36 (w.heap.size + 1) (by simp))
  have E_3 := Lib.hid (((Ext.refl w).alloc (.cells #[.int .i64 P, .int .i64 R, .int .i64 C, .slice a n c] 36)).alloc (.cells #[.int .i64 0, .int .i64 0, .int .i64 0, .slice none 0 0] 36))
  have lA0 := A0_1.out.1
  have qA00 := A0_1.out.2 0 _ rfl
  have qA01 := A0_1.out.2 1 _ rfl
  have qA02 := A0_1.out.2 2 _ rfl
  have qA03 := A0_1.out.2 3 _ rfl
  try simp only [World.size_alloc] at lA0
  go_wp2_with fail
  refine (zeros_impl _ _ _ _ g0 g1).mono ?_
  rintro e w_4 ⟨b, rfl, hb1, hb2, hh, h_4⟩
  clear lA0 qA00 qA01 qA02 qA03
  rw [G2.out] at hh ⊢
  have hb3 : w.heap.size + 1 + 1 ≤ b := by simp only [World.size_alloc] at hb1; omega
  have A0_5 := Lib.hid (A0_1.out.ext h_4)
  clear A0_1
  have R_6 := Lib.hid (R_2.out.ext h_4)
  clear R_2
  have E_7 := Lib.hid (E_3.out.trans h_4)
  clear E_3
  clear hb1
  have H0 := Lib.hid (hh.alloc (.cells #[.int .i64 P, .int .i64 R, .int .i64 C, .slice (some ⟨b, 0, none⟩) n n] 36))
  clear hh h_4
  have P_8 := (Ext.refl w_4).alloc (.cells #[.int .i64 P, .int .i64 R, .int .i64 C, .slice (some ⟨b, 0, none⟩) n n] 36)
  have A0_9 := Lib.hid (A0_5.out.ext P_8)
  clear A0_5
  have R_10 := Lib.hid (R_6.out.ext P_8)
  clear R_6
  have E_11 := Lib.hid (E_7.out.trans P_8)
  clear E_7
  clear P_8
  have M_12 := Lib.hid (cells_new w_4 #[.int .i64 P, .int .i64 R, .int .i64 C, .slice (some ⟨b, 0, none⟩) n n] 36)
  have hR0 := Lib.hid (HR.out.ext E_11.out)
  have hne : b ≠ w_4.heap.size := by omega
  have lA0 := A0_9.out.1
  have qA00 := A0_9.out.2 0 _ rfl
  have qA01 := A0_9.out.2 1 _ rfl
  have qA02 := A0_9.out.2 2 _ rfl
  have qA03 := A0_9.out.2 3 _ rfl
  have lM := M_12.out.1
  have qM0 := M_12.out.2 0 _ rfl
  have qM1 := M_12.out.2 1 _ rfl
  have qM2 := M_12.out.2 2 _ rfl
  have qM3 := M_12.out.2 3 _ rfl
  try simp only [World.size_alloc] at lA0 lM
  go_wp2_with (refine wpList_copyM rfl (.tmp 12) (.tmp 14) rfl b 0 n n a n c rfl rfl (List.replicate n 0) xs H0.out hR0.out n (Nat.min_self n) (by simp) ?_)
  intro w2 hh2 hg2
  clear lA0 qA00 qA01 qA02 qA03 lM qM0 qM1 qM2 qM3
  rw [List.take_of_length_le (by rw [HL.out]; exact Nat.le_refl _), spl_all _ _ (by rw [HL.out]; simp)] at hh2
  have M2 := Lib.hid (M_12.out.grown hg2 (fun k hk => by simp at hk; omega))
  have R2 := Lib.hid (R_10.out.grown hg2 (fun k hk => by simp at hk; omega))
  have E2 := Lib.hid (E_11.out.grown hg2 (fun k hk => by simp at hk; omega))
  have HH := Lib.hid hh2
  clear hh2 hg2
  have lM := M2.out.1
  have qM0 := M2.out.2 0 _ rfl
  have qM1 := M2.out.2 1 _ rfl
  have qM2 := M2.out.2 2 _ rfl
  have qM3 := M2.out.2 3 _ rfl
  have qR0 := R2.out.2 0 _ rfl
  have qR1 := R2.out.2 1 _ rfl
  have qR2 := R2.out.2 2 _ rfl
  have qR3 := R2.out.2 3 _ rfl
  have tR := R2.out.3
  have lR := R2.out.1
  go_wp2
  refine bodyPost_ret (v := .agg #[.int .i64 P, .int .i64 R, .int .i64 C, .slice (some ⟨b, 0, none⟩) n n]) (by simp [results, Try.results117, go_sem, qR0, qR1, qR2, qR3]) rfl ⟨b, rfl, by omega, ?_, ?_, ?_⟩
  · have := HH.out.lt; simpa using this
  · repeat with_reducible (first | exact HH.out | refine Has.setOther ?_ (by simp <;> omega) _)
  · exact ext4 E2.out (by omega) _ _ _ _

theorem redM_k {P : Int} {R C : Nat} {xs : List Int} : (redM P R C xs).pv.length ≤ R ∧ (redM P R C xs).pv.length ≤ C := ⟨(redTo_pv C).2.1, (redTo_pv C).1⟩
set_option maxRecDepth 100000 in
set_option maxHeartbeats 6400000 in
theorem span_impl (P : Int) (R C n c : Nat) (a : Option Addr) (xs : List Int) (w : World) (hr : Reads w a n xs) (hn : n = R * C) (hb : n ≤ 1048576) (hR : R ≤ 1048576) (hC : C ≤ 1048576) (hp : 2 ≤ P) (hp2 : P ≤ 10007) (hx : Res xs P) :
    Calls Try.prog 62 #[.agg #[.int .i64 P, .int .i64 R, .int .i64 C, .slice a n c]] w fun e w' => ∃ b, e = .returned (.agg #[.int .i64 P, .int .i64 ((redM P R C xs).pv.length : Nat), .int .i64 C, .slice (some ⟨b, 0, none⟩) ((redM P R C xs).pv.length * C) ((redM P R C xs).pv.length * C)]) ∧ w.heap.size ≤ b ∧ b < w'.heap.size ∧ Has w' b (spanL P R C xs) ∧ Ext w w' := by
  have HR := Lib.hid hr
  have HN := Lib.hid hn
  have HL : Hid (xs.length = n) := hr.1
  have HX := Lib.hid hx
  clear hr hx
  obtain ⟨k1, k2⟩ := redM_k (P := P) (R := R) (C := C) (xs := xs)
  have hk : (redM P R C xs).pv.length * C ≤ n := by rw [hn]; exact Nat.mul_le_mul_right C k1
  clear hn
  have HK : Hid (spanL P R C xs = (redM P R C xs).m.take ((redM P R C xs).pv.length * C)) := rfl
  have HLm : Hid ((redM P R C xs).m.length = n) := by rw [Hid, redM, redTo_length]; exact HL.out
  obtain ⟨g0, g1, g2⟩ := prodN (redM P R C xs).pv.length C _ rfl (Nat.le_trans hk hb)
  have G2 := Lib.hid g2
  clear g2
  go_enter Try.func62, Try.ntmps62
  have A0_1 := Lib.hid ((cells_new' w #[.int .i64 P, .int .i64 R, .int .i64 C, .slice a n c] 36 (w.heap.size) (by simp)).ext ((Ext.refl _).alloc (.cells #[.int .i64 0, .int .i64 0, .int .i64 0, .slice none 0 0] 36)))
  have R_2 := Lib.hid (cells_new' (w.alloc (.cells #[.int .i64 P, .int .i64 R, .int .i64 C, .slice a n c] 36)) #[.int .i64 0, .int .i64 0, .int .i64 0, .slice none 0 0] 36 (w.heap.size + 1) (by simp))
  have E_3 := Lib.hid (((Ext.refl w).alloc (.cells #[.int .i64 P, .int .i64 R, .int .i64 C, .slice a n c] 36)).alloc (.cells #[.int .i64 0, .int .i64 0, .int .i64 0, .slice none 0 0] 36))
  have hRw : Hid (w.heap.size + 1 < ((w.alloc (.cells #[.int .i64 P, .int .i64 R, .int .i64 C, .slice a n c] 36)).alloc (.cells #[.int .i64 0, .int .i64 0, .int .i64 0, .slice none 0 0] 36)).heap.size) := by simp [Hid]
  have lA0 := A0_1.out.1
  have qA00 := A0_1.out.2 0 _ rfl
  have qA01 := A0_1.out.2 1 _ rfl
  have qA02 := A0_1.out.2 2 _ rfl
  have qA03 := A0_1.out.2 3 _ rfl
  try simp only [World.size_alloc] at lA0
  go_wp2_with fail
  refine (copyMatrix_impl P R C n c a xs _ (HR.out.ext E_3.out) HN.out hb).mono ?_
  rintro e w_4 ⟨b1, rfl, hb1, hb2, hh, h_4⟩
  clear lA0 qA00 qA01 qA02 qA03
  have hb3 : w.heap.size + 1 + 1 ≤ b1 := by simp only [World.size_alloc] at hb1; omega
  have A0_5 := Lib.hid (A0_1.out.ext h_4)
  clear A0_1
  have R_6 := Lib.hid (R_2.out.ext h_4)
  clear R_2
  have E_7 := Lib.hid (E_3.out.trans h_4)
  clear E_3
  have H0 := Lib.hid (hh.alloc (.cells #[.int .i64 P, .int .i64 R, .int .i64 C, .slice (some ⟨b1, 0, none⟩) n n] 36))
  clear hh h_4 hb1
  have P_8 := (Ext.refl w_4).alloc (.cells #[.int .i64 P, .int .i64 R, .int .i64 C, .slice (some ⟨b1, 0, none⟩) n n] 36)
  have A0_9 := Lib.hid (A0_5.out.ext P_8)
  clear A0_5
  have R_10 := Lib.hid (R_6.out.ext P_8)
  clear R_6
  have E_11 := Lib.hid (E_7.out.trans P_8)
  clear E_7
  clear P_8
  have M_12 := Lib.hid (cells_new w_4 #[.int .i64 P, .int .i64 R, .int .i64 C, .slice (some ⟨b1, 0, none⟩) n n] 36)
  go_upto_region 2 with fail
  generalize hW1 : (w_4.alloc (.cells #[.int .i64 P, .int .i64 R, .int .i64 C, .slice (some ⟨b1, 0, none⟩) n n] 36)) = W1 at *
  clear hW1
  have MB : Hid (b1 < w_4.heap.size) := hb2
  clear hb2
  generalize w_4.heap.size = B1 at *
  have lM := M_12.out.1
  have qM0 := M_12.out.2 0 _ rfl
  have qM1 := M_12.out.2 1 _ rfl
  have qM2 := M_12.out.2 2 _ rfl
  have qM3 := M_12.out.2 3 _ rfl
  try simp only [World.size_alloc] at lM
  go_wp2_with fail
  refine (reduceRows_impl P R C C b1 n xs W1 H0.out HL.out HN.out hb (Nat.le_refl _) hR hC hp hp2 HX.out).mono ?_
  rintro e w_13 ⟨pa, cap, rfl, hpo, hh, hg⟩
  clear lM qM0 qM1 qM2 qM3
  change Has w_13 b1 (redM P R C xs).m at hh
  change Own w_13 W1.heap.size w_13.heap.size pa (redM P R C xs).pv.length (pvI (redM P R C xs).pv) at hpo
  have hd : redTo P R C xs C = redM P R C xs := rfl
  rw [hd]
  clear hd
  have A0_14 := Lib.hid (A0_9.out.grown hg (fun k hk => by simp at hk; have := MB.out; omega))
  clear A0_9
  have R_15 := Lib.hid (R_10.out.grown hg (fun k hk => by simp at hk; have := MB.out; omega))
  clear R_10
  have M_16 := Lib.hid (M_12.out.grown hg (fun k hk => by simp at hk; have := MB.out; omega))
  clear M_12
  have E_17 := Lib.hid (E_11.out.grown hg (fun k hk => by simp at hk; have := MB.out; omega))
  clear E_11
  clear H0
  have lA0 := A0_14.out.1
  have qA00 := A0_14.out.2 0 _ rfl
  have qA01 := A0_14.out.2 1 _ rfl
  have qA02 := A0_14.out.2 2 _ rfl
  have qA03 := A0_14.out.2 3 _ rfl
  try simp only [World.size_alloc] at lA0
  go_wp2_with fail
  refine (zeros_impl _ _ _ _ g0 g1).mono ?_
  rintro e w_18 ⟨b, rfl, hb1, hb2, hz, h_18⟩
  clear lA0 qA00 qA01 qA02 qA03
  rw [G2.out] at hz ⊢
  have hmn : Hid (w_13.heap.size ≤ b) := hb1
  clear hb1
  have hbw : Hid (b1 < w_13.heap.size) := hh.lt
  have hM0 : Hid (B1 < w_13.heap.size) := M_16.out.1
  have hR1 : Hid (w.heap.size + 1 < w_13.heap.size) := R_15.out.1
  have A0_19 := Lib.hid (A0_14.out.ext h_18)
  clear A0_14
  have R_20 := Lib.hid (R_15.out.ext h_18)
  clear R_15
  have M_21 := Lib.hid (M_16.out.ext h_18)
  clear M_16
  have E_22 := Lib.hid (E_17.out.trans h_18)
  clear E_17
  have Z0 := Lib.hid (hz.alloc (.cells #[.int .i64 P, .int .i64 ((redM P R C xs).pv.length : Nat), .int .i64 C, .slice (some ⟨b, 0, none⟩) ((redM P R C xs).pv.length * C) ((redM P R C xs).pv.length * C)] 36))
  have HM := Lib.hid ((hh.ext h_18).alloc (.cells #[.int .i64 P, .int .i64 ((redM P R C xs).pv.length : Nat), .int .i64 C, .slice (some ⟨b, 0, none⟩) ((redM P R C xs).pv.length * C) ((redM P R C xs).pv.length * C)] 36))
  clear hz hh h_18 hg hpo
  have P_23 := (Ext.refl w_18).alloc (.cells #[.int .i64 P, .int .i64 ((redM P R C xs).pv.length : Nat), .int .i64 C, .slice (some ⟨b, 0, none⟩) ((redM P R C xs).pv.length * C) ((redM P R C xs).pv.length * C)] 36)
  have A0_24 := Lib.hid (A0_19.out.ext P_23)
  clear A0_19
  have R_25 := Lib.hid (R_20.out.ext P_23)
  clear R_20
  have M_26 := Lib.hid (M_21.out.ext P_23)
  clear M_21
  have E_27 := Lib.hid (E_22.out.trans P_23)
  clear E_22
  clear P_23
  have S_28 := Lib.hid (cells_new w_18 #[.int .i64 P, .int .i64 ((redM P R C xs).pv.length : Nat), .int .i64 C, .slice (some ⟨b, 0, none⟩) ((redM P R C xs).pv.length * C) ((redM P R C xs).pv.length * C)] 36)
  generalize (redM P R C xs).m = mm at HM HLm HK
  generalize hkk : (redM P R C xs).pv.length = k at *
  have HKK := Lib.hid hkk
  clear hkk
  go_upto_region 4 with fail
  generalize hW2 : w_18.alloc _ = W2 at *
  clear hW2
  have SBd : Hid (b < w_18.heap.size) := hb2
  clear hb2
  generalize w_18.heap.size = B2 at *
  have lM := M_26.out.1
  have qM0 := M_26.out.2 0 _ rfl
  have qM1 := M_26.out.2 1 _ rfl
  have qM2 := M_26.out.2 2 _ rfl
  have qM3 := M_26.out.2 3 _ rfl
  have lS := S_28.out.1
  have qS0 := S_28.out.2 0 _ rfl
  have qS1 := S_28.out.2 1 _ rfl
  have qS2 := S_28.out.2 2 _ rfl
  have qS3 := S_28.out.2 3 _ rfl
  try simp only [World.size_alloc] at lM lS
  go_wp2_with (refine wpList_copyM rfl (.tmp 24) (.tmp 26) rfl b 0 (k * C) (k * C) (some ⟨b1, 0, none⟩) n n rfl rfl (List.replicate (k * C) 0) mm Z0.out (HM.out.reads HLm.out) (k * C) (Nat.min_eq_right hk) (by simp) ?_)
  intro w2 hh2 hg2
  clear lM qM0 qM1 qM2 qM3 lS qS0 qS1 qS2 qS3
  rw [spl_all _ _ (by have := HLm.out; simp; omega), ← HK.out] at hh2
  have A0_29 := Lib.hid (A0_24.out.grown hg2 (fun k hk => by simp at hk; have := SBd.out; have := MB.out; have := hmn.out; have := hM0.out; have := hR1.out; omega))
  clear A0_24
  have R_30 := Lib.hid (R_25.out.grown hg2 (fun k hk => by simp at hk; have := SBd.out; have := MB.out; have := hmn.out; have := hM0.out; have := hR1.out; omega))
  clear R_25
  have M_31 := Lib.hid (M_26.out.grown hg2 (fun k hk => by simp at hk; have := SBd.out; have := MB.out; have := hmn.out; have := hM0.out; have := hR1.out; omega))
  clear M_26
  have S_32 := Lib.hid (S_28.out.grown hg2 (fun k hk => by simp at hk; have := SBd.out; have := MB.out; have := hmn.out; have := hM0.out; have := hR1.out; omega))
  clear S_28
  have E_33 := Lib.hid (E_27.out.grown hg2 (fun k hk => by simp at hk; have := SBd.out; have := MB.out; have := hmn.out; have := hM0.out; have := hR1.out; omega))
  clear E_27
  have HH := Lib.hid hh2
  clear hh2 hg2 Z0 HM
  have lS := S_32.out.1
  have qS0 := S_32.out.2 0 _ rfl
  have qS1 := S_32.out.2 1 _ rfl
  have qS2 := S_32.out.2 2 _ rfl
  have qS3 := S_32.out.2 3 _ rfl
  have lR := R_30.out.1
  have qR0 := R_30.out.2 0 _ rfl
  have qR1 := R_30.out.2 1 _ rfl
  have qR2 := R_30.out.2 2 _ rfl
  have qR3 := R_30.out.2 3 _ rfl
  have tR := R_30.out.3
  try simp only [World.size_alloc] at lS lR
  have lR := R_30.out.1
  go_wp2
  refine bodyPost_ret (v := .agg #[.int .i64 P, .int .i64 (k : Nat), .int .i64 C, .slice (some ⟨b, 0, none⟩) (k * C) (k * C)]) (by simp [results, Try.results62, go_sem, qR0, qR1, qR2, qR3]) rfl ⟨b, by rw [HKK.out], by have := SBd.out; have := MB.out; have := hmn.out; have := hM0.out; have := hR1.out; omega, ?_, ?_, ?_⟩
  · have := HH.out.lt; simpa using this
  · have := SBd.out; have := MB.out; have := hmn.out; have := hM0.out; have := hR1.out; 
    repeat with_reducible (first | exact HH.out | refine Has.setOther ?_ (by simp <;> omega) _)
  · exact ext4 E_33.out (by omega) _ _ _ _
end Go.Proofs.Ytgmipolgnpjmnaa
