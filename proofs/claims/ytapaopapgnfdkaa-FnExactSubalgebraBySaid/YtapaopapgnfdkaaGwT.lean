/-
  The least subalgebra and the least ideal, in the program.
-/
import Derived.Test.YtapaopapgnfdkaaGwI
namespace Go.Proofs.Ytapaopapgnfdkaa
open Go.ChangeShapes Go.WideShapes Go.ChangeAt Go.RowKit
set_option linter.unusedVariables false
set_option linter.unusedSimpArgs false

noncomputable def gwM (b : Bool) (P D : Int) (l : List Int) (P1 R1 C1 : Int) (xs : List Int) : Mat × Bool :=
  if algB P D l && rwB P D P1 R1 C1 xs then (⟨P, (gwS P D.toNat l b R1.toNat xs (gwN P D.toNat l b R1.toNat xs)).1, D, (gwS P D.toNat l b R1.toNat xs (gwN P D.toNat l b R1.toNat xs)).2⟩, true) else (noMat, false)
theorem rwB_parts {P : Int} {D : Nat} {P' R C : Int} {xs : List Int} {n : Nat} (h : rwB P D P' R C xs = true) (hl : xs.length = n) : P' = P ∧ ∃ r : Nat, R = r ∧ C = D ∧ r ≤ 40 ∧ n = r * D ∧ Res xs P := by
  simp only [rwB, Bool.and_eq_true, beq_iff_eq] at h
  obtain ⟨h2, rfl, rfl⟩ := h
  have hl1 := mok_len h2
  obtain ⟨_, h3, _, _, _⟩ := mok_iff.1 h2
  obtain ⟨h4, h5⟩ := inB_iff.1 h3
  obtain ⟨r, rfl⟩ := Int.eq_ofNat_of_zero_le h4
  refine ⟨rfl, r, rfl, rfl, by omega, ?_, mok_res h2⟩
  have : ((xs.length : Nat) : Int) = ((r * D : Nat) : Int) := by rw [hl1]; simp
  omega

set_option maxRecDepth 100000 in
set_option maxHeartbeats 6400000 in
theorem subalgebraBy_impl {P D : Int} {a0 oa n : Nat} {l : List Int} {P1 R1 C1 : Int} {s0 so n1 : Nat} {ss : List Int} {w : World} {p r' c : Int} {d : List Int} {ok : Bool} (hT : Reads w (some ⟨a0, oa, none⟩) n l) (hm0 : n ≤ 1048576) (hS : Reads w (some ⟨s0, so, none⟩) n1 ss) (hm1 : n1 ≤ 1048576) (hM : gwM false P D l P1 R1 C1 ss = (⟨p, r', c, d⟩, ok)) :
    Calls Try.prog 34 #[.agg #[.int .i64 P, .int .i64 D, .slice (some ⟨a0, oa, none⟩) n n], .agg #[.int .i64 P1, .int .i64 R1, .int .i64 C1, .slice (some ⟨s0, so, none⟩) n1 n1]] w fun e w' => ∃ v, e = .returned (.tuple #[v, .bool ok]) ∧ Rmat w w' v p r' c d ∧ Ext w w' := by
  have HT := Lib.hid hT
  have HS := Lib.hid hS
  have hm3 : n1 ≤ maxLen := by unfold maxLen; omega
  have hmf : ∀ (fn : Fn) (first cap : Array Value) (w : World), (Instr.makeFunc fn first cap).run Try.prog w = .ok (.func fn first cap) w := fun _ _ _ _ => rfl
  rcases h0 : algB P D l with _ | _
  · simp only [gwM, h0, noMat, Bool.false_and, Bool.and_false, Bool.false_eq_true, if_false, Prod.mk.injEq, Mat.mk.injEq] at hM
    obtain ⟨⟨rfl, rfl, rfl, rfl⟩, rfl⟩ := hM
    have H0 := Lib.hid h0
    clear h0 hT hS
    go_enter Try.func34, Try.ntmps34
    have A0_1 := Lib.hid (((cells_new' w #[.int .i64 P, .int .i64 D, .slice (some ⟨a0, oa, none⟩) n n] 28 (w.heap.size) (by simp)).ext ((Ext.refl _).alloc (.cells #[.int .i64 P1, .int .i64 R1, .int .i64 C1, .slice (some ⟨s0, so, none⟩) n1 n1] 40))).ext ((Ext.refl _).alloc (.cells #[.int .i64 0, .int .i64 0, .int .i64 0, .slice none 0 0] 40)))
    have A1_2 := Lib.hid ((cells_new' (w.alloc (.cells #[.int .i64 P, .int .i64 D, .slice (some ⟨a0, oa, none⟩) n n] 28)) #[.int .i64 P1, .int .i64 R1, .int .i64 C1, .slice (some ⟨s0, so, none⟩) n1 n1] 40 (w.heap.size + 1) (by simp)).ext ((Ext.refl _).alloc (.cells #[.int .i64 0, .int .i64 0, .int .i64 0, .slice none 0 0] 40)))
    have R_3 := Lib.hid (cells_new' ((w.alloc (.cells #[.int .i64 P, .int .i64 D, .slice (some ⟨a0, oa, none⟩) n n] 28)).alloc (.cells #[.int .i64 P1, .int .i64 R1, .int .i64 C1, .slice (some ⟨s0, so, none⟩) n1 n1] 40)) #[.int .i64 0, .int .i64 0, .int .i64 0, .slice none 0 0] 40 (w.heap.size + 1 + 1) (by simp))
    have E_4 := Lib.hid ((((Ext.refl w).alloc (.cells #[.int .i64 P, .int .i64 D, .slice (some ⟨a0, oa, none⟩) n n] 28)).alloc (.cells #[.int .i64 P1, .int .i64 R1, .int .i64 C1, .slice (some ⟨s0, so, none⟩) n1 n1] 40)).alloc (.cells #[.int .i64 0, .int .i64 0, .int .i64 0, .slice none 0 0] 40))
    have lA0 := A0_1.out.1
    have qA00 := A0_1.out.2 0 _ rfl
    have qA01 := A0_1.out.2 1 _ rfl
    have qA02 := A0_1.out.2 2 _ rfl
    have lA1 := A1_2.out.1
    have qA10 := A1_2.out.2 0 _ rfl
    have qA11 := A1_2.out.2 1 _ rfl
    have qA12 := A1_2.out.2 2 _ rfl
    have qA13 := A1_2.out.2 3 _ rfl
    try simp only [World.size_alloc] at lA0 lA1
    go_wp2_with fail
    refine (wrap_impl P _ a0 oa n n l _ (HT.out.ext E_4.out) hm0 (Nat.le_refl _) (by unfold maxLen; omega)).mono ?_
    rintro e w_5 ⟨B, rfl, hb, hlo, h_5⟩
    clear lA0 qA00 qA01 qA02 lA1 qA10 qA11 qA12 qA13
    have A0_6 := Lib.hid (A0_1.out.ext h_5)
    clear A0_1
    have A1_7 := Lib.hid (A1_2.out.ext h_5)
    clear A1_2
    have R_8 := Lib.hid (R_3.out.ext h_5)
    clear R_3
    have E_9 := Lib.hid (E_4.out.trans h_5)
    clear E_4
    have B_10 := Lib.hid hb
    clear hb hlo
    rw [H0.out]
    try simp only [World.size_alloc]
    have PRE := E_9
    have P_9 := (Ext.refl w_5).alloc (.cells #[.pointer (some ⟨B, 0, none⟩)] 64)
    have A0_11 := Lib.hid (A0_6.out.ext P_9)
    clear A0_6
    have A1_12 := Lib.hid (A1_7.out.ext P_9)
    clear A1_7
    have R_13 := Lib.hid (R_8.out.ext P_9)
    clear R_8
    have B_14 := Lib.hid (B_10.out.ext P_9)
    clear B_10
    have E_15 := Lib.hid (E_9.out.trans P_9)
    clear E_9
    clear P_9
    have F_16 := Lib.hid (cells_new w_5 #[.pointer (some ⟨B, 0, none⟩)] 64)
    have lA0 := A0_11.out.1
    have qA00 := A0_11.out.2 0 _ rfl
    have qA01 := A0_11.out.2 1 _ rfl
    have qA02 := A0_11.out.2 2 _ rfl
    have lA1 := A1_12.out.1
    have qA10 := A1_12.out.2 0 _ rfl
    have qA11 := A1_12.out.2 1 _ rfl
    have qA12 := A1_12.out.2 2 _ rfl
    have qA13 := A1_12.out.2 3 _ rfl
    try simp only [World.size_alloc] at lA0 lA1
    have r0 := R_13.out.2 0 _ rfl
    have r1 := R_13.out.2 1 _ rfl
    have r2 := R_13.out.2 2 _ rfl
    have r3 := R_13.out.2 3 _ rfl
    have tR := R_13.out.3
    have lR := R_13.out.1
    go_wp2
    refine bodyPost_ret (v := .tuple #[.agg #[.int .i64 0, .int .i64 0, .int .i64 0, .slice none 0 0], .bool false]) (by simp [results, Try.results34, go_sem, r0, r1, r2, r3]) rfl ⟨_, rfl, ⟨_, _, _, rfl, own_nil _ _ _, by omega⟩, ?_⟩
    first
      | exact ext4 E_15.out (by omega) _ _ _ _
      | exact (ext4 PRE.out (by omega) _ _ _ _).alloc _
  have H0 := Lib.hid h0
  rcases h1 : rwB P D P1 R1 C1 ss with _ | _
  · simp only [gwM, h0, h1, noMat, Bool.false_and, Bool.and_false, Bool.false_eq_true, if_false, Prod.mk.injEq, Mat.mk.injEq] at hM
    obtain ⟨⟨rfl, rfl, rfl, rfl⟩, rfl⟩ := hM
    have H1 := Lib.hid h1
    clear h0 h1 hT hS
    go_enter Try.func34, Try.ntmps34
    have A0_1 := Lib.hid (((cells_new' w #[.int .i64 P, .int .i64 D, .slice (some ⟨a0, oa, none⟩) n n] 28 (w.heap.size) (by simp)).ext ((Ext.refl _).alloc (.cells #[.int .i64 P1, .int .i64 R1, .int .i64 C1, .slice (some ⟨s0, so, none⟩) n1 n1] 40))).ext ((Ext.refl _).alloc (.cells #[.int .i64 0, .int .i64 0, .int .i64 0, .slice none 0 0] 40)))
    have A1_2 := Lib.hid ((cells_new' (w.alloc (.cells #[.int .i64 P, .int .i64 D, .slice (some ⟨a0, oa, none⟩) n n] 28)) #[.int .i64 P1, .int .i64 R1, .int .i64 C1, .slice (some ⟨s0, so, none⟩) n1 n1] 40 (w.heap.size + 1) (by simp)).ext ((Ext.refl _).alloc (.cells #[.int .i64 0, .int .i64 0, .int .i64 0, .slice none 0 0] 40)))
    have R_3 := Lib.hid (cells_new' ((w.alloc (.cells #[.int .i64 P, .int .i64 D, .slice (some ⟨a0, oa, none⟩) n n] 28)).alloc (.cells #[.int .i64 P1, .int .i64 R1, .int .i64 C1, .slice (some ⟨s0, so, none⟩) n1 n1] 40)) #[.int .i64 0, .int .i64 0, .int .i64 0, .slice none 0 0] 40 (w.heap.size + 1 + 1) (by simp))
    have E_4 := Lib.hid ((((Ext.refl w).alloc (.cells #[.int .i64 P, .int .i64 D, .slice (some ⟨a0, oa, none⟩) n n] 28)).alloc (.cells #[.int .i64 P1, .int .i64 R1, .int .i64 C1, .slice (some ⟨s0, so, none⟩) n1 n1] 40)).alloc (.cells #[.int .i64 0, .int .i64 0, .int .i64 0, .slice none 0 0] 40))
    have lA0 := A0_1.out.1
    have qA00 := A0_1.out.2 0 _ rfl
    have qA01 := A0_1.out.2 1 _ rfl
    have qA02 := A0_1.out.2 2 _ rfl
    have lA1 := A1_2.out.1
    have qA10 := A1_2.out.2 0 _ rfl
    have qA11 := A1_2.out.2 1 _ rfl
    have qA12 := A1_2.out.2 2 _ rfl
    have qA13 := A1_2.out.2 3 _ rfl
    try simp only [World.size_alloc] at lA0 lA1
    go_wp2_with fail
    refine (wrap_impl P _ a0 oa n n l _ (HT.out.ext E_4.out) hm0 (Nat.le_refl _) (by unfold maxLen; omega)).mono ?_
    rintro e w_5 ⟨B, rfl, hb, hlo, h_5⟩
    clear lA0 qA00 qA01 qA02 lA1 qA10 qA11 qA12 qA13
    have A0_6 := Lib.hid (A0_1.out.ext h_5)
    clear A0_1
    have A1_7 := Lib.hid (A1_2.out.ext h_5)
    clear A1_2
    have R_8 := Lib.hid (R_3.out.ext h_5)
    clear R_3
    have E_9 := Lib.hid (E_4.out.trans h_5)
    clear E_4
    have B_10 := Lib.hid hb
    clear hb hlo
    rw [H0.out]
    have PRE := E_9
    have P_9 := (Ext.refl w_5).alloc (.cells #[.pointer (some ⟨B, 0, none⟩)] 64)
    have A0_11 := Lib.hid (A0_6.out.ext P_9)
    clear A0_6
    have A1_12 := Lib.hid (A1_7.out.ext P_9)
    clear A1_7
    have R_13 := Lib.hid (R_8.out.ext P_9)
    clear R_8
    have B_14 := Lib.hid (B_10.out.ext P_9)
    clear B_10
    have E_15 := Lib.hid (E_9.out.trans P_9)
    clear E_9
    clear P_9
    have F_16 := Lib.hid (cells_new w_5 #[.pointer (some ⟨B, 0, none⟩)] 64)
    have lA0 := A0_11.out.1
    have qA00 := A0_11.out.2 0 _ rfl
    have qA01 := A0_11.out.2 1 _ rfl
    have qA02 := A0_11.out.2 2 _ rfl
    have lA1 := A1_12.out.1
    have qA10 := A1_12.out.2 0 _ rfl
    have qA11 := A1_12.out.2 1 _ rfl
    have qA12 := A1_12.out.2 2 _ rfl
    have qA13 := A1_12.out.2 3 _ rfl
    have lF := F_16.out.1
    have qF0 := F_16.out.2 0 _ rfl
    try simp only [World.size_alloc] at lA0 lA1 lF
    go_wp2_with fail
    refine (hasRows_impl P _ _ _ _ B s0 so n1 _ ss _ B_14.out (HS.out.ext E_15.out) hm3).mono ?_
    rintro e w_17 ⟨rfl, h_17⟩
    clear lA0 qA00 qA01 qA02 lA1 qA10 qA11 qA12 qA13 lF qF0
    have A0_18 := Lib.hid (A0_11.out.ext h_17)
    clear A0_11
    have A1_19 := Lib.hid (A1_12.out.ext h_17)
    clear A1_12
    have R_20 := Lib.hid (R_13.out.ext h_17)
    clear R_13
    have B_21 := Lib.hid (B_14.out.ext h_17)
    clear B_14
    have F_22 := Lib.hid (F_16.out.ext h_17)
    clear F_16
    have E_23 := Lib.hid (E_15.out.trans h_17)
    clear E_15
    rw [H1.out]
    have lA0 := A0_18.out.1
    have qA00 := A0_18.out.2 0 _ rfl
    have qA01 := A0_18.out.2 1 _ rfl
    have qA02 := A0_18.out.2 2 _ rfl
    have lA1 := A1_19.out.1
    have qA10 := A1_19.out.2 0 _ rfl
    have qA11 := A1_19.out.2 1 _ rfl
    have qA12 := A1_19.out.2 2 _ rfl
    have qA13 := A1_19.out.2 3 _ rfl
    try simp only [World.size_alloc] at lA0 lA1
    have r0 := R_20.out.2 0 _ rfl
    have r1 := R_20.out.2 1 _ rfl
    have r2 := R_20.out.2 2 _ rfl
    have r3 := R_20.out.2 3 _ rfl
    have tR := R_20.out.3
    have lR := R_20.out.1
    go_wp2
    refine bodyPost_ret (v := .tuple #[.agg #[.int .i64 0, .int .i64 0, .int .i64 0, .slice none 0 0], .bool false]) (by simp [results, Try.results34, go_sem, r0, r1, r2, r3]) rfl ⟨_, rfl, ⟨_, _, _, rfl, own_nil _ _ _, by omega⟩, ?_⟩
    first
      | exact ext4 E_23.out (by omega) _ _ _ _
      | exact (ext4 PRE.out (by omega) _ _ _ _).alloc _
  have H1 := Lib.hid h1
  simp only [gwM, h0, h1, Bool.and_self, if_true, Prod.mk.injEq, Mat.mk.injEq] at hM
  obtain ⟨⟨rfl, rfl, rfl, rfl⟩, rfl⟩ := hM
  obtain ⟨D, rfl, hA⟩ := algB_parts h0 hT.1
  obtain ⟨rfl, r, rfl, rfl, hr, hn1, hx1⟩ := rwB_parts h1 hS.1
  simp only [Int.toNat_natCast]
  have hD := hA.dim
  have hIP := isP_iff.1 hA.pr
  have hP0 : 0 < P1 := by have := hIP.1; omega
  have hxl : ss.length = r * D := by rw [hS.1, hn1]
  have HNS := Lib.hid (gwN_spec (P := P1) (D := D) (l := l) (b := false) hIP hxl hx1)
  have HGR : Hid (∀ w1 B F0 , Ext w w1 → Cells w1 B [.int .i64 P1, .int .i64 D, .slice (some ⟨a0, oa, none⟩) n n] → Cells w1 F0 [.pointer (some ⟨B, 0, none⟩)] → Calls Try.prog 86 #[.agg #[.int .i64 P1, .int .i64 (r : Nat), .int .i64 D, .slice (some ⟨s0, so, none⟩) n1 n1], .func (.func 87) #[] #[.pointer (some ⟨F0, 0, none⟩)]] w1 fun e w' => ∃ b, e = .returned (.agg #[.int .i64 P1, .int .i64 (((gwS P1 D l false r ss) (gwN P1 D l false r ss)).1 : Nat), .int .i64 D, .slice (some ⟨b, 0, none⟩) (((gwS P1 D l false r ss) (gwN P1 D l false r ss)).1 * D) (((gwS P1 D l false r ss) (gwN P1 D l false r ss)).1 * D)]) ∧ w1.heap.size ≤ b ∧ b < w'.heap.size ∧ Has w' b ((gwS P1 D l false r ss) (gwN P1 D l false r ss)).2 ∧ Ext w1 w') := fun w1 B F0 h hc hf =>
    grow_A P1 D r s0 so n1 (gwN P1 D l false r ss) F0 ss (gwS P1 D l false r ss) (fun i => ((gwT D false ((gwS P1 D l false r ss) i)).1 * ((gwS P1 D l false r ss) i).1, pL P1 D l (gwT D false ((gwS P1 D l false r ss) i)).2 ((gwS P1 D l false r ss) i).2 ((gwS P1 D l false r ss) i).1 (gwT D false ((gwS P1 D l false r ss) i)).1)) w1 hD (isP_lo hA.pr) (isP_hi hA.pr) (hS.ext h) hn1 hr hx1 rfl (fun _ => rfl) (fun i => (gwS_spc hIP hxl hx1 i).le) (fun i => (gwS_spc hIP hxl hx1 i).len) (fun i => (gwS_spc hIP hxl hx1 i).res) (fun i => pL_len2 _ _ _ _) (fun i => pL_res hP0 _ _ _ _) (fun i => Nat.mul_le_mul (Nat.le_trans (gwT_spc hIP (gwS_spc hIP hxl hx1 i)).le hD) (Nat.le_trans (gwS_spc hIP hxl hx1 i).le hD)) (fun i hi => gwN_up hIP hxl hx1 i hi) HNS.out.2.2
      (fun i hi w2 b2 h2 hb2 => gnext_A P1 D B F0 a0 oa n b2 l ((gwS P1 D l false r ss) i) w2 (hf.ext h2) (hc.ext h2) (hT.ext (h.trans h2)) hA (gwS_spc hIP hxl hx1 i) hb2)
  have HLN : Hid (((gwS P1 D l false r ss) (gwN P1 D l false r ss)).2.length = ((gwS P1 D l false r ss) (gwN P1 D l false r ss)).1 * D ∧ ((gwS P1 D l false r ss) (gwN P1 D l false r ss)).1 * D ≤ 784) := ⟨(gwS_spc hIP hxl hx1 _).len, Nat.mul_le_mul (Nat.le_trans (gwS_spc hIP hxl hx1 _).le hD) hD⟩
  clear hT hS h0 h1 hA hx1 hxl HNS hIP hn1
  generalize (gwS P1 D l false r ss) (gwN P1 D l false r ss) = u at *
  obtain ⟨ur, ud⟩ := u
  dsimp only at *
  go_enter Try.func34, Try.ntmps34
  have A0_1 := Lib.hid (((cells_new' w #[.int .i64 P1, .int .i64 D, .slice (some ⟨a0, oa, none⟩) n n] 28 (w.heap.size) (by simp)).ext ((Ext.refl _).alloc (.cells #[.int .i64 P1, .int .i64 (r : Nat), .int .i64 D, .slice (some ⟨s0, so, none⟩) n1 n1] 40))).ext ((Ext.refl _).alloc (.cells #[.int .i64 0, .int .i64 0, .int .i64 0, .slice none 0 0] 40)))
  have A1_2 := Lib.hid ((cells_new' (w.alloc (.cells #[.int .i64 P1, .int .i64 D, .slice (some ⟨a0, oa, none⟩) n n] 28)) #[.int .i64 P1, .int .i64 (r : Nat), .int .i64 D, .slice (some ⟨s0, so, none⟩) n1 n1] 40 (w.heap.size + 1) (by simp)).ext ((Ext.refl _).alloc (.cells #[.int .i64 0, .int .i64 0, .int .i64 0, .slice none 0 0] 40)))
  have R_3 := Lib.hid (cells_new' ((w.alloc (.cells #[.int .i64 P1, .int .i64 D, .slice (some ⟨a0, oa, none⟩) n n] 28)).alloc (.cells #[.int .i64 P1, .int .i64 (r : Nat), .int .i64 D, .slice (some ⟨s0, so, none⟩) n1 n1] 40)) #[.int .i64 0, .int .i64 0, .int .i64 0, .slice none 0 0] 40 (w.heap.size + 1 + 1) (by simp))
  have E_4 := Lib.hid ((((Ext.refl w).alloc (.cells #[.int .i64 P1, .int .i64 D, .slice (some ⟨a0, oa, none⟩) n n] 28)).alloc (.cells #[.int .i64 P1, .int .i64 (r : Nat), .int .i64 D, .slice (some ⟨s0, so, none⟩) n1 n1] 40)).alloc (.cells #[.int .i64 0, .int .i64 0, .int .i64 0, .slice none 0 0] 40))
  have lA0 := A0_1.out.1
  have qA00 := A0_1.out.2 0 _ rfl
  have qA01 := A0_1.out.2 1 _ rfl
  have qA02 := A0_1.out.2 2 _ rfl
  have lA1 := A1_2.out.1
  have qA10 := A1_2.out.2 0 _ rfl
  have qA11 := A1_2.out.2 1 _ rfl
  have qA12 := A1_2.out.2 2 _ rfl
  have qA13 := A1_2.out.2 3 _ rfl
  try simp only [World.size_alloc] at lA0 lA1
  go_wp2_with fail
  refine (wrap_impl P1 _ a0 oa n n l _ (HT.out.ext E_4.out) hm0 (Nat.le_refl _) (by unfold maxLen; omega)).mono ?_
  rintro e w_5 ⟨B, rfl, hb, hlo, h_5⟩
  clear lA0 qA00 qA01 qA02 lA1 qA10 qA11 qA12 qA13
  have A0_6 := Lib.hid (A0_1.out.ext h_5)
  clear A0_1
  have A1_7 := Lib.hid (A1_2.out.ext h_5)
  clear A1_2
  have R_8 := Lib.hid (R_3.out.ext h_5)
  clear R_3
  have E_9 := Lib.hid (E_4.out.trans h_5)
  clear E_4
  have B_10 := Lib.hid hb
  clear hb hlo
  rw [H0.out]
  have PRE := E_9
  have P_9 := (Ext.refl w_5).alloc (.cells #[.pointer (some ⟨B, 0, none⟩)] 64)
  have A0_11 := Lib.hid (A0_6.out.ext P_9)
  clear A0_6
  have A1_12 := Lib.hid (A1_7.out.ext P_9)
  clear A1_7
  have R_13 := Lib.hid (R_8.out.ext P_9)
  clear R_8
  have B_14 := Lib.hid (B_10.out.ext P_9)
  clear B_10
  have E_15 := Lib.hid (E_9.out.trans P_9)
  clear E_9
  clear P_9
  have F_16 := Lib.hid (cells_new w_5 #[.pointer (some ⟨B, 0, none⟩)] 64)
  have lA0 := A0_11.out.1
  have qA00 := A0_11.out.2 0 _ rfl
  have qA01 := A0_11.out.2 1 _ rfl
  have qA02 := A0_11.out.2 2 _ rfl
  have lA1 := A1_12.out.1
  have qA10 := A1_12.out.2 0 _ rfl
  have qA11 := A1_12.out.2 1 _ rfl
  have qA12 := A1_12.out.2 2 _ rfl
  have qA13 := A1_12.out.2 3 _ rfl
  have lF := F_16.out.1
  have qF0 := F_16.out.2 0 _ rfl
  try simp only [World.size_alloc] at lA0 lA1 lF
  go_wp2_with fail
  refine (hasRows_impl P1 _ _ _ _ B s0 so n1 _ ss _ B_14.out (HS.out.ext E_15.out) hm3).mono ?_
  rintro e w_17 ⟨rfl, h_17⟩
  clear lA0 qA00 qA01 qA02 lA1 qA10 qA11 qA12 qA13 lF qF0
  have A0_18 := Lib.hid (A0_11.out.ext h_17)
  clear A0_11
  have A1_19 := Lib.hid (A1_12.out.ext h_17)
  clear A1_12
  have R_20 := Lib.hid (R_13.out.ext h_17)
  clear R_13
  have B_21 := Lib.hid (B_14.out.ext h_17)
  clear B_14
  have F_22 := Lib.hid (F_16.out.ext h_17)
  clear F_16
  have E_23 := Lib.hid (E_15.out.trans h_17)
  clear E_15
  rw [H1.out]
  have lR0 := Lib.hid R_20.out.1
  have lA0 := A0_18.out.1
  have qA00 := A0_18.out.2 0 _ rfl
  have qA01 := A0_18.out.2 1 _ rfl
  have qA02 := A0_18.out.2 2 _ rfl
  have lA1 := A1_19.out.1
  have qA10 := A1_19.out.2 0 _ rfl
  have qA11 := A1_19.out.2 1 _ rfl
  have qA12 := A1_19.out.2 2 _ rfl
  have qA13 := A1_19.out.2 3 _ rfl
  try simp only [World.size_alloc] at lA0 lA1
  go_wp2_with fail
  refine (HGR.out _ B w_5.heap.size E_23.out B_21.out F_22.out).mono ?_
  rintro e w_24 ⟨b, rfl, hb1, hb2, hh, h_24⟩
  clear lA0 qA00 qA01 qA02 lA1 qA10 qA11 qA12 qA13
  try simp only [World.size_alloc] at hb1
  have HH := Lib.hid hh
  clear hh
  have A0_25 := Lib.hid (A0_18.out.ext h_24)
  clear A0_18
  have A1_26 := Lib.hid (A1_19.out.ext h_24)
  clear A1_19
  have R_27 := Lib.hid (R_20.out.ext h_24)
  clear R_20
  have B_28 := Lib.hid (B_21.out.ext h_24)
  clear B_21
  have F_29 := Lib.hid (F_22.out.ext h_24)
  clear F_22
  have E_30 := Lib.hid (E_23.out.trans h_24)
  clear E_23
  have lR1 := lR0.out
  try simp only [World.size_alloc] at lR1
  have hln := HLN.out
  have r0 := R_27.out.2 0 _ rfl
  have r1 := R_27.out.2 1 _ rfl
  have r2 := R_27.out.2 2 _ rfl
  have r3 := R_27.out.2 3 _ rfl
  have tR := R_27.out.3
  have lR := R_27.out.1
  go_wp2
  refine bodyPost_ret (v := .tuple #[.agg #[.int .i64 P1, .int .i64 (ur : Nat), .int .i64 D, .slice (some ⟨b, 0, none⟩) (ur * D) (ur * D)], .bool true]) (by simp [results, Try.results34, go_sem, r0, r1, r2, r3]) rfl ⟨_, rfl, ⟨_, _, _, rfl, ?_, by omega⟩, ext4 E_30.out (by omega) _ _ _ _⟩
  exact Own.mono (own4 (HH.out.own (lo := w.heap.size + 1 + 1 + 1) (hi := w_24.heap.size) (by omega) (by omega) hln.1) (by omega) _ _ _ _) (by omega) (by simp)

set_option maxRecDepth 100000 in
set_option maxHeartbeats 6400000 in
theorem idealBy_impl {P D : Int} {a0 oa n : Nat} {l : List Int} {P1 R1 C1 : Int} {s0 so n1 : Nat} {ss : List Int} {w : World} {p r' c : Int} {d : List Int} {ok : Bool} (hT : Reads w (some ⟨a0, oa, none⟩) n l) (hm0 : n ≤ 1048576) (hS : Reads w (some ⟨s0, so, none⟩) n1 ss) (hm1 : n1 ≤ 1048576) (hM : gwM true P D l P1 R1 C1 ss = (⟨p, r', c, d⟩, ok)) :
    Calls Try.prog 37 #[.agg #[.int .i64 P, .int .i64 D, .slice (some ⟨a0, oa, none⟩) n n], .agg #[.int .i64 P1, .int .i64 R1, .int .i64 C1, .slice (some ⟨s0, so, none⟩) n1 n1]] w fun e w' => ∃ v, e = .returned (.tuple #[v, .bool ok]) ∧ Rmat w w' v p r' c d ∧ Ext w w' := by
  have HT := Lib.hid hT
  have HS := Lib.hid hS
  have hm3 : n1 ≤ maxLen := by unfold maxLen; omega
  have hmf : ∀ (fn : Fn) (first cap : Array Value) (w : World), (Instr.makeFunc fn first cap).run Try.prog w = .ok (.func fn first cap) w := fun _ _ _ _ => rfl
  rcases h0 : algB P D l with _ | _
  · simp only [gwM, h0, noMat, Bool.false_and, Bool.and_false, Bool.false_eq_true, if_false, Prod.mk.injEq, Mat.mk.injEq] at hM
    obtain ⟨⟨rfl, rfl, rfl, rfl⟩, rfl⟩ := hM
    have H0 := Lib.hid h0
    clear h0 hT hS
    go_enter Try.func37, Try.ntmps37
    have A0_1 := Lib.hid (((cells_new' w #[.int .i64 P, .int .i64 D, .slice (some ⟨a0, oa, none⟩) n n] 28 (w.heap.size) (by simp)).ext ((Ext.refl _).alloc (.cells #[.int .i64 P1, .int .i64 R1, .int .i64 C1, .slice (some ⟨s0, so, none⟩) n1 n1] 40))).ext ((Ext.refl _).alloc (.cells #[.int .i64 0, .int .i64 0, .int .i64 0, .slice none 0 0] 40)))
    have A1_2 := Lib.hid ((cells_new' (w.alloc (.cells #[.int .i64 P, .int .i64 D, .slice (some ⟨a0, oa, none⟩) n n] 28)) #[.int .i64 P1, .int .i64 R1, .int .i64 C1, .slice (some ⟨s0, so, none⟩) n1 n1] 40 (w.heap.size + 1) (by simp)).ext ((Ext.refl _).alloc (.cells #[.int .i64 0, .int .i64 0, .int .i64 0, .slice none 0 0] 40)))
    have R_3 := Lib.hid (cells_new' ((w.alloc (.cells #[.int .i64 P, .int .i64 D, .slice (some ⟨a0, oa, none⟩) n n] 28)).alloc (.cells #[.int .i64 P1, .int .i64 R1, .int .i64 C1, .slice (some ⟨s0, so, none⟩) n1 n1] 40)) #[.int .i64 0, .int .i64 0, .int .i64 0, .slice none 0 0] 40 (w.heap.size + 1 + 1) (by simp))
    have E_4 := Lib.hid ((((Ext.refl w).alloc (.cells #[.int .i64 P, .int .i64 D, .slice (some ⟨a0, oa, none⟩) n n] 28)).alloc (.cells #[.int .i64 P1, .int .i64 R1, .int .i64 C1, .slice (some ⟨s0, so, none⟩) n1 n1] 40)).alloc (.cells #[.int .i64 0, .int .i64 0, .int .i64 0, .slice none 0 0] 40))
    have lA0 := A0_1.out.1
    have qA00 := A0_1.out.2 0 _ rfl
    have qA01 := A0_1.out.2 1 _ rfl
    have qA02 := A0_1.out.2 2 _ rfl
    have lA1 := A1_2.out.1
    have qA10 := A1_2.out.2 0 _ rfl
    have qA11 := A1_2.out.2 1 _ rfl
    have qA12 := A1_2.out.2 2 _ rfl
    have qA13 := A1_2.out.2 3 _ rfl
    try simp only [World.size_alloc] at lA0 lA1
    go_wp2_with fail
    refine (wrap_impl P _ a0 oa n n l _ (HT.out.ext E_4.out) hm0 (Nat.le_refl _) (by unfold maxLen; omega)).mono ?_
    rintro e w_5 ⟨B, rfl, hb, hlo, h_5⟩
    clear lA0 qA00 qA01 qA02 lA1 qA10 qA11 qA12 qA13
    have A0_6 := Lib.hid (A0_1.out.ext h_5)
    clear A0_1
    have A1_7 := Lib.hid (A1_2.out.ext h_5)
    clear A1_2
    have R_8 := Lib.hid (R_3.out.ext h_5)
    clear R_3
    have E_9 := Lib.hid (E_4.out.trans h_5)
    clear E_4
    have B_10 := Lib.hid hb
    clear hb hlo
    rw [H0.out]
    try simp only [World.size_alloc]
    have PRE := E_9
    have P_9 := (Ext.refl w_5).alloc (.cells #[.pointer (some ⟨B, 0, none⟩)] 64)
    have A0_11 := Lib.hid (A0_6.out.ext P_9)
    clear A0_6
    have A1_12 := Lib.hid (A1_7.out.ext P_9)
    clear A1_7
    have R_13 := Lib.hid (R_8.out.ext P_9)
    clear R_8
    have B_14 := Lib.hid (B_10.out.ext P_9)
    clear B_10
    have E_15 := Lib.hid (E_9.out.trans P_9)
    clear E_9
    clear P_9
    have F_16 := Lib.hid (cells_new w_5 #[.pointer (some ⟨B, 0, none⟩)] 64)
    have lA0 := A0_11.out.1
    have qA00 := A0_11.out.2 0 _ rfl
    have qA01 := A0_11.out.2 1 _ rfl
    have qA02 := A0_11.out.2 2 _ rfl
    have lA1 := A1_12.out.1
    have qA10 := A1_12.out.2 0 _ rfl
    have qA11 := A1_12.out.2 1 _ rfl
    have qA12 := A1_12.out.2 2 _ rfl
    have qA13 := A1_12.out.2 3 _ rfl
    try simp only [World.size_alloc] at lA0 lA1
    have r0 := R_13.out.2 0 _ rfl
    have r1 := R_13.out.2 1 _ rfl
    have r2 := R_13.out.2 2 _ rfl
    have r3 := R_13.out.2 3 _ rfl
    have tR := R_13.out.3
    have lR := R_13.out.1
    go_wp2
    refine bodyPost_ret (v := .tuple #[.agg #[.int .i64 0, .int .i64 0, .int .i64 0, .slice none 0 0], .bool false]) (by simp [results, Try.results37, go_sem, r0, r1, r2, r3]) rfl ⟨_, rfl, ⟨_, _, _, rfl, own_nil _ _ _, by omega⟩, ?_⟩
    first
      | exact ext4 E_15.out (by omega) _ _ _ _
      | exact (ext4 PRE.out (by omega) _ _ _ _).alloc _
  have H0 := Lib.hid h0
  rcases h1 : rwB P D P1 R1 C1 ss with _ | _
  · simp only [gwM, h0, h1, noMat, Bool.false_and, Bool.and_false, Bool.false_eq_true, if_false, Prod.mk.injEq, Mat.mk.injEq] at hM
    obtain ⟨⟨rfl, rfl, rfl, rfl⟩, rfl⟩ := hM
    have H1 := Lib.hid h1
    clear h0 h1 hT hS
    go_enter Try.func37, Try.ntmps37
    have A0_1 := Lib.hid (((cells_new' w #[.int .i64 P, .int .i64 D, .slice (some ⟨a0, oa, none⟩) n n] 28 (w.heap.size) (by simp)).ext ((Ext.refl _).alloc (.cells #[.int .i64 P1, .int .i64 R1, .int .i64 C1, .slice (some ⟨s0, so, none⟩) n1 n1] 40))).ext ((Ext.refl _).alloc (.cells #[.int .i64 0, .int .i64 0, .int .i64 0, .slice none 0 0] 40)))
    have A1_2 := Lib.hid ((cells_new' (w.alloc (.cells #[.int .i64 P, .int .i64 D, .slice (some ⟨a0, oa, none⟩) n n] 28)) #[.int .i64 P1, .int .i64 R1, .int .i64 C1, .slice (some ⟨s0, so, none⟩) n1 n1] 40 (w.heap.size + 1) (by simp)).ext ((Ext.refl _).alloc (.cells #[.int .i64 0, .int .i64 0, .int .i64 0, .slice none 0 0] 40)))
    have R_3 := Lib.hid (cells_new' ((w.alloc (.cells #[.int .i64 P, .int .i64 D, .slice (some ⟨a0, oa, none⟩) n n] 28)).alloc (.cells #[.int .i64 P1, .int .i64 R1, .int .i64 C1, .slice (some ⟨s0, so, none⟩) n1 n1] 40)) #[.int .i64 0, .int .i64 0, .int .i64 0, .slice none 0 0] 40 (w.heap.size + 1 + 1) (by simp))
    have E_4 := Lib.hid ((((Ext.refl w).alloc (.cells #[.int .i64 P, .int .i64 D, .slice (some ⟨a0, oa, none⟩) n n] 28)).alloc (.cells #[.int .i64 P1, .int .i64 R1, .int .i64 C1, .slice (some ⟨s0, so, none⟩) n1 n1] 40)).alloc (.cells #[.int .i64 0, .int .i64 0, .int .i64 0, .slice none 0 0] 40))
    have lA0 := A0_1.out.1
    have qA00 := A0_1.out.2 0 _ rfl
    have qA01 := A0_1.out.2 1 _ rfl
    have qA02 := A0_1.out.2 2 _ rfl
    have lA1 := A1_2.out.1
    have qA10 := A1_2.out.2 0 _ rfl
    have qA11 := A1_2.out.2 1 _ rfl
    have qA12 := A1_2.out.2 2 _ rfl
    have qA13 := A1_2.out.2 3 _ rfl
    try simp only [World.size_alloc] at lA0 lA1
    go_wp2_with fail
    refine (wrap_impl P _ a0 oa n n l _ (HT.out.ext E_4.out) hm0 (Nat.le_refl _) (by unfold maxLen; omega)).mono ?_
    rintro e w_5 ⟨B, rfl, hb, hlo, h_5⟩
    clear lA0 qA00 qA01 qA02 lA1 qA10 qA11 qA12 qA13
    have A0_6 := Lib.hid (A0_1.out.ext h_5)
    clear A0_1
    have A1_7 := Lib.hid (A1_2.out.ext h_5)
    clear A1_2
    have R_8 := Lib.hid (R_3.out.ext h_5)
    clear R_3
    have E_9 := Lib.hid (E_4.out.trans h_5)
    clear E_4
    have B_10 := Lib.hid hb
    clear hb hlo
    rw [H0.out]
    have PRE := E_9
    have P_9 := (Ext.refl w_5).alloc (.cells #[.pointer (some ⟨B, 0, none⟩)] 64)
    have A0_11 := Lib.hid (A0_6.out.ext P_9)
    clear A0_6
    have A1_12 := Lib.hid (A1_7.out.ext P_9)
    clear A1_7
    have R_13 := Lib.hid (R_8.out.ext P_9)
    clear R_8
    have B_14 := Lib.hid (B_10.out.ext P_9)
    clear B_10
    have E_15 := Lib.hid (E_9.out.trans P_9)
    clear E_9
    clear P_9
    have F_16 := Lib.hid (cells_new w_5 #[.pointer (some ⟨B, 0, none⟩)] 64)
    have lA0 := A0_11.out.1
    have qA00 := A0_11.out.2 0 _ rfl
    have qA01 := A0_11.out.2 1 _ rfl
    have qA02 := A0_11.out.2 2 _ rfl
    have lA1 := A1_12.out.1
    have qA10 := A1_12.out.2 0 _ rfl
    have qA11 := A1_12.out.2 1 _ rfl
    have qA12 := A1_12.out.2 2 _ rfl
    have qA13 := A1_12.out.2 3 _ rfl
    have lF := F_16.out.1
    have qF0 := F_16.out.2 0 _ rfl
    try simp only [World.size_alloc] at lA0 lA1 lF
    go_wp2_with fail
    refine (hasRows_impl P _ _ _ _ B s0 so n1 _ ss _ B_14.out (HS.out.ext E_15.out) hm3).mono ?_
    rintro e w_17 ⟨rfl, h_17⟩
    clear lA0 qA00 qA01 qA02 lA1 qA10 qA11 qA12 qA13 lF qF0
    have A0_18 := Lib.hid (A0_11.out.ext h_17)
    clear A0_11
    have A1_19 := Lib.hid (A1_12.out.ext h_17)
    clear A1_12
    have R_20 := Lib.hid (R_13.out.ext h_17)
    clear R_13
    have B_21 := Lib.hid (B_14.out.ext h_17)
    clear B_14
    have F_22 := Lib.hid (F_16.out.ext h_17)
    clear F_16
    have E_23 := Lib.hid (E_15.out.trans h_17)
    clear E_15
    rw [H1.out]
    have lA0 := A0_18.out.1
    have qA00 := A0_18.out.2 0 _ rfl
    have qA01 := A0_18.out.2 1 _ rfl
    have qA02 := A0_18.out.2 2 _ rfl
    have lA1 := A1_19.out.1
    have qA10 := A1_19.out.2 0 _ rfl
    have qA11 := A1_19.out.2 1 _ rfl
    have qA12 := A1_19.out.2 2 _ rfl
    have qA13 := A1_19.out.2 3 _ rfl
    try simp only [World.size_alloc] at lA0 lA1
    have r0 := R_20.out.2 0 _ rfl
    have r1 := R_20.out.2 1 _ rfl
    have r2 := R_20.out.2 2 _ rfl
    have r3 := R_20.out.2 3 _ rfl
    have tR := R_20.out.3
    have lR := R_20.out.1
    go_wp2
    refine bodyPost_ret (v := .tuple #[.agg #[.int .i64 0, .int .i64 0, .int .i64 0, .slice none 0 0], .bool false]) (by simp [results, Try.results37, go_sem, r0, r1, r2, r3]) rfl ⟨_, rfl, ⟨_, _, _, rfl, own_nil _ _ _, by omega⟩, ?_⟩
    first
      | exact ext4 E_23.out (by omega) _ _ _ _
      | exact (ext4 PRE.out (by omega) _ _ _ _).alloc _
  have H1 := Lib.hid h1
  simp only [gwM, h0, h1, Bool.and_self, if_true, Prod.mk.injEq, Mat.mk.injEq] at hM
  obtain ⟨⟨rfl, rfl, rfl, rfl⟩, rfl⟩ := hM
  obtain ⟨D, rfl, hA⟩ := algB_parts h0 hT.1
  obtain ⟨rfl, r, rfl, rfl, hr, hn1, hx1⟩ := rwB_parts h1 hS.1
  simp only [Int.toNat_natCast]
  have hD := hA.dim
  have hIP := isP_iff.1 hA.pr
  have hP0 : 0 < P1 := by have := hIP.1; omega
  have hxl : ss.length = r * D := by rw [hS.1, hn1]
  have HNS := Lib.hid (gwN_spec (P := P1) (D := D) (l := l) (b := true) hIP hxl hx1)
  have HGR : Hid (∀ w1 B F0 F1 b9 , Ext w w1 → Cells w1 B [.int .i64 P1, .int .i64 D, .slice (some ⟨a0, oa, none⟩) n n] → Cells w1 F0 [.pointer (some ⟨B, 0, none⟩)] → Cells w1 F1 [.int .i64 P1, .int .i64 D, .int .i64 D, .slice (some ⟨b9, 0, none⟩) (D * D) (D * D)] → Has w1 b9 (unitTo D D) → Calls Try.prog 86 #[.agg #[.int .i64 P1, .int .i64 (r : Nat), .int .i64 D, .slice (some ⟨s0, so, none⟩) n1 n1], .func (.func 89) #[] #[.pointer (some ⟨F0, 0, none⟩), .pointer (some ⟨F1, 0, none⟩)]] w1 fun e w' => ∃ b, e = .returned (.agg #[.int .i64 P1, .int .i64 (((gwS P1 D l true r ss) (gwN P1 D l true r ss)).1 : Nat), .int .i64 D, .slice (some ⟨b, 0, none⟩) (((gwS P1 D l true r ss) (gwN P1 D l true r ss)).1 * D) (((gwS P1 D l true r ss) (gwN P1 D l true r ss)).1 * D)]) ∧ w1.heap.size ≤ b ∧ b < w'.heap.size ∧ Has w' b ((gwS P1 D l true r ss) (gwN P1 D l true r ss)).2 ∧ Ext w1 w') := fun w1 B F0 F1 b9 h hc hf hf1 hu9 =>
    grow_B P1 D r s0 so n1 (gwN P1 D l true r ss) F0 F1 ss (gwS P1 D l true r ss) (fun i => ((gwT D true ((gwS P1 D l true r ss) i)).1 * ((gwS P1 D l true r ss) i).1, pL P1 D l (gwT D true ((gwS P1 D l true r ss) i)).2 ((gwS P1 D l true r ss) i).2 ((gwS P1 D l true r ss) i).1 (gwT D true ((gwS P1 D l true r ss) i)).1)) w1 hD (isP_lo hA.pr) (isP_hi hA.pr) (hS.ext h) hn1 hr hx1 rfl (fun _ => rfl) (fun i => (gwS_spc hIP hxl hx1 i).le) (fun i => (gwS_spc hIP hxl hx1 i).len) (fun i => (gwS_spc hIP hxl hx1 i).res) (fun i => pL_len2 _ _ _ _) (fun i => pL_res hP0 _ _ _ _) (fun i => Nat.mul_le_mul (Nat.le_trans (gwT_spc hIP (gwS_spc hIP hxl hx1 i)).le hD) (Nat.le_trans (gwS_spc hIP hxl hx1 i).le hD)) (fun i hi => gwN_up hIP hxl hx1 i hi) HNS.out.2.2
      (fun i hi w2 b2 h2 hb2 => gnext_B P1 D B F0 F1 a0 oa n b2 b9 l ((gwS P1 D l true r ss) i) w2 (hf.ext h2) (hf1.ext h2) (hu9.ext h2) (hc.ext h2) (hT.ext (h.trans h2)) hA (gwS_spc hIP hxl hx1 i) hb2)
  have HLN : Hid (((gwS P1 D l true r ss) (gwN P1 D l true r ss)).2.length = ((gwS P1 D l true r ss) (gwN P1 D l true r ss)).1 * D ∧ ((gwS P1 D l true r ss) (gwN P1 D l true r ss)).1 * D ≤ 784) := ⟨(gwS_spc hIP hxl hx1 _).len, Nat.mul_le_mul (Nat.le_trans (gwS_spc hIP hxl hx1 _).le hD) hD⟩
  clear hT hS h0 h1 hA hx1 hxl HNS hIP hn1
  generalize (gwS P1 D l true r ss) (gwN P1 D l true r ss) = u at *
  obtain ⟨ur, ud⟩ := u
  dsimp only at *
  go_enter Try.func37, Try.ntmps37
  have A0_1 := Lib.hid (((cells_new' w #[.int .i64 P1, .int .i64 D, .slice (some ⟨a0, oa, none⟩) n n] 28 (w.heap.size) (by simp)).ext ((Ext.refl _).alloc (.cells #[.int .i64 P1, .int .i64 (r : Nat), .int .i64 D, .slice (some ⟨s0, so, none⟩) n1 n1] 40))).ext ((Ext.refl _).alloc (.cells #[.int .i64 0, .int .i64 0, .int .i64 0, .slice none 0 0] 40)))
  have A1_2 := Lib.hid ((cells_new' (w.alloc (.cells #[.int .i64 P1, .int .i64 D, .slice (some ⟨a0, oa, none⟩) n n] 28)) #[.int .i64 P1, .int .i64 (r : Nat), .int .i64 D, .slice (some ⟨s0, so, none⟩) n1 n1] 40 (w.heap.size + 1) (by simp)).ext ((Ext.refl _).alloc (.cells #[.int .i64 0, .int .i64 0, .int .i64 0, .slice none 0 0] 40)))
  have R_3 := Lib.hid (cells_new' ((w.alloc (.cells #[.int .i64 P1, .int .i64 D, .slice (some ⟨a0, oa, none⟩) n n] 28)).alloc (.cells #[.int .i64 P1, .int .i64 (r : Nat), .int .i64 D, .slice (some ⟨s0, so, none⟩) n1 n1] 40)) #[.int .i64 0, .int .i64 0, .int .i64 0, .slice none 0 0] 40 (w.heap.size + 1 + 1) (by simp))
  have E_4 := Lib.hid ((((Ext.refl w).alloc (.cells #[.int .i64 P1, .int .i64 D, .slice (some ⟨a0, oa, none⟩) n n] 28)).alloc (.cells #[.int .i64 P1, .int .i64 (r : Nat), .int .i64 D, .slice (some ⟨s0, so, none⟩) n1 n1] 40)).alloc (.cells #[.int .i64 0, .int .i64 0, .int .i64 0, .slice none 0 0] 40))
  have lA0 := A0_1.out.1
  have qA00 := A0_1.out.2 0 _ rfl
  have qA01 := A0_1.out.2 1 _ rfl
  have qA02 := A0_1.out.2 2 _ rfl
  have lA1 := A1_2.out.1
  have qA10 := A1_2.out.2 0 _ rfl
  have qA11 := A1_2.out.2 1 _ rfl
  have qA12 := A1_2.out.2 2 _ rfl
  have qA13 := A1_2.out.2 3 _ rfl
  try simp only [World.size_alloc] at lA0 lA1
  go_wp2_with fail
  refine (wrap_impl P1 _ a0 oa n n l _ (HT.out.ext E_4.out) hm0 (Nat.le_refl _) (by unfold maxLen; omega)).mono ?_
  rintro e w_5 ⟨B, rfl, hb, hlo, h_5⟩
  clear lA0 qA00 qA01 qA02 lA1 qA10 qA11 qA12 qA13
  have A0_6 := Lib.hid (A0_1.out.ext h_5)
  clear A0_1
  have A1_7 := Lib.hid (A1_2.out.ext h_5)
  clear A1_2
  have R_8 := Lib.hid (R_3.out.ext h_5)
  clear R_3
  have E_9 := Lib.hid (E_4.out.trans h_5)
  clear E_4
  have B_10 := Lib.hid hb
  clear hb hlo
  rw [H0.out]
  have PRE := E_9
  have P_9 := (Ext.refl w_5).alloc (.cells #[.pointer (some ⟨B, 0, none⟩)] 64)
  have A0_11 := Lib.hid (A0_6.out.ext P_9)
  clear A0_6
  have A1_12 := Lib.hid (A1_7.out.ext P_9)
  clear A1_7
  have R_13 := Lib.hid (R_8.out.ext P_9)
  clear R_8
  have B_14 := Lib.hid (B_10.out.ext P_9)
  clear B_10
  have E_15 := Lib.hid (E_9.out.trans P_9)
  clear E_9
  clear P_9
  have F_16 := Lib.hid (cells_new w_5 #[.pointer (some ⟨B, 0, none⟩)] 64)
  have lA0 := A0_11.out.1
  have qA00 := A0_11.out.2 0 _ rfl
  have qA01 := A0_11.out.2 1 _ rfl
  have qA02 := A0_11.out.2 2 _ rfl
  have lA1 := A1_12.out.1
  have qA10 := A1_12.out.2 0 _ rfl
  have qA11 := A1_12.out.2 1 _ rfl
  have qA12 := A1_12.out.2 2 _ rfl
  have qA13 := A1_12.out.2 3 _ rfl
  have lF := F_16.out.1
  have qF0 := F_16.out.2 0 _ rfl
  try simp only [World.size_alloc] at lA0 lA1 lF
  go_wp2_with fail
  refine (hasRows_impl P1 _ _ _ _ B s0 so n1 _ ss _ B_14.out (HS.out.ext E_15.out) hm3).mono ?_
  rintro e w_17 ⟨rfl, h_17⟩
  clear lA0 qA00 qA01 qA02 lA1 qA10 qA11 qA12 qA13 lF qF0
  have A0_18 := Lib.hid (A0_11.out.ext h_17)
  clear A0_11
  have A1_19 := Lib.hid (A1_12.out.ext h_17)
  clear A1_12
  have R_20 := Lib.hid (R_13.out.ext h_17)
  clear R_13
  have B_21 := Lib.hid (B_14.out.ext h_17)
  clear B_14
  have F_22 := Lib.hid (F_16.out.ext h_17)
  clear F_16
  have E_23 := Lib.hid (E_15.out.trans h_17)
  clear E_15
  rw [H1.out]
  have lA0 := A0_18.out.1
  have qA00 := A0_18.out.2 0 _ rfl
  have qA01 := A0_18.out.2 1 _ rfl
  have qA02 := A0_18.out.2 2 _ rfl
  have lA1 := A1_19.out.1
  have qA10 := A1_19.out.2 0 _ rfl
  have qA11 := A1_19.out.2 1 _ rfl
  have qA12 := A1_19.out.2 2 _ rfl
  have qA13 := A1_19.out.2 3 _ rfl
  have lF := F_22.out.1
  have qF0 := F_22.out.2 0 _ rfl
  try simp only [World.size_alloc] at lA0 lA1 lF
  go_wp2_with fail
  refine (all_impl P1 D B _ _ B_21.out hD).mono ?_
  rintro e w_24 ⟨b3, rfl, hu1, hu2, hu, h_24⟩
  clear lA0 qA00 qA01 qA02 lA1 qA10 qA11 qA12 qA13 lF qF0
  have A0_25 := Lib.hid (A0_18.out.ext h_24)
  clear A0_18
  have A1_26 := Lib.hid (A1_19.out.ext h_24)
  clear A1_19
  have R_27 := Lib.hid (R_20.out.ext h_24)
  clear R_20
  have B_28 := Lib.hid (B_21.out.ext h_24)
  clear B_21
  have F_29 := Lib.hid (F_22.out.ext h_24)
  clear F_22
  have E_30 := Lib.hid (E_23.out.trans h_24)
  clear E_23
  have HU := Lib.hid hu
  clear hu
  have P_8 := (Ext.refl w_24).alloc (.cells #[.int .i64 P1, .int .i64 D, .int .i64 D, .slice (some ⟨b3, 0, none⟩) (D * D) (D * D)] 40)
  have A0_31 := Lib.hid (A0_25.out.ext P_8)
  clear A0_25
  have A1_32 := Lib.hid (A1_26.out.ext P_8)
  clear A1_26
  have R_33 := Lib.hid (R_27.out.ext P_8)
  clear R_27
  have B_34 := Lib.hid (B_28.out.ext P_8)
  clear B_28
  have F_35 := Lib.hid (F_29.out.ext P_8)
  clear F_29
  have U_36 := Lib.hid (HU.out.ext P_8)
  clear HU
  have E_37 := Lib.hid (E_30.out.trans P_8)
  clear E_30
  clear P_8
  have G_38 := Lib.hid (cells_new w_24 #[.int .i64 P1, .int .i64 D, .int .i64 D, .slice (some ⟨b3, 0, none⟩) (D * D) (D * D)] 40)
  have lR0 := Lib.hid R_33.out.1
  have lA0 := A0_31.out.1
  have qA00 := A0_31.out.2 0 _ rfl
  have qA01 := A0_31.out.2 1 _ rfl
  have qA02 := A0_31.out.2 2 _ rfl
  have lA1 := A1_32.out.1
  have qA10 := A1_32.out.2 0 _ rfl
  have qA11 := A1_32.out.2 1 _ rfl
  have qA12 := A1_32.out.2 2 _ rfl
  have qA13 := A1_32.out.2 3 _ rfl
  try simp only [World.size_alloc] at lA0 lA1
  go_wp2_with fail
  refine (HGR.out _ B w_5.heap.size w_24.heap.size b3 E_37.out B_34.out F_35.out G_38.out U_36.out).mono ?_
  rintro e w_39 ⟨b, rfl, hb1, hb2, hh, h_39⟩
  clear lA0 qA00 qA01 qA02 lA1 qA10 qA11 qA12 qA13
  try simp only [World.size_alloc] at hb1
  have HH := Lib.hid hh
  clear hh
  have A0_40 := Lib.hid (A0_31.out.ext h_39)
  clear A0_31
  have A1_41 := Lib.hid (A1_32.out.ext h_39)
  clear A1_32
  have R_42 := Lib.hid (R_33.out.ext h_39)
  clear R_33
  have B_43 := Lib.hid (B_34.out.ext h_39)
  clear B_34
  have F_44 := Lib.hid (F_35.out.ext h_39)
  clear F_35
  have G_45 := Lib.hid (G_38.out.ext h_39)
  clear G_38
  have E_46 := Lib.hid (E_37.out.trans h_39)
  clear E_37
  have lR1 := lR0.out
  try simp only [World.size_alloc] at lR1
  have hln := HLN.out
  have r0 := R_42.out.2 0 _ rfl
  have r1 := R_42.out.2 1 _ rfl
  have r2 := R_42.out.2 2 _ rfl
  have r3 := R_42.out.2 3 _ rfl
  have tR := R_42.out.3
  have lR := R_42.out.1
  go_wp2
  refine bodyPost_ret (v := .tuple #[.agg #[.int .i64 P1, .int .i64 (ur : Nat), .int .i64 D, .slice (some ⟨b, 0, none⟩) (ur * D) (ur * D)], .bool true]) (by simp [results, Try.results37, go_sem, r0, r1, r2, r3]) rfl ⟨_, rfl, ⟨_, _, _, rfl, ?_, by omega⟩, ext4 E_46.out (by omega) _ _ _ _⟩
  exact Own.mono (own4 (HH.out.own (lo := w.heap.size + 1 + 1 + 1) (hi := w_39.heap.size) (by omega) (by omega) hln.1) (by omega) _ _ _ _) (by omega) (by simp)
end Go.Proofs.Ytapaopapgnfdkaa
