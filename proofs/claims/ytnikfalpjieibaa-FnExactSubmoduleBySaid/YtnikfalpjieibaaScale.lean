/-
  Multiples of a matrix, both texts.
-/
import Derived.Test.YtnikfalpjieibaaAd
import Derived.Deep.RegionHeld3
namespace Go.Proofs.Ytnikfalpjieibaa
open Go.RowKit
set_option linter.unusedVariables false

/-- k times each number. -/
def scaleL (p k : Int) (xs : List Int) : List Int := (List.range xs.length).map fun i => gi xs i * k % p
theorem scaleL_length (p k : Int) (xs : List Int) : (scaleL p k xs).length = xs.length := by simp [scaleL]
theorem gi_scaleL (p k : Int) (xs : List Int) (i : Nat) (h : i < xs.length) : gi (scaleL p k xs) i = gi xs i * k % p := by simp [scaleL, gi, h]
theorem gi_zeros (n i : Nat) : gi (List.replicate n 0) i = 0 := by
  simp only [gi, List.getD_eq_getElem?_getD, List.getElem?_replicate]
  split <;> rfl
theorem addL_zeros (p k : Int) (xs : List Int) : addL p k (List.replicate xs.length 0) xs = scaleL p k xs := by
  simp only [addL, scaleL, List.length_replicate]
  apply List.map_congr_left
  intro i _
  rw [gi_zeros, Int.zero_add, Int.mul_comm]
theorem res_zeros (n : Nat) (p : Int) (hp : 2 ≤ p) : Res (List.replicate n 0) p := fun j _ => by rw [gi_zeros]; omega
noncomputable def scaleM (P R C : Int) (xs : List Int) (k : Int) : Mat := if mok P R C xs then ⟨P, R, C, scaleL P (k % P) xs⟩ else noMat

set_option maxRecDepth 100000 in
set_option maxHeartbeats 3200000 in
theorem l1Scale_spec (P R C m : Int) (a : Addr) (n c : Nat) (xs : List Int) (w : World) (hr : Reads w (some a) n xs) (hn : n ≤ 1048576)
    (hp : 2 ≤ P) (hp2 : P ≤ 10007) (hx : Res xs P) :
    Calls Try.prog 70 #[.agg #[.int .i64 P, .int .i64 R, .int .i64 C, .slice (some a) n c], .int .i64 m] w fun e w' => ∃ b d, e = .returned (.agg #[.int .i64 P, .int .i64 R, .int .i64 C, .slice (some ⟨b, 0, none⟩) n d]) ∧ w.heap.size ≤ b ∧ b < w'.heap.size ∧ Has w' b (scaleL P (m % P) xs) ∧ Ext w w' := by
  have hlx := Lib.hid hr.1
  have HR := Lib.hid hr
  have k0 := Int.emod_nonneg m (show P ≠ 0 by omega)
  have k1 := Int.emod_lt_of_pos m (show 0 < P by omega)
  obtain ⟨t, ht⟩ : ∃ t, m % P = t := ⟨_, rfl⟩
  rw [ht] at k0 k1 ⊢
  have HT := Lib.hid ht
  have htl : Hid ((scaleL P t xs).length = xs.length) := scaleL_length _ _ _
  clear hr ht
  go_enter Try.func70, Try.ntmps70
  have A0_1 := Lib.hid ((cells_new' w #[.int .i64 P, .int .i64 R, .int .i64 C, .slice (some a) n c] 37 (w.heap.size) (by simp)).ext ((Ext.refl _).alloc (.cells #[.int .i64 0, .int .i64 0, .int .i64 0, .slice none 0 0] 37)))
  have R_2 := Lib.hid (cells_new' (w.alloc (.cells #[.int .i64 P, .int .i64 R, .int .i64 C, .slice (some a) n c] 37)) #[.int .i64 0, .int .i64 0, .int .i64 0, .slice none 0 0] 37 (w.heap.size + 1) (by simp))
  have E_3 := Lib.hid (((Ext.refl w).alloc (.cells #[.int .i64 P, .int .i64 R, .int .i64 C, .slice (some a) n c] 37)).alloc (.cells #[.int .i64 0, .int .i64 0, .int .i64 0, .slice none 0 0] 37))
  have lA0 := A0_1.out.1
  have qA00 := A0_1.out.2 0 _ rfl
  have qA01 := A0_1.out.2 1 _ rfl
  have qA02 := A0_1.out.2 2 _ rfl
  have qA03 := A0_1.out.2 3 _ rfl
  try simp only [World.size_alloc] at lA0
  go_wp2_with fail
  refine (l1Copy_spec _ _ _ _ _ _ xs _ (HR.out.ext E_3.out) hn (fun h => by simp at h)).mono ?_
  rintro e w_4 ⟨b, d, rfl, hb1, hb2, hh, h_4⟩
  clear lA0 qA00 qA01 qA02 qA03
  have A0_5 := Lib.hid (A0_1.out.ext h_4)
  clear A0_1
  have R_6 := Lib.hid (R_2.out.ext h_4)
  clear R_2
  have E_7 := Lib.hid (E_3.out.trans h_4)
  clear E_3
  simp at hb1
  have L0 : Hid (Loc w (w_4.alloc (.cells #[.int .i64 P, .int .i64 R, .int .i64 C, .slice (some ⟨b, 0, none⟩) n d] 37)) w_4.heap.size b [.int .i64 P, .int .i64 R, .int .i64 C, .slice (some ⟨b, 0, none⟩) n d] (mix (scaleL P t xs) xs 0)) :=
    ⟨cells_new _ _ _, by rw [mix_zero]; exact hh.alloc _, E_7.out.alloc _, by omega, by simp; omega, by omega⟩
  have H4 := Lib.hid (R_6.out.ext ((Ext.refl _).alloc (.cells #[.int .i64 P, .int .i64 R, .int .i64 C, .slice (some ⟨b, 0, none⟩) n d] 37)))
  have HS := Lib.hid hb1
  clear hb1 hb2 hh
  have c0 := L0.out.box.2 0 _ rfl
  go_wp2_with fail
  refine (l1Mod_spec _ _ _ hp hp2).mono ?_
  rintro e w' ⟨rfl, rfl⟩
  rw [HT.out]
  clear c0
  go_wp2_with fail
  go_loopw [7] (fun i wr => ∃ k : Nat, k ≤ n ∧ i = .int .i64 k ∧ Hid (Loc w wr w_4.heap.size b [.int .i64 P, .int .i64 R, .int .i64 C, .slice (some ⟨b, 0, none⟩) n d] (mix (scaleL P t xs) xs k)) ∧ Hid (Cells wr (w.heap.size + 1) [.int .i64 0, .int .i64 0, .int .i64 0, .slice none 0 0])) (fun i _ => n - (intOf i).toNat)
  case atStart => exact ⟨0, by omega, rfl, L0, H4⟩
  case round =>
    obtain ⟨k, hk, rfl, L, M2⟩ := hrel
    have q0 := L.out.box.2 0 _ rfl
    have q1 := L.out.box.2 1 _ rfl
    have q2 := L.out.box.2 2 _ rfl
    have q3 := L.out.box.2 3 _ rfl
    by_cases hlt : k < n
    · have hlen := mix_length (scaleL P t xs) xs k htl.out (by rw [hlx.out]; exact hk)
      have hc1 := L.out.has.cell k (by rw [hlen, hlx.out]; exact hlt)
      rw [gi_mix _ _ _ htl.out (by rw [hlx.out]; exact hlt)] at hc1
      have hf1 := L.out.has.free k
      obtain ⟨x0, x1⟩ := hx k (by rw [hlx.out]; exact hlt)
      have m0 := Int.mul_nonneg x0 k0
      have m1 := mul_hi x0 x1 k0 k1 hp2
      have N : Hid (Loc w (wr.setCell ⟨b, k, none⟩ (.int .i64 (gi xs k * t % P))) w_4.heap.size b [.int .i64 P, .int .i64 R, .int .i64 C, .slice (some ⟨b, 0, none⟩) n d] (mix (scaleL P t xs) xs (k + 1))) := by
        rw [← mix_set _ _ _ htl.out (by rw [hlx.out]; exact hlt), gi_scaleL _ _ _ _ (by rw [hlx.out]; exact hlt)]
        exact L.out.set k (by rw [hlen, hlx.out]; exact hlt) _
      have N2 : Hid (Cells (wr.setCell ⟨b, k, none⟩ (.int .i64 (gi xs k * t % P))) (w.heap.size + 1) [.int .i64 0, .int .i64 0, .int .i64 0, .slice none 0 0]) :=
        M2.out.grown (grownBy_set (p := ⟨b, k, none⟩) (grownBy_refl _ (some b)) rfl _) (fun q hq => by simp at hq; have := HS.out; omega)
      have hlt' : (k : Int) < (n : Int) := by omega
      have hk0 : (0 : Int) ≤ (k : Int) := by omega
      clear hlen L M2
      go_wp2_with fail
      go_region
      go_wp2
      exact ⟨⟨k + 1, by omega, by simp, N.out.step (Ext.refl _).drew, N2.out.ext (Ext.refl _).drew⟩, by simp [intOf]; omega⟩
    · obtain rfl : k = n := by omega
      have f0 := M2.out.2 0 _ rfl
      have f1 := M2.out.2 1 _ rfl
      have f2 := M2.out.2 2 _ rfl
      have f3 := M2.out.2 3 _ rfl
      have t0 := M2.out.3
      have HF : Hid (mix (scaleL P t xs) xs k = scaleL P t xs) := by
        have := mix_full (scaleL P t xs) xs htl.out
        rwa [hlx.out] at this
      go_wp2
      refine bodyPost_ret (v := .agg #[.int .i64 P, .int .i64 R, .int .i64 C, .slice (some ⟨b, 0, none⟩) k d]) (by simp [results, Try.results70, go_sem, f0, f1, f2, f3]) rfl ⟨b, d, rfl, L.out.lo, ?_, ?_, ?_⟩
      · have := L.out.lt; simpa using this
      · have := HS.out
        have hh := L.out.has
        rw [HF.out] at hh
        repeat with_reducible (first | exact hh | refine Has.setOther ?_ (by simp <;> omega) _)
      · exact ext4 L.out.ext (by omega) _ _ _ _

set_option maxRecDepth 100000 in
set_option maxHeartbeats 3200000 in
theorem scaleMatrix_impl {P R C m p r q : Int} {a : Addr} {n c : Nat} {xs d : List Int} {w : World} (h : Reads w (some a) n xs) (hm : n ≤ 1048576) (hM : scaleM P R C xs m = ⟨p, r, q, d⟩) :
    Calls Try.prog 73 #[.agg #[.int .i64 P, .int .i64 R, .int .i64 C, .slice (some a) n c], .int .i64 m] w fun e w' => ∃ v, e = .returned v ∧ Rmat w w' v p r q d ∧ Ext w w' := by
  have HR := Lib.hid h
  have hm1 : n ≤ maxLen := by unfold maxLen; omega
  clear h
  rcases h1 : mok P R C xs with _ | _
  · simp only [scaleM, h1, noMat, Bool.false_eq_true, if_false, Mat.mk.injEq] at hM
    obtain ⟨rfl, rfl, rfl, rfl⟩ := hM
    go_enter Try.func73, Try.ntmps73
    have A0_1 := Lib.hid ((cells_new' w #[.int .i64 P, .int .i64 R, .int .i64 C, .slice (some a) n c] 37 (w.heap.size) (by simp)).ext ((Ext.refl _).alloc (.cells #[.int .i64 0, .int .i64 0, .int .i64 0, .slice none 0 0] 37)))
    have R_2 := Lib.hid (cells_new' (w.alloc (.cells #[.int .i64 P, .int .i64 R, .int .i64 C, .slice (some a) n c] 37)) #[.int .i64 0, .int .i64 0, .int .i64 0, .slice none 0 0] 37 (w.heap.size + 1) (by simp))
    have E_3 := Lib.hid (((Ext.refl w).alloc (.cells #[.int .i64 P, .int .i64 R, .int .i64 C, .slice (some a) n c] 37)).alloc (.cells #[.int .i64 0, .int .i64 0, .int .i64 0, .slice none 0 0] 37))
    have lA0 := A0_1.out.1
    have qA00 := A0_1.out.2 0 _ rfl
    have qA01 := A0_1.out.2 1 _ rfl
    have qA02 := A0_1.out.2 2 _ rfl
    have qA03 := A0_1.out.2 3 _ rfl
    try simp only [World.size_alloc] at lA0
    go_wp2_with fail
    refine (matrixOk_impl _ _ _ _ _ _ xs _ (HR.out.ext E_3.out) hm1).mono ?_
    rintro e w_4 ⟨rfl, h_4⟩
    clear lA0 qA00 qA01 qA02 qA03
    have A0_5 := Lib.hid (A0_1.out.ext h_4)
    clear A0_1
    have R_6 := Lib.hid (R_2.out.ext h_4)
    clear R_2
    have E_7 := Lib.hid (E_3.out.trans h_4)
    clear E_3
    have lR := R_6.out.1
    have qR0 := R_6.out.2 0 _ rfl
    have qR1 := R_6.out.2 1 _ rfl
    have qR2 := R_6.out.2 2 _ rfl
    have qR3 := R_6.out.2 3 _ rfl
    have tR := R_6.out.3
    try simp only [World.size_alloc] at lR
    go_wp2
    refine bodyPost_ret (v := .agg #[.int .i64 0, .int .i64 0, .int .i64 0, .slice none 0 0]) (by simp [results, Try.results73, go_sem, qR0, qR1, qR2, qR3]) rfl ⟨_, rfl, ⟨_, _, _, rfl, own_nil _ _ _, by omega⟩, ext4 E_7.out (by omega) _ _ _ _⟩
  · have hl1 := mok_len h1
    have hr1 := mok_res h1
    have hp1 := mok_lo h1
    have hp2 := mok_hi h1
    have hnn : (n : Int) = R * C := by have := HR.out.1; omega
    simp only [scaleM, h1, if_true, Mat.mk.injEq] at hM
    obtain ⟨rfl, rfl, rfl, rfl⟩ := hM
    have HD := Lib.hid (scaleL_length P (m % P) xs)
    have HX := Lib.hid hr1
    have HN := Lib.hid hnn
    clear hl1 hr1 hnn
    go_enter Try.func73, Try.ntmps73
    have A0_1 := Lib.hid ((cells_new' w #[.int .i64 P, .int .i64 R, .int .i64 C, .slice (some a) n c] 37 (w.heap.size) (by simp)).ext ((Ext.refl _).alloc (.cells #[.int .i64 0, .int .i64 0, .int .i64 0, .slice none 0 0] 37)))
    have R_2 := Lib.hid (cells_new' (w.alloc (.cells #[.int .i64 P, .int .i64 R, .int .i64 C, .slice (some a) n c] 37)) #[.int .i64 0, .int .i64 0, .int .i64 0, .slice none 0 0] 37 (w.heap.size + 1) (by simp))
    have E_3 := Lib.hid (((Ext.refl w).alloc (.cells #[.int .i64 P, .int .i64 R, .int .i64 C, .slice (some a) n c] 37)).alloc (.cells #[.int .i64 0, .int .i64 0, .int .i64 0, .slice none 0 0] 37))
    have lA0 := A0_1.out.1
    have qA00 := A0_1.out.2 0 _ rfl
    have qA01 := A0_1.out.2 1 _ rfl
    have qA02 := A0_1.out.2 2 _ rfl
    have qA03 := A0_1.out.2 3 _ rfl
    try simp only [World.size_alloc] at lA0
    go_wp2_with fail
    refine (matrixOk_impl _ _ _ _ _ _ xs _ (HR.out.ext E_3.out) hm1).mono ?_
    rintro e w_4 ⟨rfl, h_4⟩
    clear lA0 qA00 qA01 qA02 qA03
    have A0_5 := Lib.hid (A0_1.out.ext h_4)
    clear A0_1
    have R_6 := Lib.hid (R_2.out.ext h_4)
    clear R_2
    have E_7 := Lib.hid (E_3.out.trans h_4)
    clear E_3
    have HN2 : Hid ((R * C).toNat = n) := by have := HN.out; rw [Hid]; omega
    have g0 : 0 ≤ R * C := by have := HN.out; omega
    have g1 : R * C ≤ 1048576 := by have := HN.out; omega
    have z0 := Int.emod_nonneg m (show P ≠ 0 by omega)
    have z1 := Int.emod_lt_of_pos m (show 0 < P by omega)
    have lA0 := A0_5.out.1
    have qA00 := A0_5.out.2 0 _ rfl
    have qA01 := A0_5.out.2 1 _ rfl
    have qA02 := A0_5.out.2 2 _ rfl
    have qA03 := A0_5.out.2 3 _ rfl
    have lR := R_6.out.1
    have qR0 := R_6.out.2 0 _ rfl
    have qR1 := R_6.out.2 1 _ rfl
    have qR2 := R_6.out.2 2 _ rfl
    have qR3 := R_6.out.2 3 _ rfl
    have tR := R_6.out.3
    try simp only [World.size_alloc] at lA0 lR
    go_wp2_with fail
    go_region_held3 (fun w' => Ext w w' ∧ w.heap.size + 1 ≤ w'.heap.size ∧ ∀ b o, b < w.heap.size + 1 → w'.cell? ⟨b, o, none⟩ = w_4.cell? ⟨b, o, none⟩) (first | (with_reducible exact KeptR.call ‹Ext w _ ∧ w.heap.size + 1 ≤ _ ∧ _› ‹Ext _ _›) | exact ⟨E_7.out, Nat.le_of_lt lR, fun _ _ _ => rfl⟩ | exact ⟨E_7.out.drew, Nat.le_of_lt lR, fun _ _ _ => rfl⟩ | assumption | (with_reducible exact KeptR.set4 ‹Ext w _ ∧ w.heap.size + 1 ≤ _ ∧ _› (Nat.le_succ _) _ _ _ _)) (first
      | (go_at_call 69; refine (zeros_impl _ _ _ _ g0 g1).mono ?_; rintro e w2 ⟨b2, rfl, hb1, hb2, hh2, hE2⟩; rw [HN2.out] at hh2 ⊢)
      | (go_at_call 110; refine (residue_impl _ _ _ hp1 hp2).mono ?_; rintro e w' ⟨rfl, rfl⟩)
      | (go_at_call 82; refine (addMultiple_impl _ _ _ _ _ _ _ _ _ _ (List.replicate n 0) _ _ xs _ (hh2.reads (by simp)) (HR.out.ext (And.left ‹Ext w _ ∧ w.heap.size + 1 ≤ _ ∧ _›)) hm HN.out hp1 hp2 (res_zeros _ _ hp1) HX.out z0 z1).mono ?_; rintro e w3 ⟨b, rfl, hb3, hb4, hh, hE⟩; have c1 : w3.cell? ⟨w.heap.size + 1, 0, none⟩ = some (.int .i64 0) := (hE.cells _ 0 (Nat.lt_of_lt_of_le lR hE2.le)).trans ((hE2.cells _ 0 lR).trans qR0); have c2 : w3.cell? ⟨w.heap.size + 1, 1, none⟩ = some (.int .i64 0) := (hE.cells _ 1 (Nat.lt_of_lt_of_le lR hE2.le)).trans ((hE2.cells _ 1 lR).trans qR1); have c3 : w3.cell? ⟨w.heap.size + 1, 2, none⟩ = some (.int .i64 0) := (hE.cells _ 2 (Nat.lt_of_lt_of_le lR hE2.le)).trans ((hE2.cells _ 2 lR).trans qR2); have c4 : w3.cell? ⟨w.heap.size + 1, 3, none⟩ = some (.slice none 0 0) := (hE.cells _ 3 (Nat.lt_of_lt_of_le lR hE2.le)).trans ((hE2.cells _ 3 lR).trans qR3); have f1 : ∀ j, w3.frozen? ⟨w.heap.size + 1, j, none⟩ = false := fun j => (hE.frees _ j (Nat.lt_of_lt_of_le lR hE2.le)).trans ((hE2.frees _ j lR).trans (tR j))))
    have hx := (‹Ext w _ ∧ w.heap.size + 1 ≤ _ ∧ _› : Ext w _ ∧ w.heap.size + 1 ≤ _ ∧ _).1
    have HH := Lib.hid hh
    have hb5 := Nat.lt_of_lt_of_le (Nat.lt_of_lt_of_le lR hE2.le) hb3
    clear hh
    go_wp2
    refine bodyPost_ret (v := .agg #[.int .i64 P, .int .i64 R, .int .i64 C, .slice (some ⟨b, 0, none⟩) n n]) (by simp [results, Try.results73, go_sem, c1, c2, c3, c4]) rfl ⟨_, rfl, ⟨_, _, _, rfl, ?_, hm⟩, hx⟩
    have e1 : addL P (m % P) (List.replicate n 0) xs = scaleL P (m % P) xs := by rw [← HR.out.1]; exact addL_zeros _ _ _
    have hh := HH.out
    rw [e1] at hh
    exact Own.mono (own4 (hh.own (lo := w.heap.size + 1 + 1) (hi := w3.heap.size) (by omega) (by omega) (by rw [HD.out]; exact HR.out.1)) (by omega) _ _ _ _) (by omega) (by simp)
end Go.Proofs.Ytnikfalpjieibaa
