/-
  Multiples of a matrix, both texts.
-/
import Derived.Test.YtgmipolgnpjmnaaAd
import Derived.Deep.RegionHeld3
namespace Go.Proofs.Ytgmipolgnpjmnaa
open Go.RowKit
set_option linter.unusedVariables false

/-- k times each number. -/
def scaleL (p k : Int) (xs : List Int) : List Int := (List.range xs.length).map fun i => gi xs i * k % p
theorem scaleL_length (p k : Int) (xs : List Int) : (scaleL p k xs).length = xs.length := by simp [scaleL]
theorem gi_scaleL (p k : Int) (xs : List Int) (i : Nat) (h : i < xs.length) : gi (scaleL p k xs) i = gi xs i * k % p := by simp [scaleL, gi, h]
theorem gi_zeros (n i : Nat) : gi (List.replicate n 0) i = 0 := by
  simp only [gi, List.getD_eq_getElem?_getD, List.getElem?_replicate]
  split <;> rfl
theorem addL_zeros (p k : Int) (xs : List Int) : addL p k (List.replicate xs.length 0) xs = scaleL p k xs := by
  simp only [addL, scaleL, List.length_replicate]
  apply List.map_congr_left
  intro i _
  rw [gi_zeros, Int.zero_add, Int.mul_comm]
theorem res_zeros (n : Nat) (p : Int) (hp : 2 ≤ p) : Res (List.replicate n 0) p := fun j _ => by rw [gi_zeros]; omega
noncomputable def scaleM (P R C : Int) (xs : List Int) (k : Int) : Mat := if mok P R C xs then ⟨P, R, C, scaleL P (k % P) xs⟩ else noMat

set_option maxRecDepth 100000 in
set_option maxHeartbeats 3200000 in
theorem l1Scale_spec (P R C m : Int) (a : Addr) (n c : Nat) (xs : List Int) (w : World) (hr : Reads w (some a) n xs) (hn : n ≤ 1048576)
    (hp : 2 ≤ P) (hp2 : P ≤ 10007) (hx : Res xs P) :
    Calls Try.prog 78 #[.agg #[.int .i64 P, .int .i64 R, .int .i64 C, .slice (some a) n c], .int .i64 m] w fun e w' => ∃ b d, e = .returned (.agg #[.int .i64 P, .int .i64 R, .int .i64 C, .slice (some ⟨b, 0, none⟩) n d]) ∧ w.heap.size ≤ b ∧ b < w'.heap.size ∧ Has w' b (scaleL P (m % P) xs) ∧ Ext w w' := by
  have hlx := Lib.hid hr.1
  have HR := Lib.hid hr
  have k0 := Int.emod_nonneg m (show P ≠ 0 by omega)
  have k1 := Int.emod_lt_of_pos m (show 0 < P by omega)
  obtain ⟨t, ht⟩ : ∃ t, m % P = t := ⟨_, rfl⟩
  rw [ht] at k0 k1 ⊢
  have HT := Lib.hid ht
  have htl : Hid ((scaleL P t xs).length = xs.length) := scaleL_length _ _ _
  clear hr ht
  go_enter Try.func78, Try.ntmps78
  have A0_1 := Lib.hid ((cells_new' w #[.int .i64 P, .int .i64 R, .int .i64 C, .slice (some a) n c] 36 (w.heap.size) (by simp)).ext ((Ext.refl _).alloc (.cells #[.int .i64 0, .int .i64 0, .int .i64 0, .slice none 0 0] 36)))
  have R_2 := Lib.hid (cells_new' (w.alloc (.cells #[.int .i64 P, .int .i64 R, .int .i64 C, .slice (some a) n c] 36)) #[.int .i64 0, .int .i64 0, .int .i64 0, .slice none 0 0] 36 (w.heap.size + 1) (by simp))
  have E_3 := Lib.hid (((Ext.refl w).alloc (.cells #[.int .i64 P, .int .i64 R, .int .i64 C, .slice (some a) n c] 36)).alloc (.cells #[.int .i64 0, .int .i64 0, .int .i64 0, .slice none 0 0] 36))
  have lA0 := A0_1.out.1
  have qA00 := A0_1.out.2 0 _ rfl
  have qA01 := A0_1.out.2 1 _ rfl
  have qA02 := A0_1.out.2 2 _ rfl
  have qA03 := A0_1.out.2 3 _ rfl
  try simp only [World.size_alloc] at lA0
  go_wp2_with fail
  refine (l1Copy_spec _ _ _ _ _ _ xs _ (HR.out.ext E_3.out) hn (fun h => by simp at h)).mono ?_
  rintro e w_4 ⟨b, d, rfl, hb1, hb2, hh, h_4⟩
  clear lA0 qA00 qA01 qA02 qA03
  have A0_5 := Lib.hid (A0_1.out.ext h_4)
  clear A0_1
  have R_6 := Lib.hid (R_2.out.ext h_4)
  clear R_2
  have E_7 := Lib.hid (E_3.out.trans h_4)
  clear E_3
  simp at hb1
  have L0 : Hid (Loc w (w_4.alloc (.cells #[.int .i64 P, .int .i64 R, .int .i64 C, .slice (some ⟨b, 0, none⟩) n d] 36)) w_4.heap.size b [.int .i64 P, .int .i64 R, .int .i64 C, .slice (some ⟨b, 0, none⟩) n d] (mix (scaleL P t xs) xs 0)) :=
    ⟨cells_new _ _ _, by rw [mix_zero]; exact hh.alloc _, E_7.out.alloc _, by omega, by simp; omega, by omega⟩
  have H4 := Lib.hid (R_6.out.ext ((Ext.refl _).alloc (.cells #[.int .i64 P, .int .i64 R, .int .i64 C, .slice (some ⟨b, 0, none⟩) n d] 36)))
  have HS := Lib.hid hb1
  clear hb1 hb2 hh
  have c0 := L0.out.box.2 0 _ rfl
  go_wp2_with fail
  refine (l1Mod_spec _ _ _ hp hp2).mono ?_
  rintro e w' ⟨rfl, rfl⟩
  rw [HT.out]
  clear c0
  go_wp2_with fail
  go_loopw [7] (fun i wr => ∃ k : Nat, k ≤ n ∧ i = .int .i64 k ∧ Hid (Loc w wr w_4.heap.size b [.int .i64 P, .int .i64 R, .int .i64 C, .slice (some ⟨b, 0, none⟩) n d] (mix (scaleL P t xs) xs k)) ∧ Hid (Cells wr (w.heap.size + 1) [.int .i64 0, .int .i64 0, .int .i64 0, .slice none 0 0])) (fun i _ => n - (intOf i).toNat)
  case atStart => exact ⟨0, by omega, rfl, L0, H4⟩
  case round =>
    obtain ⟨k, hk, rfl, L, M2⟩ := hrel
    have q0 := L.out.box.2 0 _ rfl
    have q1 := L.out.box.2 1 _ rfl
    have q2 := L.out.box.2 2 _ rfl
    have q3 := L.out.box.2 3 _ rfl
    by_cases hlt : k < n
    · have hlen := mix_length (scaleL P t xs) xs k htl.out (by rw [hlx.out]; exact hk)
      have hc1 := L.out.has.cell k (by rw [hlen, hlx.out]; exact hlt)
      rw [gi_mix _ _ _ htl.out (by rw [hlx.out]; exact hlt)] at hc1
      have hf1 := L.out.has.free k
      obtain ⟨x0, x1⟩ := hx k (by rw [hlx.out]; exact hlt)
      have m0 := Int.mul_nonneg x0 k0
      have m1 := mul_hi x0 x1 k0 k1 hp2
      have N : Hid (Loc w (wr.setCell ⟨b, k, none⟩ (.int .i64 (gi xs k * t % P))) w_4.heap.size b [.int .i64 P, .int .i64 R, .int .i64 C, .slice (some ⟨b, 0, none⟩) n d] (mix (scaleL P t xs) xs (k + 1))) := by
        rw [← mix_set _ _ _ htl.out (by rw [hlx.out]; exact hlt), gi_scaleL _ _ _ _ (by rw [hlx.out]; exact hlt)]
        exact L.out.set k (by rw [hlen, hlx.out]; exact hlt) _
      have N2 : Hid (Cells (wr.setCell ⟨b, k, none⟩ (.int .i64 (gi xs k * t % P))) (w.heap.size + 1) [.int .i64 0, .int .i64 0, .int .i64 0, .slice none 0 0]) :=
        M2.out.grown (grownBy_set (p := ⟨b, k, none⟩) (grownBy_refl _ (some b)) rfl _) (fun q hq => by simp at hq; have := HS.out; omega)
      have hlt' : (k : Int) < (n : Int) := by omega
      have hk0 : (0 : Int) ≤ (k : Int) := by omega
      clear hlen L M2
      go_wp2_with fail
      go_region
      go_wp2
      exact ⟨⟨k + 1, by omega, by simp, N.out.step (Ext.refl _).drew, N2.out.ext (Ext.refl _).drew⟩, by simp [intOf]; omega⟩
    · obtain rfl : k = n := by omega
      have f0 := M2.out.2 0 _ rfl
      have f1 := M2.out.2 1 _ rfl
      have f2 := M2.out.2 2 _ rfl
      have f3 := M2.out.2 3 _ rfl
      have t0 := M2.out.3
      have HF : Hid (mix (scaleL P t xs) xs k = scaleL P t xs) := by
        have := mix_full (scaleL P t xs) xs htl.out
        rwa [hlx.out] at this
      go_wp2
      refine bodyPost_ret (v := .agg #[.int .i64 P, .int .i64 R, .int .i64 C, .slice (some ⟨b, 0, none⟩) k d]) (by simp [results, Try.results78, go_sem, f0, f1, f2, f3]) rfl ⟨b, d, rfl, L.out.lo, ?_, ?_, ?_⟩
      · have := L.out.lt; simpa using this
      · have := HS.out
        have hh := L.out.has
        rw [HF.out] at hh
        repeat with_reducible (first | exact hh | refine Has.setOther ?_ (by simp <;> omega) _)
      · exact ext4 L.out.ext (by omega) _ _ _ _

end Go.Proofs.Ytgmipolgnpjmnaa
