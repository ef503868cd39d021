/-
  What is orthogonal to a space: both texts.
-/
import Derived.Test.YtgmipolgnpjmnaaHs
import Derived.Test.YtgmipolgnpjmnaaKr
import Derived.Test.YtgmipolgnpjmnaaBr
import Derived.Test.YtgmipolgnpjmnaaCs
import Derived.Test.YtgmipolgnpjmnaaMulS
namespace Go.Proofs.Ytgmipolgnpjmnaa
open Go.ChangeShapes Go.WideShapes Go.ChangeAt Go.RowKit
set_option linter.unusedVariables false
set_option linter.unusedSimpArgs false

/-- Rows of vectors of an algebra; a square matrix of its size. -/
noncomputable def rwB (P D P' R C : Int) (xs : List Int) : Bool := mok P' R C xs && ((P' == P) && (C == D))
noncomputable def formB (P D P' R C : Int) (xs : List Int) : Bool := rwB P D P' R C xs && (R == D)
theorem formB_parts {P : Int} {D : Nat} {P' R C : Int} {xs : List Int} {n : Nat} (h : formB P D P' R C xs = true) (hl : xs.length = n) : P' = P ∧ R = D ∧ C = D ∧ n = D * D ∧ Res xs P := by
  simp only [formB, rwB, Bool.and_eq_true, beq_iff_eq] at h
  obtain ⟨⟨h2, rfl, rfl⟩, rfl⟩ := h
  have hl1 := mok_len h2
  refine ⟨rfl, rfl, rfl, ?_, mok_res h2⟩
  have : ((xs.length : Nat) : Int) = ((D * D : Nat) : Int) := by rw [hl1]; simp
  omega
/-- The products of the rows of s and the rows of the form. -/
def orthL (P : Int) (D r : Nat) (fs ss : List Int) : List Int := mulTo P ss (transTo fs D D D) r D D r
theorem orth_eq (P : Int) (D r : Nat) (fs ss : List Int) : transTo (mulTo P fs (transTo ss r D r) D D r D) D r D = orthL P D r fs ss := by
  refine ext_gi (by rw [transTo_length, orthL, mulTo_length]) (fun q hq => ?_)
  rw [transTo_length] at hq
  have hD : 0 < D := by
    rcases Nat.eq_zero_or_pos D with h | h
    · subst h; simp at hq
    · exact h
  have hm := Nat.mod_lt q hD
  have hd : q / D < r := Nat.div_lt_of_lt_mul (by rw [Nat.mul_comm]; exact hq)
  have e : q = q / D * D + q % D := by rw [Nat.mul_comm]; exact (Nat.div_add_mod q D).symm
  rw [e, gi_tr hd hm, at2_mulTo _ _ hm hd, orthL, at2_mulTo _ _ hd hm]
  congr 1
  refine sumN_congr (fun c hc => ?_)
  rw [gi_tr hc hd, gi_tr hc hm, Int.mul_comm]
noncomputable def orthM (P D : Int) (l : List Int) (P1 R1 C1 : Int) (fs : List Int) (P2 R2 C2 : Int) (ss : List Int) : Mat × Bool :=
  if algB P D l && formB P D P1 R1 C1 fs && hsB P D P2 R2 C2 ss then (⟨P, kerN P R2.toNat D.toNat (orthL P D.toNat R2.toNat fs ss), D, kerS P R2.toNat D.toNat (orthL P D.toNat R2.toNat fs ss)⟩, true) else (noMat, false)

set_option maxRecDepth 100000 in
set_option maxHeartbeats 3200000 in
theorem hasRows_impl (P D P' R C : Int) (B s0 so n1 : Nat) (v : Value) (xs : List Int) (w : World) (hc : Cells w B [.int .i64 P, .int .i64 D, v]) (hX : Reads w (some ⟨s0, so, none⟩) n1 xs) (hm : n1 ≤ maxLen) :
    Calls Try.prog 97 #[.pointer (some ⟨B, 0, none⟩), .agg #[.int .i64 P', .int .i64 R, .int .i64 C, .slice (some ⟨s0, so, none⟩) n1 n1]] w fun e w' => e = .returned (.bool (rwB P D P' R C xs)) ∧ Ext w w' := by
  have HC := Lib.hid hc
  have HX := Lib.hid hX
  have HA : Hid (rwB P D P' R C xs = (mok P' R C xs && ((P' == P) && (C == D)))) := rfl
  generalize rwB P D P' R C xs = q at HA
  clear hc hX
  rcases h1 : mok P' R C xs with _ | _
  · have HF : Hid (q = false) := by rw [Hid, HA.out, h1]; rfl
    have H1 := Lib.hid h1
    clear h1 HA
    go_enter Try.func97, Try.ntmps97
    have A0 := Lib.hid (cells_new' w #[.int .i64 P', .int .i64 R, .int .i64 C, .slice (some ⟨s0, so, none⟩) n1 n1] 36 w.heap.size rfl)
    have E0 := Lib.hid ((Ext.refl w).alloc (.cells #[.int .i64 P', .int .i64 R, .int .i64 C, .slice (some ⟨s0, so, none⟩) n1 n1] 36))
    have B0 := Lib.hid (HC.out.ext E0.out)
    have lA := A0.out.1
    have a0 := A0.out.2 0 _ rfl
    have a1 := A0.out.2 1 _ rfl
    have a2 := A0.out.2 2 _ rfl
    have a3 := A0.out.2 3 _ rfl
    have lB := B0.out.1
    have q0 := B0.out.2 0 _ rfl
    have q1 := B0.out.2 1 _ rfl
    go_wp2_with fail
    generalize (w.alloc (.cells #[.int .i64 P', .int .i64 R, .int .i64 C, .slice (some ⟨s0, so, none⟩) n1 n1] 36)) = W1 at *
    refine wp_region_held_drew (S := (fun w' => Ext W1 w' ∧ (∀ b o, b < W1.heap.size → w'.cell? ⟨b, o, none⟩ = W1.cell? ⟨b, o, none⟩))) (by kernel_rfl) (ext2 (Ext.refl _).drew) (fun hHeld => ?_)
    refine wpAnyH_take (i := 0) (v := ?v1) rfl (by kernel_rfl) (by kernel_rfl) (by kernel_rfl) (fun _ _ _ h => h) (Or.inl ⟨by rfl, ?hy1⟩) hHeld ?rest1
    case hy1 => (intro wz hSw; (try dsimp only at hSw); go_simp; (try with_reducible rfl))
    (try simp only [Act.put, List.getElem_toArray, List.getElem_cons_succ, List.getElem_cons_zero]); (try simp only [List.setIfInBounds_toArray]); (try simp only [List.set_cons_succ]); (try simp only [List.set_cons_zero])
    refine wpAnyH_ready (rs := [1]) (by kernel_rfl) (by simp) ?_
    refine AllReadyH.cons rfl (fun K' hK => ?_) AllReadyH.nil
    go_simp
    refine (matrixOk_impl _ _ _ _ _ _ xs _ (HX.out.ext (E0.out.trans (Ext.refl _).drew)) hm).mono ?_
    rintro e w4 ⟨rfl, h4⟩
    rw [H1.out]
    dsimp only
    refine hK.out _ _ (ext2 ((Ext.drew (Ext.refl _)).trans h4)) (fun hHeld => ?_)
    clear hK
    refine wpAnyH_take (i := 2) (v := ?v2) rfl (by kernel_rfl) (by kernel_rfl) (by kernel_rfl) (fun _ _ _ h => h) (Or.inl ⟨by rfl, ?hy2⟩) hHeld ?rest2
    case hy2 => (intro wz hSw; (try dsimp only at hSw); go_simp; (try with_reducible rfl))
    (try simp only [Act.put, List.getElem_toArray, List.getElem_cons_succ, List.getElem_cons_zero]); (try simp only [List.setIfInBounds_toArray]); (try simp only [List.set_cons_succ]); (try simp only [List.set_cons_zero])
    refine wpAnyH_take (i := 3) (v := undef) rfl (by kernel_rfl) (by kernel_rfl) (by kernel_rfl) (fun _ _ _ h => h) (Or.inr ⟨by rfl, rfl⟩) hHeld ?rest3
    (try simp only [Act.put, List.getElem_toArray, List.getElem_cons_succ, List.getElem_cons_zero]); (try simp only [List.setIfInBounds_toArray]); (try simp only [List.set_cons_succ]); (try simp only [List.set_cons_zero])
    refine wpAnyH_take (i := 4) (v := undef) rfl (by kernel_rfl) (by kernel_rfl) (by kernel_rfl) (fun _ _ _ h => h) (Or.inr ⟨by rfl, rfl⟩) hHeld ?rest4
    (try simp only [Act.put, List.getElem_toArray, List.getElem_cons_succ, List.getElem_cons_zero]); (try simp only [List.setIfInBounds_toArray]); (try simp only [List.set_cons_succ]); (try simp only [List.set_cons_zero])
    refine wpAnyH_take (i := 5) (v := undef) rfl (by kernel_rfl) (by kernel_rfl) (by kernel_rfl) (fun _ _ _ h => h) (Or.inr ⟨by rfl, rfl⟩) hHeld ?rest5
    (try simp only [Act.put, List.getElem_toArray, List.getElem_cons_succ, List.getElem_cons_zero]); (try simp only [List.setIfInBounds_toArray]); (try simp only [List.set_cons_succ]); (try simp only [List.set_cons_zero])
    refine wpAnyH_take (i := 6) (v := undef) rfl (by kernel_rfl) (by kernel_rfl) (by kernel_rfl) (fun _ _ _ h => h) (Or.inr ⟨by rfl, rfl⟩) hHeld ?rest6
    (try simp only [Act.put, List.getElem_toArray, List.getElem_cons_succ, List.getElem_cons_zero]); (try simp only [List.setIfInBounds_toArray]); (try simp only [List.set_cons_succ]); (try simp only [List.set_cons_zero])
    refine wpAnyH_take (i := 7) (v := undef) rfl (by kernel_rfl) (by kernel_rfl) (by kernel_rfl) (fun _ _ _ h => h) (Or.inr ⟨by rfl, rfl⟩) hHeld ?rest7
    (try simp only [Act.put, List.getElem_toArray, List.getElem_cons_succ, List.getElem_cons_zero]); (try simp only [List.setIfInBounds_toArray]); (try simp only [List.set_cons_succ]); (try simp only [List.set_cons_zero])
    refine wpAnyH_take (i := 8) (v := undef) rfl (by kernel_rfl) (by kernel_rfl) (by kernel_rfl) (fun _ _ _ h => h) (Or.inr ⟨by rfl, rfl⟩) hHeld ?rest8
    (try simp only [Act.put, List.getElem_toArray, List.getElem_cons_succ, List.getElem_cons_zero]); (try simp only [List.setIfInBounds_toArray]); (try simp only [List.set_cons_succ]); (try simp only [List.set_cons_zero])
    refine wpAnyH_take (i := 9) (v := undef) rfl (by kernel_rfl) (by kernel_rfl) (by kernel_rfl) (fun _ _ _ h => h) (Or.inr ⟨by rfl, rfl⟩) hHeld ?rest9
    (try simp only [Act.put, List.getElem_toArray, List.getElem_cons_succ, List.getElem_cons_zero]); (try simp only [List.setIfInBounds_toArray]); (try simp only [List.set_cons_succ]); (try simp only [List.set_cons_zero])
    refine wpAnyH_take (i := 10) (v := undef) rfl (by kernel_rfl) (by kernel_rfl) (by kernel_rfl) (fun _ _ _ h => h) (Or.inr ⟨by rfl, rfl⟩) hHeld ?rest10
    (try simp only [Act.put, List.getElem_toArray, List.getElem_cons_succ, List.getElem_cons_zero]); (try simp only [List.setIfInBounds_toArray]); (try simp only [List.set_cons_succ]); (try simp only [List.set_cons_zero])
    refine wpAnyH_take (i := 11) (v := ?v11) rfl (by kernel_rfl) (by kernel_rfl) (by kernel_rfl) (fun _ _ _ h => h) (Or.inl ⟨by rfl, ?hy11⟩) hHeld ?rest11
    case hy11 => (intro wz hSw; (try dsimp only at hSw); go_simp; (try with_reducible rfl))
    (try simp only [Act.put, List.getElem_toArray, List.getElem_cons_succ, List.getElem_cons_zero]); (try simp only [List.setIfInBounds_toArray]); (try simp only [List.set_cons_succ]); (try simp only [List.set_cons_zero])
    refine wpAnyH_take (i := 12) (v := ?v12) rfl (by kernel_rfl) (by kernel_rfl) (by kernel_rfl) (fun _ _ _ h => h) (Or.inl ⟨by rfl, ?hy12⟩) hHeld ?rest12
    case hy12 => (intro wz hSw; (try dsimp only at hSw); go_simp; (try with_reducible rfl))
    (try simp only [Act.put, List.getElem_toArray, List.getElem_cons_succ, List.getElem_cons_zero]); (try simp only [List.setIfInBounds_toArray]); (try simp only [List.set_cons_succ]); (try simp only [List.set_cons_zero])
    refine wpAnyH_take (i := 13) (v := undef) rfl (by kernel_rfl) (by kernel_rfl) (by kernel_rfl) (fun _ _ _ h => h) (Or.inr ⟨by rfl, rfl⟩) hHeld ?rest13
    (try simp only [Act.put, List.getElem_toArray, List.getElem_cons_succ, List.getElem_cons_zero]); (try simp only [List.setIfInBounds_toArray]); (try simp only [List.set_cons_succ]); (try simp only [List.set_cons_zero])
    refine wpAnyH_take (i := 14) (v := undef) rfl (by kernel_rfl) (by kernel_rfl) (by kernel_rfl) (fun _ _ _ h => h) (Or.inr ⟨by rfl, rfl⟩) hHeld ?rest14
    (try simp only [Act.put, List.getElem_toArray, List.getElem_cons_succ, List.getElem_cons_zero]); (try simp only [List.setIfInBounds_toArray]); (try simp only [List.set_cons_succ]); (try simp only [List.set_cons_zero])
    refine wpAnyH_take (i := 15) (v := undef) rfl (by kernel_rfl) (by kernel_rfl) (by kernel_rfl) (fun _ _ _ h => h) (Or.inr ⟨by rfl, rfl⟩) hHeld ?rest15
    (try simp only [Act.put, List.getElem_toArray, List.getElem_cons_succ, List.getElem_cons_zero]); (try simp only [List.setIfInBounds_toArray]); (try simp only [List.set_cons_succ]); (try simp only [List.set_cons_zero])
    refine wpAnyH_take (i := 16) (v := undef) rfl (by kernel_rfl) (by kernel_rfl) (by kernel_rfl) (fun _ _ _ h => h) (Or.inr ⟨by rfl, rfl⟩) hHeld ?rest16
    (try simp only [Act.put, List.getElem_toArray, List.getElem_cons_succ, List.getElem_cons_zero]); (try simp only [List.setIfInBounds_toArray]); (try simp only [List.set_cons_succ]); (try simp only [List.set_cons_zero])
    refine wpAnyH_take (i := 17) (v := undef) rfl (by kernel_rfl) (by kernel_rfl) (by kernel_rfl) (fun _ _ _ h => h) (Or.inr ⟨by rfl, rfl⟩) hHeld ?rest17
    (try simp only [Act.put, List.getElem_toArray, List.getElem_cons_succ, List.getElem_cons_zero]); (try simp only [List.setIfInBounds_toArray]); (try simp only [List.set_cons_succ]); (try simp only [List.set_cons_zero])
    refine wpAnyH_take (i := 18) (v := undef) rfl (by kernel_rfl) (by kernel_rfl) (by kernel_rfl) (fun _ _ _ h => h) (Or.inr ⟨by rfl, rfl⟩) hHeld ?rest18
    (try simp only [Act.put, List.getElem_toArray, List.getElem_cons_succ, List.getElem_cons_zero]); (try simp only [List.setIfInBounds_toArray]); (try simp only [List.set_cons_succ]); (try simp only [List.set_cons_zero])
    refine wpAnyH_take (i := 19) (v := undef) rfl (by kernel_rfl) (by kernel_rfl) (by kernel_rfl) (fun _ _ _ h => h) (Or.inr ⟨by rfl, rfl⟩) hHeld ?rest19
    (try simp only [Act.put, List.getElem_toArray, List.getElem_cons_succ, List.getElem_cons_zero]); (try simp only [List.setIfInBounds_toArray]); (try simp only [List.set_cons_succ]); (try simp only [List.set_cons_zero])
    refine wpAnyH_take (i := 20) (v := undef) rfl (by kernel_rfl) (by kernel_rfl) (by kernel_rfl) (fun _ _ _ h => h) (Or.inr ⟨by rfl, rfl⟩) hHeld ?rest20
    (try simp only [Act.put, List.getElem_toArray, List.getElem_cons_succ, List.getElem_cons_zero]); (try simp only [List.setIfInBounds_toArray]); (try simp only [List.set_cons_succ]); (try simp only [List.set_cons_zero])
    refine wpAnyH_take (i := 21) (v := ?v21) rfl (by kernel_rfl) (by kernel_rfl) (by kernel_rfl) (fun _ _ _ h => h) (Or.inl ⟨by rfl, ?hy21⟩) hHeld ?rest21
    case hy21 => (intro wz hSw; (try dsimp only at hSw); go_simp; (try with_reducible rfl))
    (try simp only [Act.put, List.getElem_toArray, List.getElem_cons_succ, List.getElem_cons_zero]); (try simp only [List.setIfInBounds_toArray]); (try simp only [List.set_cons_succ]); (try simp only [List.set_cons_zero])
    refine wpAnyH_take (i := 22) (v := ?v22) rfl (by kernel_rfl) (by kernel_rfl) (by kernel_rfl) (fun _ _ _ h => h) (Or.inl ⟨by rfl, ?hy22⟩) hHeld ?rest22
    case hy22 => (intro wz hSw; (try dsimp only at hSw); go_simp; (try with_reducible rfl))
    (try simp only [Act.put, List.getElem_toArray, List.getElem_cons_succ, List.getElem_cons_zero]); (try simp only [List.setIfInBounds_toArray]); (try simp only [List.set_cons_succ]); (try simp only [List.set_cons_zero])
    refine wpAnyH_done (by kernel_rfl) ?_ _
    have E9 := Lib.hid (E0.out.trans ((Ext.drew (Ext.refl _)).trans h4))
    clear hHeld
    go_wp2
    go_ret
    exact ⟨ret_bool HF.out.symm, E9.out⟩
  have H1 := Lib.hid h1
  rcases h2 : (P' == P) with _ | _
  · have HF : Hid (q = false) := by rw [Hid, HA.out, h1, h2]; rfl
    clear h1 HA
    go_enter Try.func97, Try.ntmps97
    have A0 := Lib.hid (cells_new' w #[.int .i64 P', .int .i64 R, .int .i64 C, .slice (some ⟨s0, so, none⟩) n1 n1] 36 w.heap.size rfl)
    have E0 := Lib.hid ((Ext.refl w).alloc (.cells #[.int .i64 P', .int .i64 R, .int .i64 C, .slice (some ⟨s0, so, none⟩) n1 n1] 36))
    have B0 := Lib.hid (HC.out.ext E0.out)
    have lA := A0.out.1
    have a0 := A0.out.2 0 _ rfl
    have a1 := A0.out.2 1 _ rfl
    have a2 := A0.out.2 2 _ rfl
    have a3 := A0.out.2 3 _ rfl
    have lB := B0.out.1
    have q0 := B0.out.2 0 _ rfl
    have q1 := B0.out.2 1 _ rfl
    go_wp2_with fail
    generalize (w.alloc (.cells #[.int .i64 P', .int .i64 R, .int .i64 C, .slice (some ⟨s0, so, none⟩) n1 n1] 36)) = W1 at *
    refine wp_region_held_drew (S := (fun w' => Ext W1 w' ∧ (∀ b o, b < W1.heap.size → w'.cell? ⟨b, o, none⟩ = W1.cell? ⟨b, o, none⟩))) (by kernel_rfl) (ext2 (Ext.refl _).drew) (fun hHeld => ?_)
    refine wpAnyH_take (i := 0) (v := ?v23) rfl (by kernel_rfl) (by kernel_rfl) (by kernel_rfl) (fun _ _ _ h => h) (Or.inl ⟨by rfl, ?hy23⟩) hHeld ?rest23
    case hy23 => (intro wz hSw; (try dsimp only at hSw); go_simp; (try with_reducible rfl))
    (try simp only [Act.put, List.getElem_toArray, List.getElem_cons_succ, List.getElem_cons_zero]); (try simp only [List.setIfInBounds_toArray]); (try simp only [List.set_cons_succ]); (try simp only [List.set_cons_zero])
    refine wpAnyH_ready (rs := [1]) (by kernel_rfl) (by simp) ?_
    refine AllReadyH.cons rfl (fun K' hK => ?_) AllReadyH.nil
    go_simp
    refine (matrixOk_impl _ _ _ _ _ _ xs _ (HX.out.ext (E0.out.trans (Ext.refl _).drew)) hm).mono ?_
    rintro e w4 ⟨rfl, h4⟩
    rw [H1.out]
    dsimp only
    refine hK.out _ _ (ext2 ((Ext.drew (Ext.refl _)).trans h4)) (fun hHeld => ?_)
    clear hK
    refine wpAnyH_take (i := 2) (v := ?v24) rfl (by kernel_rfl) (by kernel_rfl) (by kernel_rfl) (fun _ _ _ h => h) (Or.inl ⟨by rfl, ?hy24⟩) hHeld ?rest24
    case hy24 => (intro wz hSw; (try dsimp only at hSw); go_simp; (try with_reducible rfl))
    (try simp only [Act.put, List.getElem_toArray, List.getElem_cons_succ, List.getElem_cons_zero]); (try simp only [List.setIfInBounds_toArray]); (try simp only [List.set_cons_succ]); (try simp only [List.set_cons_zero])
    refine wpAnyH_take (i := 3) (v := ?v25) rfl (by kernel_rfl) (by kernel_rfl) (by kernel_rfl) (fun _ _ _ h => h) (Or.inl ⟨by rfl, ?hy25⟩) hHeld ?rest25
    case hy25 => (intro wz hSw; (try dsimp only at hSw); go_simp; (try with_reducible rfl))
    (try simp only [Act.put, List.getElem_toArray, List.getElem_cons_succ, List.getElem_cons_zero]); (try simp only [List.setIfInBounds_toArray]); (try simp only [List.set_cons_succ]); (try simp only [List.set_cons_zero])
    refine wpAnyH_take (i := 4) (v := ?v26) rfl (by kernel_rfl) (by kernel_rfl) (by kernel_rfl) (fun _ _ _ h => h) (Or.inl ⟨by rfl, ?hy26⟩) hHeld ?rest26
    case hy26 => (intro wz hSw; (try dsimp only at hSw); go_simp; (try with_reducible rfl))
    (try simp only [Act.put, List.getElem_toArray, List.getElem_cons_succ, List.getElem_cons_zero]); (try simp only [List.setIfInBounds_toArray]); (try simp only [List.set_cons_succ]); (try simp only [List.set_cons_zero])
    refine wpAnyH_take (i := 5) (v := ?v27) rfl (by kernel_rfl) (by kernel_rfl) (by kernel_rfl) (fun _ _ _ h => h) (Or.inl ⟨by rfl, ?hy27⟩) hHeld ?rest27
    case hy27 => (intro wz hSw; (try dsimp only at hSw); go_simp; (try with_reducible rfl))
    (try simp only [Act.put, List.getElem_toArray, List.getElem_cons_succ, List.getElem_cons_zero]); (try simp only [List.setIfInBounds_toArray]); (try simp only [List.set_cons_succ]); (try simp only [List.set_cons_zero])
    refine wpAnyH_take (i := 6) (v := ?v28) rfl (by kernel_rfl) (by kernel_rfl) (by kernel_rfl) (fun _ _ _ h => h) (Or.inl ⟨by rfl, ?hy28⟩) hHeld ?rest28
    case hy28 => (intro wz hSw; (try dsimp only at hSw); go_simp; (try with_reducible rfl))
    (try simp only [Act.put, List.getElem_toArray, List.getElem_cons_succ, List.getElem_cons_zero]); (try simp only [List.setIfInBounds_toArray]); (try simp only [List.set_cons_succ]); (try simp only [List.set_cons_zero])
    refine wpAnyH_take (i := 7) (v := ?v29) rfl (by kernel_rfl) (by kernel_rfl) (by kernel_rfl) (fun _ _ _ h => h) (Or.inl ⟨by rfl, ?hy29⟩) hHeld ?rest29
    case hy29 => (intro wz hSw; (try dsimp only at hSw); go_simp; (try with_reducible rfl))
    (try simp only [Act.put, List.getElem_toArray, List.getElem_cons_succ, List.getElem_cons_zero]); (try simp only [List.setIfInBounds_toArray]); (try simp only [List.set_cons_succ]); (try simp only [List.set_cons_zero])
    refine wpAnyH_take (i := 8) (v := ?v30) rfl (by kernel_rfl) (by kernel_rfl) (by kernel_rfl) (fun _ _ _ h => h) (Or.inl ⟨by rfl, ?hy30⟩) hHeld ?rest30
    case hy30 => (intro wz hSw; (try dsimp only at hSw); go_simp; (try with_reducible rfl))
    (try simp only [Act.put, List.getElem_toArray, List.getElem_cons_succ, List.getElem_cons_zero]); (try simp only [List.setIfInBounds_toArray]); (try simp only [List.set_cons_succ]); (try simp only [List.set_cons_zero])
    refine wpAnyH_take (i := 9) (v := ?v31) rfl (by kernel_rfl) (by kernel_rfl) (by kernel_rfl) (fun _ _ _ h => h) (Or.inl ⟨by rfl, ?hy31⟩) hHeld ?rest31
    case hy31 => (intro wz hSw; (try dsimp only at hSw); go_simp; (try with_reducible rfl))
    (try simp only [Act.put, List.getElem_toArray, List.getElem_cons_succ, List.getElem_cons_zero]); (try simp only [List.setIfInBounds_toArray]); (try simp only [List.set_cons_succ]); (try simp only [List.set_cons_zero])
    refine wpAnyH_take (i := 10) (v := ?v32) rfl (by kernel_rfl) (by kernel_rfl) (by kernel_rfl) (fun _ _ _ h => h) (Or.inl ⟨by rfl, ?hy32⟩) hHeld ?rest32
    case hy32 => (intro wz hSw; (try dsimp only at hSw); go_simp; (try with_reducible rfl))
    (try simp only [Act.put, List.getElem_toArray, List.getElem_cons_succ, List.getElem_cons_zero]); (try simp only [List.setIfInBounds_toArray]); (try simp only [List.set_cons_succ]); (try simp only [List.set_cons_zero])
    refine wpAnyH_take (i := 11) (v := ?v33) rfl (by kernel_rfl) (by kernel_rfl) (by kernel_rfl) (fun _ _ _ h => h) (Or.inl ⟨by rfl, ?hy33⟩) hHeld ?rest33
    case hy33 => (intro wz hSw; (try dsimp only at hSw); go_simp; (try with_reducible rfl))
    (try simp only [Act.put, List.getElem_toArray, List.getElem_cons_succ, List.getElem_cons_zero]); (try simp only [List.setIfInBounds_toArray]); (try simp only [List.set_cons_succ]); (try simp only [List.set_cons_zero])
    refine wpAnyH_take (i := 12) (v := ?v34) rfl (by kernel_rfl) (by kernel_rfl) (by kernel_rfl) (fun _ _ _ h => h) (Or.inl ⟨by rfl, ?hy34⟩) hHeld ?rest34
    case hy34 => (intro wz hSw; (try dsimp only at hSw); go_simp; (try with_reducible rfl))
    (try simp only [Act.put, List.getElem_toArray, List.getElem_cons_succ, List.getElem_cons_zero]); (try simp only [List.setIfInBounds_toArray]); (try simp only [List.set_cons_succ]); (try simp only [List.set_cons_zero])
    refine wpAnyH_take (i := 13) (v := undef) rfl (by kernel_rfl) (by kernel_rfl) (by kernel_rfl) (fun _ _ _ h => h) (Or.inr ⟨by rfl, rfl⟩) hHeld ?rest35
    (try simp only [Act.put, List.getElem_toArray, List.getElem_cons_succ, List.getElem_cons_zero]); (try simp only [List.setIfInBounds_toArray]); (try simp only [List.set_cons_succ]); (try simp only [List.set_cons_zero])
    refine wpAnyH_take (i := 14) (v := undef) rfl (by kernel_rfl) (by kernel_rfl) (by kernel_rfl) (fun _ _ _ h => h) (Or.inr ⟨by rfl, rfl⟩) hHeld ?rest36
    (try simp only [Act.put, List.getElem_toArray, List.getElem_cons_succ, List.getElem_cons_zero]); (try simp only [List.setIfInBounds_toArray]); (try simp only [List.set_cons_succ]); (try simp only [List.set_cons_zero])
    refine wpAnyH_take (i := 15) (v := undef) rfl (by kernel_rfl) (by kernel_rfl) (by kernel_rfl) (fun _ _ _ h => h) (Or.inr ⟨by rfl, rfl⟩) hHeld ?rest37
    (try simp only [Act.put, List.getElem_toArray, List.getElem_cons_succ, List.getElem_cons_zero]); (try simp only [List.setIfInBounds_toArray]); (try simp only [List.set_cons_succ]); (try simp only [List.set_cons_zero])
    refine wpAnyH_take (i := 16) (v := undef) rfl (by kernel_rfl) (by kernel_rfl) (by kernel_rfl) (fun _ _ _ h => h) (Or.inr ⟨by rfl, rfl⟩) hHeld ?rest38
    (try simp only [Act.put, List.getElem_toArray, List.getElem_cons_succ, List.getElem_cons_zero]); (try simp only [List.setIfInBounds_toArray]); (try simp only [List.set_cons_succ]); (try simp only [List.set_cons_zero])
    refine wpAnyH_take (i := 17) (v := undef) rfl (by kernel_rfl) (by kernel_rfl) (by kernel_rfl) (fun _ _ _ h => h) (Or.inr ⟨by rfl, rfl⟩) hHeld ?rest39
    (try simp only [Act.put, List.getElem_toArray, List.getElem_cons_succ, List.getElem_cons_zero]); (try simp only [List.setIfInBounds_toArray]); (try simp only [List.set_cons_succ]); (try simp only [List.set_cons_zero])
    refine wpAnyH_take (i := 18) (v := undef) rfl (by kernel_rfl) (by kernel_rfl) (by kernel_rfl) (fun _ _ _ h => h) (Or.inr ⟨by rfl, rfl⟩) hHeld ?rest40
    (try simp only [Act.put, List.getElem_toArray, List.getElem_cons_succ, List.getElem_cons_zero]); (try simp only [List.setIfInBounds_toArray]); (try simp only [List.set_cons_succ]); (try simp only [List.set_cons_zero])
    refine wpAnyH_take (i := 19) (v := undef) rfl (by kernel_rfl) (by kernel_rfl) (by kernel_rfl) (fun _ _ _ h => h) (Or.inr ⟨by rfl, rfl⟩) hHeld ?rest41
    (try simp only [Act.put, List.getElem_toArray, List.getElem_cons_succ, List.getElem_cons_zero]); (try simp only [List.setIfInBounds_toArray]); (try simp only [List.set_cons_succ]); (try simp only [List.set_cons_zero])
    refine wpAnyH_take (i := 20) (v := undef) rfl (by kernel_rfl) (by kernel_rfl) (by kernel_rfl) (fun _ _ _ h => h) (Or.inr ⟨by rfl, rfl⟩) hHeld ?rest42
    (try simp only [Act.put, List.getElem_toArray, List.getElem_cons_succ, List.getElem_cons_zero]); (try simp only [List.setIfInBounds_toArray]); (try simp only [List.set_cons_succ]); (try simp only [List.set_cons_zero])
    refine wpAnyH_take (i := 21) (v := ?v43) rfl (by kernel_rfl) (by kernel_rfl) (by kernel_rfl) (fun _ _ _ h => h) (Or.inl ⟨by rfl, ?hy43⟩) hHeld ?rest43
    case hy43 => (intro wz hSw; (try dsimp only at hSw); go_simp; (try with_reducible rfl))
    (try simp only [Act.put, List.getElem_toArray, List.getElem_cons_succ, List.getElem_cons_zero]); (try simp only [List.setIfInBounds_toArray]); (try simp only [List.set_cons_succ]); (try simp only [List.set_cons_zero])
    refine wpAnyH_take (i := 22) (v := ?v44) rfl (by kernel_rfl) (by kernel_rfl) (by kernel_rfl) (fun _ _ _ h => h) (Or.inl ⟨by rfl, ?hy44⟩) hHeld ?rest44
    case hy44 => (intro wz hSw; (try dsimp only at hSw); go_simp; (try with_reducible rfl))
    (try simp only [Act.put, List.getElem_toArray, List.getElem_cons_succ, List.getElem_cons_zero]); (try simp only [List.setIfInBounds_toArray]); (try simp only [List.set_cons_succ]); (try simp only [List.set_cons_zero])
    refine wpAnyH_done (by kernel_rfl) ?_ _
    have E9 := Lib.hid (E0.out.trans ((Ext.drew (Ext.refl _)).trans h4))
    clear hHeld
    go_wp2
    go_ret
    exact ⟨ret_bool HF.out.symm, E9.out⟩
  · have HF : Hid (q = (C == D)) := by rw [Hid, HA.out, h1, h2]; rfl
    clear h1 HA
    go_enter Try.func97, Try.ntmps97
    have A0 := Lib.hid (cells_new' w #[.int .i64 P', .int .i64 R, .int .i64 C, .slice (some ⟨s0, so, none⟩) n1 n1] 36 w.heap.size rfl)
    have E0 := Lib.hid ((Ext.refl w).alloc (.cells #[.int .i64 P', .int .i64 R, .int .i64 C, .slice (some ⟨s0, so, none⟩) n1 n1] 36))
    have B0 := Lib.hid (HC.out.ext E0.out)
    have lA := A0.out.1
    have a0 := A0.out.2 0 _ rfl
    have a1 := A0.out.2 1 _ rfl
    have a2 := A0.out.2 2 _ rfl
    have a3 := A0.out.2 3 _ rfl
    have lB := B0.out.1
    have q0 := B0.out.2 0 _ rfl
    have q1 := B0.out.2 1 _ rfl
    go_wp2_with fail
    generalize (w.alloc (.cells #[.int .i64 P', .int .i64 R, .int .i64 C, .slice (some ⟨s0, so, none⟩) n1 n1] 36)) = W1 at *
    go_region_held3 (fun w' => Ext W1 w' ∧ (∀ b o, b < W1.heap.size → w'.cell? ⟨b, o, none⟩ = W1.cell? ⟨b, o, none⟩)) (first | assumption | (with_reducible exact ext2 (Ext.trans (And.left ‹Ext W1 _ ∧ _›) ‹Ext _ _›)) | (refine ext2 ?_; with_reducible repeat (first | exact Ext.refl _ | exact And.left ‹Ext W1 _ ∧ _› | refine Ext.drew ?_ | refine Ext.drewN ?_ _))) ((go_at_call 138; (with_reducible refine (matrixOk_impl _ _ _ _ _ _ xs _ (HX.out.ext (E0.out.trans (And.left ‹Ext W1 _ ∧ _›))) hm).mono ?_); rintro e w4 ⟨rfl, h4⟩; rw [H1.out]))
    all_goals
      have E9 := Lib.hid (E0.out.trans (And.left ‹Ext W1 w4 ∧ _›))
      go_wp2
      go_ret
      rw [HF.out]
      exact ⟨rfl, E9.out⟩

set_option maxRecDepth 100000 in
set_option maxHeartbeats 3200000 in
theorem hasSquare_impl (P D P' R C : Int) (B s0 so n1 : Nat) (v : Value) (xs : List Int) (w : World) (hc : Cells w B [.int .i64 P, .int .i64 D, v]) (hX : Reads w (some ⟨s0, so, none⟩) n1 xs) (hm : n1 ≤ maxLen) :
    Calls Try.prog 70 #[.pointer (some ⟨B, 0, none⟩), .agg #[.int .i64 P', .int .i64 R, .int .i64 C, .slice (some ⟨s0, so, none⟩) n1 n1]] w fun e w' => e = .returned (.bool (formB P D P' R C xs)) ∧ Ext w w' := by
  have HC := Lib.hid hc
  have HX := Lib.hid hX
  have HA : Hid (formB P D P' R C xs = (rwB P D P' R C xs && (R == D))) := rfl
  generalize formB P D P' R C xs = q at HA
  clear hc hX
  rcases h1 : rwB P D P' R C xs with _ | _
  · have HF : Hid (q = false) := by rw [Hid, HA.out, h1]; rfl
    have H1 := Lib.hid h1
    clear h1 HA
    go_enter Try.func70, Try.ntmps70
    have A0 := Lib.hid (cells_new' w #[.int .i64 P', .int .i64 R, .int .i64 C, .slice (some ⟨s0, so, none⟩) n1 n1] 36 w.heap.size rfl)
    have E0 := Lib.hid ((Ext.refl w).alloc (.cells #[.int .i64 P', .int .i64 R, .int .i64 C, .slice (some ⟨s0, so, none⟩) n1 n1] 36))
    have B0 := Lib.hid (HC.out.ext E0.out)
    have lA := A0.out.1
    have a0 := A0.out.2 0 _ rfl
    have a1 := A0.out.2 1 _ rfl
    have a2 := A0.out.2 2 _ rfl
    have a3 := A0.out.2 3 _ rfl
    have lB := B0.out.1
    have q0 := B0.out.2 0 _ rfl
    have q1 := B0.out.2 1 _ rfl
    go_wp2_with fail
    generalize (w.alloc (.cells #[.int .i64 P', .int .i64 R, .int .i64 C, .slice (some ⟨s0, so, none⟩) n1 n1] 36)) = W1 at *
    refine wp_region_held_drew (S := (fun w' => Ext W1 w' ∧ (∀ b o, b < W1.heap.size → w'.cell? ⟨b, o, none⟩ = W1.cell? ⟨b, o, none⟩))) (by kernel_rfl) (ext2 (Ext.refl _).drew) (fun hHeld => ?_)
    refine wpAnyH_take (i := 0) (v := ?v45) rfl (by kernel_rfl) (by kernel_rfl) (by kernel_rfl) (fun _ _ _ h => h) (Or.inl ⟨by rfl, ?hy45⟩) hHeld ?rest45
    case hy45 => (intro wz hSw; (try dsimp only at hSw); go_simp; (try with_reducible rfl))
    (try simp only [Act.put, List.getElem_toArray, List.getElem_cons_succ, List.getElem_cons_zero]); (try simp only [List.setIfInBounds_toArray]); (try simp only [List.set_cons_succ]); (try simp only [List.set_cons_zero])
    refine wpAnyH_take (i := 1) (v := ?v46) rfl (by kernel_rfl) (by kernel_rfl) (by kernel_rfl) (fun _ _ _ h => h) (Or.inl ⟨by rfl, ?hy46⟩) hHeld ?rest46
    case hy46 => (intro wz hSw; (try dsimp only at hSw); go_simp; (try with_reducible rfl))
    (try simp only [Act.put, List.getElem_toArray, List.getElem_cons_succ, List.getElem_cons_zero]); (try simp only [List.setIfInBounds_toArray]); (try simp only [List.set_cons_succ]); (try simp only [List.set_cons_zero])
    refine wpAnyH_ready (rs := [2]) (by kernel_rfl) (by simp) ?_
    refine AllReadyH.cons rfl (fun K' hK => ?_) AllReadyH.nil
    go_simp
    refine (hasRows_impl P D P' R C B s0 so n1 v xs _ (B0.out.ext (Ext.drew (Ext.refl _))) (HX.out.ext (E0.out.trans (Ext.refl _).drew)) hm).mono ?_
    rintro e w4 ⟨rfl, h4⟩
    rw [H1.out]
    dsimp only
    refine hK.out _ _ (ext2 ((Ext.drew (Ext.refl _)).trans h4)) (fun hHeld => ?_)
    clear hK
    refine wpAnyH_take (i := 3) (v := ?v47) rfl (by kernel_rfl) (by kernel_rfl) (by kernel_rfl) (fun _ _ _ h => h) (Or.inl ⟨by rfl, ?hy47⟩) hHeld ?rest47
    case hy47 => (intro wz hSw; (try dsimp only at hSw); go_simp; (try with_reducible rfl))
    (try simp only [Act.put, List.getElem_toArray, List.getElem_cons_succ, List.getElem_cons_zero]); (try simp only [List.setIfInBounds_toArray]); (try simp only [List.set_cons_succ]); (try simp only [List.set_cons_zero])
    refine wpAnyH_take (i := 4) (v := undef) rfl (by kernel_rfl) (by kernel_rfl) (by kernel_rfl) (fun _ _ _ h => h) (Or.inr ⟨by rfl, rfl⟩) hHeld ?rest48
    (try simp only [Act.put, List.getElem_toArray, List.getElem_cons_succ, List.getElem_cons_zero]); (try simp only [List.setIfInBounds_toArray]); (try simp only [List.set_cons_succ]); (try simp only [List.set_cons_zero])
    refine wpAnyH_take (i := 5) (v := undef) rfl (by kernel_rfl) (by kernel_rfl) (by kernel_rfl) (fun _ _ _ h => h) (Or.inr ⟨by rfl, rfl⟩) hHeld ?rest49
    (try simp only [Act.put, List.getElem_toArray, List.getElem_cons_succ, List.getElem_cons_zero]); (try simp only [List.setIfInBounds_toArray]); (try simp only [List.set_cons_succ]); (try simp only [List.set_cons_zero])
    refine wpAnyH_take (i := 6) (v := undef) rfl (by kernel_rfl) (by kernel_rfl) (by kernel_rfl) (fun _ _ _ h => h) (Or.inr ⟨by rfl, rfl⟩) hHeld ?rest50
    (try simp only [Act.put, List.getElem_toArray, List.getElem_cons_succ, List.getElem_cons_zero]); (try simp only [List.setIfInBounds_toArray]); (try simp only [List.set_cons_succ]); (try simp only [List.set_cons_zero])
    refine wpAnyH_take (i := 7) (v := undef) rfl (by kernel_rfl) (by kernel_rfl) (by kernel_rfl) (fun _ _ _ h => h) (Or.inr ⟨by rfl, rfl⟩) hHeld ?rest51
    (try simp only [Act.put, List.getElem_toArray, List.getElem_cons_succ, List.getElem_cons_zero]); (try simp only [List.setIfInBounds_toArray]); (try simp only [List.set_cons_succ]); (try simp only [List.set_cons_zero])
    refine wpAnyH_take (i := 8) (v := undef) rfl (by kernel_rfl) (by kernel_rfl) (by kernel_rfl) (fun _ _ _ h => h) (Or.inr ⟨by rfl, rfl⟩) hHeld ?rest52
    (try simp only [Act.put, List.getElem_toArray, List.getElem_cons_succ, List.getElem_cons_zero]); (try simp only [List.setIfInBounds_toArray]); (try simp only [List.set_cons_succ]); (try simp only [List.set_cons_zero])
    refine wpAnyH_take (i := 9) (v := undef) rfl (by kernel_rfl) (by kernel_rfl) (by kernel_rfl) (fun _ _ _ h => h) (Or.inr ⟨by rfl, rfl⟩) hHeld ?rest53
    (try simp only [Act.put, List.getElem_toArray, List.getElem_cons_succ, List.getElem_cons_zero]); (try simp only [List.setIfInBounds_toArray]); (try simp only [List.set_cons_succ]); (try simp only [List.set_cons_zero])
    refine wpAnyH_take (i := 10) (v := undef) rfl (by kernel_rfl) (by kernel_rfl) (by kernel_rfl) (fun _ _ _ h => h) (Or.inr ⟨by rfl, rfl⟩) hHeld ?rest54
    (try simp only [Act.put, List.getElem_toArray, List.getElem_cons_succ, List.getElem_cons_zero]); (try simp only [List.setIfInBounds_toArray]); (try simp only [List.set_cons_succ]); (try simp only [List.set_cons_zero])
    refine wpAnyH_take (i := 11) (v := undef) rfl (by kernel_rfl) (by kernel_rfl) (by kernel_rfl) (fun _ _ _ h => h) (Or.inr ⟨by rfl, rfl⟩) hHeld ?rest55
    (try simp only [Act.put, List.getElem_toArray, List.getElem_cons_succ, List.getElem_cons_zero]); (try simp only [List.setIfInBounds_toArray]); (try simp only [List.set_cons_succ]); (try simp only [List.set_cons_zero])
    refine wpAnyH_take (i := 12) (v := ?v56) rfl (by kernel_rfl) (by kernel_rfl) (by kernel_rfl) (fun _ _ _ h => h) (Or.inl ⟨by rfl, ?hy56⟩) hHeld ?rest56
    case hy56 => (intro wz hSw; (try dsimp only at hSw); go_simp; (try with_reducible rfl))
    (try simp only [Act.put, List.getElem_toArray, List.getElem_cons_succ, List.getElem_cons_zero]); (try simp only [List.setIfInBounds_toArray]); (try simp only [List.set_cons_succ]); (try simp only [List.set_cons_zero])
    refine wpAnyH_take (i := 13) (v := ?v57) rfl (by kernel_rfl) (by kernel_rfl) (by kernel_rfl) (fun _ _ _ h => h) (Or.inl ⟨by rfl, ?hy57⟩) hHeld ?rest57
    case hy57 => (intro wz hSw; (try dsimp only at hSw); go_simp; (try with_reducible rfl))
    (try simp only [Act.put, List.getElem_toArray, List.getElem_cons_succ, List.getElem_cons_zero]); (try simp only [List.setIfInBounds_toArray]); (try simp only [List.set_cons_succ]); (try simp only [List.set_cons_zero])
    refine wpAnyH_done (by kernel_rfl) ?_ _
    have E9 := Lib.hid (E0.out.trans ((Ext.drew (Ext.refl _)).trans h4))
    clear hHeld
    go_wp2
    go_ret
    exact ⟨ret_bool HF.out.symm, E9.out⟩
  · have H1 := Lib.hid h1
    have HF : Hid (q = (R == D)) := by rw [Hid, HA.out, h1]; rfl
    clear h1 HA
    go_enter Try.func70, Try.ntmps70
    have A0 := Lib.hid (cells_new' w #[.int .i64 P', .int .i64 R, .int .i64 C, .slice (some ⟨s0, so, none⟩) n1 n1] 36 w.heap.size rfl)
    have E0 := Lib.hid ((Ext.refl w).alloc (.cells #[.int .i64 P', .int .i64 R, .int .i64 C, .slice (some ⟨s0, so, none⟩) n1 n1] 36))
    have B0 := Lib.hid (HC.out.ext E0.out)
    have lA := A0.out.1
    have a0 := A0.out.2 0 _ rfl
    have a1 := A0.out.2 1 _ rfl
    have a2 := A0.out.2 2 _ rfl
    have a3 := A0.out.2 3 _ rfl
    have lB := B0.out.1
    have q0 := B0.out.2 0 _ rfl
    have q1 := B0.out.2 1 _ rfl
    go_wp2_with fail
    generalize (w.alloc (.cells #[.int .i64 P', .int .i64 R, .int .i64 C, .slice (some ⟨s0, so, none⟩) n1 n1] 36)) = W1 at *
    go_region_held3 (fun w' => Ext W1 w' ∧ (∀ b o, b < W1.heap.size → w'.cell? ⟨b, o, none⟩ = W1.cell? ⟨b, o, none⟩)) (first | assumption | (with_reducible exact ext2 (Ext.trans (And.left ‹Ext W1 _ ∧ _›) ‹Ext _ _›)) | (refine ext2 ?_; with_reducible repeat (first | exact Ext.refl _ | exact And.left ‹Ext W1 _ ∧ _› | refine Ext.drew ?_ | refine Ext.drewN ?_ _))) ((go_at_call 97; (with_reducible refine (hasRows_impl P D P' R C B s0 so n1 v xs _ (B0.out.ext (And.left ‹Ext W1 _ ∧ _›)) (HX.out.ext (E0.out.trans (And.left ‹Ext W1 _ ∧ _›))) hm).mono ?_); rintro e w4 ⟨rfl, h4⟩; rw [H1.out]))
    all_goals
      have E9 := Lib.hid (E0.out.trans (And.left ‹Ext W1 w4 ∧ _›))
      go_wp2
      go_ret
      rw [HF.out]
      exact ⟨rfl, E9.out⟩

set_option maxRecDepth 100000 in
set_option maxHeartbeats 3200000 in
theorem l3Form_spec (P D P' R C : Int) (a0 oa n s0 so n1 : Nat) (l xs : List Int) (w : World) (hT : Reads w (some ⟨a0, oa, none⟩) n l) (hm0 : n ≤ 1048576) (hX : Reads w (some ⟨s0, so, none⟩) n1 xs) (hm : n1 ≤ maxLen) :
    Calls Try.prog 66 #[.agg #[.int .i64 P, .int .i64 D, .slice (some ⟨a0, oa, none⟩) n n], .agg #[.int .i64 P', .int .i64 R, .int .i64 C, .slice (some ⟨s0, so, none⟩) n1 n1]] w fun e w' => e = .returned (.bool (algB P D l && formB P D P' R C xs)) ∧ Ext w w' := by
  have HT := Lib.hid hT
  have HX := Lib.hid hX
  have HA : Hid ((algB P D l && formB P D P' R C xs) = (algB P D l && ((mok P' R C xs && ((P' == P) && (C == D))) && (R == D)))) := rfl
  generalize (algB P D l && formB P D P' R C xs) = q at HA
  clear hT hX
  rcases h0 : algB P D l with _ | _
  · have HF : Hid (q = false) := by rw [Hid, HA.out, h0]; rfl
    have H0 := Lib.hid h0
    clear h0 HA
    go_enter Try.func66, Try.ntmps66
    have A0_1 := Lib.hid ((cells_new' w #[.int .i64 P, .int .i64 D, .slice (some ⟨a0, oa, none⟩) n n] 26 (w.heap.size) (by simp)).ext ((Ext.refl _).alloc (.cells #[.int .i64 P', .int .i64 R, .int .i64 C, .slice (some ⟨s0, so, none⟩) n1 n1] 36)))
    have A1_2 := Lib.hid (cells_new' (w.alloc (.cells #[.int .i64 P, .int .i64 D, .slice (some ⟨a0, oa, none⟩) n n] 26)) #[.int .i64 P', .int .i64 R, .int .i64 C, .slice (some ⟨s0, so, none⟩) n1 n1] 36 (w.heap.size + 1) (by simp))
    have E_3 := Lib.hid (((Ext.refl w).alloc (.cells #[.int .i64 P, .int .i64 D, .slice (some ⟨a0, oa, none⟩) n n] 26)).alloc (.cells #[.int .i64 P', .int .i64 R, .int .i64 C, .slice (some ⟨s0, so, none⟩) n1 n1] 36))
    have lA0 := A0_1.out.1
    have qA00 := A0_1.out.2 0 _ rfl
    have qA01 := A0_1.out.2 1 _ rfl
    have qA02 := A0_1.out.2 2 _ rfl
    have lA1 := A1_2.out.1
    have qA10 := A1_2.out.2 0 _ rfl
    have qA11 := A1_2.out.2 1 _ rfl
    have qA12 := A1_2.out.2 2 _ rfl
    have qA13 := A1_2.out.2 3 _ rfl
    try simp only [World.size_alloc] at lA0 lA1
    go_wp2_with fail
    refine (algebraOk_spec (HT.out.ext E_3.out) hm0 H0.out).mono ?_
    rintro e w_4 ⟨rfl, h_4⟩
    clear lA0 qA00 qA01 qA02 lA1 qA10 qA11 qA12 qA13
    have A0_5 := Lib.hid (A0_1.out.ext h_4)
    clear A0_1
    have A1_6 := Lib.hid (A1_2.out.ext h_4)
    clear A1_2
    have E_7 := Lib.hid (E_3.out.trans h_4)
    clear E_3
    have lA0 := A0_5.out.1
    have qA00 := A0_5.out.2 0 _ rfl
    have qA01 := A0_5.out.2 1 _ rfl
    have qA02 := A0_5.out.2 2 _ rfl
    have lA1 := A1_6.out.1
    have qA10 := A1_6.out.2 0 _ rfl
    have qA11 := A1_6.out.2 1 _ rfl
    have qA12 := A1_6.out.2 2 _ rfl
    have qA13 := A1_6.out.2 3 _ rfl
    try simp only [World.size_alloc] at lA0 lA1
    go_wp2
    go_ret
    exact ⟨ret_bool HF.out.symm, E_7.out⟩
  have H0 := Lib.hid h0
  rcases h1 : mok P' R C xs with _ | _
  · have HF : Hid (q = false) := by rw [Hid, HA.out, h0, h1]; rfl
    have H1 := Lib.hid h1
    clear h0 h1 HA
    go_enter Try.func66, Try.ntmps66
    have A0_1 := Lib.hid ((cells_new' w #[.int .i64 P, .int .i64 D, .slice (some ⟨a0, oa, none⟩) n n] 26 (w.heap.size) (by simp)).ext ((Ext.refl _).alloc (.cells #[.int .i64 P', .int .i64 R, .int .i64 C, .slice (some ⟨s0, so, none⟩) n1 n1] 36)))
    have A1_2 := Lib.hid (cells_new' (w.alloc (.cells #[.int .i64 P, .int .i64 D, .slice (some ⟨a0, oa, none⟩) n n] 26)) #[.int .i64 P', .int .i64 R, .int .i64 C, .slice (some ⟨s0, so, none⟩) n1 n1] 36 (w.heap.size + 1) (by simp))
    have E_3 := Lib.hid (((Ext.refl w).alloc (.cells #[.int .i64 P, .int .i64 D, .slice (some ⟨a0, oa, none⟩) n n] 26)).alloc (.cells #[.int .i64 P', .int .i64 R, .int .i64 C, .slice (some ⟨s0, so, none⟩) n1 n1] 36))
    have lA0 := A0_1.out.1
    have qA00 := A0_1.out.2 0 _ rfl
    have qA01 := A0_1.out.2 1 _ rfl
    have qA02 := A0_1.out.2 2 _ rfl
    have lA1 := A1_2.out.1
    have qA10 := A1_2.out.2 0 _ rfl
    have qA11 := A1_2.out.2 1 _ rfl
    have qA12 := A1_2.out.2 2 _ rfl
    have qA13 := A1_2.out.2 3 _ rfl
    try simp only [World.size_alloc] at lA0 lA1
    go_wp2_with fail
    refine (algebraOk_spec (HT.out.ext E_3.out) hm0 H0.out).mono ?_
    rintro e w_4 ⟨rfl, h_4⟩
    clear lA0 qA00 qA01 qA02 lA1 qA10 qA11 qA12 qA13
    have A0_5 := Lib.hid (A0_1.out.ext h_4)
    clear A0_1
    have A1_6 := Lib.hid (A1_2.out.ext h_4)
    clear A1_2
    have E_7 := Lib.hid (E_3.out.trans h_4)
    clear E_3
    have lA0 := A0_5.out.1
    have qA00 := A0_5.out.2 0 _ rfl
    have qA01 := A0_5.out.2 1 _ rfl
    have qA02 := A0_5.out.2 2 _ rfl
    have lA1 := A1_6.out.1
    have qA10 := A1_6.out.2 0 _ rfl
    have qA11 := A1_6.out.2 1 _ rfl
    have qA12 := A1_6.out.2 2 _ rfl
    have qA13 := A1_6.out.2 3 _ rfl
    try simp only [World.size_alloc] at lA0 lA1
    go_wp2_with fail
    refine (matrixOk_spec _ _ _ _ _ _ xs _ (HX.out.ext E_7.out) hm).mono ?_
    rintro e w_8 ⟨rfl, h_8⟩
    clear lA0 qA00 qA01 qA02 lA1 qA10 qA11 qA12 qA13
    have A0_9 := Lib.hid (A0_5.out.ext h_8)
    clear A0_5
    have A1_10 := Lib.hid (A1_6.out.ext h_8)
    clear A1_6
    have E_11 := Lib.hid (E_7.out.trans h_8)
    clear E_7
    rw [H1.out]
    have lA0 := A0_9.out.1
    have qA00 := A0_9.out.2 0 _ rfl
    have qA01 := A0_9.out.2 1 _ rfl
    have qA02 := A0_9.out.2 2 _ rfl
    have lA1 := A1_10.out.1
    have qA10 := A1_10.out.2 0 _ rfl
    have qA11 := A1_10.out.2 1 _ rfl
    have qA12 := A1_10.out.2 2 _ rfl
    have qA13 := A1_10.out.2 3 _ rfl
    try simp only [World.size_alloc] at lA0 lA1
    go_wp2
    go_ret
    exact ⟨ret_bool HF.out.symm, E_11.out⟩
  have H1 := Lib.hid h1
  rcases h2 : (P' == P) with _ | _
  · have HF : Hid (q = false) := by rw [Hid, HA.out, h0, h1, h2]; rfl
    clear h0 h1 HA
    go_enter Try.func66, Try.ntmps66
    have A0_1 := Lib.hid ((cells_new' w #[.int .i64 P, .int .i64 D, .slice (some ⟨a0, oa, none⟩) n n] 26 (w.heap.size) (by simp)).ext ((Ext.refl _).alloc (.cells #[.int .i64 P', .int .i64 R, .int .i64 C, .slice (some ⟨s0, so, none⟩) n1 n1] 36)))
    have A1_2 := Lib.hid (cells_new' (w.alloc (.cells #[.int .i64 P, .int .i64 D, .slice (some ⟨a0, oa, none⟩) n n] 26)) #[.int .i64 P', .int .i64 R, .int .i64 C, .slice (some ⟨s0, so, none⟩) n1 n1] 36 (w.heap.size + 1) (by simp))
    have E_3 := Lib.hid (((Ext.refl w).alloc (.cells #[.int .i64 P, .int .i64 D, .slice (some ⟨a0, oa, none⟩) n n] 26)).alloc (.cells #[.int .i64 P', .int .i64 R, .int .i64 C, .slice (some ⟨s0, so, none⟩) n1 n1] 36))
    have lA0 := A0_1.out.1
    have qA00 := A0_1.out.2 0 _ rfl
    have qA01 := A0_1.out.2 1 _ rfl
    have qA02 := A0_1.out.2 2 _ rfl
    have lA1 := A1_2.out.1
    have qA10 := A1_2.out.2 0 _ rfl
    have qA11 := A1_2.out.2 1 _ rfl
    have qA12 := A1_2.out.2 2 _ rfl
    have qA13 := A1_2.out.2 3 _ rfl
    try simp only [World.size_alloc] at lA0 lA1
    go_wp2_with fail
    refine (algebraOk_spec (HT.out.ext E_3.out) hm0 H0.out).mono ?_
    rintro e w_4 ⟨rfl, h_4⟩
    clear lA0 qA00 qA01 qA02 lA1 qA10 qA11 qA12 qA13
    have A0_5 := Lib.hid (A0_1.out.ext h_4)
    clear A0_1
    have A1_6 := Lib.hid (A1_2.out.ext h_4)
    clear A1_2
    have E_7 := Lib.hid (E_3.out.trans h_4)
    clear E_3
    have lA0 := A0_5.out.1
    have qA00 := A0_5.out.2 0 _ rfl
    have qA01 := A0_5.out.2 1 _ rfl
    have qA02 := A0_5.out.2 2 _ rfl
    have lA1 := A1_6.out.1
    have qA10 := A1_6.out.2 0 _ rfl
    have qA11 := A1_6.out.2 1 _ rfl
    have qA12 := A1_6.out.2 2 _ rfl
    have qA13 := A1_6.out.2 3 _ rfl
    try simp only [World.size_alloc] at lA0 lA1
    go_wp2_with fail
    refine (matrixOk_spec _ _ _ _ _ _ xs _ (HX.out.ext E_7.out) hm).mono ?_
    rintro e w_8 ⟨rfl, h_8⟩
    clear lA0 qA00 qA01 qA02 lA1 qA10 qA11 qA12 qA13
    have A0_9 := Lib.hid (A0_5.out.ext h_8)
    clear A0_5
    have A1_10 := Lib.hid (A1_6.out.ext h_8)
    clear A1_6
    have E_11 := Lib.hid (E_7.out.trans h_8)
    clear E_7
    rw [H1.out]
    have lA0 := A0_9.out.1
    have qA00 := A0_9.out.2 0 _ rfl
    have qA01 := A0_9.out.2 1 _ rfl
    have qA02 := A0_9.out.2 2 _ rfl
    have lA1 := A1_10.out.1
    have qA10 := A1_10.out.2 0 _ rfl
    have qA11 := A1_10.out.2 1 _ rfl
    have qA12 := A1_10.out.2 2 _ rfl
    have qA13 := A1_10.out.2 3 _ rfl
    try simp only [World.size_alloc] at lA0 lA1
    go_wp2
    go_ret
    exact ⟨ret_bool HF.out.symm, E_11.out⟩
  rcases h3 : (R == D) with _ | _
  · have HF : Hid (q = false) := by rw [Hid, HA.out, h0, h1, h2, h3]; simp
    clear h0 h1 HA
    go_enter Try.func66, Try.ntmps66
    have A0_1 := Lib.hid ((cells_new' w #[.int .i64 P, .int .i64 D, .slice (some ⟨a0, oa, none⟩) n n] 26 (w.heap.size) (by simp)).ext ((Ext.refl _).alloc (.cells #[.int .i64 P', .int .i64 R, .int .i64 C, .slice (some ⟨s0, so, none⟩) n1 n1] 36)))
    have A1_2 := Lib.hid (cells_new' (w.alloc (.cells #[.int .i64 P, .int .i64 D, .slice (some ⟨a0, oa, none⟩) n n] 26)) #[.int .i64 P', .int .i64 R, .int .i64 C, .slice (some ⟨s0, so, none⟩) n1 n1] 36 (w.heap.size + 1) (by simp))
    have E_3 := Lib.hid (((Ext.refl w).alloc (.cells #[.int .i64 P, .int .i64 D, .slice (some ⟨a0, oa, none⟩) n n] 26)).alloc (.cells #[.int .i64 P', .int .i64 R, .int .i64 C, .slice (some ⟨s0, so, none⟩) n1 n1] 36))
    have lA0 := A0_1.out.1
    have qA00 := A0_1.out.2 0 _ rfl
    have qA01 := A0_1.out.2 1 _ rfl
    have qA02 := A0_1.out.2 2 _ rfl
    have lA1 := A1_2.out.1
    have qA10 := A1_2.out.2 0 _ rfl
    have qA11 := A1_2.out.2 1 _ rfl
    have qA12 := A1_2.out.2 2 _ rfl
    have qA13 := A1_2.out.2 3 _ rfl
    try simp only [World.size_alloc] at lA0 lA1
    go_wp2_with fail
    refine (algebraOk_spec (HT.out.ext E_3.out) hm0 H0.out).mono ?_
    rintro e w_4 ⟨rfl, h_4⟩
    clear lA0 qA00 qA01 qA02 lA1 qA10 qA11 qA12 qA13
    have A0_5 := Lib.hid (A0_1.out.ext h_4)
    clear A0_1
    have A1_6 := Lib.hid (A1_2.out.ext h_4)
    clear A1_2
    have E_7 := Lib.hid (E_3.out.trans h_4)
    clear E_3
    have lA0 := A0_5.out.1
    have qA00 := A0_5.out.2 0 _ rfl
    have qA01 := A0_5.out.2 1 _ rfl
    have qA02 := A0_5.out.2 2 _ rfl
    have lA1 := A1_6.out.1
    have qA10 := A1_6.out.2 0 _ rfl
    have qA11 := A1_6.out.2 1 _ rfl
    have qA12 := A1_6.out.2 2 _ rfl
    have qA13 := A1_6.out.2 3 _ rfl
    try simp only [World.size_alloc] at lA0 lA1
    go_wp2_with fail
    refine (matrixOk_spec _ _ _ _ _ _ xs _ (HX.out.ext E_7.out) hm).mono ?_
    rintro e w_8 ⟨rfl, h_8⟩
    clear lA0 qA00 qA01 qA02 lA1 qA10 qA11 qA12 qA13
    have A0_9 := Lib.hid (A0_5.out.ext h_8)
    clear A0_5
    have A1_10 := Lib.hid (A1_6.out.ext h_8)
    clear A1_6
    have E_11 := Lib.hid (E_7.out.trans h_8)
    clear E_7
    rw [H1.out]
    have lA0 := A0_9.out.1
    have qA00 := A0_9.out.2 0 _ rfl
    have qA01 := A0_9.out.2 1 _ rfl
    have qA02 := A0_9.out.2 2 _ rfl
    have lA1 := A1_10.out.1
    have qA10 := A1_10.out.2 0 _ rfl
    have qA11 := A1_10.out.2 1 _ rfl
    have qA12 := A1_10.out.2 2 _ rfl
    have qA13 := A1_10.out.2 3 _ rfl
    try simp only [World.size_alloc] at lA0 lA1
    go_wp2
    go_ret
    exact ⟨ret_bool HF.out.symm, E_11.out⟩
  · have HF : Hid (q = (C == D)) := by rw [Hid, HA.out, h0, h1, h2, h3]; simp
    clear h0 h1 HA
    go_enter Try.func66, Try.ntmps66
    have A0_1 := Lib.hid ((cells_new' w #[.int .i64 P, .int .i64 D, .slice (some ⟨a0, oa, none⟩) n n] 26 (w.heap.size) (by simp)).ext ((Ext.refl _).alloc (.cells #[.int .i64 P', .int .i64 R, .int .i64 C, .slice (some ⟨s0, so, none⟩) n1 n1] 36)))
    have A1_2 := Lib.hid (cells_new' (w.alloc (.cells #[.int .i64 P, .int .i64 D, .slice (some ⟨a0, oa, none⟩) n n] 26)) #[.int .i64 P', .int .i64 R, .int .i64 C, .slice (some ⟨s0, so, none⟩) n1 n1] 36 (w.heap.size + 1) (by simp))
    have E_3 := Lib.hid (((Ext.refl w).alloc (.cells #[.int .i64 P, .int .i64 D, .slice (some ⟨a0, oa, none⟩) n n] 26)).alloc (.cells #[.int .i64 P', .int .i64 R, .int .i64 C, .slice (some ⟨s0, so, none⟩) n1 n1] 36))
    have lA0 := A0_1.out.1
    have qA00 := A0_1.out.2 0 _ rfl
    have qA01 := A0_1.out.2 1 _ rfl
    have qA02 := A0_1.out.2 2 _ rfl
    have lA1 := A1_2.out.1
    have qA10 := A1_2.out.2 0 _ rfl
    have qA11 := A1_2.out.2 1 _ rfl
    have qA12 := A1_2.out.2 2 _ rfl
    have qA13 := A1_2.out.2 3 _ rfl
    try simp only [World.size_alloc] at lA0 lA1
    go_wp2_with fail
    refine (algebraOk_spec (HT.out.ext E_3.out) hm0 H0.out).mono ?_
    rintro e w_4 ⟨rfl, h_4⟩
    clear lA0 qA00 qA01 qA02 lA1 qA10 qA11 qA12 qA13
    have A0_5 := Lib.hid (A0_1.out.ext h_4)
    clear A0_1
    have A1_6 := Lib.hid (A1_2.out.ext h_4)
    clear A1_2
    have E_7 := Lib.hid (E_3.out.trans h_4)
    clear E_3
    have lA0 := A0_5.out.1
    have qA00 := A0_5.out.2 0 _ rfl
    have qA01 := A0_5.out.2 1 _ rfl
    have qA02 := A0_5.out.2 2 _ rfl
    have lA1 := A1_6.out.1
    have qA10 := A1_6.out.2 0 _ rfl
    have qA11 := A1_6.out.2 1 _ rfl
    have qA12 := A1_6.out.2 2 _ rfl
    have qA13 := A1_6.out.2 3 _ rfl
    try simp only [World.size_alloc] at lA0 lA1
    go_wp2_with fail
    refine (matrixOk_spec _ _ _ _ _ _ xs _ (HX.out.ext E_7.out) hm).mono ?_
    rintro e w_8 ⟨rfl, h_8⟩
    clear lA0 qA00 qA01 qA02 lA1 qA10 qA11 qA12 qA13
    have A0_9 := Lib.hid (A0_5.out.ext h_8)
    clear A0_5
    have A1_10 := Lib.hid (A1_6.out.ext h_8)
    clear A1_6
    have E_11 := Lib.hid (E_7.out.trans h_8)
    clear E_7
    rw [H1.out]
    have lA0 := A0_9.out.1
    have qA00 := A0_9.out.2 0 _ rfl
    have qA01 := A0_9.out.2 1 _ rfl
    have qA02 := A0_9.out.2 2 _ rfl
    have lA1 := A1_10.out.1
    have qA10 := A1_10.out.2 0 _ rfl
    have qA11 := A1_10.out.2 1 _ rfl
    have qA12 := A1_10.out.2 2 _ rfl
    have qA13 := A1_10.out.2 3 _ rfl
    try simp only [World.size_alloc] at lA0 lA1
    go_wp2
    go_ret
    exact ⟨by rw [HF.out]; rfl, E_11.out⟩
theorem kerL_len2 (P : Int) (R C : Nat) (xs : List Int) : (kerL P R C xs).length = nullN P R C xs * C := kerTo_length C

set_option maxRecDepth 100000 in
set_option maxHeartbeats 6400000 in
theorem orthogonalOf_impl {P D : Int} {a0 oa n : Nat} {l : List Int} {P1 R1 C1 : Int} {s0 so n1 : Nat} {fs : List Int} {P2 R2 C2 : Int} {t0 tq n2 : Nat} {ss : List Int} {w : World} {p r' c : Int} {d : List Int} {ok : Bool} (hT : Reads w (some ⟨a0, oa, none⟩) n l) (hm0 : n ≤ 1048576) (hS : Reads w (some ⟨s0, so, none⟩) n1 fs) (hm1 : n1 ≤ 1048576) (hTs : Reads w (some ⟨t0, tq, none⟩) n2 ss) (hm2 : n2 ≤ 1048576) (hM : orthM P D l P1 R1 C1 fs P2 R2 C2 ss = (⟨p, r', c, d⟩, ok)) :
    Calls Try.prog 32 #[.agg #[.int .i64 P, .int .i64 D, .slice (some ⟨a0, oa, none⟩) n n], .agg #[.int .i64 P1, .int .i64 R1, .int .i64 C1, .slice (some ⟨s0, so, none⟩) n1 n1], .agg #[.int .i64 P2, .int .i64 R2, .int .i64 C2, .slice (some ⟨t0, tq, none⟩) n2 n2]] w fun e w' => ∃ v, e = .returned (.tuple #[v, .bool ok]) ∧ Rmat w w' v p r' c d ∧ Ext w w' := by
  have HT := Lib.hid hT
  have HS := Lib.hid hS
  have HTS := Lib.hid hTs
  have hm3 : n1 ≤ maxLen := by unfold maxLen; omega
  rcases h0 : algB P D l with _ | _
  · simp only [orthM, h0, noMat, Bool.false_and, Bool.and_false, Bool.false_eq_true, if_false, Prod.mk.injEq, Mat.mk.injEq] at hM
    obtain ⟨⟨rfl, rfl, rfl, rfl⟩, rfl⟩ := hM
    have H0 := Lib.hid h0
    clear h0 hT hS hTs
    go_enter Try.func32, Try.ntmps32
    have A0_1 := Lib.hid ((((cells_new' w #[.int .i64 P, .int .i64 D, .slice (some ⟨a0, oa, none⟩) n n] 26 (w.heap.size) (by simp)).ext ((Ext.refl _).alloc (.cells #[.int .i64 P1, .int .i64 R1, .int .i64 C1, .slice (some ⟨s0, so, none⟩) n1 n1] 36))).ext ((Ext.refl _).alloc (.cells #[.int .i64 P2, .int .i64 R2, .int .i64 C2, .slice (some ⟨t0, tq, none⟩) n2 n2] 36))).ext ((Ext.refl _).alloc (.cells #[.int .i64 0, .int .i64 0, .int .i64 0, .slice none 0 0] 36)))
    have A1_2 := Lib.hid (((cells_new' (w.alloc (.cells #[.int .i64 P, .int .i64 D, .slice (some ⟨a0, oa, none⟩) n n] 26)) #[.int .i64 P1, .int .i64 R1, .int .i64 C1, .slice (some ⟨s0, so, none⟩) n1 n1] 36 (w.heap.size + 1) (by simp)).ext ((Ext.refl _).alloc (.cells #[.int .i64 P2, .int .i64 R2, .int .i64 C2, .slice (some ⟨t0, tq, none⟩) n2 n2] 36))).ext ((Ext.refl _).alloc (.cells #[.int .i64 0, .int .i64 0, .int .i64 0, .slice none 0 0] 36)))
    have A2_3 := Lib.hid ((cells_new' ((w.alloc (.cells #[.int .i64 P, .int .i64 D, .slice (some ⟨a0, oa, none⟩) n n] 26)).alloc (.cells #[.int .i64 P1, .int .i64 R1, .int .i64 C1, .slice (some ⟨s0, so, none⟩) n1 n1] 36)) #[.int .i64 P2, .int .i64 R2, .int .i64 C2, .slice (some ⟨t0, tq, none⟩) n2 n2] 36 (w.heap.size + 1 + 1) (by simp)).ext ((Ext.refl _).alloc (.cells #[.int .i64 0, .int .i64 0, .int .i64 0, .slice none 0 0] 36)))
    have R_4 := Lib.hid (cells_new' (((w.alloc (.cells #[.int .i64 P, .int .i64 D, .slice (some ⟨a0, oa, none⟩) n n] 26)).alloc (.cells #[.int .i64 P1, .int .i64 R1, .int .i64 C1, .slice (some ⟨s0, so, none⟩) n1 n1] 36)).alloc (.cells #[.int .i64 P2, .int .i64 R2, .int .i64 C2, .slice (some ⟨t0, tq, none⟩) n2 n2] 36)) #[.int .i64 0, .int .i64 0, .int .i64 0, .slice none 0 0] 36 (w.heap.size + 1 + 1 + 1) (by simp))
    have E_5 := Lib.hid (((((Ext.refl w).alloc (.cells #[.int .i64 P, .int .i64 D, .slice (some ⟨a0, oa, none⟩) n n] 26)).alloc (.cells #[.int .i64 P1, .int .i64 R1, .int .i64 C1, .slice (some ⟨s0, so, none⟩) n1 n1] 36)).alloc (.cells #[.int .i64 P2, .int .i64 R2, .int .i64 C2, .slice (some ⟨t0, tq, none⟩) n2 n2] 36)).alloc (.cells #[.int .i64 0, .int .i64 0, .int .i64 0, .slice none 0 0] 36))
    have lA0 := A0_1.out.1
    have qA00 := A0_1.out.2 0 _ rfl
    have qA01 := A0_1.out.2 1 _ rfl
    have qA02 := A0_1.out.2 2 _ rfl
    have lA1 := A1_2.out.1
    have qA10 := A1_2.out.2 0 _ rfl
    have qA11 := A1_2.out.2 1 _ rfl
    have qA12 := A1_2.out.2 2 _ rfl
    have qA13 := A1_2.out.2 3 _ rfl
    have lA2 := A2_3.out.1
    have qA20 := A2_3.out.2 0 _ rfl
    have qA21 := A2_3.out.2 1 _ rfl
    have qA22 := A2_3.out.2 2 _ rfl
    have qA23 := A2_3.out.2 3 _ rfl
    try simp only [World.size_alloc] at lA0 lA1 lA2
    go_wp2_with fail
    refine (wrap_impl P _ a0 oa n n l _ (HT.out.ext E_5.out) hm0 (Nat.le_refl _) (by unfold maxLen; omega)).mono ?_
    rintro e w_6 ⟨B, rfl, hb, hlo, h_6⟩
    clear lA0 qA00 qA01 qA02 lA1 qA10 qA11 qA12 qA13 lA2 qA20 qA21 qA22 qA23
    have A0_7 := Lib.hid (A0_1.out.ext h_6)
    clear A0_1
    have A1_8 := Lib.hid (A1_2.out.ext h_6)
    clear A1_2
    have A2_9 := Lib.hid (A2_3.out.ext h_6)
    clear A2_3
    have R_10 := Lib.hid (R_4.out.ext h_6)
    clear R_4
    have E_11 := Lib.hid (E_5.out.trans h_6)
    clear E_5
    have B_12 := Lib.hid hb
    clear hb
    rw [H0.out]
    have lA0 := A0_7.out.1
    have qA00 := A0_7.out.2 0 _ rfl
    have qA01 := A0_7.out.2 1 _ rfl
    have qA02 := A0_7.out.2 2 _ rfl
    have lA1 := A1_8.out.1
    have qA10 := A1_8.out.2 0 _ rfl
    have qA11 := A1_8.out.2 1 _ rfl
    have qA12 := A1_8.out.2 2 _ rfl
    have qA13 := A1_8.out.2 3 _ rfl
    have lA2 := A2_9.out.1
    have qA20 := A2_9.out.2 0 _ rfl
    have qA21 := A2_9.out.2 1 _ rfl
    have qA22 := A2_9.out.2 2 _ rfl
    have qA23 := A2_9.out.2 3 _ rfl
    try simp only [World.size_alloc] at lA0 lA1 lA2
    have r0 := R_10.out.2 0 _ rfl
    have r1 := R_10.out.2 1 _ rfl
    have r2 := R_10.out.2 2 _ rfl
    have r3 := R_10.out.2 3 _ rfl
    have tR := R_10.out.3
    have lR := R_10.out.1
    go_wp2
    refine bodyPost_ret (v := .tuple #[.agg #[.int .i64 0, .int .i64 0, .int .i64 0, .slice none 0 0], .bool false]) (by simp [results, Try.results32, go_sem, r0, r1, r2, r3]) rfl ⟨_, rfl, ⟨_, _, _, rfl, own_nil _ _ _, by omega⟩, ext4 E_11.out (by omega) _ _ _ _⟩
  have H0 := Lib.hid h0
  rcases h1 : formB P D P1 R1 C1 fs with _ | _
  · simp only [orthM, h0, h1, noMat, Bool.false_and, Bool.and_false, Bool.false_eq_true, if_false, Prod.mk.injEq, Mat.mk.injEq] at hM
    obtain ⟨⟨rfl, rfl, rfl, rfl⟩, rfl⟩ := hM
    have H1 := Lib.hid h1
    clear h0 h1 hT hS hTs
    go_enter Try.func32, Try.ntmps32
    have A0_1 := Lib.hid ((((cells_new' w #[.int .i64 P, .int .i64 D, .slice (some ⟨a0, oa, none⟩) n n] 26 (w.heap.size) (by simp)).ext ((Ext.refl _).alloc (.cells #[.int .i64 P1, .int .i64 R1, .int .i64 C1, .slice (some ⟨s0, so, none⟩) n1 n1] 36))).ext ((Ext.refl _).alloc (.cells #[.int .i64 P2, .int .i64 R2, .int .i64 C2, .slice (some ⟨t0, tq, none⟩) n2 n2] 36))).ext ((Ext.refl _).alloc (.cells #[.int .i64 0, .int .i64 0, .int .i64 0, .slice none 0 0] 36)))
    have A1_2 := Lib.hid (((cells_new' (w.alloc (.cells #[.int .i64 P, .int .i64 D, .slice (some ⟨a0, oa, none⟩) n n] 26)) #[.int .i64 P1, .int .i64 R1, .int .i64 C1, .slice (some ⟨s0, so, none⟩) n1 n1] 36 (w.heap.size + 1) (by simp)).ext ((Ext.refl _).alloc (.cells #[.int .i64 P2, .int .i64 R2, .int .i64 C2, .slice (some ⟨t0, tq, none⟩) n2 n2] 36))).ext ((Ext.refl _).alloc (.cells #[.int .i64 0, .int .i64 0, .int .i64 0, .slice none 0 0] 36)))
    have A2_3 := Lib.hid ((cells_new' ((w.alloc (.cells #[.int .i64 P, .int .i64 D, .slice (some ⟨a0, oa, none⟩) n n] 26)).alloc (.cells #[.int .i64 P1, .int .i64 R1, .int .i64 C1, .slice (some ⟨s0, so, none⟩) n1 n1] 36)) #[.int .i64 P2, .int .i64 R2, .int .i64 C2, .slice (some ⟨t0, tq, none⟩) n2 n2] 36 (w.heap.size + 1 + 1) (by simp)).ext ((Ext.refl _).alloc (.cells #[.int .i64 0, .int .i64 0, .int .i64 0, .slice none 0 0] 36)))
    have R_4 := Lib.hid (cells_new' (((w.alloc (.cells #[.int .i64 P, .int .i64 D, .slice (some ⟨a0, oa, none⟩) n n] 26)).alloc (.cells #[.int .i64 P1, .int .i64 R1, .int .i64 C1, .slice (some ⟨s0, so, none⟩) n1 n1] 36)).alloc (.cells #[.int .i64 P2, .int .i64 R2, .int .i64 C2, .slice (some ⟨t0, tq, none⟩) n2 n2] 36)) #[.int .i64 0, .int .i64 0, .int .i64 0, .slice none 0 0] 36 (w.heap.size + 1 + 1 + 1) (by simp))
    have E_5 := Lib.hid (((((Ext.refl w).alloc (.cells #[.int .i64 P, .int .i64 D, .slice (some ⟨a0, oa, none⟩) n n] 26)).alloc (.cells #[.int .i64 P1, .int .i64 R1, .int .i64 C1, .slice (some ⟨s0, so, none⟩) n1 n1] 36)).alloc (.cells #[.int .i64 P2, .int .i64 R2, .int .i64 C2, .slice (some ⟨t0, tq, none⟩) n2 n2] 36)).alloc (.cells #[.int .i64 0, .int .i64 0, .int .i64 0, .slice none 0 0] 36))
    have lA0 := A0_1.out.1
    have qA00 := A0_1.out.2 0 _ rfl
    have qA01 := A0_1.out.2 1 _ rfl
    have qA02 := A0_1.out.2 2 _ rfl
    have lA1 := A1_2.out.1
    have qA10 := A1_2.out.2 0 _ rfl
    have qA11 := A1_2.out.2 1 _ rfl
    have qA12 := A1_2.out.2 2 _ rfl
    have qA13 := A1_2.out.2 3 _ rfl
    have lA2 := A2_3.out.1
    have qA20 := A2_3.out.2 0 _ rfl
    have qA21 := A2_3.out.2 1 _ rfl
    have qA22 := A2_3.out.2 2 _ rfl
    have qA23 := A2_3.out.2 3 _ rfl
    try simp only [World.size_alloc] at lA0 lA1 lA2
    go_wp2_with fail
    refine (wrap_impl P _ a0 oa n n l _ (HT.out.ext E_5.out) hm0 (Nat.le_refl _) (by unfold maxLen; omega)).mono ?_
    rintro e w_6 ⟨B, rfl, hb, hlo, h_6⟩
    clear lA0 qA00 qA01 qA02 lA1 qA10 qA11 qA12 qA13 lA2 qA20 qA21 qA22 qA23
    have A0_7 := Lib.hid (A0_1.out.ext h_6)
    clear A0_1
    have A1_8 := Lib.hid (A1_2.out.ext h_6)
    clear A1_2
    have A2_9 := Lib.hid (A2_3.out.ext h_6)
    clear A2_3
    have R_10 := Lib.hid (R_4.out.ext h_6)
    clear R_4
    have E_11 := Lib.hid (E_5.out.trans h_6)
    clear E_5
    have B_12 := Lib.hid hb
    clear hb
    rw [H0.out]
    have lA0 := A0_7.out.1
    have qA00 := A0_7.out.2 0 _ rfl
    have qA01 := A0_7.out.2 1 _ rfl
    have qA02 := A0_7.out.2 2 _ rfl
    have lA1 := A1_8.out.1
    have qA10 := A1_8.out.2 0 _ rfl
    have qA11 := A1_8.out.2 1 _ rfl
    have qA12 := A1_8.out.2 2 _ rfl
    have qA13 := A1_8.out.2 3 _ rfl
    have lA2 := A2_9.out.1
    have qA20 := A2_9.out.2 0 _ rfl
    have qA21 := A2_9.out.2 1 _ rfl
    have qA22 := A2_9.out.2 2 _ rfl
    have qA23 := A2_9.out.2 3 _ rfl
    try simp only [World.size_alloc] at lA0 lA1 lA2
    go_wp2_with fail
    refine (hasSquare_impl P _ _ _ _ B s0 so n1 _ fs _ B_12.out (HS.out.ext E_11.out) hm3).mono ?_
    rintro e w_13 ⟨rfl, h_13⟩
    clear lA0 qA00 qA01 qA02 lA1 qA10 qA11 qA12 qA13 lA2 qA20 qA21 qA22 qA23
    have A0_14 := Lib.hid (A0_7.out.ext h_13)
    clear A0_7
    have A1_15 := Lib.hid (A1_8.out.ext h_13)
    clear A1_8
    have A2_16 := Lib.hid (A2_9.out.ext h_13)
    clear A2_9
    have R_17 := Lib.hid (R_10.out.ext h_13)
    clear R_10
    have B_18 := Lib.hid (B_12.out.ext h_13)
    clear B_12
    have E_19 := Lib.hid (E_11.out.trans h_13)
    clear E_11
    rw [H1.out]
    have lA0 := A0_14.out.1
    have qA00 := A0_14.out.2 0 _ rfl
    have qA01 := A0_14.out.2 1 _ rfl
    have qA02 := A0_14.out.2 2 _ rfl
    have lA1 := A1_15.out.1
    have qA10 := A1_15.out.2 0 _ rfl
    have qA11 := A1_15.out.2 1 _ rfl
    have qA12 := A1_15.out.2 2 _ rfl
    have qA13 := A1_15.out.2 3 _ rfl
    have lA2 := A2_16.out.1
    have qA20 := A2_16.out.2 0 _ rfl
    have qA21 := A2_16.out.2 1 _ rfl
    have qA22 := A2_16.out.2 2 _ rfl
    have qA23 := A2_16.out.2 3 _ rfl
    try simp only [World.size_alloc] at lA0 lA1 lA2
    have r0 := R_17.out.2 0 _ rfl
    have r1 := R_17.out.2 1 _ rfl
    have r2 := R_17.out.2 2 _ rfl
    have r3 := R_17.out.2 3 _ rfl
    have tR := R_17.out.3
    have lR := R_17.out.1
    go_wp2
    refine bodyPost_ret (v := .tuple #[.agg #[.int .i64 0, .int .i64 0, .int .i64 0, .slice none 0 0], .bool false]) (by simp [results, Try.results32, go_sem, r0, r1, r2, r3]) rfl ⟨_, rfl, ⟨_, _, _, rfl, own_nil _ _ _, by omega⟩, ext4 E_19.out (by omega) _ _ _ _⟩
  have H1 := Lib.hid h1
  rcases h2 : hsB P D P2 R2 C2 ss with _ | _
  · simp only [orthM, h0, h1, h2, noMat, Bool.false_and, Bool.and_false, Bool.false_eq_true, if_false, Prod.mk.injEq, Mat.mk.injEq] at hM
    obtain ⟨⟨rfl, rfl, rfl, rfl⟩, rfl⟩ := hM
    have H2 := Lib.hid h2
    clear h0 h1 h2 hT hS hTs
    go_enter Try.func32, Try.ntmps32
    have A0_1 := Lib.hid ((((cells_new' w #[.int .i64 P, .int .i64 D, .slice (some ⟨a0, oa, none⟩) n n] 26 (w.heap.size) (by simp)).ext ((Ext.refl _).alloc (.cells #[.int .i64 P1, .int .i64 R1, .int .i64 C1, .slice (some ⟨s0, so, none⟩) n1 n1] 36))).ext ((Ext.refl _).alloc (.cells #[.int .i64 P2, .int .i64 R2, .int .i64 C2, .slice (some ⟨t0, tq, none⟩) n2 n2] 36))).ext ((Ext.refl _).alloc (.cells #[.int .i64 0, .int .i64 0, .int .i64 0, .slice none 0 0] 36)))
    have A1_2 := Lib.hid (((cells_new' (w.alloc (.cells #[.int .i64 P, .int .i64 D, .slice (some ⟨a0, oa, none⟩) n n] 26)) #[.int .i64 P1, .int .i64 R1, .int .i64 C1, .slice (some ⟨s0, so, none⟩) n1 n1] 36 (w.heap.size + 1) (by simp)).ext ((Ext.refl _).alloc (.cells #[.int .i64 P2, .int .i64 R2, .int .i64 C2, .slice (some ⟨t0, tq, none⟩) n2 n2] 36))).ext ((Ext.refl _).alloc (.cells #[.int .i64 0, .int .i64 0, .int .i64 0, .slice none 0 0] 36)))
    have A2_3 := Lib.hid ((cells_new' ((w.alloc (.cells #[.int .i64 P, .int .i64 D, .slice (some ⟨a0, oa, none⟩) n n] 26)).alloc (.cells #[.int .i64 P1, .int .i64 R1, .int .i64 C1, .slice (some ⟨s0, so, none⟩) n1 n1] 36)) #[.int .i64 P2, .int .i64 R2, .int .i64 C2, .slice (some ⟨t0, tq, none⟩) n2 n2] 36 (w.heap.size + 1 + 1) (by simp)).ext ((Ext.refl _).alloc (.cells #[.int .i64 0, .int .i64 0, .int .i64 0, .slice none 0 0] 36)))
    have R_4 := Lib.hid (cells_new' (((w.alloc (.cells #[.int .i64 P, .int .i64 D, .slice (some ⟨a0, oa, none⟩) n n] 26)).alloc (.cells #[.int .i64 P1, .int .i64 R1, .int .i64 C1, .slice (some ⟨s0, so, none⟩) n1 n1] 36)).alloc (.cells #[.int .i64 P2, .int .i64 R2, .int .i64 C2, .slice (some ⟨t0, tq, none⟩) n2 n2] 36)) #[.int .i64 0, .int .i64 0, .int .i64 0, .slice none 0 0] 36 (w.heap.size + 1 + 1 + 1) (by simp))
    have E_5 := Lib.hid (((((Ext.refl w).alloc (.cells #[.int .i64 P, .int .i64 D, .slice (some ⟨a0, oa, none⟩) n n] 26)).alloc (.cells #[.int .i64 P1, .int .i64 R1, .int .i64 C1, .slice (some ⟨s0, so, none⟩) n1 n1] 36)).alloc (.cells #[.int .i64 P2, .int .i64 R2, .int .i64 C2, .slice (some ⟨t0, tq, none⟩) n2 n2] 36)).alloc (.cells #[.int .i64 0, .int .i64 0, .int .i64 0, .slice none 0 0] 36))
    have lA0 := A0_1.out.1
    have qA00 := A0_1.out.2 0 _ rfl
    have qA01 := A0_1.out.2 1 _ rfl
    have qA02 := A0_1.out.2 2 _ rfl
    have lA1 := A1_2.out.1
    have qA10 := A1_2.out.2 0 _ rfl
    have qA11 := A1_2.out.2 1 _ rfl
    have qA12 := A1_2.out.2 2 _ rfl
    have qA13 := A1_2.out.2 3 _ rfl
    have lA2 := A2_3.out.1
    have qA20 := A2_3.out.2 0 _ rfl
    have qA21 := A2_3.out.2 1 _ rfl
    have qA22 := A2_3.out.2 2 _ rfl
    have qA23 := A2_3.out.2 3 _ rfl
    try simp only [World.size_alloc] at lA0 lA1 lA2
    go_wp2_with fail
    refine (wrap_impl P _ a0 oa n n l _ (HT.out.ext E_5.out) hm0 (Nat.le_refl _) (by unfold maxLen; omega)).mono ?_
    rintro e w_6 ⟨B, rfl, hb, hlo, h_6⟩
    clear lA0 qA00 qA01 qA02 lA1 qA10 qA11 qA12 qA13 lA2 qA20 qA21 qA22 qA23
    have A0_7 := Lib.hid (A0_1.out.ext h_6)
    clear A0_1
    have A1_8 := Lib.hid (A1_2.out.ext h_6)
    clear A1_2
    have A2_9 := Lib.hid (A2_3.out.ext h_6)
    clear A2_3
    have R_10 := Lib.hid (R_4.out.ext h_6)
    clear R_4
    have E_11 := Lib.hid (E_5.out.trans h_6)
    clear E_5
    have B_12 := Lib.hid hb
    clear hb
    rw [H0.out]
    have lA0 := A0_7.out.1
    have qA00 := A0_7.out.2 0 _ rfl
    have qA01 := A0_7.out.2 1 _ rfl
    have qA02 := A0_7.out.2 2 _ rfl
    have lA1 := A1_8.out.1
    have qA10 := A1_8.out.2 0 _ rfl
    have qA11 := A1_8.out.2 1 _ rfl
    have qA12 := A1_8.out.2 2 _ rfl
    have qA13 := A1_8.out.2 3 _ rfl
    have lA2 := A2_9.out.1
    have qA20 := A2_9.out.2 0 _ rfl
    have qA21 := A2_9.out.2 1 _ rfl
    have qA22 := A2_9.out.2 2 _ rfl
    have qA23 := A2_9.out.2 3 _ rfl
    try simp only [World.size_alloc] at lA0 lA1 lA2
    go_wp2_with fail
    refine (hasSquare_impl P _ _ _ _ B s0 so n1 _ fs _ B_12.out (HS.out.ext E_11.out) hm3).mono ?_
    rintro e w_13 ⟨rfl, h_13⟩
    clear lA0 qA00 qA01 qA02 lA1 qA10 qA11 qA12 qA13 lA2 qA20 qA21 qA22 qA23
    have A0_14 := Lib.hid (A0_7.out.ext h_13)
    clear A0_7
    have A1_15 := Lib.hid (A1_8.out.ext h_13)
    clear A1_8
    have A2_16 := Lib.hid (A2_9.out.ext h_13)
    clear A2_9
    have R_17 := Lib.hid (R_10.out.ext h_13)
    clear R_10
    have B_18 := Lib.hid (B_12.out.ext h_13)
    clear B_12
    have E_19 := Lib.hid (E_11.out.trans h_13)
    clear E_11
    rw [H1.out]
    have lA0 := A0_14.out.1
    have qA00 := A0_14.out.2 0 _ rfl
    have qA01 := A0_14.out.2 1 _ rfl
    have qA02 := A0_14.out.2 2 _ rfl
    have lA1 := A1_15.out.1
    have qA10 := A1_15.out.2 0 _ rfl
    have qA11 := A1_15.out.2 1 _ rfl
    have qA12 := A1_15.out.2 2 _ rfl
    have qA13 := A1_15.out.2 3 _ rfl
    have lA2 := A2_16.out.1
    have qA20 := A2_16.out.2 0 _ rfl
    have qA21 := A2_16.out.2 1 _ rfl
    have qA22 := A2_16.out.2 2 _ rfl
    have qA23 := A2_16.out.2 3 _ rfl
    try simp only [World.size_alloc] at lA0 lA1 lA2
    go_wp2_with fail
    refine (hasSubspace_impl P _ _ _ _ B t0 tq n2 _ ss _ B_18.out (HTS.out.ext E_19.out) hm2).mono ?_
    rintro e w_20 ⟨rfl, h_20⟩
    clear lA0 qA00 qA01 qA02 lA1 qA10 qA11 qA12 qA13 lA2 qA20 qA21 qA22 qA23
    have A0_21 := Lib.hid (A0_14.out.ext h_20)
    clear A0_14
    have A1_22 := Lib.hid (A1_15.out.ext h_20)
    clear A1_15
    have A2_23 := Lib.hid (A2_16.out.ext h_20)
    clear A2_16
    have R_24 := Lib.hid (R_17.out.ext h_20)
    clear R_17
    have B_25 := Lib.hid (B_18.out.ext h_20)
    clear B_18
    have E_26 := Lib.hid (E_19.out.trans h_20)
    clear E_19
    rw [H2.out]
    have lA0 := A0_21.out.1
    have qA00 := A0_21.out.2 0 _ rfl
    have qA01 := A0_21.out.2 1 _ rfl
    have qA02 := A0_21.out.2 2 _ rfl
    have lA1 := A1_22.out.1
    have qA10 := A1_22.out.2 0 _ rfl
    have qA11 := A1_22.out.2 1 _ rfl
    have qA12 := A1_22.out.2 2 _ rfl
    have qA13 := A1_22.out.2 3 _ rfl
    have lA2 := A2_23.out.1
    have qA20 := A2_23.out.2 0 _ rfl
    have qA21 := A2_23.out.2 1 _ rfl
    have qA22 := A2_23.out.2 2 _ rfl
    have qA23 := A2_23.out.2 3 _ rfl
    try simp only [World.size_alloc] at lA0 lA1 lA2
    have r0 := R_24.out.2 0 _ rfl
    have r1 := R_24.out.2 1 _ rfl
    have r2 := R_24.out.2 2 _ rfl
    have r3 := R_24.out.2 3 _ rfl
    have tR := R_24.out.3
    have lR := R_24.out.1
    go_wp2
    refine bodyPost_ret (v := .tuple #[.agg #[.int .i64 0, .int .i64 0, .int .i64 0, .slice none 0 0], .bool false]) (by simp [results, Try.results32, go_sem, r0, r1, r2, r3]) rfl ⟨_, rfl, ⟨_, _, _, rfl, own_nil _ _ _, by omega⟩, ext4 E_26.out (by omega) _ _ _ _⟩
  have H2 := Lib.hid h2
  have hz0 := h0
  have hz1 := h1
  have hz2 := h2
  simp only [orthM, hz0, hz1, hz2, Bool.and_self, if_true, Prod.mk.injEq, Mat.mk.injEq] at hM
  obtain ⟨⟨rfl, rfl, rfl, rfl⟩, rfl⟩ := hM
  obtain ⟨D, rfl, hA⟩ := algB_parts hz0 hT.1
  obtain ⟨rfl, rfl, rfl, hn1, hx1⟩ := formB_parts hz1 hS.1
  obtain ⟨r, rfl, rfl, rfl, hr, hn2, hx2⟩ := hsB_parts hz2 hTs.1
  simp only [Int.toNat_natCast]
  have HPR := Lib.hid hA.pr
  have hp := isP_lo hA.pr
  have hp2 := isP_hi hA.pr
  have hD := hA.dim
  have h27 : r * D ≤ 784 := Nat.mul_le_mul (show r ≤ 28 by omega) hD
  have h28 : D * r ≤ 784 := Nat.mul_le_mul hD (show r ≤ 28 by omega)
  have h29 : D * D ≤ 784 := Nat.mul_le_mul hD hD
  have hol : (orthL P2 D r fs ss).length = r * D := mulTo_length ..
  have hox : Res (orthL P2 D r fs ss) P2 := mulTo_res _ (by omega) _ _ _ _ _ _
  have HKB : Hid (kerN P2 r D (orthL P2 D r fs ss) * D ≤ 1048576) := by
    have h1 := (redTo_pv (P := P2) (R := nullN P2 r D (orthL P2 D r fs ss)) (C := D) (xs := kerL P2 r D (orthL P2 D r fs ss)) D).1
    have h2 : kerN P2 r D (orthL P2 D r fs ss) ≤ D := h1
    exact Nat.le_trans (Nat.mul_le_mul h2 (Nat.le_refl D)) (by omega)
  have cT : ∀ w1, Ext w w1 → Calls Try.prog 73 #[.agg #[.int .i64 P2, .int .i64 D, .int .i64 D, .slice (some ⟨s0, so, none⟩) n1 n1]] w1 (fun e w' => ∃ b, e = .returned (.agg #[.int .i64 P2, .int .i64 D, .int .i64 D, .slice (some ⟨b, 0, none⟩) (D * D) (D * D)]) ∧ w1.heap.size ≤ b ∧ b < w'.heap.size ∧ Has w' b (transTo fs D D D) ∧ Ext w1 w') := fun w1 h => transpose_impl P2 D D s0 so n1 n1 fs w1 (hS.ext h) hn1 hm1 (by omega) (by omega) (Nat.le_refl _) hm3
  have cM : ∀ w1 b1, Ext w w1 → Has w1 b1 (transTo fs D D D) → Calls Try.prog 72 #[.agg #[.int .i64 P2, .int .i64 r, .int .i64 D, .slice (some ⟨t0, tq, none⟩) n2 n2], .agg #[.int .i64 P2, .int .i64 D, .int .i64 D, .slice (some ⟨b1, 0, none⟩) (D * D) (D * D)]] w1 (fun e w' => ∃ b, e = .returned (.agg #[.int .i64 P2, .int .i64 r, .int .i64 D, .slice (some ⟨b, 0, none⟩) (r * D) (r * D)]) ∧ w1.heap.size ≤ b ∧ b < w'.heap.size ∧ Has w' b (orthL P2 D r fs ss) ∧ Ext w1 w') := fun w1 b1 h k => product_impl P2 r D D t0 tq b1 0 n2 (D * D) ss (transTo fs D D D) w1 (hTs.ext h) (k.reads (transTo_length _ _ _ _)) hn2 rfl (by omega) (by omega) (by omega) hp hp2 hx2 (transTo_res hp hx1 _)
  have cK : ∀ w1 b1, Has w1 b1 (orthL P2 D r fs ss) → Calls Try.prog 71 #[.agg #[.int .i64 P2, .int .i64 r, .int .i64 D, .slice (some ⟨b1, 0, none⟩) (r * D) (r * D)]] w1 (fun e w' => ∃ b c', e = .returned (.agg #[.int .i64 P2, .int .i64 (kerN P2 r D (orthL P2 D r fs ss) : Nat), .int .i64 D, .slice (some ⟨b, 0, none⟩) (kerN P2 r D (orthL P2 D r fs ss) * D) c']) ∧ w1.heap.size ≤ b ∧ b < w'.heap.size ∧ Has w' b (kerS P2 r D (orthL P2 D r fs ss)) ∧ Ext w1 w') := fun w1 b1 k => by
    refine (kernel_impl P2 r D (r * D) (r * D) (some ⟨b1, 0, none⟩) (orthL P2 D r fs ss) w1 (k.reads hol) rfl (by omega) (by omega) (by omega) hp hp2 hox).mono ?_
    rintro e w' ⟨b, rfl, g1, g2, g3, g4⟩
    exact ⟨b, _, rfl, g1, g2, g3, g4⟩
  have HKL : Hid ((kerS P2 r D (orthL P2 D r fs ss)).length = kerN P2 r D (orthL P2 D r fs ss) * D) := spanL_length (kerL_len2 _ _ _ _)
  clear hT hS hTs hA hx1 hx2 hn1 hn2 hol hox hz0 hz1 hz2 h0 h1 h2
  generalize kerN P2 r D (orthL P2 D r fs ss) = K at *
  generalize kerS P2 r D (orthL P2 D r fs ss) = KS at *
  generalize orthL P2 D r fs ss = OL at *
  go_enter Try.func32, Try.ntmps32
  have A0_1 := Lib.hid ((((cells_new' w #[.int .i64 P2, .int .i64 D, .slice (some ⟨a0, oa, none⟩) n n] 26 (w.heap.size) (by simp)).ext ((Ext.refl _).alloc (.cells #[.int .i64 P2, .int .i64 D, .int .i64 D, .slice (some ⟨s0, so, none⟩) n1 n1] 36))).ext ((Ext.refl _).alloc (.cells #[.int .i64 P2, .int .i64 r, .int .i64 D, .slice (some ⟨t0, tq, none⟩) n2 n2] 36))).ext ((Ext.refl _).alloc (.cells #[.int .i64 0, .int .i64 0, .int .i64 0, .slice none 0 0] 36)))
  have A1_2 := Lib.hid (((cells_new' (w.alloc (.cells #[.int .i64 P2, .int .i64 D, .slice (some ⟨a0, oa, none⟩) n n] 26)) #[.int .i64 P2, .int .i64 D, .int .i64 D, .slice (some ⟨s0, so, none⟩) n1 n1] 36 (w.heap.size + 1) (by simp)).ext ((Ext.refl _).alloc (.cells #[.int .i64 P2, .int .i64 r, .int .i64 D, .slice (some ⟨t0, tq, none⟩) n2 n2] 36))).ext ((Ext.refl _).alloc (.cells #[.int .i64 0, .int .i64 0, .int .i64 0, .slice none 0 0] 36)))
  have A2_3 := Lib.hid ((cells_new' ((w.alloc (.cells #[.int .i64 P2, .int .i64 D, .slice (some ⟨a0, oa, none⟩) n n] 26)).alloc (.cells #[.int .i64 P2, .int .i64 D, .int .i64 D, .slice (some ⟨s0, so, none⟩) n1 n1] 36)) #[.int .i64 P2, .int .i64 r, .int .i64 D, .slice (some ⟨t0, tq, none⟩) n2 n2] 36 (w.heap.size + 1 + 1) (by simp)).ext ((Ext.refl _).alloc (.cells #[.int .i64 0, .int .i64 0, .int .i64 0, .slice none 0 0] 36)))
  have R_4 := Lib.hid (cells_new' (((w.alloc (.cells #[.int .i64 P2, .int .i64 D, .slice (some ⟨a0, oa, none⟩) n n] 26)).alloc (.cells #[.int .i64 P2, .int .i64 D, .int .i64 D, .slice (some ⟨s0, so, none⟩) n1 n1] 36)).alloc (.cells #[.int .i64 P2, .int .i64 r, .int .i64 D, .slice (some ⟨t0, tq, none⟩) n2 n2] 36)) #[.int .i64 0, .int .i64 0, .int .i64 0, .slice none 0 0] 36 (w.heap.size + 1 + 1 + 1) (by simp))
  have E_5 := Lib.hid (((((Ext.refl w).alloc (.cells #[.int .i64 P2, .int .i64 D, .slice (some ⟨a0, oa, none⟩) n n] 26)).alloc (.cells #[.int .i64 P2, .int .i64 D, .int .i64 D, .slice (some ⟨s0, so, none⟩) n1 n1] 36)).alloc (.cells #[.int .i64 P2, .int .i64 r, .int .i64 D, .slice (some ⟨t0, tq, none⟩) n2 n2] 36)).alloc (.cells #[.int .i64 0, .int .i64 0, .int .i64 0, .slice none 0 0] 36))
  have lA0 := A0_1.out.1
  have qA00 := A0_1.out.2 0 _ rfl
  have qA01 := A0_1.out.2 1 _ rfl
  have qA02 := A0_1.out.2 2 _ rfl
  have lA1 := A1_2.out.1
  have qA10 := A1_2.out.2 0 _ rfl
  have qA11 := A1_2.out.2 1 _ rfl
  have qA12 := A1_2.out.2 2 _ rfl
  have qA13 := A1_2.out.2 3 _ rfl
  have lA2 := A2_3.out.1
  have qA20 := A2_3.out.2 0 _ rfl
  have qA21 := A2_3.out.2 1 _ rfl
  have qA22 := A2_3.out.2 2 _ rfl
  have qA23 := A2_3.out.2 3 _ rfl
  try simp only [World.size_alloc] at lA0 lA1 lA2
  go_wp2_with fail
  refine (wrap_impl P2 _ a0 oa n n l _ (HT.out.ext E_5.out) hm0 (Nat.le_refl _) (by unfold maxLen; omega)).mono ?_
  rintro e w_6 ⟨B, rfl, hb, hlo, h_6⟩
  clear lA0 qA00 qA01 qA02 lA1 qA10 qA11 qA12 qA13 lA2 qA20 qA21 qA22 qA23
  have A0_7 := Lib.hid (A0_1.out.ext h_6)
  clear A0_1
  have A1_8 := Lib.hid (A1_2.out.ext h_6)
  clear A1_2
  have A2_9 := Lib.hid (A2_3.out.ext h_6)
  clear A2_3
  have R_10 := Lib.hid (R_4.out.ext h_6)
  clear R_4
  have E_11 := Lib.hid (E_5.out.trans h_6)
  clear E_5
  have B_12 := Lib.hid hb
  clear hb
  rw [H0.out]
  have lA0 := A0_7.out.1
  have qA00 := A0_7.out.2 0 _ rfl
  have qA01 := A0_7.out.2 1 _ rfl
  have qA02 := A0_7.out.2 2 _ rfl
  have lA1 := A1_8.out.1
  have qA10 := A1_8.out.2 0 _ rfl
  have qA11 := A1_8.out.2 1 _ rfl
  have qA12 := A1_8.out.2 2 _ rfl
  have qA13 := A1_8.out.2 3 _ rfl
  have lA2 := A2_9.out.1
  have qA20 := A2_9.out.2 0 _ rfl
  have qA21 := A2_9.out.2 1 _ rfl
  have qA22 := A2_9.out.2 2 _ rfl
  have qA23 := A2_9.out.2 3 _ rfl
  try simp only [World.size_alloc] at lA0 lA1 lA2
  go_wp2_with fail
  refine (hasSquare_impl P2 _ _ _ _ B s0 so n1 _ fs _ B_12.out (HS.out.ext E_11.out) hm3).mono ?_
  rintro e w_13 ⟨rfl, h_13⟩
  clear lA0 qA00 qA01 qA02 lA1 qA10 qA11 qA12 qA13 lA2 qA20 qA21 qA22 qA23
  have A0_14 := Lib.hid (A0_7.out.ext h_13)
  clear A0_7
  have A1_15 := Lib.hid (A1_8.out.ext h_13)
  clear A1_8
  have A2_16 := Lib.hid (A2_9.out.ext h_13)
  clear A2_9
  have R_17 := Lib.hid (R_10.out.ext h_13)
  clear R_10
  have B_18 := Lib.hid (B_12.out.ext h_13)
  clear B_12
  have E_19 := Lib.hid (E_11.out.trans h_13)
  clear E_11
  rw [H1.out]
  have lA0 := A0_14.out.1
  have qA00 := A0_14.out.2 0 _ rfl
  have qA01 := A0_14.out.2 1 _ rfl
  have qA02 := A0_14.out.2 2 _ rfl
  have lA1 := A1_15.out.1
  have qA10 := A1_15.out.2 0 _ rfl
  have qA11 := A1_15.out.2 1 _ rfl
  have qA12 := A1_15.out.2 2 _ rfl
  have qA13 := A1_15.out.2 3 _ rfl
  have lA2 := A2_16.out.1
  have qA20 := A2_16.out.2 0 _ rfl
  have qA21 := A2_16.out.2 1 _ rfl
  have qA22 := A2_16.out.2 2 _ rfl
  have qA23 := A2_16.out.2 3 _ rfl
  try simp only [World.size_alloc] at lA0 lA1 lA2
  go_wp2_with fail
  refine (hasSubspace_impl P2 _ _ _ _ B t0 tq n2 _ ss _ B_18.out (HTS.out.ext E_19.out) hm2).mono ?_
  rintro e w_20 ⟨rfl, h_20⟩
  clear lA0 qA00 qA01 qA02 lA1 qA10 qA11 qA12 qA13 lA2 qA20 qA21 qA22 qA23
  have A0_21 := Lib.hid (A0_14.out.ext h_20)
  clear A0_14
  have A1_22 := Lib.hid (A1_15.out.ext h_20)
  clear A1_15
  have A2_23 := Lib.hid (A2_16.out.ext h_20)
  clear A2_16
  have R_24 := Lib.hid (R_17.out.ext h_20)
  clear R_17
  have B_25 := Lib.hid (B_18.out.ext h_20)
  clear B_18
  have E_26 := Lib.hid (E_19.out.trans h_20)
  clear E_19
  rw [H2.out]
  have lA0 := A0_21.out.1
  have qA00 := A0_21.out.2 0 _ rfl
  have qA01 := A0_21.out.2 1 _ rfl
  have qA02 := A0_21.out.2 2 _ rfl
  have lA1 := A1_22.out.1
  have qA10 := A1_22.out.2 0 _ rfl
  have qA11 := A1_22.out.2 1 _ rfl
  have qA12 := A1_22.out.2 2 _ rfl
  have qA13 := A1_22.out.2 3 _ rfl
  have lA2 := A2_23.out.1
  have qA20 := A2_23.out.2 0 _ rfl
  have qA21 := A2_23.out.2 1 _ rfl
  have qA22 := A2_23.out.2 2 _ rfl
  have qA23 := A2_23.out.2 3 _ rfl
  try simp only [World.size_alloc] at lA0 lA1 lA2
  have lR := R_24.out.1
  have qR0 := R_24.out.2 0 _ rfl
  have qR1 := R_24.out.2 1 _ rfl
  have qR2 := R_24.out.2 2 _ rfl
  have qR3 := R_24.out.2 3 _ rfl
  have tR := R_24.out.3
  try simp only [World.size_alloc] at lA0 lA1 lA2 lR
  have gB : w.heap.size ≤ w.heap.size + 1 + 1 + 1 := by omega
  go_wp2_with fail
  go_region_held3 (fun w' => Ext w w' ∧ w.heap.size + 1 + 1 + 1 ≤ w'.heap.size ∧ ∀ b o, b < w.heap.size + 1 + 1 + 1 → w'.cell? ⟨b, o, none⟩ = w_20.cell? ⟨b, o, none⟩) (first | (with_reducible exact KeptR.call ‹Ext w _ ∧ w.heap.size + 1 + 1 + 1 ≤ _ ∧ _› ‹Ext _ _›) | exact ⟨E_26.out, Nat.le_of_lt lR, fun _ _ _ => rfl⟩ | exact ⟨E_26.out.drew, Nat.le_of_lt lR, fun _ _ _ => rfl⟩ | assumption | (with_reducible exact KeptR.set4 ‹Ext w _ ∧ w.heap.size + 1 + 1 + 1 ≤ _ ∧ _› gB _ _ _ _)) (first
      | (go_at_call 73; (with_reducible refine (cT _ (And.left ‹Ext w _ ∧ w.heap.size + 1 + 1 + 1 ≤ _ ∧ _›)).mono ?_); rintro e wT ⟨bT, rfl, bT1, bT2, kT, ET⟩)
      | (go_at_call 72; (with_reducible refine (cM _ _ (And.left ‹Ext w _ ∧ w.heap.size + 1 + 1 + 1 ≤ _ ∧ _›) kT).mono ?_); rintro e wM ⟨bM, rfl, bM1, bM2, kM, EM⟩)
      | (go_at_call 71; (with_reducible refine (cK _ _ kM).mono ?_); rintro e w9 ⟨sb, sc, rfl, hs1, hs2, hh, h9⟩; have hall : Ext w_20 w9 := Ext.trans (Ext.drew (Ext.refl _)) (ET.trans (EM.trans h9)); have c0 := (hall.cells _ 0 lR).trans qR0; have c1 := (hall.cells _ 1 lR).trans qR1; have c2 := (hall.cells _ 2 lR).trans qR2; have c3 := (hall.cells _ 3 lR).trans qR3; have f1 : ∀ j, w9.frozen? ⟨w.heap.size + 1 + 1 + 1, j, none⟩ = false := fun j => (hall.frees _ j lR).trans (tR j)))
  have hx2 := (‹Ext w _ ∧ w.heap.size + 1 + 1 + 1 ≤ _ ∧ _› : Ext w _ ∧ w.heap.size + 1 + 1 + 1 ≤ _ ∧ _).1
  have b0 : w_20.heap.size ≤ sb := Nat.le_trans (Ext.trans (Ext.drew (Ext.refl w_20)) (ET.trans EM)).le hs1
  have hWs := R_24.out.1
  go_wp2
  refine bodyPost_ret (v := .tuple #[.agg #[.int .i64 P2, .int .i64 (K : Nat), .int .i64 D, .slice (some ⟨sb, 0, none⟩) (K * D) sc], .bool true]) (by simp [results, Try.results32, go_sem, c0, c1, c2, c3]) rfl ⟨_, rfl, ⟨_, _, _, rfl, ?_, HKB.out⟩, hx2⟩
  refine Own.mono (own4 (hh.own (lo := w.heap.size + 1 + 1 + 1 + 1) (hi := w9.heap.size) (by omega) (by omega) HKL.out) (by omega) _ _ _ _) (by omega) (by simp)

set_option maxRecDepth 100000 in
set_option maxHeartbeats 6400000 in
theorem orthogonalOf_spec {P D : Int} {a0 oa n : Nat} {l : List Int} {P1 R1 C1 : Int} {s0 so n1 : Nat} {fs : List Int} {P2 R2 C2 : Int} {t0 tq n2 : Nat} {ss : List Int} {w : World} {p r' c : Int} {d : List Int} {ok : Bool} (hT : Reads w (some ⟨a0, oa, none⟩) n l) (hm0 : n ≤ 1048576) (hS : Reads w (some ⟨s0, so, none⟩) n1 fs) (hm1 : n1 ≤ 1048576) (hTs : Reads w (some ⟨t0, tq, none⟩) n2 ss) (hm2 : n2 ≤ 1048576) (hM : orthM P D l P1 R1 C1 fs P2 R2 C2 ss = (⟨p, r', c, d⟩, ok)) :
    Calls Try.prog 31 #[.agg #[.int .i64 P, .int .i64 D, .slice (some ⟨a0, oa, none⟩) n n], .agg #[.int .i64 P1, .int .i64 R1, .int .i64 C1, .slice (some ⟨s0, so, none⟩) n1 n1], .agg #[.int .i64 P2, .int .i64 R2, .int .i64 C2, .slice (some ⟨t0, tq, none⟩) n2 n2]] w fun e w' => ∃ v, e = .returned (.tuple #[v, .bool ok]) ∧ Rmat w w' v p r' c d ∧ Ext w w' := by
  have HT := Lib.hid hT
  have HS := Lib.hid hS
  have HTS := Lib.hid hTs
  have hm3 : n1 ≤ maxLen := by unfold maxLen; omega
  rcases h1 : (algB P D l && formB P D P1 R1 C1 fs) with _ | _
  · simp only [orthM, h1, noMat, Bool.false_and, Bool.and_false, Bool.false_eq_true, if_false, Prod.mk.injEq, Mat.mk.injEq] at hM
    obtain ⟨⟨rfl, rfl, rfl, rfl⟩, rfl⟩ := hM
    have H1 := Lib.hid h1
    clear h1 hT hS hTs
    go_enter Try.func31, Try.ntmps31
    have A0_1 := Lib.hid ((((cells_new' w #[.int .i64 P, .int .i64 D, .slice (some ⟨a0, oa, none⟩) n n] 26 (w.heap.size) (by simp)).ext ((Ext.refl _).alloc (.cells #[.int .i64 P1, .int .i64 R1, .int .i64 C1, .slice (some ⟨s0, so, none⟩) n1 n1] 36))).ext ((Ext.refl _).alloc (.cells #[.int .i64 P2, .int .i64 R2, .int .i64 C2, .slice (some ⟨t0, tq, none⟩) n2 n2] 36))).ext ((Ext.refl _).alloc (.cells #[.int .i64 0, .int .i64 0, .int .i64 0, .slice none 0 0] 36)))
    have A1_2 := Lib.hid (((cells_new' (w.alloc (.cells #[.int .i64 P, .int .i64 D, .slice (some ⟨a0, oa, none⟩) n n] 26)) #[.int .i64 P1, .int .i64 R1, .int .i64 C1, .slice (some ⟨s0, so, none⟩) n1 n1] 36 (w.heap.size + 1) (by simp)).ext ((Ext.refl _).alloc (.cells #[.int .i64 P2, .int .i64 R2, .int .i64 C2, .slice (some ⟨t0, tq, none⟩) n2 n2] 36))).ext ((Ext.refl _).alloc (.cells #[.int .i64 0, .int .i64 0, .int .i64 0, .slice none 0 0] 36)))
    have A2_3 := Lib.hid ((cells_new' ((w.alloc (.cells #[.int .i64 P, .int .i64 D, .slice (some ⟨a0, oa, none⟩) n n] 26)).alloc (.cells #[.int .i64 P1, .int .i64 R1, .int .i64 C1, .slice (some ⟨s0, so, none⟩) n1 n1] 36)) #[.int .i64 P2, .int .i64 R2, .int .i64 C2, .slice (some ⟨t0, tq, none⟩) n2 n2] 36 (w.heap.size + 1 + 1) (by simp)).ext ((Ext.refl _).alloc (.cells #[.int .i64 0, .int .i64 0, .int .i64 0, .slice none 0 0] 36)))
    have R_4 := Lib.hid (cells_new' (((w.alloc (.cells #[.int .i64 P, .int .i64 D, .slice (some ⟨a0, oa, none⟩) n n] 26)).alloc (.cells #[.int .i64 P1, .int .i64 R1, .int .i64 C1, .slice (some ⟨s0, so, none⟩) n1 n1] 36)).alloc (.cells #[.int .i64 P2, .int .i64 R2, .int .i64 C2, .slice (some ⟨t0, tq, none⟩) n2 n2] 36)) #[.int .i64 0, .int .i64 0, .int .i64 0, .slice none 0 0] 36 (w.heap.size + 1 + 1 + 1) (by simp))
    have E_5 := Lib.hid (((((Ext.refl w).alloc (.cells #[.int .i64 P, .int .i64 D, .slice (some ⟨a0, oa, none⟩) n n] 26)).alloc (.cells #[.int .i64 P1, .int .i64 R1, .int .i64 C1, .slice (some ⟨s0, so, none⟩) n1 n1] 36)).alloc (.cells #[.int .i64 P2, .int .i64 R2, .int .i64 C2, .slice (some ⟨t0, tq, none⟩) n2 n2] 36)).alloc (.cells #[.int .i64 0, .int .i64 0, .int .i64 0, .slice none 0 0] 36))
    have lA0 := A0_1.out.1
    have qA00 := A0_1.out.2 0 _ rfl
    have qA01 := A0_1.out.2 1 _ rfl
    have qA02 := A0_1.out.2 2 _ rfl
    have lA1 := A1_2.out.1
    have qA10 := A1_2.out.2 0 _ rfl
    have qA11 := A1_2.out.2 1 _ rfl
    have qA12 := A1_2.out.2 2 _ rfl
    have qA13 := A1_2.out.2 3 _ rfl
    have lA2 := A2_3.out.1
    have qA20 := A2_3.out.2 0 _ rfl
    have qA21 := A2_3.out.2 1 _ rfl
    have qA22 := A2_3.out.2 2 _ rfl
    have qA23 := A2_3.out.2 3 _ rfl
    try simp only [World.size_alloc] at lA0 lA1 lA2
    go_wp2_with fail
    refine (l3Form_spec P _ _ _ _ a0 oa n s0 so n1 l fs _ (HT.out.ext E_5.out) hm0 (HS.out.ext E_5.out) hm3).mono ?_
    rintro e w_6 ⟨rfl, h_6⟩
    clear lA0 qA00 qA01 qA02 lA1 qA10 qA11 qA12 qA13 lA2 qA20 qA21 qA22 qA23
    have A0_7 := Lib.hid (A0_1.out.ext h_6)
    clear A0_1
    have A1_8 := Lib.hid (A1_2.out.ext h_6)
    clear A1_2
    have A2_9 := Lib.hid (A2_3.out.ext h_6)
    clear A2_3
    have R_10 := Lib.hid (R_4.out.ext h_6)
    clear R_4
    have E_11 := Lib.hid (E_5.out.trans h_6)
    clear E_5
    rw [H1.out]
    have lA0 := A0_7.out.1
    have qA00 := A0_7.out.2 0 _ rfl
    have qA01 := A0_7.out.2 1 _ rfl
    have qA02 := A0_7.out.2 2 _ rfl
    have lA1 := A1_8.out.1
    have qA10 := A1_8.out.2 0 _ rfl
    have qA11 := A1_8.out.2 1 _ rfl
    have qA12 := A1_8.out.2 2 _ rfl
    have qA13 := A1_8.out.2 3 _ rfl
    have lA2 := A2_9.out.1
    have qA20 := A2_9.out.2 0 _ rfl
    have qA21 := A2_9.out.2 1 _ rfl
    have qA22 := A2_9.out.2 2 _ rfl
    have qA23 := A2_9.out.2 3 _ rfl
    try simp only [World.size_alloc] at lA0 lA1 lA2
    have r0 := R_10.out.2 0 _ rfl
    have r1 := R_10.out.2 1 _ rfl
    have r2 := R_10.out.2 2 _ rfl
    have r3 := R_10.out.2 3 _ rfl
    have tR := R_10.out.3
    have lR := R_10.out.1
    go_wp2
    refine bodyPost_ret (v := .tuple #[.agg #[.int .i64 0, .int .i64 0, .int .i64 0, .slice none 0 0], .bool false]) (by simp [results, Try.results31, go_sem, r0, r1, r2, r3]) rfl ⟨_, rfl, ⟨_, _, _, rfl, own_nil _ _ _, by omega⟩, ext4 E_11.out (by omega) _ _ _ _⟩
  have H1 := Lib.hid h1
  have hz0 : algB P D l = true := by simp only [Bool.and_eq_true] at h1; exact h1.1
  have hz1 : formB P D P1 R1 C1 fs = true := by simp only [Bool.and_eq_true] at h1; exact h1.2
  rcases h2 : (algB P D l && hsB P D P2 R2 C2 ss) with _ | _
  · have hz2 : hsB P D P2 R2 C2 ss = false := by rw [hz0, Bool.true_and] at h2; exact h2
    simp only [orthM, hz0, hz1, hz2, noMat, Bool.false_and, Bool.and_false, Bool.false_eq_true, if_false, Prod.mk.injEq, Mat.mk.injEq] at hM
    obtain ⟨⟨rfl, rfl, rfl, rfl⟩, rfl⟩ := hM
    have H2 := Lib.hid h2
    clear h1 h2 hz0 hz1 hz2 hT hS hTs
    go_enter Try.func31, Try.ntmps31
    have A0_1 := Lib.hid ((((cells_new' w #[.int .i64 P, .int .i64 D, .slice (some ⟨a0, oa, none⟩) n n] 26 (w.heap.size) (by simp)).ext ((Ext.refl _).alloc (.cells #[.int .i64 P1, .int .i64 R1, .int .i64 C1, .slice (some ⟨s0, so, none⟩) n1 n1] 36))).ext ((Ext.refl _).alloc (.cells #[.int .i64 P2, .int .i64 R2, .int .i64 C2, .slice (some ⟨t0, tq, none⟩) n2 n2] 36))).ext ((Ext.refl _).alloc (.cells #[.int .i64 0, .int .i64 0, .int .i64 0, .slice none 0 0] 36)))
    have A1_2 := Lib.hid (((cells_new' (w.alloc (.cells #[.int .i64 P, .int .i64 D, .slice (some ⟨a0, oa, none⟩) n n] 26)) #[.int .i64 P1, .int .i64 R1, .int .i64 C1, .slice (some ⟨s0, so, none⟩) n1 n1] 36 (w.heap.size + 1) (by simp)).ext ((Ext.refl _).alloc (.cells #[.int .i64 P2, .int .i64 R2, .int .i64 C2, .slice (some ⟨t0, tq, none⟩) n2 n2] 36))).ext ((Ext.refl _).alloc (.cells #[.int .i64 0, .int .i64 0, .int .i64 0, .slice none 0 0] 36)))
    have A2_3 := Lib.hid ((cells_new' ((w.alloc (.cells #[.int .i64 P, .int .i64 D, .slice (some ⟨a0, oa, none⟩) n n] 26)).alloc (.cells #[.int .i64 P1, .int .i64 R1, .int .i64 C1, .slice (some ⟨s0, so, none⟩) n1 n1] 36)) #[.int .i64 P2, .int .i64 R2, .int .i64 C2, .slice (some ⟨t0, tq, none⟩) n2 n2] 36 (w.heap.size + 1 + 1) (by simp)).ext ((Ext.refl _).alloc (.cells #[.int .i64 0, .int .i64 0, .int .i64 0, .slice none 0 0] 36)))
    have R_4 := Lib.hid (cells_new' (((w.alloc (.cells #[.int .i64 P, .int .i64 D, .slice (some ⟨a0, oa, none⟩) n n] 26)).alloc (.cells #[.int .i64 P1, .int .i64 R1, .int .i64 C1, .slice (some ⟨s0, so, none⟩) n1 n1] 36)).alloc (.cells #[.int .i64 P2, .int .i64 R2, .int .i64 C2, .slice (some ⟨t0, tq, none⟩) n2 n2] 36)) #[.int .i64 0, .int .i64 0, .int .i64 0, .slice none 0 0] 36 (w.heap.size + 1 + 1 + 1) (by simp))
    have E_5 := Lib.hid (((((Ext.refl w).alloc (.cells #[.int .i64 P, .int .i64 D, .slice (some ⟨a0, oa, none⟩) n n] 26)).alloc (.cells #[.int .i64 P1, .int .i64 R1, .int .i64 C1, .slice (some ⟨s0, so, none⟩) n1 n1] 36)).alloc (.cells #[.int .i64 P2, .int .i64 R2, .int .i64 C2, .slice (some ⟨t0, tq, none⟩) n2 n2] 36)).alloc (.cells #[.int .i64 0, .int .i64 0, .int .i64 0, .slice none 0 0] 36))
    have lA0 := A0_1.out.1
    have qA00 := A0_1.out.2 0 _ rfl
    have qA01 := A0_1.out.2 1 _ rfl
    have qA02 := A0_1.out.2 2 _ rfl
    have lA1 := A1_2.out.1
    have qA10 := A1_2.out.2 0 _ rfl
    have qA11 := A1_2.out.2 1 _ rfl
    have qA12 := A1_2.out.2 2 _ rfl
    have qA13 := A1_2.out.2 3 _ rfl
    have lA2 := A2_3.out.1
    have qA20 := A2_3.out.2 0 _ rfl
    have qA21 := A2_3.out.2 1 _ rfl
    have qA22 := A2_3.out.2 2 _ rfl
    have qA23 := A2_3.out.2 3 _ rfl
    try simp only [World.size_alloc] at lA0 lA1 lA2
    go_wp2_with fail
    refine (l3Form_spec P _ _ _ _ a0 oa n s0 so n1 l fs _ (HT.out.ext E_5.out) hm0 (HS.out.ext E_5.out) hm3).mono ?_
    rintro e w_6 ⟨rfl, h_6⟩
    clear lA0 qA00 qA01 qA02 lA1 qA10 qA11 qA12 qA13 lA2 qA20 qA21 qA22 qA23
    have A0_7 := Lib.hid (A0_1.out.ext h_6)
    clear A0_1
    have A1_8 := Lib.hid (A1_2.out.ext h_6)
    clear A1_2
    have A2_9 := Lib.hid (A2_3.out.ext h_6)
    clear A2_3
    have R_10 := Lib.hid (R_4.out.ext h_6)
    clear R_4
    have E_11 := Lib.hid (E_5.out.trans h_6)
    clear E_5
    rw [H1.out]
    have lA0 := A0_7.out.1
    have qA00 := A0_7.out.2 0 _ rfl
    have qA01 := A0_7.out.2 1 _ rfl
    have qA02 := A0_7.out.2 2 _ rfl
    have lA1 := A1_8.out.1
    have qA10 := A1_8.out.2 0 _ rfl
    have qA11 := A1_8.out.2 1 _ rfl
    have qA12 := A1_8.out.2 2 _ rfl
    have qA13 := A1_8.out.2 3 _ rfl
    have lA2 := A2_9.out.1
    have qA20 := A2_9.out.2 0 _ rfl
    have qA21 := A2_9.out.2 1 _ rfl
    have qA22 := A2_9.out.2 2 _ rfl
    have qA23 := A2_9.out.2 3 _ rfl
    try simp only [World.size_alloc] at lA0 lA1 lA2
    go_wp2_with fail
    refine (l2Space_spec P _ _ _ _ a0 oa n t0 tq n2 l ss _ (HT.out.ext E_11.out) hm0 (HTS.out.ext E_11.out) hm2).mono ?_
    rintro e w_12 ⟨rfl, h_12⟩
    clear lA0 qA00 qA01 qA02 lA1 qA10 qA11 qA12 qA13 lA2 qA20 qA21 qA22 qA23
    have A0_13 := Lib.hid (A0_7.out.ext h_12)
    clear A0_7
    have A1_14 := Lib.hid (A1_8.out.ext h_12)
    clear A1_8
    have A2_15 := Lib.hid (A2_9.out.ext h_12)
    clear A2_9
    have R_16 := Lib.hid (R_10.out.ext h_12)
    clear R_10
    have E_17 := Lib.hid (E_11.out.trans h_12)
    clear E_11
    rw [H2.out]
    have lA0 := A0_13.out.1
    have qA00 := A0_13.out.2 0 _ rfl
    have qA01 := A0_13.out.2 1 _ rfl
    have qA02 := A0_13.out.2 2 _ rfl
    have lA1 := A1_14.out.1
    have qA10 := A1_14.out.2 0 _ rfl
    have qA11 := A1_14.out.2 1 _ rfl
    have qA12 := A1_14.out.2 2 _ rfl
    have qA13 := A1_14.out.2 3 _ rfl
    have lA2 := A2_15.out.1
    have qA20 := A2_15.out.2 0 _ rfl
    have qA21 := A2_15.out.2 1 _ rfl
    have qA22 := A2_15.out.2 2 _ rfl
    have qA23 := A2_15.out.2 3 _ rfl
    try simp only [World.size_alloc] at lA0 lA1 lA2
    have r0 := R_16.out.2 0 _ rfl
    have r1 := R_16.out.2 1 _ rfl
    have r2 := R_16.out.2 2 _ rfl
    have r3 := R_16.out.2 3 _ rfl
    have tR := R_16.out.3
    have lR := R_16.out.1
    go_wp2
    refine bodyPost_ret (v := .tuple #[.agg #[.int .i64 0, .int .i64 0, .int .i64 0, .slice none 0 0], .bool false]) (by simp [results, Try.results31, go_sem, r0, r1, r2, r3]) rfl ⟨_, rfl, ⟨_, _, _, rfl, own_nil _ _ _, by omega⟩, ext4 E_17.out (by omega) _ _ _ _⟩
  have H2 := Lib.hid h2
  have hz2 : hsB P D P2 R2 C2 ss = true := by simp only [Bool.and_eq_true] at h2; exact h2.2
  simp only [orthM, hz0, hz1, hz2, Bool.and_self, if_true, Prod.mk.injEq, Mat.mk.injEq] at hM
  obtain ⟨⟨rfl, rfl, rfl, rfl⟩, rfl⟩ := hM
  obtain ⟨D, rfl, hA⟩ := algB_parts hz0 hT.1
  obtain ⟨rfl, rfl, rfl, hn1, hx1⟩ := formB_parts hz1 hS.1
  obtain ⟨r, rfl, rfl, rfl, hr, hn2, hx2⟩ := hsB_parts hz2 hTs.1
  simp only [Int.toNat_natCast]
  have HPR := Lib.hid hA.pr
  have hp := isP_lo hA.pr
  have hp2 := isP_hi hA.pr
  have hD := hA.dim
  have h27 : r * D ≤ 784 := Nat.mul_le_mul (show r ≤ 28 by omega) hD
  have h28 : D * r ≤ 784 := Nat.mul_le_mul hD (show r ≤ 28 by omega)
  have h29 : D * D ≤ 784 := Nat.mul_le_mul hD hD
  have hol : (orthL P2 D r fs ss).length = r * D := mulTo_length ..
  have hox : Res (orthL P2 D r fs ss) P2 := mulTo_res _ (by omega) _ _ _ _ _ _
  have HKB : Hid (kerN P2 r D (orthL P2 D r fs ss) * D ≤ 1048576) := by
    have h1 := (redTo_pv (P := P2) (R := nullN P2 r D (orthL P2 D r fs ss)) (C := D) (xs := kerL P2 r D (orthL P2 D r fs ss)) D).1
    have h2 : kerN P2 r D (orthL P2 D r fs ss) ≤ D := h1
    exact Nat.le_trans (Nat.mul_le_mul h2 (Nat.le_refl D)) (by omega)
  have cT : ∀ w1, Ext w w1 → Calls Try.prog 68 #[.agg #[.int .i64 P2, .int .i64 r, .int .i64 D, .slice (some ⟨t0, tq, none⟩) n2 n2]] w1 (fun e w' => ∃ b, e = .returned (.agg #[.int .i64 P2, .int .i64 D, .int .i64 r, .slice (some ⟨b, 0, none⟩) (D * r) (D * r)]) ∧ w1.heap.size ≤ b ∧ b < w'.heap.size ∧ Has w' b (transTo ss r D r) ∧ Ext w1 w') := fun w1 h => l1Transpose_spec P2 r D (some ⟨t0, tq, none⟩) n2 n2 ss w1 (hTs.ext h) hn2 (by omega) (by omega)
  have cM : ∀ w1 b1, Ext w w1 → Has w1 b1 (transTo ss r D r) → Calls Try.prog 69 #[.agg #[.int .i64 P2, .int .i64 D, .int .i64 D, .slice (some ⟨s0, so, none⟩) n1 n1], .agg #[.int .i64 P2, .int .i64 D, .int .i64 r, .slice (some ⟨b1, 0, none⟩) (D * r) (D * r)]] w1 (fun e w' => ∃ b, e = .returned (.agg #[.int .i64 P2, .int .i64 D, .int .i64 r, .slice (some ⟨b, 0, none⟩) (D * r) (D * r)]) ∧ w1.heap.size ≤ b ∧ b < w'.heap.size ∧ Has w' b (mulTo P2 fs (transTo ss r D r) D D r D) ∧ Ext w1 w') := fun w1 b1 h k => l1Mul_spec P2 D D r (some ⟨s0, so, none⟩) (some ⟨b1, 0, none⟩) n1 n1 (D * r) (D * r) fs (transTo ss r D r) w1 (hS.ext h) (k.reads (transTo_length _ _ _ _)) hn1 rfl (by omega) (by omega) (by omega) hp hp2 hx1 (transTo_res hp hx2 _)
  have cU : ∀ w1 b1, Has w1 b1 (mulTo P2 fs (transTo ss r D r) D D r D) → Calls Try.prog 68 #[.agg #[.int .i64 P2, .int .i64 D, .int .i64 r, .slice (some ⟨b1, 0, none⟩) (D * r) (D * r)]] w1 (fun e w' => ∃ b, e = .returned (.agg #[.int .i64 P2, .int .i64 r, .int .i64 D, .slice (some ⟨b, 0, none⟩) (r * D) (r * D)]) ∧ w1.heap.size ≤ b ∧ b < w'.heap.size ∧ Has w' b (orthL P2 D r fs ss) ∧ Ext w1 w') := fun w1 b1 k => by
    have := l1Transpose_spec P2 D r (some ⟨b1, 0, none⟩) (D * r) (D * r) (mulTo P2 fs (transTo ss r D r) D D r D) w1 (k.reads (mulTo_length _ _ _ _ _ _ _)) rfl (by omega) (by omega)
    rw [orth_eq] at this
    exact this
  have cK : ∀ w1 b1, Has w1 b1 (orthL P2 D r fs ss) → Calls Try.prog 67 #[.agg #[.int .i64 P2, .int .i64 r, .int .i64 D, .slice (some ⟨b1, 0, none⟩) (r * D) (r * D)]] w1 (fun e w' => ∃ b c', e = .returned (.agg #[.int .i64 P2, .int .i64 (kerN P2 r D (orthL P2 D r fs ss) : Nat), .int .i64 D, .slice (some ⟨b, 0, none⟩) (kerN P2 r D (orthL P2 D r fs ss) * D) c']) ∧ w1.heap.size ≤ b ∧ b < w'.heap.size ∧ Has w' b (kerS P2 r D (orthL P2 D r fs ss)) ∧ Ext w1 w') := fun w1 b1 k => by
    refine (l1Kernel_spec P2 r D (r * D) (r * D) (some ⟨b1, 0, none⟩) (orthL P2 D r fs ss) w1 HPR.out (k.reads hol) rfl (by omega) (by omega) (by omega) hox (fun h => by cases h)).mono ?_
    rintro e w' ⟨b, c', rfl, g1, g2, g3, g4, _⟩
    exact ⟨b, c', rfl, g1, g2, g3, g4⟩
  have HKL : Hid ((kerS P2 r D (orthL P2 D r fs ss)).length = kerN P2 r D (orthL P2 D r fs ss) * D) := spanL_length (kerL_len2 _ _ _ _)
  clear hT hS hTs hA hx1 hx2 hn1 hn2 hol hox hz0 hz1 hz2 h1 h2
  generalize kerN P2 r D (orthL P2 D r fs ss) = K at *
  generalize kerS P2 r D (orthL P2 D r fs ss) = KS at *
  generalize orthL P2 D r fs ss = OL at *
  go_enter Try.func31, Try.ntmps31
  have A0_1 := Lib.hid ((((cells_new' w #[.int .i64 P2, .int .i64 D, .slice (some ⟨a0, oa, none⟩) n n] 26 (w.heap.size) (by simp)).ext ((Ext.refl _).alloc (.cells #[.int .i64 P2, .int .i64 D, .int .i64 D, .slice (some ⟨s0, so, none⟩) n1 n1] 36))).ext ((Ext.refl _).alloc (.cells #[.int .i64 P2, .int .i64 r, .int .i64 D, .slice (some ⟨t0, tq, none⟩) n2 n2] 36))).ext ((Ext.refl _).alloc (.cells #[.int .i64 0, .int .i64 0, .int .i64 0, .slice none 0 0] 36)))
  have A1_2 := Lib.hid (((cells_new' (w.alloc (.cells #[.int .i64 P2, .int .i64 D, .slice (some ⟨a0, oa, none⟩) n n] 26)) #[.int .i64 P2, .int .i64 D, .int .i64 D, .slice (some ⟨s0, so, none⟩) n1 n1] 36 (w.heap.size + 1) (by simp)).ext ((Ext.refl _).alloc (.cells #[.int .i64 P2, .int .i64 r, .int .i64 D, .slice (some ⟨t0, tq, none⟩) n2 n2] 36))).ext ((Ext.refl _).alloc (.cells #[.int .i64 0, .int .i64 0, .int .i64 0, .slice none 0 0] 36)))
  have A2_3 := Lib.hid ((cells_new' ((w.alloc (.cells #[.int .i64 P2, .int .i64 D, .slice (some ⟨a0, oa, none⟩) n n] 26)).alloc (.cells #[.int .i64 P2, .int .i64 D, .int .i64 D, .slice (some ⟨s0, so, none⟩) n1 n1] 36)) #[.int .i64 P2, .int .i64 r, .int .i64 D, .slice (some ⟨t0, tq, none⟩) n2 n2] 36 (w.heap.size + 1 + 1) (by simp)).ext ((Ext.refl _).alloc (.cells #[.int .i64 0, .int .i64 0, .int .i64 0, .slice none 0 0] 36)))
  have R_4 := Lib.hid (cells_new' (((w.alloc (.cells #[.int .i64 P2, .int .i64 D, .slice (some ⟨a0, oa, none⟩) n n] 26)).alloc (.cells #[.int .i64 P2, .int .i64 D, .int .i64 D, .slice (some ⟨s0, so, none⟩) n1 n1] 36)).alloc (.cells #[.int .i64 P2, .int .i64 r, .int .i64 D, .slice (some ⟨t0, tq, none⟩) n2 n2] 36)) #[.int .i64 0, .int .i64 0, .int .i64 0, .slice none 0 0] 36 (w.heap.size + 1 + 1 + 1) (by simp))
  have E_5 := Lib.hid (((((Ext.refl w).alloc (.cells #[.int .i64 P2, .int .i64 D, .slice (some ⟨a0, oa, none⟩) n n] 26)).alloc (.cells #[.int .i64 P2, .int .i64 D, .int .i64 D, .slice (some ⟨s0, so, none⟩) n1 n1] 36)).alloc (.cells #[.int .i64 P2, .int .i64 r, .int .i64 D, .slice (some ⟨t0, tq, none⟩) n2 n2] 36)).alloc (.cells #[.int .i64 0, .int .i64 0, .int .i64 0, .slice none 0 0] 36))
  have lA0 := A0_1.out.1
  have qA00 := A0_1.out.2 0 _ rfl
  have qA01 := A0_1.out.2 1 _ rfl
  have qA02 := A0_1.out.2 2 _ rfl
  have lA1 := A1_2.out.1
  have qA10 := A1_2.out.2 0 _ rfl
  have qA11 := A1_2.out.2 1 _ rfl
  have qA12 := A1_2.out.2 2 _ rfl
  have qA13 := A1_2.out.2 3 _ rfl
  have lA2 := A2_3.out.1
  have qA20 := A2_3.out.2 0 _ rfl
  have qA21 := A2_3.out.2 1 _ rfl
  have qA22 := A2_3.out.2 2 _ rfl
  have qA23 := A2_3.out.2 3 _ rfl
  try simp only [World.size_alloc] at lA0 lA1 lA2
  go_wp2_with fail
  refine (l3Form_spec P2 _ _ _ _ a0 oa n s0 so n1 l fs _ (HT.out.ext E_5.out) hm0 (HS.out.ext E_5.out) hm3).mono ?_
  rintro e w_6 ⟨rfl, h_6⟩
  clear lA0 qA00 qA01 qA02 lA1 qA10 qA11 qA12 qA13 lA2 qA20 qA21 qA22 qA23
  have A0_7 := Lib.hid (A0_1.out.ext h_6)
  clear A0_1
  have A1_8 := Lib.hid (A1_2.out.ext h_6)
  clear A1_2
  have A2_9 := Lib.hid (A2_3.out.ext h_6)
  clear A2_3
  have R_10 := Lib.hid (R_4.out.ext h_6)
  clear R_4
  have E_11 := Lib.hid (E_5.out.trans h_6)
  clear E_5
  rw [H1.out]
  have lA0 := A0_7.out.1
  have qA00 := A0_7.out.2 0 _ rfl
  have qA01 := A0_7.out.2 1 _ rfl
  have qA02 := A0_7.out.2 2 _ rfl
  have lA1 := A1_8.out.1
  have qA10 := A1_8.out.2 0 _ rfl
  have qA11 := A1_8.out.2 1 _ rfl
  have qA12 := A1_8.out.2 2 _ rfl
  have qA13 := A1_8.out.2 3 _ rfl
  have lA2 := A2_9.out.1
  have qA20 := A2_9.out.2 0 _ rfl
  have qA21 := A2_9.out.2 1 _ rfl
  have qA22 := A2_9.out.2 2 _ rfl
  have qA23 := A2_9.out.2 3 _ rfl
  try simp only [World.size_alloc] at lA0 lA1 lA2
  go_wp2_with fail
  refine (l2Space_spec P2 _ _ _ _ a0 oa n t0 tq n2 l ss _ (HT.out.ext E_11.out) hm0 (HTS.out.ext E_11.out) hm2).mono ?_
  rintro e w_12 ⟨rfl, h_12⟩
  clear lA0 qA00 qA01 qA02 lA1 qA10 qA11 qA12 qA13 lA2 qA20 qA21 qA22 qA23
  have A0_13 := Lib.hid (A0_7.out.ext h_12)
  clear A0_7
  have A1_14 := Lib.hid (A1_8.out.ext h_12)
  clear A1_8
  have A2_15 := Lib.hid (A2_9.out.ext h_12)
  clear A2_9
  have R_16 := Lib.hid (R_10.out.ext h_12)
  clear R_10
  have E_17 := Lib.hid (E_11.out.trans h_12)
  clear E_11
  rw [H2.out]
  have lA0 := A0_13.out.1
  have qA00 := A0_13.out.2 0 _ rfl
  have qA01 := A0_13.out.2 1 _ rfl
  have qA02 := A0_13.out.2 2 _ rfl
  have lA1 := A1_14.out.1
  have qA10 := A1_14.out.2 0 _ rfl
  have qA11 := A1_14.out.2 1 _ rfl
  have qA12 := A1_14.out.2 2 _ rfl
  have qA13 := A1_14.out.2 3 _ rfl
  have lA2 := A2_15.out.1
  have qA20 := A2_15.out.2 0 _ rfl
  have qA21 := A2_15.out.2 1 _ rfl
  have qA22 := A2_15.out.2 2 _ rfl
  have qA23 := A2_15.out.2 3 _ rfl
  try simp only [World.size_alloc] at lA0 lA1 lA2
  have lR := R_16.out.1
  have qR0 := R_16.out.2 0 _ rfl
  have qR1 := R_16.out.2 1 _ rfl
  have qR2 := R_16.out.2 2 _ rfl
  have qR3 := R_16.out.2 3 _ rfl
  have tR := R_16.out.3
  try simp only [World.size_alloc] at lA0 lA1 lA2 lR
  have gB : w.heap.size ≤ w.heap.size + 1 + 1 + 1 := by omega
  go_wp2_with fail
  go_region_held3 (fun w' => Ext w w' ∧ w.heap.size + 1 + 1 + 1 ≤ w'.heap.size ∧ ∀ b o, b < w.heap.size + 1 + 1 + 1 → w'.cell? ⟨b, o, none⟩ = w_12.cell? ⟨b, o, none⟩) (first | (with_reducible exact KeptR.call ‹Ext w _ ∧ w.heap.size + 1 + 1 + 1 ≤ _ ∧ _› ‹Ext _ _›) | exact ⟨E_17.out, Nat.le_of_lt lR, fun _ _ _ => rfl⟩ | exact ⟨E_17.out.drew, Nat.le_of_lt lR, fun _ _ _ => rfl⟩ | assumption | (with_reducible exact KeptR.set4 ‹Ext w _ ∧ w.heap.size + 1 + 1 + 1 ≤ _ ∧ _› gB _ _ _ _)) (first
      | (go_at_call 68; (with_reducible refine (cT _ (And.left ‹Ext w _ ∧ w.heap.size + 1 + 1 + 1 ≤ _ ∧ _›)).mono ?_); rintro e wT ⟨bT, rfl, bT1, bT2, kT, ET⟩)
      | (go_at_call 69; (with_reducible refine (cM _ _ (And.left ‹Ext w _ ∧ w.heap.size + 1 + 1 + 1 ≤ _ ∧ _›) kT).mono ?_); rintro e wM ⟨bM, rfl, bM1, bM2, kM, EM⟩)
      | (go_at_call 68; (with_reducible refine (cU _ _ kM).mono ?_); rintro e wU ⟨bU, rfl, bU1, bU2, kU, EU⟩)
      | (go_at_call 67; (with_reducible refine (cK _ _ kU).mono ?_); rintro e w9 ⟨sb, sc, rfl, hs1, hs2, hh, h9⟩; have hall : Ext w_12 w9 := Ext.trans (Ext.drew (Ext.refl _)) (ET.trans (EM.trans (EU.trans h9))); have c0 := (hall.cells _ 0 lR).trans qR0; have c1 := (hall.cells _ 1 lR).trans qR1; have c2 := (hall.cells _ 2 lR).trans qR2; have c3 := (hall.cells _ 3 lR).trans qR3; have f1 : ∀ j, w9.frozen? ⟨w.heap.size + 1 + 1 + 1, j, none⟩ = false := fun j => (hall.frees _ j lR).trans (tR j)))
  have hx2 := (‹Ext w _ ∧ w.heap.size + 1 + 1 + 1 ≤ _ ∧ _› : Ext w _ ∧ w.heap.size + 1 + 1 + 1 ≤ _ ∧ _).1
  have b0 : w_12.heap.size ≤ sb := Nat.le_trans (Ext.trans (Ext.drew (Ext.refl w_12)) (ET.trans (EM.trans EU))).le hs1
  have hWs := R_16.out.1
  go_wp2
  refine bodyPost_ret (v := .tuple #[.agg #[.int .i64 P2, .int .i64 (K : Nat), .int .i64 D, .slice (some ⟨sb, 0, none⟩) (K * D) sc], .bool true]) (by simp [results, Try.results31, go_sem, c0, c1, c2, c3]) rfl ⟨_, rfl, ⟨_, _, _, rfl, ?_, HKB.out⟩, hx2⟩
  refine Own.mono (own4 (hh.own (lo := w.heap.size + 1 + 1 + 1 + 1) (hi := w9.heap.size) (by omega) (by omega) HKL.out) (by omega) _ _ _ _) (by omega) (by simp)
end Go.Proofs.Ytgmipolgnpjmnaa
