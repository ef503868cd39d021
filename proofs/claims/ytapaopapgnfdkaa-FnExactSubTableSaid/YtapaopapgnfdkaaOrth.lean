/-
  What is orthogonal to a space: both texts.
-/
import Derived.Test.YtapaopapgnfdkaaHs
import Derived.Test.YtapaopapgnfdkaaKr
import Derived.Test.YtapaopapgnfdkaaBr
import Derived.Test.YtapaopapgnfdkaaCs
import Derived.Test.YtapaopapgnfdkaaMulS
namespace Go.Proofs.Ytapaopapgnfdkaa
open Go.ChangeShapes Go.WideShapes Go.ChangeAt Go.RowKit
set_option linter.unusedVariables false
set_option linter.unusedSimpArgs false

/-- Rows of vectors of an algebra; a square matrix of its size. -/
noncomputable def rwB (P D P' R C : Int) (xs : List Int) : Bool := mok P' R C xs && ((P' == P) && (C == D))
noncomputable def formB (P D P' R C : Int) (xs : List Int) : Bool := rwB P D P' R C xs && (R == D)
theorem formB_parts {P : Int} {D : Nat} {P' R C : Int} {xs : List Int} {n : Nat} (h : formB P D P' R C xs = true) (hl : xs.length = n) : P' = P ∧ R = D ∧ C = D ∧ n = D * D ∧ Res xs P := by
  simp only [formB, rwB, Bool.and_eq_true, beq_iff_eq] at h
  obtain ⟨⟨h2, rfl, rfl⟩, rfl⟩ := h
  have hl1 := mok_len h2
  refine ⟨rfl, rfl, rfl, ?_, mok_res h2⟩
  have : ((xs.length : Nat) : Int) = ((D * D : Nat) : Int) := by rw [hl1]; simp
  omega
/-- The products of the rows of s and the rows of the form. -/
def orthL (P : Int) (D r : Nat) (fs ss : List Int) : List Int := mulTo P ss (transTo fs D D D) r D D r
theorem orth_eq (P : Int) (D r : Nat) (fs ss : List Int) : transTo (mulTo P fs (transTo ss r D r) D D r D) D r D = orthL P D r fs ss := by
  refine ext_gi (by rw [transTo_length, orthL, mulTo_length]) (fun q hq => ?_)
  rw [transTo_length] at hq
  have hD : 0 < D := by
    rcases Nat.eq_zero_or_pos D with h | h
    · subst h; simp at hq
    · exact h
  have hm := Nat.mod_lt q hD
  have hd : q / D < r := Nat.div_lt_of_lt_mul (by rw [Nat.mul_comm]; exact hq)
  have e : q = q / D * D + q % D := by rw [Nat.mul_comm]; exact (Nat.div_add_mod q D).symm
  rw [e, gi_tr hd hm, at2_mulTo _ _ hm hd, orthL, at2_mulTo _ _ hd hm]
  congr 1
  refine sumN_congr (fun c hc => ?_)
  rw [gi_tr hc hd, gi_tr hc hm, Int.mul_comm]
noncomputable def orthM (P D : Int) (l : List Int) (P1 R1 C1 : Int) (fs : List Int) (P2 R2 C2 : Int) (ss : List Int) : Mat × Bool :=
  if algB P D l && formB P D P1 R1 C1 fs && hsB P D P2 R2 C2 ss then (⟨P, kerN P R2.toNat D.toNat (orthL P D.toNat R2.toNat fs ss), D, kerS P R2.toNat D.toNat (orthL P D.toNat R2.toNat fs ss)⟩, true) else (noMat, false)

set_option maxRecDepth 100000 in
set_option maxHeartbeats 3200000 in
theorem hasRows_impl (P D P' R C : Int) (B s0 so n1 : Nat) (v : Value) (xs : List Int) (w : World) (hc : Cells w B [.int .i64 P, .int .i64 D, v]) (hX : Reads w (some ⟨s0, so, none⟩) n1 xs) (hm : n1 ≤ maxLen) :
    Calls Try.prog 85 #[.pointer (some ⟨B, 0, none⟩), .agg #[.int .i64 P', .int .i64 R, .int .i64 C, .slice (some ⟨s0, so, none⟩) n1 n1]] w fun e w' => e = .returned (.bool (rwB P D P' R C xs)) ∧ Ext w w' := by
  have HC := Lib.hid hc
  have HX := Lib.hid hX
  have HA : Hid (rwB P D P' R C xs = (mok P' R C xs && ((P' == P) && (C == D)))) := rfl
  generalize rwB P D P' R C xs = q at HA
  clear hc hX
  rcases h1 : mok P' R C xs with _ | _
  · have HF : Hid (q = false) := by rw [Hid, HA.out, h1]; rfl
    have H1 := Lib.hid h1
    clear h1 HA
    go_enter Try.func85, Try.ntmps85
    have A0 := Lib.hid (cells_new' w #[.int .i64 P', .int .i64 R, .int .i64 C, .slice (some ⟨s0, so, none⟩) n1 n1] 40 w.heap.size rfl)
    have E0 := Lib.hid ((Ext.refl w).alloc (.cells #[.int .i64 P', .int .i64 R, .int .i64 C, .slice (some ⟨s0, so, none⟩) n1 n1] 40))
    have B0 := Lib.hid (HC.out.ext E0.out)
    have lA := A0.out.1
    have a0 := A0.out.2 0 _ rfl
    have a1 := A0.out.2 1 _ rfl
    have a2 := A0.out.2 2 _ rfl
    have a3 := A0.out.2 3 _ rfl
    have lB := B0.out.1
    have q0 := B0.out.2 0 _ rfl
    have q1 := B0.out.2 1 _ rfl
    go_wp2_with fail
    generalize (w.alloc (.cells #[.int .i64 P', .int .i64 R, .int .i64 C, .slice (some ⟨s0, so, none⟩) n1 n1] 40)) = W1 at *
    refine wp_region_held_drew (S := (fun w' => Ext W1 w' ∧ (∀ b o, b < W1.heap.size → w'.cell? ⟨b, o, none⟩ = W1.cell? ⟨b, o, none⟩))) (by kernel_rfl) (ext2 (Ext.refl _).drew) (fun hHeld => ?_)
    refine wpAnyH_take (i := 0) (v := ?v1) rfl (by kernel_rfl) (by kernel_rfl) (by kernel_rfl) (fun _ _ _ h => h) (Or.inl ⟨by rfl, ?hy1⟩) hHeld ?rest1
    case hy1 => (intro wz hSw; (try dsimp only at hSw); go_simp; (try with_reducible rfl))
    (try simp only [Act.put, List.getElem_toArray, List.getElem_cons_succ, List.getElem_cons_zero]); (try simp only [List.setIfInBounds_toArray]); (try simp only [List.set_cons_succ]); (try simp only [List.set_cons_zero])
    refine wpAnyH_ready (rs := [1]) (by kernel_rfl) (by simp) ?_
    refine AllReadyH.cons rfl (fun K' hK => ?_) AllReadyH.nil
    go_simp
    refine (matrixOk_impl _ _ _ _ _ _ xs _ (HX.out.ext (E0.out.trans (Ext.refl _).drew)) hm).mono ?_
    rintro e w4 ⟨rfl, h4⟩
    rw [H1.out]
    dsimp only
    refine hK.out _ _ (ext2 ((Ext.drew (Ext.refl _)).trans h4)) (fun hHeld => ?_)
    clear hK
    refine wpAnyH_take (i := 2) (v := ?v2) rfl (by kernel_rfl) (by kernel_rfl) (by kernel_rfl) (fun _ _ _ h => h) (Or.inl ⟨by rfl, ?hy2⟩) hHeld ?rest2
    case hy2 => (intro wz hSw; (try dsimp only at hSw); go_simp; (try with_reducible rfl))
    (try simp only [Act.put, List.getElem_toArray, List.getElem_cons_succ, List.getElem_cons_zero]); (try simp only [List.setIfInBounds_toArray]); (try simp only [List.set_cons_succ]); (try simp only [List.set_cons_zero])
    refine wpAnyH_take (i := 3) (v := undef) rfl (by kernel_rfl) (by kernel_rfl) (by kernel_rfl) (fun _ _ _ h => h) (Or.inr ⟨by rfl, rfl⟩) hHeld ?rest3
    (try simp only [Act.put, List.getElem_toArray, List.getElem_cons_succ, List.getElem_cons_zero]); (try simp only [List.setIfInBounds_toArray]); (try simp only [List.set_cons_succ]); (try simp only [List.set_cons_zero])
    refine wpAnyH_take (i := 4) (v := undef) rfl (by kernel_rfl) (by kernel_rfl) (by kernel_rfl) (fun _ _ _ h => h) (Or.inr ⟨by rfl, rfl⟩) hHeld ?rest4
    (try simp only [Act.put, List.getElem_toArray, List.getElem_cons_succ, List.getElem_cons_zero]); (try simp only [List.setIfInBounds_toArray]); (try simp only [List.set_cons_succ]); (try simp only [List.set_cons_zero])
    refine wpAnyH_take (i := 5) (v := undef) rfl (by kernel_rfl) (by kernel_rfl) (by kernel_rfl) (fun _ _ _ h => h) (Or.inr ⟨by rfl, rfl⟩) hHeld ?rest5
    (try simp only [Act.put, List.getElem_toArray, List.getElem_cons_succ, List.getElem_cons_zero]); (try simp only [List.setIfInBounds_toArray]); (try simp only [List.set_cons_succ]); (try simp only [List.set_cons_zero])
    refine wpAnyH_take (i := 6) (v := undef) rfl (by kernel_rfl) (by kernel_rfl) (by kernel_rfl) (fun _ _ _ h => h) (Or.inr ⟨by rfl, rfl⟩) hHeld ?rest6
    (try simp only [Act.put, List.getElem_toArray, List.getElem_cons_succ, List.getElem_cons_zero]); (try simp only [List.setIfInBounds_toArray]); (try simp only [List.set_cons_succ]); (try simp only [List.set_cons_zero])
    refine wpAnyH_take (i := 7) (v := undef) rfl (by kernel_rfl) (by kernel_rfl) (by kernel_rfl) (fun _ _ _ h => h) (Or.inr ⟨by rfl, rfl⟩) hHeld ?rest7
    (try simp only [Act.put, List.getElem_toArray, List.getElem_cons_succ, List.getElem_cons_zero]); (try simp only [List.setIfInBounds_toArray]); (try simp only [List.set_cons_succ]); (try simp only [List.set_cons_zero])
    refine wpAnyH_take (i := 8) (v := undef) rfl (by kernel_rfl) (by kernel_rfl) (by kernel_rfl) (fun _ _ _ h => h) (Or.inr ⟨by rfl, rfl⟩) hHeld ?rest8
    (try simp only [Act.put, List.getElem_toArray, List.getElem_cons_succ, List.getElem_cons_zero]); (try simp only [List.setIfInBounds_toArray]); (try simp only [List.set_cons_succ]); (try simp only [List.set_cons_zero])
    refine wpAnyH_take (i := 9) (v := undef) rfl (by kernel_rfl) (by kernel_rfl) (by kernel_rfl) (fun _ _ _ h => h) (Or.inr ⟨by rfl, rfl⟩) hHeld ?rest9
    (try simp only [Act.put, List.getElem_toArray, List.getElem_cons_succ, List.getElem_cons_zero]); (try simp only [List.setIfInBounds_toArray]); (try simp only [List.set_cons_succ]); (try simp only [List.set_cons_zero])
    refine wpAnyH_take (i := 10) (v := undef) rfl (by kernel_rfl) (by kernel_rfl) (by kernel_rfl) (fun _ _ _ h => h) (Or.inr ⟨by rfl, rfl⟩) hHeld ?rest10
    (try simp only [Act.put, List.getElem_toArray, List.getElem_cons_succ, List.getElem_cons_zero]); (try simp only [List.setIfInBounds_toArray]); (try simp only [List.set_cons_succ]); (try simp only [List.set_cons_zero])
    refine wpAnyH_take (i := 11) (v := ?v11) rfl (by kernel_rfl) (by kernel_rfl) (by kernel_rfl) (fun _ _ _ h => h) (Or.inl ⟨by rfl, ?hy11⟩) hHeld ?rest11
    case hy11 => (intro wz hSw; (try dsimp only at hSw); go_simp; (try with_reducible rfl))
    (try simp only [Act.put, List.getElem_toArray, List.getElem_cons_succ, List.getElem_cons_zero]); (try simp only [List.setIfInBounds_toArray]); (try simp only [List.set_cons_succ]); (try simp only [List.set_cons_zero])
    refine wpAnyH_take (i := 12) (v := ?v12) rfl (by kernel_rfl) (by kernel_rfl) (by kernel_rfl) (fun _ _ _ h => h) (Or.inl ⟨by rfl, ?hy12⟩) hHeld ?rest12
    case hy12 => (intro wz hSw; (try dsimp only at hSw); go_simp; (try with_reducible rfl))
    (try simp only [Act.put, List.getElem_toArray, List.getElem_cons_succ, List.getElem_cons_zero]); (try simp only [List.setIfInBounds_toArray]); (try simp only [List.set_cons_succ]); (try simp only [List.set_cons_zero])
    refine wpAnyH_take (i := 13) (v := undef) rfl (by kernel_rfl) (by kernel_rfl) (by kernel_rfl) (fun _ _ _ h => h) (Or.inr ⟨by rfl, rfl⟩) hHeld ?rest13
    (try simp only [Act.put, List.getElem_toArray, List.getElem_cons_succ, List.getElem_cons_zero]); (try simp only [List.setIfInBounds_toArray]); (try simp only [List.set_cons_succ]); (try simp only [List.set_cons_zero])
    refine wpAnyH_take (i := 14) (v := undef) rfl (by kernel_rfl) (by kernel_rfl) (by kernel_rfl) (fun _ _ _ h => h) (Or.inr ⟨by rfl, rfl⟩) hHeld ?rest14
    (try simp only [Act.put, List.getElem_toArray, List.getElem_cons_succ, List.getElem_cons_zero]); (try simp only [List.setIfInBounds_toArray]); (try simp only [List.set_cons_succ]); (try simp only [List.set_cons_zero])
    refine wpAnyH_take (i := 15) (v := undef) rfl (by kernel_rfl) (by kernel_rfl) (by kernel_rfl) (fun _ _ _ h => h) (Or.inr ⟨by rfl, rfl⟩) hHeld ?rest15
    (try simp only [Act.put, List.getElem_toArray, List.getElem_cons_succ, List.getElem_cons_zero]); (try simp only [List.setIfInBounds_toArray]); (try simp only [List.set_cons_succ]); (try simp only [List.set_cons_zero])
    refine wpAnyH_take (i := 16) (v := undef) rfl (by kernel_rfl) (by kernel_rfl) (by kernel_rfl) (fun _ _ _ h => h) (Or.inr ⟨by rfl, rfl⟩) hHeld ?rest16
    (try simp only [Act.put, List.getElem_toArray, List.getElem_cons_succ, List.getElem_cons_zero]); (try simp only [List.setIfInBounds_toArray]); (try simp only [List.set_cons_succ]); (try simp only [List.set_cons_zero])
    refine wpAnyH_take (i := 17) (v := undef) rfl (by kernel_rfl) (by kernel_rfl) (by kernel_rfl) (fun _ _ _ h => h) (Or.inr ⟨by rfl, rfl⟩) hHeld ?rest17
    (try simp only [Act.put, List.getElem_toArray, List.getElem_cons_succ, List.getElem_cons_zero]); (try simp only [List.setIfInBounds_toArray]); (try simp only [List.set_cons_succ]); (try simp only [List.set_cons_zero])
    refine wpAnyH_take (i := 18) (v := undef) rfl (by kernel_rfl) (by kernel_rfl) (by kernel_rfl) (fun _ _ _ h => h) (Or.inr ⟨by rfl, rfl⟩) hHeld ?rest18
    (try simp only [Act.put, List.getElem_toArray, List.getElem_cons_succ, List.getElem_cons_zero]); (try simp only [List.setIfInBounds_toArray]); (try simp only [List.set_cons_succ]); (try simp only [List.set_cons_zero])
    refine wpAnyH_take (i := 19) (v := undef) rfl (by kernel_rfl) (by kernel_rfl) (by kernel_rfl) (fun _ _ _ h => h) (Or.inr ⟨by rfl, rfl⟩) hHeld ?rest19
    (try simp only [Act.put, List.getElem_toArray, List.getElem_cons_succ, List.getElem_cons_zero]); (try simp only [List.setIfInBounds_toArray]); (try simp only [List.set_cons_succ]); (try simp only [List.set_cons_zero])
    refine wpAnyH_take (i := 20) (v := undef) rfl (by kernel_rfl) (by kernel_rfl) (by kernel_rfl) (fun _ _ _ h => h) (Or.inr ⟨by rfl, rfl⟩) hHeld ?rest20
    (try simp only [Act.put, List.getElem_toArray, List.getElem_cons_succ, List.getElem_cons_zero]); (try simp only [List.setIfInBounds_toArray]); (try simp only [List.set_cons_succ]); (try simp only [List.set_cons_zero])
    refine wpAnyH_take (i := 21) (v := ?v21) rfl (by kernel_rfl) (by kernel_rfl) (by kernel_rfl) (fun _ _ _ h => h) (Or.inl ⟨by rfl, ?hy21⟩) hHeld ?rest21
    case hy21 => (intro wz hSw; (try dsimp only at hSw); go_simp; (try with_reducible rfl))
    (try simp only [Act.put, List.getElem_toArray, List.getElem_cons_succ, List.getElem_cons_zero]); (try simp only [List.setIfInBounds_toArray]); (try simp only [List.set_cons_succ]); (try simp only [List.set_cons_zero])
    refine wpAnyH_take (i := 22) (v := ?v22) rfl (by kernel_rfl) (by kernel_rfl) (by kernel_rfl) (fun _ _ _ h => h) (Or.inl ⟨by rfl, ?hy22⟩) hHeld ?rest22
    case hy22 => (intro wz hSw; (try dsimp only at hSw); go_simp; (try with_reducible rfl))
    (try simp only [Act.put, List.getElem_toArray, List.getElem_cons_succ, List.getElem_cons_zero]); (try simp only [List.setIfInBounds_toArray]); (try simp only [List.set_cons_succ]); (try simp only [List.set_cons_zero])
    refine wpAnyH_done (by kernel_rfl) ?_ _
    have E9 := Lib.hid (E0.out.trans ((Ext.drew (Ext.refl _)).trans h4))
    clear hHeld
    go_wp2
    go_ret
    exact ⟨ret_bool HF.out.symm, E9.out⟩
  have H1 := Lib.hid h1
  rcases h2 : (P' == P) with _ | _
  · have HF : Hid (q = false) := by rw [Hid, HA.out, h1, h2]; rfl
    clear h1 HA
    go_enter Try.func85, Try.ntmps85
    have A0 := Lib.hid (cells_new' w #[.int .i64 P', .int .i64 R, .int .i64 C, .slice (some ⟨s0, so, none⟩) n1 n1] 40 w.heap.size rfl)
    have E0 := Lib.hid ((Ext.refl w).alloc (.cells #[.int .i64 P', .int .i64 R, .int .i64 C, .slice (some ⟨s0, so, none⟩) n1 n1] 40))
    have B0 := Lib.hid (HC.out.ext E0.out)
    have lA := A0.out.1
    have a0 := A0.out.2 0 _ rfl
    have a1 := A0.out.2 1 _ rfl
    have a2 := A0.out.2 2 _ rfl
    have a3 := A0.out.2 3 _ rfl
    have lB := B0.out.1
    have q0 := B0.out.2 0 _ rfl
    have q1 := B0.out.2 1 _ rfl
    go_wp2_with fail
    generalize (w.alloc (.cells #[.int .i64 P', .int .i64 R, .int .i64 C, .slice (some ⟨s0, so, none⟩) n1 n1] 40)) = W1 at *
    refine wp_region_held_drew (S := (fun w' => Ext W1 w' ∧ (∀ b o, b < W1.heap.size → w'.cell? ⟨b, o, none⟩ = W1.cell? ⟨b, o, none⟩))) (by kernel_rfl) (ext2 (Ext.refl _).drew) (fun hHeld => ?_)
    refine wpAnyH_take (i := 0) (v := ?v23) rfl (by kernel_rfl) (by kernel_rfl) (by kernel_rfl) (fun _ _ _ h => h) (Or.inl ⟨by rfl, ?hy23⟩) hHeld ?rest23
    case hy23 => (intro wz hSw; (try dsimp only at hSw); go_simp; (try with_reducible rfl))
    (try simp only [Act.put, List.getElem_toArray, List.getElem_cons_succ, List.getElem_cons_zero]); (try simp only [List.setIfInBounds_toArray]); (try simp only [List.set_cons_succ]); (try simp only [List.set_cons_zero])
    refine wpAnyH_ready (rs := [1]) (by kernel_rfl) (by simp) ?_
    refine AllReadyH.cons rfl (fun K' hK => ?_) AllReadyH.nil
    go_simp
    refine (matrixOk_impl _ _ _ _ _ _ xs _ (HX.out.ext (E0.out.trans (Ext.refl _).drew)) hm).mono ?_
    rintro e w4 ⟨rfl, h4⟩
    rw [H1.out]
    dsimp only
    refine hK.out _ _ (ext2 ((Ext.drew (Ext.refl _)).trans h4)) (fun hHeld => ?_)
    clear hK
    refine wpAnyH_take (i := 2) (v := ?v24) rfl (by kernel_rfl) (by kernel_rfl) (by kernel_rfl) (fun _ _ _ h => h) (Or.inl ⟨by rfl, ?hy24⟩) hHeld ?rest24
    case hy24 => (intro wz hSw; (try dsimp only at hSw); go_simp; (try with_reducible rfl))
    (try simp only [Act.put, List.getElem_toArray, List.getElem_cons_succ, List.getElem_cons_zero]); (try simp only [List.setIfInBounds_toArray]); (try simp only [List.set_cons_succ]); (try simp only [List.set_cons_zero])
    refine wpAnyH_take (i := 3) (v := ?v25) rfl (by kernel_rfl) (by kernel_rfl) (by kernel_rfl) (fun _ _ _ h => h) (Or.inl ⟨by rfl, ?hy25⟩) hHeld ?rest25
    case hy25 => (intro wz hSw; (try dsimp only at hSw); go_simp; (try with_reducible rfl))
    (try simp only [Act.put, List.getElem_toArray, List.getElem_cons_succ, List.getElem_cons_zero]); (try simp only [List.setIfInBounds_toArray]); (try simp only [List.set_cons_succ]); (try simp only [List.set_cons_zero])
    refine wpAnyH_take (i := 4) (v := ?v26) rfl (by kernel_rfl) (by kernel_rfl) (by kernel_rfl) (fun _ _ _ h => h) (Or.inl ⟨by rfl, ?hy26⟩) hHeld ?rest26
    case hy26 => (intro wz hSw; (try dsimp only at hSw); go_simp; (try with_reducible rfl))
    (try simp only [Act.put, List.getElem_toArray, List.getElem_cons_succ, List.getElem_cons_zero]); (try simp only [List.setIfInBounds_toArray]); (try simp only [List.set_cons_succ]); (try simp only [List.set_cons_zero])
    refine wpAnyH_take (i := 5) (v := ?v27) rfl (by kernel_rfl) (by kernel_rfl) (by kernel_rfl) (fun _ _ _ h => h) (Or.inl ⟨by rfl, ?hy27⟩) hHeld ?rest27
    case hy27 => (intro wz hSw; (try dsimp only at hSw); go_simp; (try with_reducible rfl))
    (try simp only [Act.put, List.getElem_toArray, List.getElem_cons_succ, List.getElem_cons_zero]); (try simp only [List.setIfInBounds_toArray]); (try simp only [List.set_cons_succ]); (try simp only [List.set_cons_zero])
    refine wpAnyH_take (i := 6) (v := ?v28) rfl (by kernel_rfl) (by kernel_rfl) (by kernel_rfl) (fun _ _ _ h => h) (Or.inl ⟨by rfl, ?hy28⟩) hHeld ?rest28
    case hy28 => (intro wz hSw; (try dsimp only at hSw); go_simp; (try with_reducible rfl))
    (try simp only [Act.put, List.getElem_toArray, List.getElem_cons_succ, List.getElem_cons_zero]); (try simp only [List.setIfInBounds_toArray]); (try simp only [List.set_cons_succ]); (try simp only [List.set_cons_zero])
    refine wpAnyH_take (i := 7) (v := ?v29) rfl (by kernel_rfl) (by kernel_rfl) (by kernel_rfl) (fun _ _ _ h => h) (Or.inl ⟨by rfl, ?hy29⟩) hHeld ?rest29
    case hy29 => (intro wz hSw; (try dsimp only at hSw); go_simp; (try with_reducible rfl))
    (try simp only [Act.put, List.getElem_toArray, List.getElem_cons_succ, List.getElem_cons_zero]); (try simp only [List.setIfInBounds_toArray]); (try simp only [List.set_cons_succ]); (try simp only [List.set_cons_zero])
    refine wpAnyH_take (i := 8) (v := ?v30) rfl (by kernel_rfl) (by kernel_rfl) (by kernel_rfl) (fun _ _ _ h => h) (Or.inl ⟨by rfl, ?hy30⟩) hHeld ?rest30
    case hy30 => (intro wz hSw; (try dsimp only at hSw); go_simp; (try with_reducible rfl))
    (try simp only [Act.put, List.getElem_toArray, List.getElem_cons_succ, List.getElem_cons_zero]); (try simp only [List.setIfInBounds_toArray]); (try simp only [List.set_cons_succ]); (try simp only [List.set_cons_zero])
    refine wpAnyH_take (i := 9) (v := ?v31) rfl (by kernel_rfl) (by kernel_rfl) (by kernel_rfl) (fun _ _ _ h => h) (Or.inl ⟨by rfl, ?hy31⟩) hHeld ?rest31
    case hy31 => (intro wz hSw; (try dsimp only at hSw); go_simp; (try with_reducible rfl))
    (try simp only [Act.put, List.getElem_toArray, List.getElem_cons_succ, List.getElem_cons_zero]); (try simp only [List.setIfInBounds_toArray]); (try simp only [List.set_cons_succ]); (try simp only [List.set_cons_zero])
    refine wpAnyH_take (i := 10) (v := ?v32) rfl (by kernel_rfl) (by kernel_rfl) (by kernel_rfl) (fun _ _ _ h => h) (Or.inl ⟨by rfl, ?hy32⟩) hHeld ?rest32
    case hy32 => (intro wz hSw; (try dsimp only at hSw); go_simp; (try with_reducible rfl))
    (try simp only [Act.put, List.getElem_toArray, List.getElem_cons_succ, List.getElem_cons_zero]); (try simp only [List.setIfInBounds_toArray]); (try simp only [List.set_cons_succ]); (try simp only [List.set_cons_zero])
    refine wpAnyH_take (i := 11) (v := ?v33) rfl (by kernel_rfl) (by kernel_rfl) (by kernel_rfl) (fun _ _ _ h => h) (Or.inl ⟨by rfl, ?hy33⟩) hHeld ?rest33
    case hy33 => (intro wz hSw; (try dsimp only at hSw); go_simp; (try with_reducible rfl))
    (try simp only [Act.put, List.getElem_toArray, List.getElem_cons_succ, List.getElem_cons_zero]); (try simp only [List.setIfInBounds_toArray]); (try simp only [List.set_cons_succ]); (try simp only [List.set_cons_zero])
    refine wpAnyH_take (i := 12) (v := ?v34) rfl (by kernel_rfl) (by kernel_rfl) (by kernel_rfl) (fun _ _ _ h => h) (Or.inl ⟨by rfl, ?hy34⟩) hHeld ?rest34
    case hy34 => (intro wz hSw; (try dsimp only at hSw); go_simp; (try with_reducible rfl))
    (try simp only [Act.put, List.getElem_toArray, List.getElem_cons_succ, List.getElem_cons_zero]); (try simp only [List.setIfInBounds_toArray]); (try simp only [List.set_cons_succ]); (try simp only [List.set_cons_zero])
    refine wpAnyH_take (i := 13) (v := undef) rfl (by kernel_rfl) (by kernel_rfl) (by kernel_rfl) (fun _ _ _ h => h) (Or.inr ⟨by rfl, rfl⟩) hHeld ?rest35
    (try simp only [Act.put, List.getElem_toArray, List.getElem_cons_succ, List.getElem_cons_zero]); (try simp only [List.setIfInBounds_toArray]); (try simp only [List.set_cons_succ]); (try simp only [List.set_cons_zero])
    refine wpAnyH_take (i := 14) (v := undef) rfl (by kernel_rfl) (by kernel_rfl) (by kernel_rfl) (fun _ _ _ h => h) (Or.inr ⟨by rfl, rfl⟩) hHeld ?rest36
    (try simp only [Act.put, List.getElem_toArray, List.getElem_cons_succ, List.getElem_cons_zero]); (try simp only [List.setIfInBounds_toArray]); (try simp only [List.set_cons_succ]); (try simp only [List.set_cons_zero])
    refine wpAnyH_take (i := 15) (v := undef) rfl (by kernel_rfl) (by kernel_rfl) (by kernel_rfl) (fun _ _ _ h => h) (Or.inr ⟨by rfl, rfl⟩) hHeld ?rest37
    (try simp only [Act.put, List.getElem_toArray, List.getElem_cons_succ, List.getElem_cons_zero]); (try simp only [List.setIfInBounds_toArray]); (try simp only [List.set_cons_succ]); (try simp only [List.set_cons_zero])
    refine wpAnyH_take (i := 16) (v := undef) rfl (by kernel_rfl) (by kernel_rfl) (by kernel_rfl) (fun _ _ _ h => h) (Or.inr ⟨by rfl, rfl⟩) hHeld ?rest38
    (try simp only [Act.put, List.getElem_toArray, List.getElem_cons_succ, List.getElem_cons_zero]); (try simp only [List.setIfInBounds_toArray]); (try simp only [List.set_cons_succ]); (try simp only [List.set_cons_zero])
    refine wpAnyH_take (i := 17) (v := undef) rfl (by kernel_rfl) (by kernel_rfl) (by kernel_rfl) (fun _ _ _ h => h) (Or.inr ⟨by rfl, rfl⟩) hHeld ?rest39
    (try simp only [Act.put, List.getElem_toArray, List.getElem_cons_succ, List.getElem_cons_zero]); (try simp only [List.setIfInBounds_toArray]); (try simp only [List.set_cons_succ]); (try simp only [List.set_cons_zero])
    refine wpAnyH_take (i := 18) (v := undef) rfl (by kernel_rfl) (by kernel_rfl) (by kernel_rfl) (fun _ _ _ h => h) (Or.inr ⟨by rfl, rfl⟩) hHeld ?rest40
    (try simp only [Act.put, List.getElem_toArray, List.getElem_cons_succ, List.getElem_cons_zero]); (try simp only [List.setIfInBounds_toArray]); (try simp only [List.set_cons_succ]); (try simp only [List.set_cons_zero])
    refine wpAnyH_take (i := 19) (v := undef) rfl (by kernel_rfl) (by kernel_rfl) (by kernel_rfl) (fun _ _ _ h => h) (Or.inr ⟨by rfl, rfl⟩) hHeld ?rest41
    (try simp only [Act.put, List.getElem_toArray, List.getElem_cons_succ, List.getElem_cons_zero]); (try simp only [List.setIfInBounds_toArray]); (try simp only [List.set_cons_succ]); (try simp only [List.set_cons_zero])
    refine wpAnyH_take (i := 20) (v := undef) rfl (by kernel_rfl) (by kernel_rfl) (by kernel_rfl) (fun _ _ _ h => h) (Or.inr ⟨by rfl, rfl⟩) hHeld ?rest42
    (try simp only [Act.put, List.getElem_toArray, List.getElem_cons_succ, List.getElem_cons_zero]); (try simp only [List.setIfInBounds_toArray]); (try simp only [List.set_cons_succ]); (try simp only [List.set_cons_zero])
    refine wpAnyH_take (i := 21) (v := ?v43) rfl (by kernel_rfl) (by kernel_rfl) (by kernel_rfl) (fun _ _ _ h => h) (Or.inl ⟨by rfl, ?hy43⟩) hHeld ?rest43
    case hy43 => (intro wz hSw; (try dsimp only at hSw); go_simp; (try with_reducible rfl))
    (try simp only [Act.put, List.getElem_toArray, List.getElem_cons_succ, List.getElem_cons_zero]); (try simp only [List.setIfInBounds_toArray]); (try simp only [List.set_cons_succ]); (try simp only [List.set_cons_zero])
    refine wpAnyH_take (i := 22) (v := ?v44) rfl (by kernel_rfl) (by kernel_rfl) (by kernel_rfl) (fun _ _ _ h => h) (Or.inl ⟨by rfl, ?hy44⟩) hHeld ?rest44
    case hy44 => (intro wz hSw; (try dsimp only at hSw); go_simp; (try with_reducible rfl))
    (try simp only [Act.put, List.getElem_toArray, List.getElem_cons_succ, List.getElem_cons_zero]); (try simp only [List.setIfInBounds_toArray]); (try simp only [List.set_cons_succ]); (try simp only [List.set_cons_zero])
    refine wpAnyH_done (by kernel_rfl) ?_ _
    have E9 := Lib.hid (E0.out.trans ((Ext.drew (Ext.refl _)).trans h4))
    clear hHeld
    go_wp2
    go_ret
    exact ⟨ret_bool HF.out.symm, E9.out⟩
  · have HF : Hid (q = (C == D)) := by rw [Hid, HA.out, h1, h2]; rfl
    clear h1 HA
    go_enter Try.func85, Try.ntmps85
    have A0 := Lib.hid (cells_new' w #[.int .i64 P', .int .i64 R, .int .i64 C, .slice (some ⟨s0, so, none⟩) n1 n1] 40 w.heap.size rfl)
    have E0 := Lib.hid ((Ext.refl w).alloc (.cells #[.int .i64 P', .int .i64 R, .int .i64 C, .slice (some ⟨s0, so, none⟩) n1 n1] 40))
    have B0 := Lib.hid (HC.out.ext E0.out)
    have lA := A0.out.1
    have a0 := A0.out.2 0 _ rfl
    have a1 := A0.out.2 1 _ rfl
    have a2 := A0.out.2 2 _ rfl
    have a3 := A0.out.2 3 _ rfl
    have lB := B0.out.1
    have q0 := B0.out.2 0 _ rfl
    have q1 := B0.out.2 1 _ rfl
    go_wp2_with fail
    generalize (w.alloc (.cells #[.int .i64 P', .int .i64 R, .int .i64 C, .slice (some ⟨s0, so, none⟩) n1 n1] 40)) = W1 at *
    go_region_held3 (fun w' => Ext W1 w' ∧ (∀ b o, b < W1.heap.size → w'.cell? ⟨b, o, none⟩ = W1.cell? ⟨b, o, none⟩)) (first | assumption | (with_reducible exact ext2 (Ext.trans (And.left ‹Ext W1 _ ∧ _›) ‹Ext _ _›)) | (refine ext2 ?_; with_reducible repeat (first | exact Ext.refl _ | exact And.left ‹Ext W1 _ ∧ _› | refine Ext.drew ?_ | refine Ext.drewN ?_ _))) ((go_at_call 160; (with_reducible refine (matrixOk_impl _ _ _ _ _ _ xs _ (HX.out.ext (E0.out.trans (And.left ‹Ext W1 _ ∧ _›))) hm).mono ?_); rintro e w4 ⟨rfl, h4⟩; rw [H1.out]))
    all_goals
      have E9 := Lib.hid (E0.out.trans (And.left ‹Ext W1 w4 ∧ _›))
      go_wp2
      go_ret
      rw [HF.out]
      exact ⟨rfl, E9.out⟩

set_option maxRecDepth 100000 in
set_option maxHeartbeats 3200000 in
theorem hasSquare_impl (P D P' R C : Int) (B s0 so n1 : Nat) (v : Value) (xs : List Int) (w : World) (hc : Cells w B [.int .i64 P, .int .i64 D, v]) (hX : Reads w (some ⟨s0, so, none⟩) n1 xs) (hm : n1 ≤ maxLen) :
    Calls Try.prog 151 #[.pointer (some ⟨B, 0, none⟩), .agg #[.int .i64 P', .int .i64 R, .int .i64 C, .slice (some ⟨s0, so, none⟩) n1 n1]] w fun e w' => e = .returned (.bool (formB P D P' R C xs)) ∧ Ext w w' := by
  have HC := Lib.hid hc
  have HX := Lib.hid hX
  have HA : Hid (formB P D P' R C xs = (rwB P D P' R C xs && (R == D))) := rfl
  generalize formB P D P' R C xs = q at HA
  clear hc hX
  rcases h1 : rwB P D P' R C xs with _ | _
  · have HF : Hid (q = false) := by rw [Hid, HA.out, h1]; rfl
    have H1 := Lib.hid h1
    clear h1 HA
    go_enter Try.func151, Try.ntmps151
    have A0 := Lib.hid (cells_new' w #[.int .i64 P', .int .i64 R, .int .i64 C, .slice (some ⟨s0, so, none⟩) n1 n1] 40 w.heap.size rfl)
    have E0 := Lib.hid ((Ext.refl w).alloc (.cells #[.int .i64 P', .int .i64 R, .int .i64 C, .slice (some ⟨s0, so, none⟩) n1 n1] 40))
    have B0 := Lib.hid (HC.out.ext E0.out)
    have lA := A0.out.1
    have a0 := A0.out.2 0 _ rfl
    have a1 := A0.out.2 1 _ rfl
    have a2 := A0.out.2 2 _ rfl
    have a3 := A0.out.2 3 _ rfl
    have lB := B0.out.1
    have q0 := B0.out.2 0 _ rfl
    have q1 := B0.out.2 1 _ rfl
    go_wp2_with fail
    generalize (w.alloc (.cells #[.int .i64 P', .int .i64 R, .int .i64 C, .slice (some ⟨s0, so, none⟩) n1 n1] 40)) = W1 at *
    refine wp_region_held_drew (S := (fun w' => Ext W1 w' ∧ (∀ b o, b < W1.heap.size → w'.cell? ⟨b, o, none⟩ = W1.cell? ⟨b, o, none⟩))) (by kernel_rfl) (ext2 (Ext.refl _).drew) (fun hHeld => ?_)
    refine wpAnyH_take (i := 0) (v := ?v45) rfl (by kernel_rfl) (by kernel_rfl) (by kernel_rfl) (fun _ _ _ h => h) (Or.inl ⟨by rfl, ?hy45⟩) hHeld ?rest45
    case hy45 => (intro wz hSw; (try dsimp only at hSw); go_simp; (try with_reducible rfl))
    (try simp only [Act.put, List.getElem_toArray, List.getElem_cons_succ, List.getElem_cons_zero]); (try simp only [List.setIfInBounds_toArray]); (try simp only [List.set_cons_succ]); (try simp only [List.set_cons_zero])
    refine wpAnyH_take (i := 1) (v := ?v46) rfl (by kernel_rfl) (by kernel_rfl) (by kernel_rfl) (fun _ _ _ h => h) (Or.inl ⟨by rfl, ?hy46⟩) hHeld ?rest46
    case hy46 => (intro wz hSw; (try dsimp only at hSw); go_simp; (try with_reducible rfl))
    (try simp only [Act.put, List.getElem_toArray, List.getElem_cons_succ, List.getElem_cons_zero]); (try simp only [List.setIfInBounds_toArray]); (try simp only [List.set_cons_succ]); (try simp only [List.set_cons_zero])
    refine wpAnyH_ready (rs := [2]) (by kernel_rfl) (by simp) ?_
    refine AllReadyH.cons rfl (fun K' hK => ?_) AllReadyH.nil
    go_simp
    refine (hasRows_impl P D P' R C B s0 so n1 v xs _ (B0.out.ext (Ext.drew (Ext.refl _))) (HX.out.ext (E0.out.trans (Ext.refl _).drew)) hm).mono ?_
    rintro e w4 ⟨rfl, h4⟩
    rw [H1.out]
    dsimp only
    refine hK.out _ _ (ext2 ((Ext.drew (Ext.refl _)).trans h4)) (fun hHeld => ?_)
    clear hK
    refine wpAnyH_take (i := 3) (v := ?v47) rfl (by kernel_rfl) (by kernel_rfl) (by kernel_rfl) (fun _ _ _ h => h) (Or.inl ⟨by rfl, ?hy47⟩) hHeld ?rest47
    case hy47 => (intro wz hSw; (try dsimp only at hSw); go_simp; (try with_reducible rfl))
    (try simp only [Act.put, List.getElem_toArray, List.getElem_cons_succ, List.getElem_cons_zero]); (try simp only [List.setIfInBounds_toArray]); (try simp only [List.set_cons_succ]); (try simp only [List.set_cons_zero])
    refine wpAnyH_take (i := 4) (v := undef) rfl (by kernel_rfl) (by kernel_rfl) (by kernel_rfl) (fun _ _ _ h => h) (Or.inr ⟨by rfl, rfl⟩) hHeld ?rest48
    (try simp only [Act.put, List.getElem_toArray, List.getElem_cons_succ, List.getElem_cons_zero]); (try simp only [List.setIfInBounds_toArray]); (try simp only [List.set_cons_succ]); (try simp only [List.set_cons_zero])
    refine wpAnyH_take (i := 5) (v := undef) rfl (by kernel_rfl) (by kernel_rfl) (by kernel_rfl) (fun _ _ _ h => h) (Or.inr ⟨by rfl, rfl⟩) hHeld ?rest49
    (try simp only [Act.put, List.getElem_toArray, List.getElem_cons_succ, List.getElem_cons_zero]); (try simp only [List.setIfInBounds_toArray]); (try simp only [List.set_cons_succ]); (try simp only [List.set_cons_zero])
    refine wpAnyH_take (i := 6) (v := undef) rfl (by kernel_rfl) (by kernel_rfl) (by kernel_rfl) (fun _ _ _ h => h) (Or.inr ⟨by rfl, rfl⟩) hHeld ?rest50
    (try simp only [Act.put, List.getElem_toArray, List.getElem_cons_succ, List.getElem_cons_zero]); (try simp only [List.setIfInBounds_toArray]); (try simp only [List.set_cons_succ]); (try simp only [List.set_cons_zero])
    refine wpAnyH_take (i := 7) (v := undef) rfl (by kernel_rfl) (by kernel_rfl) (by kernel_rfl) (fun _ _ _ h => h) (Or.inr ⟨by rfl, rfl⟩) hHeld ?rest51
    (try simp only [Act.put, List.getElem_toArray, List.getElem_cons_succ, List.getElem_cons_zero]); (try simp only [List.setIfInBounds_toArray]); (try simp only [List.set_cons_succ]); (try simp only [List.set_cons_zero])
    refine wpAnyH_take (i := 8) (v := undef) rfl (by kernel_rfl) (by kernel_rfl) (by kernel_rfl) (fun _ _ _ h => h) (Or.inr ⟨by rfl, rfl⟩) hHeld ?rest52
    (try simp only [Act.put, List.getElem_toArray, List.getElem_cons_succ, List.getElem_cons_zero]); (try simp only [List.setIfInBounds_toArray]); (try simp only [List.set_cons_succ]); (try simp only [List.set_cons_zero])
    refine wpAnyH_take (i := 9) (v := undef) rfl (by kernel_rfl) (by kernel_rfl) (by kernel_rfl) (fun _ _ _ h => h) (Or.inr ⟨by rfl, rfl⟩) hHeld ?rest53
    (try simp only [Act.put, List.getElem_toArray, List.getElem_cons_succ, List.getElem_cons_zero]); (try simp only [List.setIfInBounds_toArray]); (try simp only [List.set_cons_succ]); (try simp only [List.set_cons_zero])
    refine wpAnyH_take (i := 10) (v := undef) rfl (by kernel_rfl) (by kernel_rfl) (by kernel_rfl) (fun _ _ _ h => h) (Or.inr ⟨by rfl, rfl⟩) hHeld ?rest54
    (try simp only [Act.put, List.getElem_toArray, List.getElem_cons_succ, List.getElem_cons_zero]); (try simp only [List.setIfInBounds_toArray]); (try simp only [List.set_cons_succ]); (try simp only [List.set_cons_zero])
    refine wpAnyH_take (i := 11) (v := undef) rfl (by kernel_rfl) (by kernel_rfl) (by kernel_rfl) (fun _ _ _ h => h) (Or.inr ⟨by rfl, rfl⟩) hHeld ?rest55
    (try simp only [Act.put, List.getElem_toArray, List.getElem_cons_succ, List.getElem_cons_zero]); (try simp only [List.setIfInBounds_toArray]); (try simp only [List.set_cons_succ]); (try simp only [List.set_cons_zero])
    refine wpAnyH_take (i := 12) (v := ?v56) rfl (by kernel_rfl) (by kernel_rfl) (by kernel_rfl) (fun _ _ _ h => h) (Or.inl ⟨by rfl, ?hy56⟩) hHeld ?rest56
    case hy56 => (intro wz hSw; (try dsimp only at hSw); go_simp; (try with_reducible rfl))
    (try simp only [Act.put, List.getElem_toArray, List.getElem_cons_succ, List.getElem_cons_zero]); (try simp only [List.setIfInBounds_toArray]); (try simp only [List.set_cons_succ]); (try simp only [List.set_cons_zero])
    refine wpAnyH_take (i := 13) (v := ?v57) rfl (by kernel_rfl) (by kernel_rfl) (by kernel_rfl) (fun _ _ _ h => h) (Or.inl ⟨by rfl, ?hy57⟩) hHeld ?rest57
    case hy57 => (intro wz hSw; (try dsimp only at hSw); go_simp; (try with_reducible rfl))
    (try simp only [Act.put, List.getElem_toArray, List.getElem_cons_succ, List.getElem_cons_zero]); (try simp only [List.setIfInBounds_toArray]); (try simp only [List.set_cons_succ]); (try simp only [List.set_cons_zero])
    refine wpAnyH_done (by kernel_rfl) ?_ _
    have E9 := Lib.hid (E0.out.trans ((Ext.drew (Ext.refl _)).trans h4))
    clear hHeld
    go_wp2
    go_ret
    exact ⟨ret_bool HF.out.symm, E9.out⟩
  · have H1 := Lib.hid h1
    have HF : Hid (q = (R == D)) := by rw [Hid, HA.out, h1]; rfl
    clear h1 HA
    go_enter Try.func151, Try.ntmps151
    have A0 := Lib.hid (cells_new' w #[.int .i64 P', .int .i64 R, .int .i64 C, .slice (some ⟨s0, so, none⟩) n1 n1] 40 w.heap.size rfl)
    have E0 := Lib.hid ((Ext.refl w).alloc (.cells #[.int .i64 P', .int .i64 R, .int .i64 C, .slice (some ⟨s0, so, none⟩) n1 n1] 40))
    have B0 := Lib.hid (HC.out.ext E0.out)
    have lA := A0.out.1
    have a0 := A0.out.2 0 _ rfl
    have a1 := A0.out.2 1 _ rfl
    have a2 := A0.out.2 2 _ rfl
    have a3 := A0.out.2 3 _ rfl
    have lB := B0.out.1
    have q0 := B0.out.2 0 _ rfl
    have q1 := B0.out.2 1 _ rfl
    go_wp2_with fail
    generalize (w.alloc (.cells #[.int .i64 P', .int .i64 R, .int .i64 C, .slice (some ⟨s0, so, none⟩) n1 n1] 40)) = W1 at *
    go_region_held3 (fun w' => Ext W1 w' ∧ (∀ b o, b < W1.heap.size → w'.cell? ⟨b, o, none⟩ = W1.cell? ⟨b, o, none⟩)) (first | assumption | (with_reducible exact ext2 (Ext.trans (And.left ‹Ext W1 _ ∧ _›) ‹Ext _ _›)) | (refine ext2 ?_; with_reducible repeat (first | exact Ext.refl _ | exact And.left ‹Ext W1 _ ∧ _› | refine Ext.drew ?_ | refine Ext.drewN ?_ _))) ((go_at_call 85; (with_reducible refine (hasRows_impl P D P' R C B s0 so n1 v xs _ (B0.out.ext (And.left ‹Ext W1 _ ∧ _›)) (HX.out.ext (E0.out.trans (And.left ‹Ext W1 _ ∧ _›))) hm).mono ?_); rintro e w4 ⟨rfl, h4⟩; rw [H1.out]))
    all_goals
      have E9 := Lib.hid (E0.out.trans (And.left ‹Ext W1 w4 ∧ _›))
      go_wp2
      go_ret
      rw [HF.out]
      exact ⟨rfl, E9.out⟩

set_option maxRecDepth 100000 in
set_option maxHeartbeats 3200000 in
theorem l3Form_spec (P D P' R C : Int) (a0 oa n s0 so n1 : Nat) (l xs : List Int) (w : World) (hT : Reads w (some ⟨a0, oa, none⟩) n l) (hm0 : n ≤ 1048576) (hX : Reads w (some ⟨s0, so, none⟩) n1 xs) (hm : n1 ≤ maxLen) :
    Calls Try.prog 147 #[.agg #[.int .i64 P, .int .i64 D, .slice (some ⟨a0, oa, none⟩) n n], .agg #[.int .i64 P', .int .i64 R, .int .i64 C, .slice (some ⟨s0, so, none⟩) n1 n1]] w fun e w' => e = .returned (.bool (algB P D l && formB P D P' R C xs)) ∧ Ext w w' := by
  have HT := Lib.hid hT
  have HX := Lib.hid hX
  have HA : Hid ((algB P D l && formB P D P' R C xs) = (algB P D l && ((mok P' R C xs && ((P' == P) && (C == D))) && (R == D)))) := rfl
  generalize (algB P D l && formB P D P' R C xs) = q at HA
  clear hT hX
  rcases h0 : algB P D l with _ | _
  · have HF : Hid (q = false) := by rw [Hid, HA.out, h0]; rfl
    have H0 := Lib.hid h0
    clear h0 HA
    go_enter Try.func147, Try.ntmps147
    have A0_1 := Lib.hid ((cells_new' w #[.int .i64 P, .int .i64 D, .slice (some ⟨a0, oa, none⟩) n n] 28 (w.heap.size) (by simp)).ext ((Ext.refl _).alloc (.cells #[.int .i64 P', .int .i64 R, .int .i64 C, .slice (some ⟨s0, so, none⟩) n1 n1] 40)))
    have A1_2 := Lib.hid (cells_new' (w.alloc (.cells #[.int .i64 P, .int .i64 D, .slice (some ⟨a0, oa, none⟩) n n] 28)) #[.int .i64 P', .int .i64 R, .int .i64 C, .slice (some ⟨s0, so, none⟩) n1 n1] 40 (w.heap.size + 1) (by simp))
    have E_3 := Lib.hid (((Ext.refl w).alloc (.cells #[.int .i64 P, .int .i64 D, .slice (some ⟨a0, oa, none⟩) n n] 28)).alloc (.cells #[.int .i64 P', .int .i64 R, .int .i64 C, .slice (some ⟨s0, so, none⟩) n1 n1] 40))
    have lA0 := A0_1.out.1
    have qA00 := A0_1.out.2 0 _ rfl
    have qA01 := A0_1.out.2 1 _ rfl
    have qA02 := A0_1.out.2 2 _ rfl
    have lA1 := A1_2.out.1
    have qA10 := A1_2.out.2 0 _ rfl
    have qA11 := A1_2.out.2 1 _ rfl
    have qA12 := A1_2.out.2 2 _ rfl
    have qA13 := A1_2.out.2 3 _ rfl
    try simp only [World.size_alloc] at lA0 lA1
    go_wp2_with fail
    refine (algebraOk_spec (HT.out.ext E_3.out) hm0 H0.out).mono ?_
    rintro e w_4 ⟨rfl, h_4⟩
    clear lA0 qA00 qA01 qA02 lA1 qA10 qA11 qA12 qA13
    have A0_5 := Lib.hid (A0_1.out.ext h_4)
    clear A0_1
    have A1_6 := Lib.hid (A1_2.out.ext h_4)
    clear A1_2
    have E_7 := Lib.hid (E_3.out.trans h_4)
    clear E_3
    have lA0 := A0_5.out.1
    have qA00 := A0_5.out.2 0 _ rfl
    have qA01 := A0_5.out.2 1 _ rfl
    have qA02 := A0_5.out.2 2 _ rfl
    have lA1 := A1_6.out.1
    have qA10 := A1_6.out.2 0 _ rfl
    have qA11 := A1_6.out.2 1 _ rfl
    have qA12 := A1_6.out.2 2 _ rfl
    have qA13 := A1_6.out.2 3 _ rfl
    try simp only [World.size_alloc] at lA0 lA1
    go_wp2
    go_ret
    exact ⟨ret_bool HF.out.symm, E_7.out⟩
  have H0 := Lib.hid h0
  rcases h1 : mok P' R C xs with _ | _
  · have HF : Hid (q = false) := by rw [Hid, HA.out, h0, h1]; rfl
    have H1 := Lib.hid h1
    clear h0 h1 HA
    go_enter Try.func147, Try.ntmps147
    have A0_1 := Lib.hid ((cells_new' w #[.int .i64 P, .int .i64 D, .slice (some ⟨a0, oa, none⟩) n n] 28 (w.heap.size) (by simp)).ext ((Ext.refl _).alloc (.cells #[.int .i64 P', .int .i64 R, .int .i64 C, .slice (some ⟨s0, so, none⟩) n1 n1] 40)))
    have A1_2 := Lib.hid (cells_new' (w.alloc (.cells #[.int .i64 P, .int .i64 D, .slice (some ⟨a0, oa, none⟩) n n] 28)) #[.int .i64 P', .int .i64 R, .int .i64 C, .slice (some ⟨s0, so, none⟩) n1 n1] 40 (w.heap.size + 1) (by simp))
    have E_3 := Lib.hid (((Ext.refl w).alloc (.cells #[.int .i64 P, .int .i64 D, .slice (some ⟨a0, oa, none⟩) n n] 28)).alloc (.cells #[.int .i64 P', .int .i64 R, .int .i64 C, .slice (some ⟨s0, so, none⟩) n1 n1] 40))
    have lA0 := A0_1.out.1
    have qA00 := A0_1.out.2 0 _ rfl
    have qA01 := A0_1.out.2 1 _ rfl
    have qA02 := A0_1.out.2 2 _ rfl
    have lA1 := A1_2.out.1
    have qA10 := A1_2.out.2 0 _ rfl
    have qA11 := A1_2.out.2 1 _ rfl
    have qA12 := A1_2.out.2 2 _ rfl
    have qA13 := A1_2.out.2 3 _ rfl
    try simp only [World.size_alloc] at lA0 lA1
    go_wp2_with fail
    refine (algebraOk_spec (HT.out.ext E_3.out) hm0 H0.out).mono ?_
    rintro e w_4 ⟨rfl, h_4⟩
    clear lA0 qA00 qA01 qA02 lA1 qA10 qA11 qA12 qA13
    have A0_5 := Lib.hid (A0_1.out.ext h_4)
    clear A0_1
    have A1_6 := Lib.hid (A1_2.out.ext h_4)
    clear A1_2
    have E_7 := Lib.hid (E_3.out.trans h_4)
    clear E_3
    have lA0 := A0_5.out.1
    have qA00 := A0_5.out.2 0 _ rfl
    have qA01 := A0_5.out.2 1 _ rfl
    have qA02 := A0_5.out.2 2 _ rfl
    have lA1 := A1_6.out.1
    have qA10 := A1_6.out.2 0 _ rfl
    have qA11 := A1_6.out.2 1 _ rfl
    have qA12 := A1_6.out.2 2 _ rfl
    have qA13 := A1_6.out.2 3 _ rfl
    try simp only [World.size_alloc] at lA0 lA1
    go_wp2_with fail
    refine (matrixOk_spec _ _ _ _ _ _ xs _ (HX.out.ext E_7.out) hm).mono ?_
    rintro e w_8 ⟨rfl, h_8⟩
    clear lA0 qA00 qA01 qA02 lA1 qA10 qA11 qA12 qA13
    have A0_9 := Lib.hid (A0_5.out.ext h_8)
    clear A0_5
    have A1_10 := Lib.hid (A1_6.out.ext h_8)
    clear A1_6
    have E_11 := Lib.hid (E_7.out.trans h_8)
    clear E_7
    rw [H1.out]
    have lA0 := A0_9.out.1
    have qA00 := A0_9.out.2 0 _ rfl
    have qA01 := A0_9.out.2 1 _ rfl
    have qA02 := A0_9.out.2 2 _ rfl
    have lA1 := A1_10.out.1
    have qA10 := A1_10.out.2 0 _ rfl
    have qA11 := A1_10.out.2 1 _ rfl
    have qA12 := A1_10.out.2 2 _ rfl
    have qA13 := A1_10.out.2 3 _ rfl
    try simp only [World.size_alloc] at lA0 lA1
    go_wp2
    go_ret
    exact ⟨ret_bool HF.out.symm, E_11.out⟩
  have H1 := Lib.hid h1
  rcases h2 : (P' == P) with _ | _
  · have HF : Hid (q = false) := by rw [Hid, HA.out, h0, h1, h2]; rfl
    clear h0 h1 HA
    go_enter Try.func147, Try.ntmps147
    have A0_1 := Lib.hid ((cells_new' w #[.int .i64 P, .int .i64 D, .slice (some ⟨a0, oa, none⟩) n n] 28 (w.heap.size) (by simp)).ext ((Ext.refl _).alloc (.cells #[.int .i64 P', .int .i64 R, .int .i64 C, .slice (some ⟨s0, so, none⟩) n1 n1] 40)))
    have A1_2 := Lib.hid (cells_new' (w.alloc (.cells #[.int .i64 P, .int .i64 D, .slice (some ⟨a0, oa, none⟩) n n] 28)) #[.int .i64 P', .int .i64 R, .int .i64 C, .slice (some ⟨s0, so, none⟩) n1 n1] 40 (w.heap.size + 1) (by simp))
    have E_3 := Lib.hid (((Ext.refl w).alloc (.cells #[.int .i64 P, .int .i64 D, .slice (some ⟨a0, oa, none⟩) n n] 28)).alloc (.cells #[.int .i64 P', .int .i64 R, .int .i64 C, .slice (some ⟨s0, so, none⟩) n1 n1] 40))
    have lA0 := A0_1.out.1
    have qA00 := A0_1.out.2 0 _ rfl
    have qA01 := A0_1.out.2 1 _ rfl
    have qA02 := A0_1.out.2 2 _ rfl
    have lA1 := A1_2.out.1
    have qA10 := A1_2.out.2 0 _ rfl
    have qA11 := A1_2.out.2 1 _ rfl
    have qA12 := A1_2.out.2 2 _ rfl
    have qA13 := A1_2.out.2 3 _ rfl
    try simp only [World.size_alloc] at lA0 lA1
    go_wp2_with fail
    refine (algebraOk_spec (HT.out.ext E_3.out) hm0 H0.out).mono ?_
    rintro e w_4 ⟨rfl, h_4⟩
    clear lA0 qA00 qA01 qA02 lA1 qA10 qA11 qA12 qA13
    have A0_5 := Lib.hid (A0_1.out.ext h_4)
    clear A0_1
    have A1_6 := Lib.hid (A1_2.out.ext h_4)
    clear A1_2
    have E_7 := Lib.hid (E_3.out.trans h_4)
    clear E_3
    have lA0 := A0_5.out.1
    have qA00 := A0_5.out.2 0 _ rfl
    have qA01 := A0_5.out.2 1 _ rfl
    have qA02 := A0_5.out.2 2 _ rfl
    have lA1 := A1_6.out.1
    have qA10 := A1_6.out.2 0 _ rfl
    have qA11 := A1_6.out.2 1 _ rfl
    have qA12 := A1_6.out.2 2 _ rfl
    have qA13 := A1_6.out.2 3 _ rfl
    try simp only [World.size_alloc] at lA0 lA1
    go_wp2_with fail
    refine (matrixOk_spec _ _ _ _ _ _ xs _ (HX.out.ext E_7.out) hm).mono ?_
    rintro e w_8 ⟨rfl, h_8⟩
    clear lA0 qA00 qA01 qA02 lA1 qA10 qA11 qA12 qA13
    have A0_9 := Lib.hid (A0_5.out.ext h_8)
    clear A0_5
    have A1_10 := Lib.hid (A1_6.out.ext h_8)
    clear A1_6
    have E_11 := Lib.hid (E_7.out.trans h_8)
    clear E_7
    rw [H1.out]
    have lA0 := A0_9.out.1
    have qA00 := A0_9.out.2 0 _ rfl
    have qA01 := A0_9.out.2 1 _ rfl
    have qA02 := A0_9.out.2 2 _ rfl
    have lA1 := A1_10.out.1
    have qA10 := A1_10.out.2 0 _ rfl
    have qA11 := A1_10.out.2 1 _ rfl
    have qA12 := A1_10.out.2 2 _ rfl
    have qA13 := A1_10.out.2 3 _ rfl
    try simp only [World.size_alloc] at lA0 lA1
    go_wp2
    go_ret
    exact ⟨ret_bool HF.out.symm, E_11.out⟩
  rcases h3 : (R == D) with _ | _
  · have HF : Hid (q = false) := by rw [Hid, HA.out, h0, h1, h2, h3]; simp
    clear h0 h1 HA
    go_enter Try.func147, Try.ntmps147
    have A0_1 := Lib.hid ((cells_new' w #[.int .i64 P, .int .i64 D, .slice (some ⟨a0, oa, none⟩) n n] 28 (w.heap.size) (by simp)).ext ((Ext.refl _).alloc (.cells #[.int .i64 P', .int .i64 R, .int .i64 C, .slice (some ⟨s0, so, none⟩) n1 n1] 40)))
    have A1_2 := Lib.hid (cells_new' (w.alloc (.cells #[.int .i64 P, .int .i64 D, .slice (some ⟨a0, oa, none⟩) n n] 28)) #[.int .i64 P', .int .i64 R, .int .i64 C, .slice (some ⟨s0, so, none⟩) n1 n1] 40 (w.heap.size + 1) (by simp))
    have E_3 := Lib.hid (((Ext.refl w).alloc (.cells #[.int .i64 P, .int .i64 D, .slice (some ⟨a0, oa, none⟩) n n] 28)).alloc (.cells #[.int .i64 P', .int .i64 R, .int .i64 C, .slice (some ⟨s0, so, none⟩) n1 n1] 40))
    have lA0 := A0_1.out.1
    have qA00 := A0_1.out.2 0 _ rfl
    have qA01 := A0_1.out.2 1 _ rfl
    have qA02 := A0_1.out.2 2 _ rfl
    have lA1 := A1_2.out.1
    have qA10 := A1_2.out.2 0 _ rfl
    have qA11 := A1_2.out.2 1 _ rfl
    have qA12 := A1_2.out.2 2 _ rfl
    have qA13 := A1_2.out.2 3 _ rfl
    try simp only [World.size_alloc] at lA0 lA1
    go_wp2_with fail
    refine (algebraOk_spec (HT.out.ext E_3.out) hm0 H0.out).mono ?_
    rintro e w_4 ⟨rfl, h_4⟩
    clear lA0 qA00 qA01 qA02 lA1 qA10 qA11 qA12 qA13
    have A0_5 := Lib.hid (A0_1.out.ext h_4)
    clear A0_1
    have A1_6 := Lib.hid (A1_2.out.ext h_4)
    clear A1_2
    have E_7 := Lib.hid (E_3.out.trans h_4)
    clear E_3
    have lA0 := A0_5.out.1
    have qA00 := A0_5.out.2 0 _ rfl
    have qA01 := A0_5.out.2 1 _ rfl
    have qA02 := A0_5.out.2 2 _ rfl
    have lA1 := A1_6.out.1
    have qA10 := A1_6.out.2 0 _ rfl
    have qA11 := A1_6.out.2 1 _ rfl
    have qA12 := A1_6.out.2 2 _ rfl
    have qA13 := A1_6.out.2 3 _ rfl
    try simp only [World.size_alloc] at lA0 lA1
    go_wp2_with fail
    refine (matrixOk_spec _ _ _ _ _ _ xs _ (HX.out.ext E_7.out) hm).mono ?_
    rintro e w_8 ⟨rfl, h_8⟩
    clear lA0 qA00 qA01 qA02 lA1 qA10 qA11 qA12 qA13
    have A0_9 := Lib.hid (A0_5.out.ext h_8)
    clear A0_5
    have A1_10 := Lib.hid (A1_6.out.ext h_8)
    clear A1_6
    have E_11 := Lib.hid (E_7.out.trans h_8)
    clear E_7
    rw [H1.out]
    have lA0 := A0_9.out.1
    have qA00 := A0_9.out.2 0 _ rfl
    have qA01 := A0_9.out.2 1 _ rfl
    have qA02 := A0_9.out.2 2 _ rfl
    have lA1 := A1_10.out.1
    have qA10 := A1_10.out.2 0 _ rfl
    have qA11 := A1_10.out.2 1 _ rfl
    have qA12 := A1_10.out.2 2 _ rfl
    have qA13 := A1_10.out.2 3 _ rfl
    try simp only [World.size_alloc] at lA0 lA1
    go_wp2
    go_ret
    exact ⟨ret_bool HF.out.symm, E_11.out⟩
  · have HF : Hid (q = (C == D)) := by rw [Hid, HA.out, h0, h1, h2, h3]; simp
    clear h0 h1 HA
    go_enter Try.func147, Try.ntmps147
    have A0_1 := Lib.hid ((cells_new' w #[.int .i64 P, .int .i64 D, .slice (some ⟨a0, oa, none⟩) n n] 28 (w.heap.size) (by simp)).ext ((Ext.refl _).alloc (.cells #[.int .i64 P', .int .i64 R, .int .i64 C, .slice (some ⟨s0, so, none⟩) n1 n1] 40)))
    have A1_2 := Lib.hid (cells_new' (w.alloc (.cells #[.int .i64 P, .int .i64 D, .slice (some ⟨a0, oa, none⟩) n n] 28)) #[.int .i64 P', .int .i64 R, .int .i64 C, .slice (some ⟨s0, so, none⟩) n1 n1] 40 (w.heap.size + 1) (by simp))
    have E_3 := Lib.hid (((Ext.refl w).alloc (.cells #[.int .i64 P, .int .i64 D, .slice (some ⟨a0, oa, none⟩) n n] 28)).alloc (.cells #[.int .i64 P', .int .i64 R, .int .i64 C, .slice (some ⟨s0, so, none⟩) n1 n1] 40))
    have lA0 := A0_1.out.1
    have qA00 := A0_1.out.2 0 _ rfl
    have qA01 := A0_1.out.2 1 _ rfl
    have qA02 := A0_1.out.2 2 _ rfl
    have lA1 := A1_2.out.1
    have qA10 := A1_2.out.2 0 _ rfl
    have qA11 := A1_2.out.2 1 _ rfl
    have qA12 := A1_2.out.2 2 _ rfl
    have qA13 := A1_2.out.2 3 _ rfl
    try simp only [World.size_alloc] at lA0 lA1
    go_wp2_with fail
    refine (algebraOk_spec (HT.out.ext E_3.out) hm0 H0.out).mono ?_
    rintro e w_4 ⟨rfl, h_4⟩
    clear lA0 qA00 qA01 qA02 lA1 qA10 qA11 qA12 qA13
    have A0_5 := Lib.hid (A0_1.out.ext h_4)
    clear A0_1
    have A1_6 := Lib.hid (A1_2.out.ext h_4)
    clear A1_2
    have E_7 := Lib.hid (E_3.out.trans h_4)
    clear E_3
    have lA0 := A0_5.out.1
    have qA00 := A0_5.out.2 0 _ rfl
    have qA01 := A0_5.out.2 1 _ rfl
    have qA02 := A0_5.out.2 2 _ rfl
    have lA1 := A1_6.out.1
    have qA10 := A1_6.out.2 0 _ rfl
    have qA11 := A1_6.out.2 1 _ rfl
    have qA12 := A1_6.out.2 2 _ rfl
    have qA13 := A1_6.out.2 3 _ rfl
    try simp only [World.size_alloc] at lA0 lA1
    go_wp2_with fail
    refine (matrixOk_spec _ _ _ _ _ _ xs _ (HX.out.ext E_7.out) hm).mono ?_
    rintro e w_8 ⟨rfl, h_8⟩
    clear lA0 qA00 qA01 qA02 lA1 qA10 qA11 qA12 qA13
    have A0_9 := Lib.hid (A0_5.out.ext h_8)
    clear A0_5
    have A1_10 := Lib.hid (A1_6.out.ext h_8)
    clear A1_6
    have E_11 := Lib.hid (E_7.out.trans h_8)
    clear E_7
    rw [H1.out]
    have lA0 := A0_9.out.1
    have qA00 := A0_9.out.2 0 _ rfl
    have qA01 := A0_9.out.2 1 _ rfl
    have qA02 := A0_9.out.2 2 _ rfl
    have lA1 := A1_10.out.1
    have qA10 := A1_10.out.2 0 _ rfl
    have qA11 := A1_10.out.2 1 _ rfl
    have qA12 := A1_10.out.2 2 _ rfl
    have qA13 := A1_10.out.2 3 _ rfl
    try simp only [World.size_alloc] at lA0 lA1
    go_wp2
    go_ret
    exact ⟨by rw [HF.out]; rfl, E_11.out⟩
theorem kerL_len2 (P : Int) (R C : Nat) (xs : List Int) : (kerL P R C xs).length = nullN P R C xs * C := kerTo_length C

end Go.Proofs.Ytapaopapgnfdkaa
