/-
  The space of all brackets of two spaces: both texts.
-/
import Derived.Test.YtgmipolgnpjmnaaPrS
import Derived.Test.YtgmipolgnpjmnaaPrI0
import Derived.Test.YtgmipolgnpjmnaaSpOk2
namespace Go.Proofs.Ytgmipolgnpjmnaa
open Go.ChangeShapes Go.WideShapes Go.ChangeAt Go.RowKit
set_option linter.unusedVariables false
set_option linter.unusedSimpArgs false

/-- A space of elements of an algebra. -/
noncomputable def hsB (P D P' R C : Int) (xs : List Int) : Bool := spaceM P' R C xs && ((P' == P) && (C == D))
theorem hsB_parts {P : Int} {D : Nat} {P' R C : Int} {xs : List Int} {n : Nat} (h : hsB P D P' R C xs = true) (hl : xs.length = n) : ∃ r : Nat, R = r ∧ P' = P ∧ C = D ∧ r ≤ D ∧ n = r * D ∧ Res xs P := by
  simp only [hsB, Bool.and_eq_true, beq_iff_eq] at h
  obtain ⟨h1, rfl, rfl⟩ := h
  simp only [spaceM, Bool.and_eq_true] at h1
  obtain ⟨h2, h3⟩ := h1
  have hq1 := inB_iff.1 (mok_iff.1 h2).2.1
  obtain ⟨r, rfl⟩ := Int.eq_ofNat_of_zero_le hq1.1
  have hl1 := mok_len h2
  have hs : IsSp P' r D xs := by simpa only [Int.toNat_natCast, spB, decide_eq_true_eq] using h3
  have h4 := (redTo_pv (P := P') (R := r) (C := D) (xs := xs) D).1
  have h5 := hs.1
  unfold redM at h5
  refine ⟨r, rfl, rfl, rfl, by omega, ?_, mok_res h2⟩
  have : ((xs.length : Nat) : Int) = ((r * D : Nat) : Int) := by rw [hl1]; simp
  omega
noncomputable def prK (P D R1 R2 : Int) (l ss ts : List Int) : Nat := (redM P (R1.toNat * R2.toNat) D.toNat (pL P D.toNat l ss ts R2.toNat R1.toNat)).pv.length
noncomputable def prodM (P D : Int) (l : List Int) (P1 R1 C1 : Int) (ss : List Int) (P2 R2 C2 : Int) (ts : List Int) : Mat × Bool :=
  if algB P D l && hsB P D P1 R1 C1 ss && hsB P D P2 R2 C2 ts then (⟨P, prK P D R1 R2 l ss ts, D, spanL P (R1.toNat * R2.toNat) D.toNat (pL P D.toNat l ss ts R2.toNat R1.toNat)⟩, true) else (noMat, false)

set_option maxRecDepth 100000 in
set_option maxHeartbeats 3200000 in
theorem hasSubspace_impl (P D P' R C : Int) (B s0 so n1 : Nat) (v : Value) (xs : List Int) (w : World) (hc : Cells w B [.int .i64 P, .int .i64 D, v]) (hX : Reads w (some ⟨s0, so, none⟩) n1 xs) (hm : n1 ≤ 1048576) :
    Calls Try.prog 61 #[.pointer (some ⟨B, 0, none⟩), .agg #[.int .i64 P', .int .i64 R, .int .i64 C, .slice (some ⟨s0, so, none⟩) n1 n1]] w fun e w' => e = .returned (.bool (hsB P D P' R C xs)) ∧ Ext w w' := by
  have HC := Lib.hid hc
  have HX := Lib.hid hX
  have HA : Hid (hsB P D P' R C xs = (spaceM P' R C xs && ((P' == P) && (C == D)))) := rfl
  generalize hsB P D P' R C xs = q at HA
  clear hc hX
  rcases h1 : spaceM P' R C xs with _ | _
  · have HF : Hid (q = false) := by rw [Hid, HA.out, h1]; rfl
    have H1 := Lib.hid h1
    clear h1 HA
    go_enter Try.func61, Try.ntmps61
    have A0 := Lib.hid (cells_new' w #[.int .i64 P', .int .i64 R, .int .i64 C, .slice (some ⟨s0, so, none⟩) n1 n1] 36 w.heap.size rfl)
    have E0 := Lib.hid ((Ext.refl w).alloc (.cells #[.int .i64 P', .int .i64 R, .int .i64 C, .slice (some ⟨s0, so, none⟩) n1 n1] 36))
    have B0 := Lib.hid (HC.out.ext E0.out)
    have lA := A0.out.1
    have a0 := A0.out.2 0 _ rfl
    have a1 := A0.out.2 1 _ rfl
    have a2 := A0.out.2 2 _ rfl
    have a3 := A0.out.2 3 _ rfl
    have lB := B0.out.1
    have q0 := B0.out.2 0 _ rfl
    have q1 := B0.out.2 1 _ rfl
    go_wp2_with fail
    generalize (w.alloc (.cells #[.int .i64 P', .int .i64 R, .int .i64 C, .slice (some ⟨s0, so, none⟩) n1 n1] 36)) = W1 at *
    refine wp_region_held_drew (S := (fun w' => Ext W1 w' ∧ (∀ b o, b < W1.heap.size → w'.cell? ⟨b, o, none⟩ = W1.cell? ⟨b, o, none⟩))) (by kernel_rfl) (ext2 (Ext.refl _).drew) (fun hHeld => ?_)
    refine wpAnyH_take (i := 0) (v := ?v1) rfl (by kernel_rfl) (by kernel_rfl) (by kernel_rfl) (fun _ _ _ h => h) (Or.inl ⟨by rfl, ?hy1⟩) hHeld ?rest1
    case hy1 => (intro wz hSw; (try dsimp only at hSw); go_simp; (try with_reducible rfl))
    (try simp only [Act.put, List.getElem_toArray, List.getElem_cons_succ, List.getElem_cons_zero]); (try simp only [List.setIfInBounds_toArray]); (try simp only [List.set_cons_succ]); (try simp only [List.set_cons_zero])
    refine wpAnyH_ready (rs := [1]) (by kernel_rfl) (by simp) ?_
    refine AllReadyH.cons rfl (fun K' hK => ?_) AllReadyH.nil
    go_simp
    refine (spaceOk_impl (HX.out.ext (E0.out.trans (Ext.refl _).drew)) hm H1.out).mono ?_
    rintro e w4 ⟨rfl, h4⟩
    dsimp only
    refine hK.out _ _ (ext2 ((Ext.drew (Ext.refl _)).trans h4)) (fun hHeld => ?_)
    clear hK
    refine wpAnyH_take (i := 2) (v := ?v2) rfl (by kernel_rfl) (by kernel_rfl) (by kernel_rfl) (fun _ _ _ h => h) (Or.inl ⟨by rfl, ?hy2⟩) hHeld ?rest2
    case hy2 => (intro wz hSw; (try dsimp only at hSw); go_simp; (try with_reducible rfl))
    (try simp only [Act.put, List.getElem_toArray, List.getElem_cons_succ, List.getElem_cons_zero]); (try simp only [List.setIfInBounds_toArray]); (try simp only [List.set_cons_succ]); (try simp only [List.set_cons_zero])
    refine wpAnyH_take (i := 3) (v := undef) rfl (by kernel_rfl) (by kernel_rfl) (by kernel_rfl) (fun _ _ _ h => h) (Or.inr ⟨by rfl, rfl⟩) hHeld ?rest3
    (try simp only [Act.put, List.getElem_toArray, List.getElem_cons_succ, List.getElem_cons_zero]); (try simp only [List.setIfInBounds_toArray]); (try simp only [List.set_cons_succ]); (try simp only [List.set_cons_zero])
    refine wpAnyH_take (i := 4) (v := undef) rfl (by kernel_rfl) (by kernel_rfl) (by kernel_rfl) (fun _ _ _ h => h) (Or.inr ⟨by rfl, rfl⟩) hHeld ?rest4
    (try simp only [Act.put, List.getElem_toArray, List.getElem_cons_succ, List.getElem_cons_zero]); (try simp only [List.setIfInBounds_toArray]); (try simp only [List.set_cons_succ]); (try simp only [List.set_cons_zero])
    refine wpAnyH_take (i := 5) (v := undef) rfl (by kernel_rfl) (by kernel_rfl) (by kernel_rfl) (fun _ _ _ h => h) (Or.inr ⟨by rfl, rfl⟩) hHeld ?rest5
    (try simp only [Act.put, List.getElem_toArray, List.getElem_cons_succ, List.getElem_cons_zero]); (try simp only [List.setIfInBounds_toArray]); (try simp only [List.set_cons_succ]); (try simp only [List.set_cons_zero])
    refine wpAnyH_take (i := 6) (v := undef) rfl (by kernel_rfl) (by kernel_rfl) (by kernel_rfl) (fun _ _ _ h => h) (Or.inr ⟨by rfl, rfl⟩) hHeld ?rest6
    (try simp only [Act.put, List.getElem_toArray, List.getElem_cons_succ, List.getElem_cons_zero]); (try simp only [List.setIfInBounds_toArray]); (try simp only [List.set_cons_succ]); (try simp only [List.set_cons_zero])
    refine wpAnyH_take (i := 7) (v := undef) rfl (by kernel_rfl) (by kernel_rfl) (by kernel_rfl) (fun _ _ _ h => h) (Or.inr ⟨by rfl, rfl⟩) hHeld ?rest7
    (try simp only [Act.put, List.getElem_toArray, List.getElem_cons_succ, List.getElem_cons_zero]); (try simp only [List.setIfInBounds_toArray]); (try simp only [List.set_cons_succ]); (try simp only [List.set_cons_zero])
    refine wpAnyH_take (i := 8) (v := undef) rfl (by kernel_rfl) (by kernel_rfl) (by kernel_rfl) (fun _ _ _ h => h) (Or.inr ⟨by rfl, rfl⟩) hHeld ?rest8
    (try simp only [Act.put, List.getElem_toArray, List.getElem_cons_succ, List.getElem_cons_zero]); (try simp only [List.setIfInBounds_toArray]); (try simp only [List.set_cons_succ]); (try simp only [List.set_cons_zero])
    refine wpAnyH_take (i := 9) (v := undef) rfl (by kernel_rfl) (by kernel_rfl) (by kernel_rfl) (fun _ _ _ h => h) (Or.inr ⟨by rfl, rfl⟩) hHeld ?rest9
    (try simp only [Act.put, List.getElem_toArray, List.getElem_cons_succ, List.getElem_cons_zero]); (try simp only [List.setIfInBounds_toArray]); (try simp only [List.set_cons_succ]); (try simp only [List.set_cons_zero])
    refine wpAnyH_take (i := 10) (v := undef) rfl (by kernel_rfl) (by kernel_rfl) (by kernel_rfl) (fun _ _ _ h => h) (Or.inr ⟨by rfl, rfl⟩) hHeld ?rest10
    (try simp only [Act.put, List.getElem_toArray, List.getElem_cons_succ, List.getElem_cons_zero]); (try simp only [List.setIfInBounds_toArray]); (try simp only [List.set_cons_succ]); (try simp only [List.set_cons_zero])
    refine wpAnyH_take (i := 11) (v := ?v11) rfl (by kernel_rfl) (by kernel_rfl) (by kernel_rfl) (fun _ _ _ h => h) (Or.inl ⟨by rfl, ?hy11⟩) hHeld ?rest11
    case hy11 => (intro wz hSw; (try dsimp only at hSw); go_simp; (try with_reducible rfl))
    (try simp only [Act.put, List.getElem_toArray, List.getElem_cons_succ, List.getElem_cons_zero]); (try simp only [List.setIfInBounds_toArray]); (try simp only [List.set_cons_succ]); (try simp only [List.set_cons_zero])
    refine wpAnyH_take (i := 12) (v := ?v12) rfl (by kernel_rfl) (by kernel_rfl) (by kernel_rfl) (fun _ _ _ h => h) (Or.inl ⟨by rfl, ?hy12⟩) hHeld ?rest12
    case hy12 => (intro wz hSw; (try dsimp only at hSw); go_simp; (try with_reducible rfl))
    (try simp only [Act.put, List.getElem_toArray, List.getElem_cons_succ, List.getElem_cons_zero]); (try simp only [List.setIfInBounds_toArray]); (try simp only [List.set_cons_succ]); (try simp only [List.set_cons_zero])
    refine wpAnyH_take (i := 13) (v := undef) rfl (by kernel_rfl) (by kernel_rfl) (by kernel_rfl) (fun _ _ _ h => h) (Or.inr ⟨by rfl, rfl⟩) hHeld ?rest13
    (try simp only [Act.put, List.getElem_toArray, List.getElem_cons_succ, List.getElem_cons_zero]); (try simp only [List.setIfInBounds_toArray]); (try simp only [List.set_cons_succ]); (try simp only [List.set_cons_zero])
    refine wpAnyH_take (i := 14) (v := undef) rfl (by kernel_rfl) (by kernel_rfl) (by kernel_rfl) (fun _ _ _ h => h) (Or.inr ⟨by rfl, rfl⟩) hHeld ?rest14
    (try simp only [Act.put, List.getElem_toArray, List.getElem_cons_succ, List.getElem_cons_zero]); (try simp only [List.setIfInBounds_toArray]); (try simp only [List.set_cons_succ]); (try simp only [List.set_cons_zero])
    refine wpAnyH_take (i := 15) (v := undef) rfl (by kernel_rfl) (by kernel_rfl) (by kernel_rfl) (fun _ _ _ h => h) (Or.inr ⟨by rfl, rfl⟩) hHeld ?rest15
    (try simp only [Act.put, List.getElem_toArray, List.getElem_cons_succ, List.getElem_cons_zero]); (try simp only [List.setIfInBounds_toArray]); (try simp only [List.set_cons_succ]); (try simp only [List.set_cons_zero])
    refine wpAnyH_take (i := 16) (v := undef) rfl (by kernel_rfl) (by kernel_rfl) (by kernel_rfl) (fun _ _ _ h => h) (Or.inr ⟨by rfl, rfl⟩) hHeld ?rest16
    (try simp only [Act.put, List.getElem_toArray, List.getElem_cons_succ, List.getElem_cons_zero]); (try simp only [List.setIfInBounds_toArray]); (try simp only [List.set_cons_succ]); (try simp only [List.set_cons_zero])
    refine wpAnyH_take (i := 17) (v := undef) rfl (by kernel_rfl) (by kernel_rfl) (by kernel_rfl) (fun _ _ _ h => h) (Or.inr ⟨by rfl, rfl⟩) hHeld ?rest17
    (try simp only [Act.put, List.getElem_toArray, List.getElem_cons_succ, List.getElem_cons_zero]); (try simp only [List.setIfInBounds_toArray]); (try simp only [List.set_cons_succ]); (try simp only [List.set_cons_zero])
    refine wpAnyH_take (i := 18) (v := undef) rfl (by kernel_rfl) (by kernel_rfl) (by kernel_rfl) (fun _ _ _ h => h) (Or.inr ⟨by rfl, rfl⟩) hHeld ?rest18
    (try simp only [Act.put, List.getElem_toArray, List.getElem_cons_succ, List.getElem_cons_zero]); (try simp only [List.setIfInBounds_toArray]); (try simp only [List.set_cons_succ]); (try simp only [List.set_cons_zero])
    refine wpAnyH_take (i := 19) (v := undef) rfl (by kernel_rfl) (by kernel_rfl) (by kernel_rfl) (fun _ _ _ h => h) (Or.inr ⟨by rfl, rfl⟩) hHeld ?rest19
    (try simp only [Act.put, List.getElem_toArray, List.getElem_cons_succ, List.getElem_cons_zero]); (try simp only [List.setIfInBounds_toArray]); (try simp only [List.set_cons_succ]); (try simp only [List.set_cons_zero])
    refine wpAnyH_take (i := 20) (v := undef) rfl (by kernel_rfl) (by kernel_rfl) (by kernel_rfl) (fun _ _ _ h => h) (Or.inr ⟨by rfl, rfl⟩) hHeld ?rest20
    (try simp only [Act.put, List.getElem_toArray, List.getElem_cons_succ, List.getElem_cons_zero]); (try simp only [List.setIfInBounds_toArray]); (try simp only [List.set_cons_succ]); (try simp only [List.set_cons_zero])
    refine wpAnyH_take (i := 21) (v := ?v21) rfl (by kernel_rfl) (by kernel_rfl) (by kernel_rfl) (fun _ _ _ h => h) (Or.inl ⟨by rfl, ?hy21⟩) hHeld ?rest21
    case hy21 => (intro wz hSw; (try dsimp only at hSw); go_simp; (try with_reducible rfl))
    (try simp only [Act.put, List.getElem_toArray, List.getElem_cons_succ, List.getElem_cons_zero]); (try simp only [List.setIfInBounds_toArray]); (try simp only [List.set_cons_succ]); (try simp only [List.set_cons_zero])
    refine wpAnyH_take (i := 22) (v := ?v22) rfl (by kernel_rfl) (by kernel_rfl) (by kernel_rfl) (fun _ _ _ h => h) (Or.inl ⟨by rfl, ?hy22⟩) hHeld ?rest22
    case hy22 => (intro wz hSw; (try dsimp only at hSw); go_simp; (try with_reducible rfl))
    (try simp only [Act.put, List.getElem_toArray, List.getElem_cons_succ, List.getElem_cons_zero]); (try simp only [List.setIfInBounds_toArray]); (try simp only [List.set_cons_succ]); (try simp only [List.set_cons_zero])
    refine wpAnyH_done (by kernel_rfl) ?_ _
    have E9 := Lib.hid (E0.out.trans ((Ext.drew (Ext.refl _)).trans h4))
    clear hHeld
    go_wp2
    go_ret
    exact ⟨ret_bool HF.out.symm, E9.out⟩
  have H1 := Lib.hid h1
  rcases h2 : (P' == P) with _ | _
  · have HF : Hid (q = false) := by rw [Hid, HA.out, h1, h2]; rfl
    clear h1 HA
    go_enter Try.func61, Try.ntmps61
    have A0 := Lib.hid (cells_new' w #[.int .i64 P', .int .i64 R, .int .i64 C, .slice (some ⟨s0, so, none⟩) n1 n1] 36 w.heap.size rfl)
    have E0 := Lib.hid ((Ext.refl w).alloc (.cells #[.int .i64 P', .int .i64 R, .int .i64 C, .slice (some ⟨s0, so, none⟩) n1 n1] 36))
    have B0 := Lib.hid (HC.out.ext E0.out)
    have lA := A0.out.1
    have a0 := A0.out.2 0 _ rfl
    have a1 := A0.out.2 1 _ rfl
    have a2 := A0.out.2 2 _ rfl
    have a3 := A0.out.2 3 _ rfl
    have lB := B0.out.1
    have q0 := B0.out.2 0 _ rfl
    have q1 := B0.out.2 1 _ rfl
    go_wp2_with fail
    generalize (w.alloc (.cells #[.int .i64 P', .int .i64 R, .int .i64 C, .slice (some ⟨s0, so, none⟩) n1 n1] 36)) = W1 at *
    refine wp_region_held_drew (S := (fun w' => Ext W1 w' ∧ (∀ b o, b < W1.heap.size → w'.cell? ⟨b, o, none⟩ = W1.cell? ⟨b, o, none⟩))) (by kernel_rfl) (ext2 (Ext.refl _).drew) (fun hHeld => ?_)
    refine wpAnyH_take (i := 0) (v := ?v23) rfl (by kernel_rfl) (by kernel_rfl) (by kernel_rfl) (fun _ _ _ h => h) (Or.inl ⟨by rfl, ?hy23⟩) hHeld ?rest23
    case hy23 => (intro wz hSw; (try dsimp only at hSw); go_simp; (try with_reducible rfl))
    (try simp only [Act.put, List.getElem_toArray, List.getElem_cons_succ, List.getElem_cons_zero]); (try simp only [List.setIfInBounds_toArray]); (try simp only [List.set_cons_succ]); (try simp only [List.set_cons_zero])
    refine wpAnyH_ready (rs := [1]) (by kernel_rfl) (by simp) ?_
    refine AllReadyH.cons rfl (fun K' hK => ?_) AllReadyH.nil
    go_simp
    refine (spaceOk_impl (HX.out.ext (E0.out.trans (Ext.refl _).drew)) hm H1.out).mono ?_
    rintro e w4 ⟨rfl, h4⟩
    dsimp only
    refine hK.out _ _ (ext2 ((Ext.drew (Ext.refl _)).trans h4)) (fun hHeld => ?_)
    clear hK
    refine wpAnyH_take (i := 2) (v := ?v24) rfl (by kernel_rfl) (by kernel_rfl) (by kernel_rfl) (fun _ _ _ h => h) (Or.inl ⟨by rfl, ?hy24⟩) hHeld ?rest24
    case hy24 => (intro wz hSw; (try dsimp only at hSw); go_simp; (try with_reducible rfl))
    (try simp only [Act.put, List.getElem_toArray, List.getElem_cons_succ, List.getElem_cons_zero]); (try simp only [List.setIfInBounds_toArray]); (try simp only [List.set_cons_succ]); (try simp only [List.set_cons_zero])
    refine wpAnyH_take (i := 3) (v := ?v25) rfl (by kernel_rfl) (by kernel_rfl) (by kernel_rfl) (fun _ _ _ h => h) (Or.inl ⟨by rfl, ?hy25⟩) hHeld ?rest25
    case hy25 => (intro wz hSw; (try dsimp only at hSw); go_simp; (try with_reducible rfl))
    (try simp only [Act.put, List.getElem_toArray, List.getElem_cons_succ, List.getElem_cons_zero]); (try simp only [List.setIfInBounds_toArray]); (try simp only [List.set_cons_succ]); (try simp only [List.set_cons_zero])
    refine wpAnyH_take (i := 4) (v := ?v26) rfl (by kernel_rfl) (by kernel_rfl) (by kernel_rfl) (fun _ _ _ h => h) (Or.inl ⟨by rfl, ?hy26⟩) hHeld ?rest26
    case hy26 => (intro wz hSw; (try dsimp only at hSw); go_simp; (try with_reducible rfl))
    (try simp only [Act.put, List.getElem_toArray, List.getElem_cons_succ, List.getElem_cons_zero]); (try simp only [List.setIfInBounds_toArray]); (try simp only [List.set_cons_succ]); (try simp only [List.set_cons_zero])
    refine wpAnyH_take (i := 5) (v := ?v27) rfl (by kernel_rfl) (by kernel_rfl) (by kernel_rfl) (fun _ _ _ h => h) (Or.inl ⟨by rfl, ?hy27⟩) hHeld ?rest27
    case hy27 => (intro wz hSw; (try dsimp only at hSw); go_simp; (try with_reducible rfl))
    (try simp only [Act.put, List.getElem_toArray, List.getElem_cons_succ, List.getElem_cons_zero]); (try simp only [List.setIfInBounds_toArray]); (try simp only [List.set_cons_succ]); (try simp only [List.set_cons_zero])
    refine wpAnyH_take (i := 6) (v := ?v28) rfl (by kernel_rfl) (by kernel_rfl) (by kernel_rfl) (fun _ _ _ h => h) (Or.inl ⟨by rfl, ?hy28⟩) hHeld ?rest28
    case hy28 => (intro wz hSw; (try dsimp only at hSw); go_simp; (try with_reducible rfl))
    (try simp only [Act.put, List.getElem_toArray, List.getElem_cons_succ, List.getElem_cons_zero]); (try simp only [List.setIfInBounds_toArray]); (try simp only [List.set_cons_succ]); (try simp only [List.set_cons_zero])
    refine wpAnyH_take (i := 7) (v := ?v29) rfl (by kernel_rfl) (by kernel_rfl) (by kernel_rfl) (fun _ _ _ h => h) (Or.inl ⟨by rfl, ?hy29⟩) hHeld ?rest29
    case hy29 => (intro wz hSw; (try dsimp only at hSw); go_simp; (try with_reducible rfl))
    (try simp only [Act.put, List.getElem_toArray, List.getElem_cons_succ, List.getElem_cons_zero]); (try simp only [List.setIfInBounds_toArray]); (try simp only [List.set_cons_succ]); (try simp only [List.set_cons_zero])
    refine wpAnyH_take (i := 8) (v := ?v30) rfl (by kernel_rfl) (by kernel_rfl) (by kernel_rfl) (fun _ _ _ h => h) (Or.inl ⟨by rfl, ?hy30⟩) hHeld ?rest30
    case hy30 => (intro wz hSw; (try dsimp only at hSw); go_simp; (try with_reducible rfl))
    (try simp only [Act.put, List.getElem_toArray, List.getElem_cons_succ, List.getElem_cons_zero]); (try simp only [List.setIfInBounds_toArray]); (try simp only [List.set_cons_succ]); (try simp only [List.set_cons_zero])
    refine wpAnyH_take (i := 9) (v := ?v31) rfl (by kernel_rfl) (by kernel_rfl) (by kernel_rfl) (fun _ _ _ h => h) (Or.inl ⟨by rfl, ?hy31⟩) hHeld ?rest31
    case hy31 => (intro wz hSw; (try dsimp only at hSw); go_simp; (try with_reducible rfl))
    (try simp only [Act.put, List.getElem_toArray, List.getElem_cons_succ, List.getElem_cons_zero]); (try simp only [List.setIfInBounds_toArray]); (try simp only [List.set_cons_succ]); (try simp only [List.set_cons_zero])
    refine wpAnyH_take (i := 10) (v := ?v32) rfl (by kernel_rfl) (by kernel_rfl) (by kernel_rfl) (fun _ _ _ h => h) (Or.inl ⟨by rfl, ?hy32⟩) hHeld ?rest32
    case hy32 => (intro wz hSw; (try dsimp only at hSw); go_simp; (try with_reducible rfl))
    (try simp only [Act.put, List.getElem_toArray, List.getElem_cons_succ, List.getElem_cons_zero]); (try simp only [List.setIfInBounds_toArray]); (try simp only [List.set_cons_succ]); (try simp only [List.set_cons_zero])
    refine wpAnyH_take (i := 11) (v := ?v33) rfl (by kernel_rfl) (by kernel_rfl) (by kernel_rfl) (fun _ _ _ h => h) (Or.inl ⟨by rfl, ?hy33⟩) hHeld ?rest33
    case hy33 => (intro wz hSw; (try dsimp only at hSw); go_simp; (try with_reducible rfl))
    (try simp only [Act.put, List.getElem_toArray, List.getElem_cons_succ, List.getElem_cons_zero]); (try simp only [List.setIfInBounds_toArray]); (try simp only [List.set_cons_succ]); (try simp only [List.set_cons_zero])
    refine wpAnyH_take (i := 12) (v := ?v34) rfl (by kernel_rfl) (by kernel_rfl) (by kernel_rfl) (fun _ _ _ h => h) (Or.inl ⟨by rfl, ?hy34⟩) hHeld ?rest34
    case hy34 => (intro wz hSw; (try dsimp only at hSw); go_simp; (try with_reducible rfl))
    (try simp only [Act.put, List.getElem_toArray, List.getElem_cons_succ, List.getElem_cons_zero]); (try simp only [List.setIfInBounds_toArray]); (try simp only [List.set_cons_succ]); (try simp only [List.set_cons_zero])
    refine wpAnyH_take (i := 13) (v := undef) rfl (by kernel_rfl) (by kernel_rfl) (by kernel_rfl) (fun _ _ _ h => h) (Or.inr ⟨by rfl, rfl⟩) hHeld ?rest35
    (try simp only [Act.put, List.getElem_toArray, List.getElem_cons_succ, List.getElem_cons_zero]); (try simp only [List.setIfInBounds_toArray]); (try simp only [List.set_cons_succ]); (try simp only [List.set_cons_zero])
    refine wpAnyH_take (i := 14) (v := undef) rfl (by kernel_rfl) (by kernel_rfl) (by kernel_rfl) (fun _ _ _ h => h) (Or.inr ⟨by rfl, rfl⟩) hHeld ?rest36
    (try simp only [Act.put, List.getElem_toArray, List.getElem_cons_succ, List.getElem_cons_zero]); (try simp only [List.setIfInBounds_toArray]); (try simp only [List.set_cons_succ]); (try simp only [List.set_cons_zero])
    refine wpAnyH_take (i := 15) (v := undef) rfl (by kernel_rfl) (by kernel_rfl) (by kernel_rfl) (fun _ _ _ h => h) (Or.inr ⟨by rfl, rfl⟩) hHeld ?rest37
    (try simp only [Act.put, List.getElem_toArray, List.getElem_cons_succ, List.getElem_cons_zero]); (try simp only [List.setIfInBounds_toArray]); (try simp only [List.set_cons_succ]); (try simp only [List.set_cons_zero])
    refine wpAnyH_take (i := 16) (v := undef) rfl (by kernel_rfl) (by kernel_rfl) (by kernel_rfl) (fun _ _ _ h => h) (Or.inr ⟨by rfl, rfl⟩) hHeld ?rest38
    (try simp only [Act.put, List.getElem_toArray, List.getElem_cons_succ, List.getElem_cons_zero]); (try simp only [List.setIfInBounds_toArray]); (try simp only [List.set_cons_succ]); (try simp only [List.set_cons_zero])
    refine wpAnyH_take (i := 17) (v := undef) rfl (by kernel_rfl) (by kernel_rfl) (by kernel_rfl) (fun _ _ _ h => h) (Or.inr ⟨by rfl, rfl⟩) hHeld ?rest39
    (try simp only [Act.put, List.getElem_toArray, List.getElem_cons_succ, List.getElem_cons_zero]); (try simp only [List.setIfInBounds_toArray]); (try simp only [List.set_cons_succ]); (try simp only [List.set_cons_zero])
    refine wpAnyH_take (i := 18) (v := undef) rfl (by kernel_rfl) (by kernel_rfl) (by kernel_rfl) (fun _ _ _ h => h) (Or.inr ⟨by rfl, rfl⟩) hHeld ?rest40
    (try simp only [Act.put, List.getElem_toArray, List.getElem_cons_succ, List.getElem_cons_zero]); (try simp only [List.setIfInBounds_toArray]); (try simp only [List.set_cons_succ]); (try simp only [List.set_cons_zero])
    refine wpAnyH_take (i := 19) (v := undef) rfl (by kernel_rfl) (by kernel_rfl) (by kernel_rfl) (fun _ _ _ h => h) (Or.inr ⟨by rfl, rfl⟩) hHeld ?rest41
    (try simp only [Act.put, List.getElem_toArray, List.getElem_cons_succ, List.getElem_cons_zero]); (try simp only [List.setIfInBounds_toArray]); (try simp only [List.set_cons_succ]); (try simp only [List.set_cons_zero])
    refine wpAnyH_take (i := 20) (v := undef) rfl (by kernel_rfl) (by kernel_rfl) (by kernel_rfl) (fun _ _ _ h => h) (Or.inr ⟨by rfl, rfl⟩) hHeld ?rest42
    (try simp only [Act.put, List.getElem_toArray, List.getElem_cons_succ, List.getElem_cons_zero]); (try simp only [List.setIfInBounds_toArray]); (try simp only [List.set_cons_succ]); (try simp only [List.set_cons_zero])
    refine wpAnyH_take (i := 21) (v := ?v43) rfl (by kernel_rfl) (by kernel_rfl) (by kernel_rfl) (fun _ _ _ h => h) (Or.inl ⟨by rfl, ?hy43⟩) hHeld ?rest43
    case hy43 => (intro wz hSw; (try dsimp only at hSw); go_simp; (try with_reducible rfl))
    (try simp only [Act.put, List.getElem_toArray, List.getElem_cons_succ, List.getElem_cons_zero]); (try simp only [List.setIfInBounds_toArray]); (try simp only [List.set_cons_succ]); (try simp only [List.set_cons_zero])
    refine wpAnyH_take (i := 22) (v := ?v44) rfl (by kernel_rfl) (by kernel_rfl) (by kernel_rfl) (fun _ _ _ h => h) (Or.inl ⟨by rfl, ?hy44⟩) hHeld ?rest44
    case hy44 => (intro wz hSw; (try dsimp only at hSw); go_simp; (try with_reducible rfl))
    (try simp only [Act.put, List.getElem_toArray, List.getElem_cons_succ, List.getElem_cons_zero]); (try simp only [List.setIfInBounds_toArray]); (try simp only [List.set_cons_succ]); (try simp only [List.set_cons_zero])
    refine wpAnyH_done (by kernel_rfl) ?_ _
    have E9 := Lib.hid (E0.out.trans ((Ext.drew (Ext.refl _)).trans h4))
    clear hHeld
    go_wp2
    go_ret
    exact ⟨ret_bool HF.out.symm, E9.out⟩
  · have HF : Hid (q = (C == D)) := by rw [Hid, HA.out, h1, h2]; rfl
    clear h1 HA
    go_enter Try.func61, Try.ntmps61
    have A0 := Lib.hid (cells_new' w #[.int .i64 P', .int .i64 R, .int .i64 C, .slice (some ⟨s0, so, none⟩) n1 n1] 36 w.heap.size rfl)
    have E0 := Lib.hid ((Ext.refl w).alloc (.cells #[.int .i64 P', .int .i64 R, .int .i64 C, .slice (some ⟨s0, so, none⟩) n1 n1] 36))
    have B0 := Lib.hid (HC.out.ext E0.out)
    have lA := A0.out.1
    have a0 := A0.out.2 0 _ rfl
    have a1 := A0.out.2 1 _ rfl
    have a2 := A0.out.2 2 _ rfl
    have a3 := A0.out.2 3 _ rfl
    have lB := B0.out.1
    have q0 := B0.out.2 0 _ rfl
    have q1 := B0.out.2 1 _ rfl
    go_wp2_with fail
    generalize (w.alloc (.cells #[.int .i64 P', .int .i64 R, .int .i64 C, .slice (some ⟨s0, so, none⟩) n1 n1] 36)) = W1 at *
    go_region_held3 (fun w' => Ext W1 w' ∧ (∀ b o, b < W1.heap.size → w'.cell? ⟨b, o, none⟩ = W1.cell? ⟨b, o, none⟩)) (first | assumption | (with_reducible exact ext2 (Ext.trans (And.left ‹Ext W1 _ ∧ _›) ‹Ext _ _›)) | (refine ext2 ?_; with_reducible repeat (first | exact Ext.refl _ | exact And.left ‹Ext W1 _ ∧ _› | refine Ext.drew ?_ | refine Ext.drewN ?_ _))) ((go_at_call 116; (with_reducible refine (spaceOk_impl (HX.out.ext (E0.out.trans (And.left ‹Ext W1 _ ∧ _›))) hm H1.out).mono ?_); rintro e w4 ⟨rfl, h4⟩))
    all_goals
      have E9 := Lib.hid (E0.out.trans (And.left ‹Ext W1 w4 ∧ _›))
      go_wp2
      go_ret
      rw [HF.out]
      exact ⟨rfl, E9.out⟩

set_option maxRecDepth 100000 in
set_option maxHeartbeats 3200000 in
theorem l2Space_spec (P D P' R C : Int) (a0 oa n s0 so n1 : Nat) (l xs : List Int) (w : World) (hT : Reads w (some ⟨a0, oa, none⟩) n l) (hm0 : n ≤ 1048576) (hX : Reads w (some ⟨s0, so, none⟩) n1 xs) (hm : n1 ≤ 1048576) :
    Calls Try.prog 59 #[.agg #[.int .i64 P, .int .i64 D, .slice (some ⟨a0, oa, none⟩) n n], .agg #[.int .i64 P', .int .i64 R, .int .i64 C, .slice (some ⟨s0, so, none⟩) n1 n1]] w fun e w' => e = .returned (.bool (algB P D l && hsB P D P' R C xs)) ∧ Ext w w' := by
  have HT := Lib.hid hT
  have HX := Lib.hid hX
  have HA : Hid ((algB P D l && hsB P D P' R C xs) = (algB P D l && (spaceM P' R C xs && ((P' == P) && (C == D))))) := rfl
  generalize (algB P D l && hsB P D P' R C xs) = q at HA
  clear hT hX
  rcases h0 : algB P D l with _ | _
  · have HF : Hid (q = false) := by rw [Hid, HA.out, h0]; rfl
    have H0 := Lib.hid h0
    clear h0 HA
    go_enter Try.func59, Try.ntmps59
    have A0_1 := Lib.hid ((cells_new' w #[.int .i64 P, .int .i64 D, .slice (some ⟨a0, oa, none⟩) n n] 26 (w.heap.size) (by simp)).ext ((Ext.refl _).alloc (.cells #[.int .i64 P', .int .i64 R, .int .i64 C, .slice (some ⟨s0, so, none⟩) n1 n1] 36)))
    have A1_2 := Lib.hid (cells_new' (w.alloc (.cells #[.int .i64 P, .int .i64 D, .slice (some ⟨a0, oa, none⟩) n n] 26)) #[.int .i64 P', .int .i64 R, .int .i64 C, .slice (some ⟨s0, so, none⟩) n1 n1] 36 (w.heap.size + 1) (by simp))
    have E_3 := Lib.hid (((Ext.refl w).alloc (.cells #[.int .i64 P, .int .i64 D, .slice (some ⟨a0, oa, none⟩) n n] 26)).alloc (.cells #[.int .i64 P', .int .i64 R, .int .i64 C, .slice (some ⟨s0, so, none⟩) n1 n1] 36))
    have lA0 := A0_1.out.1
    have qA00 := A0_1.out.2 0 _ rfl
    have qA01 := A0_1.out.2 1 _ rfl
    have qA02 := A0_1.out.2 2 _ rfl
    have lA1 := A1_2.out.1
    have qA10 := A1_2.out.2 0 _ rfl
    have qA11 := A1_2.out.2 1 _ rfl
    have qA12 := A1_2.out.2 2 _ rfl
    have qA13 := A1_2.out.2 3 _ rfl
    try simp only [World.size_alloc] at lA0 lA1
    go_wp2_with fail
    refine (algebraOk_spec (HT.out.ext E_3.out) hm0 H0.out).mono ?_
    rintro e w_4 ⟨rfl, h_4⟩
    clear lA0 qA00 qA01 qA02 lA1 qA10 qA11 qA12 qA13
    have A0_5 := Lib.hid (A0_1.out.ext h_4)
    clear A0_1
    have A1_6 := Lib.hid (A1_2.out.ext h_4)
    clear A1_2
    have E_7 := Lib.hid (E_3.out.trans h_4)
    clear E_3
    have lA0 := A0_5.out.1
    have qA00 := A0_5.out.2 0 _ rfl
    have qA01 := A0_5.out.2 1 _ rfl
    have qA02 := A0_5.out.2 2 _ rfl
    have lA1 := A1_6.out.1
    have qA10 := A1_6.out.2 0 _ rfl
    have qA11 := A1_6.out.2 1 _ rfl
    have qA12 := A1_6.out.2 2 _ rfl
    have qA13 := A1_6.out.2 3 _ rfl
    try simp only [World.size_alloc] at lA0 lA1
    go_wp2
    go_ret
    exact ⟨ret_bool HF.out.symm, E_7.out⟩
  have H0 := Lib.hid h0
  rcases h1 : spaceM P' R C xs with _ | _
  · have HF : Hid (q = false) := by rw [Hid, HA.out, h0, h1]; rfl
    have H1 := Lib.hid h1
    clear h0 h1 HA
    go_enter Try.func59, Try.ntmps59
    have A0_1 := Lib.hid ((cells_new' w #[.int .i64 P, .int .i64 D, .slice (some ⟨a0, oa, none⟩) n n] 26 (w.heap.size) (by simp)).ext ((Ext.refl _).alloc (.cells #[.int .i64 P', .int .i64 R, .int .i64 C, .slice (some ⟨s0, so, none⟩) n1 n1] 36)))
    have A1_2 := Lib.hid (cells_new' (w.alloc (.cells #[.int .i64 P, .int .i64 D, .slice (some ⟨a0, oa, none⟩) n n] 26)) #[.int .i64 P', .int .i64 R, .int .i64 C, .slice (some ⟨s0, so, none⟩) n1 n1] 36 (w.heap.size + 1) (by simp))
    have E_3 := Lib.hid (((Ext.refl w).alloc (.cells #[.int .i64 P, .int .i64 D, .slice (some ⟨a0, oa, none⟩) n n] 26)).alloc (.cells #[.int .i64 P', .int .i64 R, .int .i64 C, .slice (some ⟨s0, so, none⟩) n1 n1] 36))
    have lA0 := A0_1.out.1
    have qA00 := A0_1.out.2 0 _ rfl
    have qA01 := A0_1.out.2 1 _ rfl
    have qA02 := A0_1.out.2 2 _ rfl
    have lA1 := A1_2.out.1
    have qA10 := A1_2.out.2 0 _ rfl
    have qA11 := A1_2.out.2 1 _ rfl
    have qA12 := A1_2.out.2 2 _ rfl
    have qA13 := A1_2.out.2 3 _ rfl
    try simp only [World.size_alloc] at lA0 lA1
    go_wp2_with fail
    refine (algebraOk_spec (HT.out.ext E_3.out) hm0 H0.out).mono ?_
    rintro e w_4 ⟨rfl, h_4⟩
    clear lA0 qA00 qA01 qA02 lA1 qA10 qA11 qA12 qA13
    have A0_5 := Lib.hid (A0_1.out.ext h_4)
    clear A0_1
    have A1_6 := Lib.hid (A1_2.out.ext h_4)
    clear A1_2
    have E_7 := Lib.hid (E_3.out.trans h_4)
    clear E_3
    have lA0 := A0_5.out.1
    have qA00 := A0_5.out.2 0 _ rfl
    have qA01 := A0_5.out.2 1 _ rfl
    have qA02 := A0_5.out.2 2 _ rfl
    have lA1 := A1_6.out.1
    have qA10 := A1_6.out.2 0 _ rfl
    have qA11 := A1_6.out.2 1 _ rfl
    have qA12 := A1_6.out.2 2 _ rfl
    have qA13 := A1_6.out.2 3 _ rfl
    try simp only [World.size_alloc] at lA0 lA1
    go_wp2_with fail
    refine (spaceOk_spec (HX.out.ext E_7.out) hm H1.out).mono ?_
    rintro e w_8 ⟨rfl, h_8⟩
    clear lA0 qA00 qA01 qA02 lA1 qA10 qA11 qA12 qA13
    have A0_9 := Lib.hid (A0_5.out.ext h_8)
    clear A0_5
    have A1_10 := Lib.hid (A1_6.out.ext h_8)
    clear A1_6
    have E_11 := Lib.hid (E_7.out.trans h_8)
    clear E_7
    have lA0 := A0_9.out.1
    have qA00 := A0_9.out.2 0 _ rfl
    have qA01 := A0_9.out.2 1 _ rfl
    have qA02 := A0_9.out.2 2 _ rfl
    have lA1 := A1_10.out.1
    have qA10 := A1_10.out.2 0 _ rfl
    have qA11 := A1_10.out.2 1 _ rfl
    have qA12 := A1_10.out.2 2 _ rfl
    have qA13 := A1_10.out.2 3 _ rfl
    try simp only [World.size_alloc] at lA0 lA1
    go_wp2
    go_ret
    exact ⟨ret_bool HF.out.symm, E_11.out⟩
  have H1 := Lib.hid h1
  rcases h2 : (P' == P) with _ | _
  · have HF : Hid (q = false) := by rw [Hid, HA.out, h0, h1, h2]; rfl
    clear h0 h1 HA
    go_enter Try.func59, Try.ntmps59
    have A0_1 := Lib.hid ((cells_new' w #[.int .i64 P, .int .i64 D, .slice (some ⟨a0, oa, none⟩) n n] 26 (w.heap.size) (by simp)).ext ((Ext.refl _).alloc (.cells #[.int .i64 P', .int .i64 R, .int .i64 C, .slice (some ⟨s0, so, none⟩) n1 n1] 36)))
    have A1_2 := Lib.hid (cells_new' (w.alloc (.cells #[.int .i64 P, .int .i64 D, .slice (some ⟨a0, oa, none⟩) n n] 26)) #[.int .i64 P', .int .i64 R, .int .i64 C, .slice (some ⟨s0, so, none⟩) n1 n1] 36 (w.heap.size + 1) (by simp))
    have E_3 := Lib.hid (((Ext.refl w).alloc (.cells #[.int .i64 P, .int .i64 D, .slice (some ⟨a0, oa, none⟩) n n] 26)).alloc (.cells #[.int .i64 P', .int .i64 R, .int .i64 C, .slice (some ⟨s0, so, none⟩) n1 n1] 36))
    have lA0 := A0_1.out.1
    have qA00 := A0_1.out.2 0 _ rfl
    have qA01 := A0_1.out.2 1 _ rfl
    have qA02 := A0_1.out.2 2 _ rfl
    have lA1 := A1_2.out.1
    have qA10 := A1_2.out.2 0 _ rfl
    have qA11 := A1_2.out.2 1 _ rfl
    have qA12 := A1_2.out.2 2 _ rfl
    have qA13 := A1_2.out.2 3 _ rfl
    try simp only [World.size_alloc] at lA0 lA1
    go_wp2_with fail
    refine (algebraOk_spec (HT.out.ext E_3.out) hm0 H0.out).mono ?_
    rintro e w_4 ⟨rfl, h_4⟩
    clear lA0 qA00 qA01 qA02 lA1 qA10 qA11 qA12 qA13
    have A0_5 := Lib.hid (A0_1.out.ext h_4)
    clear A0_1
    have A1_6 := Lib.hid (A1_2.out.ext h_4)
    clear A1_2
    have E_7 := Lib.hid (E_3.out.trans h_4)
    clear E_3
    have lA0 := A0_5.out.1
    have qA00 := A0_5.out.2 0 _ rfl
    have qA01 := A0_5.out.2 1 _ rfl
    have qA02 := A0_5.out.2 2 _ rfl
    have lA1 := A1_6.out.1
    have qA10 := A1_6.out.2 0 _ rfl
    have qA11 := A1_6.out.2 1 _ rfl
    have qA12 := A1_6.out.2 2 _ rfl
    have qA13 := A1_6.out.2 3 _ rfl
    try simp only [World.size_alloc] at lA0 lA1
    go_wp2_with fail
    refine (spaceOk_spec (HX.out.ext E_7.out) hm H1.out).mono ?_
    rintro e w_8 ⟨rfl, h_8⟩
    clear lA0 qA00 qA01 qA02 lA1 qA10 qA11 qA12 qA13
    have A0_9 := Lib.hid (A0_5.out.ext h_8)
    clear A0_5
    have A1_10 := Lib.hid (A1_6.out.ext h_8)
    clear A1_6
    have E_11 := Lib.hid (E_7.out.trans h_8)
    clear E_7
    have lA0 := A0_9.out.1
    have qA00 := A0_9.out.2 0 _ rfl
    have qA01 := A0_9.out.2 1 _ rfl
    have qA02 := A0_9.out.2 2 _ rfl
    have lA1 := A1_10.out.1
    have qA10 := A1_10.out.2 0 _ rfl
    have qA11 := A1_10.out.2 1 _ rfl
    have qA12 := A1_10.out.2 2 _ rfl
    have qA13 := A1_10.out.2 3 _ rfl
    try simp only [World.size_alloc] at lA0 lA1
    go_wp2
    go_ret
    exact ⟨ret_bool HF.out.symm, E_11.out⟩
  · have HF : Hid (q = (C == D)) := by rw [Hid, HA.out, h0, h1, h2]; rfl
    clear h0 h1 HA
    go_enter Try.func59, Try.ntmps59
    have A0_1 := Lib.hid ((cells_new' w #[.int .i64 P, .int .i64 D, .slice (some ⟨a0, oa, none⟩) n n] 26 (w.heap.size) (by simp)).ext ((Ext.refl _).alloc (.cells #[.int .i64 P', .int .i64 R, .int .i64 C, .slice (some ⟨s0, so, none⟩) n1 n1] 36)))
    have A1_2 := Lib.hid (cells_new' (w.alloc (.cells #[.int .i64 P, .int .i64 D, .slice (some ⟨a0, oa, none⟩) n n] 26)) #[.int .i64 P', .int .i64 R, .int .i64 C, .slice (some ⟨s0, so, none⟩) n1 n1] 36 (w.heap.size + 1) (by simp))
    have E_3 := Lib.hid (((Ext.refl w).alloc (.cells #[.int .i64 P, .int .i64 D, .slice (some ⟨a0, oa, none⟩) n n] 26)).alloc (.cells #[.int .i64 P', .int .i64 R, .int .i64 C, .slice (some ⟨s0, so, none⟩) n1 n1] 36))
    have lA0 := A0_1.out.1
    have qA00 := A0_1.out.2 0 _ rfl
    have qA01 := A0_1.out.2 1 _ rfl
    have qA02 := A0_1.out.2 2 _ rfl
    have lA1 := A1_2.out.1
    have qA10 := A1_2.out.2 0 _ rfl
    have qA11 := A1_2.out.2 1 _ rfl
    have qA12 := A1_2.out.2 2 _ rfl
    have qA13 := A1_2.out.2 3 _ rfl
    try simp only [World.size_alloc] at lA0 lA1
    go_wp2_with fail
    refine (algebraOk_spec (HT.out.ext E_3.out) hm0 H0.out).mono ?_
    rintro e w_4 ⟨rfl, h_4⟩
    clear lA0 qA00 qA01 qA02 lA1 qA10 qA11 qA12 qA13
    have A0_5 := Lib.hid (A0_1.out.ext h_4)
    clear A0_1
    have A1_6 := Lib.hid (A1_2.out.ext h_4)
    clear A1_2
    have E_7 := Lib.hid (E_3.out.trans h_4)
    clear E_3
    have lA0 := A0_5.out.1
    have qA00 := A0_5.out.2 0 _ rfl
    have qA01 := A0_5.out.2 1 _ rfl
    have qA02 := A0_5.out.2 2 _ rfl
    have lA1 := A1_6.out.1
    have qA10 := A1_6.out.2 0 _ rfl
    have qA11 := A1_6.out.2 1 _ rfl
    have qA12 := A1_6.out.2 2 _ rfl
    have qA13 := A1_6.out.2 3 _ rfl
    try simp only [World.size_alloc] at lA0 lA1
    go_wp2_with fail
    refine (spaceOk_spec (HX.out.ext E_7.out) hm H1.out).mono ?_
    rintro e w_8 ⟨rfl, h_8⟩
    clear lA0 qA00 qA01 qA02 lA1 qA10 qA11 qA12 qA13
    have A0_9 := Lib.hid (A0_5.out.ext h_8)
    clear A0_5
    have A1_10 := Lib.hid (A1_6.out.ext h_8)
    clear A1_6
    have E_11 := Lib.hid (E_7.out.trans h_8)
    clear E_7
    have lA0 := A0_9.out.1
    have qA00 := A0_9.out.2 0 _ rfl
    have qA01 := A0_9.out.2 1 _ rfl
    have qA02 := A0_9.out.2 2 _ rfl
    have lA1 := A1_10.out.1
    have qA10 := A1_10.out.2 0 _ rfl
    have qA11 := A1_10.out.2 1 _ rfl
    have qA12 := A1_10.out.2 2 _ rfl
    have qA13 := A1_10.out.2 3 _ rfl
    try simp only [World.size_alloc] at lA0 lA1
    go_wp2
    go_ret
    exact ⟨by rw [HF.out]; rfl, E_11.out⟩

set_option maxRecDepth 100000 in
set_option maxHeartbeats 6400000 in
theorem productSpace_impl {P D : Int} {a0 oa n : Nat} {l : List Int} {P1 R1 C1 : Int} {s0 so n1 : Nat} {ss : List Int} {P2 R2 C2 : Int} {t0 tq n2 : Nat} {ts : List Int} {w : World} {p r c : Int} {d : List Int} {ok : Bool} (hT : Reads w (some ⟨a0, oa, none⟩) n l) (hm0 : n ≤ 1048576) (hS : Reads w (some ⟨s0, so, none⟩) n1 ss) (hm1 : n1 ≤ 1048576) (hTs : Reads w (some ⟨t0, tq, none⟩) n2 ts) (hm2 : n2 ≤ 1048576) (hM : prodM P D l P1 R1 C1 ss P2 R2 C2 ts = (⟨p, r, c, d⟩, ok)) :
    Calls Try.prog 25 #[.agg #[.int .i64 P, .int .i64 D, .slice (some ⟨a0, oa, none⟩) n n], .agg #[.int .i64 P1, .int .i64 R1, .int .i64 C1, .slice (some ⟨s0, so, none⟩) n1 n1], .agg #[.int .i64 P2, .int .i64 R2, .int .i64 C2, .slice (some ⟨t0, tq, none⟩) n2 n2]] w fun e w' => ∃ v, e = .returned (.tuple #[v, .bool ok]) ∧ Rmat w w' v p r c d ∧ Ext w w' := by
  have HT := Lib.hid hT
  have HS := Lib.hid hS
  have HTS := Lib.hid hTs
  rcases h0 : algB P D l with _ | _
  · simp only [prodM, h0, noMat, Bool.false_and, Bool.and_false, Bool.false_eq_true, if_false, Prod.mk.injEq, Mat.mk.injEq] at hM
    obtain ⟨⟨rfl, rfl, rfl, rfl⟩, rfl⟩ := hM
    have H0 := Lib.hid h0
    clear h0 hT hS hTs
    go_enter Try.func25, Try.ntmps25
    have A0_1 := Lib.hid ((((cells_new' w #[.int .i64 P, .int .i64 D, .slice (some ⟨a0, oa, none⟩) n n] 26 (w.heap.size) (by simp)).ext ((Ext.refl _).alloc (.cells #[.int .i64 P1, .int .i64 R1, .int .i64 C1, .slice (some ⟨s0, so, none⟩) n1 n1] 36))).ext ((Ext.refl _).alloc (.cells #[.int .i64 P2, .int .i64 R2, .int .i64 C2, .slice (some ⟨t0, tq, none⟩) n2 n2] 36))).ext ((Ext.refl _).alloc (.cells #[.int .i64 0, .int .i64 0, .int .i64 0, .slice none 0 0] 36)))
    have A1_2 := Lib.hid (((cells_new' (w.alloc (.cells #[.int .i64 P, .int .i64 D, .slice (some ⟨a0, oa, none⟩) n n] 26)) #[.int .i64 P1, .int .i64 R1, .int .i64 C1, .slice (some ⟨s0, so, none⟩) n1 n1] 36 (w.heap.size + 1) (by simp)).ext ((Ext.refl _).alloc (.cells #[.int .i64 P2, .int .i64 R2, .int .i64 C2, .slice (some ⟨t0, tq, none⟩) n2 n2] 36))).ext ((Ext.refl _).alloc (.cells #[.int .i64 0, .int .i64 0, .int .i64 0, .slice none 0 0] 36)))
    have A2_3 := Lib.hid ((cells_new' ((w.alloc (.cells #[.int .i64 P, .int .i64 D, .slice (some ⟨a0, oa, none⟩) n n] 26)).alloc (.cells #[.int .i64 P1, .int .i64 R1, .int .i64 C1, .slice (some ⟨s0, so, none⟩) n1 n1] 36)) #[.int .i64 P2, .int .i64 R2, .int .i64 C2, .slice (some ⟨t0, tq, none⟩) n2 n2] 36 (w.heap.size + 1 + 1) (by simp)).ext ((Ext.refl _).alloc (.cells #[.int .i64 0, .int .i64 0, .int .i64 0, .slice none 0 0] 36)))
    have R_4 := Lib.hid (cells_new' (((w.alloc (.cells #[.int .i64 P, .int .i64 D, .slice (some ⟨a0, oa, none⟩) n n] 26)).alloc (.cells #[.int .i64 P1, .int .i64 R1, .int .i64 C1, .slice (some ⟨s0, so, none⟩) n1 n1] 36)).alloc (.cells #[.int .i64 P2, .int .i64 R2, .int .i64 C2, .slice (some ⟨t0, tq, none⟩) n2 n2] 36)) #[.int .i64 0, .int .i64 0, .int .i64 0, .slice none 0 0] 36 (w.heap.size + 1 + 1 + 1) (by simp))
    have E_5 := Lib.hid (((((Ext.refl w).alloc (.cells #[.int .i64 P, .int .i64 D, .slice (some ⟨a0, oa, none⟩) n n] 26)).alloc (.cells #[.int .i64 P1, .int .i64 R1, .int .i64 C1, .slice (some ⟨s0, so, none⟩) n1 n1] 36)).alloc (.cells #[.int .i64 P2, .int .i64 R2, .int .i64 C2, .slice (some ⟨t0, tq, none⟩) n2 n2] 36)).alloc (.cells #[.int .i64 0, .int .i64 0, .int .i64 0, .slice none 0 0] 36))
    have lA0 := A0_1.out.1
    have qA00 := A0_1.out.2 0 _ rfl
    have qA01 := A0_1.out.2 1 _ rfl
    have qA02 := A0_1.out.2 2 _ rfl
    have lA1 := A1_2.out.1
    have qA10 := A1_2.out.2 0 _ rfl
    have qA11 := A1_2.out.2 1 _ rfl
    have qA12 := A1_2.out.2 2 _ rfl
    have qA13 := A1_2.out.2 3 _ rfl
    have lA2 := A2_3.out.1
    have qA20 := A2_3.out.2 0 _ rfl
    have qA21 := A2_3.out.2 1 _ rfl
    have qA22 := A2_3.out.2 2 _ rfl
    have qA23 := A2_3.out.2 3 _ rfl
    try simp only [World.size_alloc] at lA0 lA1 lA2
    go_wp2_with fail
    refine (wrap_impl P _ a0 oa n n l _ (HT.out.ext E_5.out) hm0 (Nat.le_refl _) (by unfold maxLen; omega)).mono ?_
    rintro e w_6 ⟨B, rfl, hb, hlo, h_6⟩
    clear lA0 qA00 qA01 qA02 lA1 qA10 qA11 qA12 qA13 lA2 qA20 qA21 qA22 qA23
    have A0_7 := Lib.hid (A0_1.out.ext h_6)
    clear A0_1
    have A1_8 := Lib.hid (A1_2.out.ext h_6)
    clear A1_2
    have A2_9 := Lib.hid (A2_3.out.ext h_6)
    clear A2_3
    have R_10 := Lib.hid (R_4.out.ext h_6)
    clear R_4
    have E_11 := Lib.hid (E_5.out.trans h_6)
    clear E_5
    have B_12 := Lib.hid hb
    clear hb
    rw [H0.out]
    have lA0 := A0_7.out.1
    have qA00 := A0_7.out.2 0 _ rfl
    have qA01 := A0_7.out.2 1 _ rfl
    have qA02 := A0_7.out.2 2 _ rfl
    have lA1 := A1_8.out.1
    have qA10 := A1_8.out.2 0 _ rfl
    have qA11 := A1_8.out.2 1 _ rfl
    have qA12 := A1_8.out.2 2 _ rfl
    have qA13 := A1_8.out.2 3 _ rfl
    have lA2 := A2_9.out.1
    have qA20 := A2_9.out.2 0 _ rfl
    have qA21 := A2_9.out.2 1 _ rfl
    have qA22 := A2_9.out.2 2 _ rfl
    have qA23 := A2_9.out.2 3 _ rfl
    try simp only [World.size_alloc] at lA0 lA1 lA2
    have r0 := R_10.out.2 0 _ rfl
    have r1 := R_10.out.2 1 _ rfl
    have r2 := R_10.out.2 2 _ rfl
    have r3 := R_10.out.2 3 _ rfl
    have tR := R_10.out.3
    have lR := R_10.out.1
    go_wp2
    refine bodyPost_ret (v := .tuple #[.agg #[.int .i64 0, .int .i64 0, .int .i64 0, .slice none 0 0], .bool false]) (by simp [results, Try.results25, go_sem, r0, r1, r2, r3]) rfl ⟨_, rfl, ⟨_, _, _, rfl, own_nil _ _ _, by omega⟩, ext4 E_11.out (by omega) _ _ _ _⟩
  have H0 := Lib.hid h0
  rcases h1 : hsB P D P1 R1 C1 ss with _ | _
  · simp only [prodM, h0, h1, noMat, Bool.false_and, Bool.and_false, Bool.false_eq_true, if_false, Prod.mk.injEq, Mat.mk.injEq] at hM
    obtain ⟨⟨rfl, rfl, rfl, rfl⟩, rfl⟩ := hM
    have H1 := Lib.hid h1
    clear h0 h1 hT hS hTs
    go_enter Try.func25, Try.ntmps25
    have A0_1 := Lib.hid ((((cells_new' w #[.int .i64 P, .int .i64 D, .slice (some ⟨a0, oa, none⟩) n n] 26 (w.heap.size) (by simp)).ext ((Ext.refl _).alloc (.cells #[.int .i64 P1, .int .i64 R1, .int .i64 C1, .slice (some ⟨s0, so, none⟩) n1 n1] 36))).ext ((Ext.refl _).alloc (.cells #[.int .i64 P2, .int .i64 R2, .int .i64 C2, .slice (some ⟨t0, tq, none⟩) n2 n2] 36))).ext ((Ext.refl _).alloc (.cells #[.int .i64 0, .int .i64 0, .int .i64 0, .slice none 0 0] 36)))
    have A1_2 := Lib.hid (((cells_new' (w.alloc (.cells #[.int .i64 P, .int .i64 D, .slice (some ⟨a0, oa, none⟩) n n] 26)) #[.int .i64 P1, .int .i64 R1, .int .i64 C1, .slice (some ⟨s0, so, none⟩) n1 n1] 36 (w.heap.size + 1) (by simp)).ext ((Ext.refl _).alloc (.cells #[.int .i64 P2, .int .i64 R2, .int .i64 C2, .slice (some ⟨t0, tq, none⟩) n2 n2] 36))).ext ((Ext.refl _).alloc (.cells #[.int .i64 0, .int .i64 0, .int .i64 0, .slice none 0 0] 36)))
    have A2_3 := Lib.hid ((cells_new' ((w.alloc (.cells #[.int .i64 P, .int .i64 D, .slice (some ⟨a0, oa, none⟩) n n] 26)).alloc (.cells #[.int .i64 P1, .int .i64 R1, .int .i64 C1, .slice (some ⟨s0, so, none⟩) n1 n1] 36)) #[.int .i64 P2, .int .i64 R2, .int .i64 C2, .slice (some ⟨t0, tq, none⟩) n2 n2] 36 (w.heap.size + 1 + 1) (by simp)).ext ((Ext.refl _).alloc (.cells #[.int .i64 0, .int .i64 0, .int .i64 0, .slice none 0 0] 36)))
    have R_4 := Lib.hid (cells_new' (((w.alloc (.cells #[.int .i64 P, .int .i64 D, .slice (some ⟨a0, oa, none⟩) n n] 26)).alloc (.cells #[.int .i64 P1, .int .i64 R1, .int .i64 C1, .slice (some ⟨s0, so, none⟩) n1 n1] 36)).alloc (.cells #[.int .i64 P2, .int .i64 R2, .int .i64 C2, .slice (some ⟨t0, tq, none⟩) n2 n2] 36)) #[.int .i64 0, .int .i64 0, .int .i64 0, .slice none 0 0] 36 (w.heap.size + 1 + 1 + 1) (by simp))
    have E_5 := Lib.hid (((((Ext.refl w).alloc (.cells #[.int .i64 P, .int .i64 D, .slice (some ⟨a0, oa, none⟩) n n] 26)).alloc (.cells #[.int .i64 P1, .int .i64 R1, .int .i64 C1, .slice (some ⟨s0, so, none⟩) n1 n1] 36)).alloc (.cells #[.int .i64 P2, .int .i64 R2, .int .i64 C2, .slice (some ⟨t0, tq, none⟩) n2 n2] 36)).alloc (.cells #[.int .i64 0, .int .i64 0, .int .i64 0, .slice none 0 0] 36))
    have lA0 := A0_1.out.1
    have qA00 := A0_1.out.2 0 _ rfl
    have qA01 := A0_1.out.2 1 _ rfl
    have qA02 := A0_1.out.2 2 _ rfl
    have lA1 := A1_2.out.1
    have qA10 := A1_2.out.2 0 _ rfl
    have qA11 := A1_2.out.2 1 _ rfl
    have qA12 := A1_2.out.2 2 _ rfl
    have qA13 := A1_2.out.2 3 _ rfl
    have lA2 := A2_3.out.1
    have qA20 := A2_3.out.2 0 _ rfl
    have qA21 := A2_3.out.2 1 _ rfl
    have qA22 := A2_3.out.2 2 _ rfl
    have qA23 := A2_3.out.2 3 _ rfl
    try simp only [World.size_alloc] at lA0 lA1 lA2
    go_wp2_with fail
    refine (wrap_impl P _ a0 oa n n l _ (HT.out.ext E_5.out) hm0 (Nat.le_refl _) (by unfold maxLen; omega)).mono ?_
    rintro e w_6 ⟨B, rfl, hb, hlo, h_6⟩
    clear lA0 qA00 qA01 qA02 lA1 qA10 qA11 qA12 qA13 lA2 qA20 qA21 qA22 qA23
    have A0_7 := Lib.hid (A0_1.out.ext h_6)
    clear A0_1
    have A1_8 := Lib.hid (A1_2.out.ext h_6)
    clear A1_2
    have A2_9 := Lib.hid (A2_3.out.ext h_6)
    clear A2_3
    have R_10 := Lib.hid (R_4.out.ext h_6)
    clear R_4
    have E_11 := Lib.hid (E_5.out.trans h_6)
    clear E_5
    have B_12 := Lib.hid hb
    clear hb
    rw [H0.out]
    have lA0 := A0_7.out.1
    have qA00 := A0_7.out.2 0 _ rfl
    have qA01 := A0_7.out.2 1 _ rfl
    have qA02 := A0_7.out.2 2 _ rfl
    have lA1 := A1_8.out.1
    have qA10 := A1_8.out.2 0 _ rfl
    have qA11 := A1_8.out.2 1 _ rfl
    have qA12 := A1_8.out.2 2 _ rfl
    have qA13 := A1_8.out.2 3 _ rfl
    have lA2 := A2_9.out.1
    have qA20 := A2_9.out.2 0 _ rfl
    have qA21 := A2_9.out.2 1 _ rfl
    have qA22 := A2_9.out.2 2 _ rfl
    have qA23 := A2_9.out.2 3 _ rfl
    try simp only [World.size_alloc] at lA0 lA1 lA2
    go_wp2_with fail
    refine (hasSubspace_impl P _ _ _ _ B s0 so n1 _ ss _ B_12.out (HS.out.ext E_11.out) hm1).mono ?_
    rintro e w_13 ⟨rfl, h_13⟩
    clear lA0 qA00 qA01 qA02 lA1 qA10 qA11 qA12 qA13 lA2 qA20 qA21 qA22 qA23
    have A0_14 := Lib.hid (A0_7.out.ext h_13)
    clear A0_7
    have A1_15 := Lib.hid (A1_8.out.ext h_13)
    clear A1_8
    have A2_16 := Lib.hid (A2_9.out.ext h_13)
    clear A2_9
    have R_17 := Lib.hid (R_10.out.ext h_13)
    clear R_10
    have B_18 := Lib.hid (B_12.out.ext h_13)
    clear B_12
    have E_19 := Lib.hid (E_11.out.trans h_13)
    clear E_11
    rw [H1.out]
    have lA0 := A0_14.out.1
    have qA00 := A0_14.out.2 0 _ rfl
    have qA01 := A0_14.out.2 1 _ rfl
    have qA02 := A0_14.out.2 2 _ rfl
    have lA1 := A1_15.out.1
    have qA10 := A1_15.out.2 0 _ rfl
    have qA11 := A1_15.out.2 1 _ rfl
    have qA12 := A1_15.out.2 2 _ rfl
    have qA13 := A1_15.out.2 3 _ rfl
    have lA2 := A2_16.out.1
    have qA20 := A2_16.out.2 0 _ rfl
    have qA21 := A2_16.out.2 1 _ rfl
    have qA22 := A2_16.out.2 2 _ rfl
    have qA23 := A2_16.out.2 3 _ rfl
    try simp only [World.size_alloc] at lA0 lA1 lA2
    have r0 := R_17.out.2 0 _ rfl
    have r1 := R_17.out.2 1 _ rfl
    have r2 := R_17.out.2 2 _ rfl
    have r3 := R_17.out.2 3 _ rfl
    have tR := R_17.out.3
    have lR := R_17.out.1
    go_wp2
    refine bodyPost_ret (v := .tuple #[.agg #[.int .i64 0, .int .i64 0, .int .i64 0, .slice none 0 0], .bool false]) (by simp [results, Try.results25, go_sem, r0, r1, r2, r3]) rfl ⟨_, rfl, ⟨_, _, _, rfl, own_nil _ _ _, by omega⟩, ext4 E_19.out (by omega) _ _ _ _⟩
  have H1 := Lib.hid h1
  rcases h2 : hsB P D P2 R2 C2 ts with _ | _
  · simp only [prodM, h0, h1, h2, noMat, Bool.false_and, Bool.and_false, Bool.false_eq_true, if_false, Prod.mk.injEq, Mat.mk.injEq] at hM
    obtain ⟨⟨rfl, rfl, rfl, rfl⟩, rfl⟩ := hM
    have H2 := Lib.hid h2
    clear h0 h1 h2 hT hS hTs
    go_enter Try.func25, Try.ntmps25
    have A0_1 := Lib.hid ((((cells_new' w #[.int .i64 P, .int .i64 D, .slice (some ⟨a0, oa, none⟩) n n] 26 (w.heap.size) (by simp)).ext ((Ext.refl _).alloc (.cells #[.int .i64 P1, .int .i64 R1, .int .i64 C1, .slice (some ⟨s0, so, none⟩) n1 n1] 36))).ext ((Ext.refl _).alloc (.cells #[.int .i64 P2, .int .i64 R2, .int .i64 C2, .slice (some ⟨t0, tq, none⟩) n2 n2] 36))).ext ((Ext.refl _).alloc (.cells #[.int .i64 0, .int .i64 0, .int .i64 0, .slice none 0 0] 36)))
    have A1_2 := Lib.hid (((cells_new' (w.alloc (.cells #[.int .i64 P, .int .i64 D, .slice (some ⟨a0, oa, none⟩) n n] 26)) #[.int .i64 P1, .int .i64 R1, .int .i64 C1, .slice (some ⟨s0, so, none⟩) n1 n1] 36 (w.heap.size + 1) (by simp)).ext ((Ext.refl _).alloc (.cells #[.int .i64 P2, .int .i64 R2, .int .i64 C2, .slice (some ⟨t0, tq, none⟩) n2 n2] 36))).ext ((Ext.refl _).alloc (.cells #[.int .i64 0, .int .i64 0, .int .i64 0, .slice none 0 0] 36)))
    have A2_3 := Lib.hid ((cells_new' ((w.alloc (.cells #[.int .i64 P, .int .i64 D, .slice (some ⟨a0, oa, none⟩) n n] 26)).alloc (.cells #[.int .i64 P1, .int .i64 R1, .int .i64 C1, .slice (some ⟨s0, so, none⟩) n1 n1] 36)) #[.int .i64 P2, .int .i64 R2, .int .i64 C2, .slice (some ⟨t0, tq, none⟩) n2 n2] 36 (w.heap.size + 1 + 1) (by simp)).ext ((Ext.refl _).alloc (.cells #[.int .i64 0, .int .i64 0, .int .i64 0, .slice none 0 0] 36)))
    have R_4 := Lib.hid (cells_new' (((w.alloc (.cells #[.int .i64 P, .int .i64 D, .slice (some ⟨a0, oa, none⟩) n n] 26)).alloc (.cells #[.int .i64 P1, .int .i64 R1, .int .i64 C1, .slice (some ⟨s0, so, none⟩) n1 n1] 36)).alloc (.cells #[.int .i64 P2, .int .i64 R2, .int .i64 C2, .slice (some ⟨t0, tq, none⟩) n2 n2] 36)) #[.int .i64 0, .int .i64 0, .int .i64 0, .slice none 0 0] 36 (w.heap.size + 1 + 1 + 1) (by simp))
    have E_5 := Lib.hid (((((Ext.refl w).alloc (.cells #[.int .i64 P, .int .i64 D, .slice (some ⟨a0, oa, none⟩) n n] 26)).alloc (.cells #[.int .i64 P1, .int .i64 R1, .int .i64 C1, .slice (some ⟨s0, so, none⟩) n1 n1] 36)).alloc (.cells #[.int .i64 P2, .int .i64 R2, .int .i64 C2, .slice (some ⟨t0, tq, none⟩) n2 n2] 36)).alloc (.cells #[.int .i64 0, .int .i64 0, .int .i64 0, .slice none 0 0] 36))
    have lA0 := A0_1.out.1
    have qA00 := A0_1.out.2 0 _ rfl
    have qA01 := A0_1.out.2 1 _ rfl
    have qA02 := A0_1.out.2 2 _ rfl
    have lA1 := A1_2.out.1
    have qA10 := A1_2.out.2 0 _ rfl
    have qA11 := A1_2.out.2 1 _ rfl
    have qA12 := A1_2.out.2 2 _ rfl
    have qA13 := A1_2.out.2 3 _ rfl
    have lA2 := A2_3.out.1
    have qA20 := A2_3.out.2 0 _ rfl
    have qA21 := A2_3.out.2 1 _ rfl
    have qA22 := A2_3.out.2 2 _ rfl
    have qA23 := A2_3.out.2 3 _ rfl
    try simp only [World.size_alloc] at lA0 lA1 lA2
    go_wp2_with fail
    refine (wrap_impl P _ a0 oa n n l _ (HT.out.ext E_5.out) hm0 (Nat.le_refl _) (by unfold maxLen; omega)).mono ?_
    rintro e w_6 ⟨B, rfl, hb, hlo, h_6⟩
    clear lA0 qA00 qA01 qA02 lA1 qA10 qA11 qA12 qA13 lA2 qA20 qA21 qA22 qA23
    have A0_7 := Lib.hid (A0_1.out.ext h_6)
    clear A0_1
    have A1_8 := Lib.hid (A1_2.out.ext h_6)
    clear A1_2
    have A2_9 := Lib.hid (A2_3.out.ext h_6)
    clear A2_3
    have R_10 := Lib.hid (R_4.out.ext h_6)
    clear R_4
    have E_11 := Lib.hid (E_5.out.trans h_6)
    clear E_5
    have B_12 := Lib.hid hb
    clear hb
    rw [H0.out]
    have lA0 := A0_7.out.1
    have qA00 := A0_7.out.2 0 _ rfl
    have qA01 := A0_7.out.2 1 _ rfl
    have qA02 := A0_7.out.2 2 _ rfl
    have lA1 := A1_8.out.1
    have qA10 := A1_8.out.2 0 _ rfl
    have qA11 := A1_8.out.2 1 _ rfl
    have qA12 := A1_8.out.2 2 _ rfl
    have qA13 := A1_8.out.2 3 _ rfl
    have lA2 := A2_9.out.1
    have qA20 := A2_9.out.2 0 _ rfl
    have qA21 := A2_9.out.2 1 _ rfl
    have qA22 := A2_9.out.2 2 _ rfl
    have qA23 := A2_9.out.2 3 _ rfl
    try simp only [World.size_alloc] at lA0 lA1 lA2
    go_wp2_with fail
    refine (hasSubspace_impl P _ _ _ _ B s0 so n1 _ ss _ B_12.out (HS.out.ext E_11.out) hm1).mono ?_
    rintro e w_13 ⟨rfl, h_13⟩
    clear lA0 qA00 qA01 qA02 lA1 qA10 qA11 qA12 qA13 lA2 qA20 qA21 qA22 qA23
    have A0_14 := Lib.hid (A0_7.out.ext h_13)
    clear A0_7
    have A1_15 := Lib.hid (A1_8.out.ext h_13)
    clear A1_8
    have A2_16 := Lib.hid (A2_9.out.ext h_13)
    clear A2_9
    have R_17 := Lib.hid (R_10.out.ext h_13)
    clear R_10
    have B_18 := Lib.hid (B_12.out.ext h_13)
    clear B_12
    have E_19 := Lib.hid (E_11.out.trans h_13)
    clear E_11
    rw [H1.out]
    have lA0 := A0_14.out.1
    have qA00 := A0_14.out.2 0 _ rfl
    have qA01 := A0_14.out.2 1 _ rfl
    have qA02 := A0_14.out.2 2 _ rfl
    have lA1 := A1_15.out.1
    have qA10 := A1_15.out.2 0 _ rfl
    have qA11 := A1_15.out.2 1 _ rfl
    have qA12 := A1_15.out.2 2 _ rfl
    have qA13 := A1_15.out.2 3 _ rfl
    have lA2 := A2_16.out.1
    have qA20 := A2_16.out.2 0 _ rfl
    have qA21 := A2_16.out.2 1 _ rfl
    have qA22 := A2_16.out.2 2 _ rfl
    have qA23 := A2_16.out.2 3 _ rfl
    try simp only [World.size_alloc] at lA0 lA1 lA2
    go_wp2_with fail
    refine (hasSubspace_impl P _ _ _ _ B t0 tq n2 _ ts _ B_18.out (HTS.out.ext E_19.out) hm2).mono ?_
    rintro e w_20 ⟨rfl, h_20⟩
    clear lA0 qA00 qA01 qA02 lA1 qA10 qA11 qA12 qA13 lA2 qA20 qA21 qA22 qA23
    have A0_21 := Lib.hid (A0_14.out.ext h_20)
    clear A0_14
    have A1_22 := Lib.hid (A1_15.out.ext h_20)
    clear A1_15
    have A2_23 := Lib.hid (A2_16.out.ext h_20)
    clear A2_16
    have R_24 := Lib.hid (R_17.out.ext h_20)
    clear R_17
    have B_25 := Lib.hid (B_18.out.ext h_20)
    clear B_18
    have E_26 := Lib.hid (E_19.out.trans h_20)
    clear E_19
    rw [H2.out]
    have lA0 := A0_21.out.1
    have qA00 := A0_21.out.2 0 _ rfl
    have qA01 := A0_21.out.2 1 _ rfl
    have qA02 := A0_21.out.2 2 _ rfl
    have lA1 := A1_22.out.1
    have qA10 := A1_22.out.2 0 _ rfl
    have qA11 := A1_22.out.2 1 _ rfl
    have qA12 := A1_22.out.2 2 _ rfl
    have qA13 := A1_22.out.2 3 _ rfl
    have lA2 := A2_23.out.1
    have qA20 := A2_23.out.2 0 _ rfl
    have qA21 := A2_23.out.2 1 _ rfl
    have qA22 := A2_23.out.2 2 _ rfl
    have qA23 := A2_23.out.2 3 _ rfl
    try simp only [World.size_alloc] at lA0 lA1 lA2
    have r0 := R_24.out.2 0 _ rfl
    have r1 := R_24.out.2 1 _ rfl
    have r2 := R_24.out.2 2 _ rfl
    have r3 := R_24.out.2 3 _ rfl
    have tR := R_24.out.3
    have lR := R_24.out.1
    go_wp2
    refine bodyPost_ret (v := .tuple #[.agg #[.int .i64 0, .int .i64 0, .int .i64 0, .slice none 0 0], .bool false]) (by simp [results, Try.results25, go_sem, r0, r1, r2, r3]) rfl ⟨_, rfl, ⟨_, _, _, rfl, own_nil _ _ _, by omega⟩, ext4 E_26.out (by omega) _ _ _ _⟩
  have H2 := Lib.hid h2
  have hz0 := h0
  have hz1 := h1
  have hz2 := h2
  simp only [prodM, hz0, hz1, hz2, Bool.and_self, if_true, Prod.mk.injEq, Mat.mk.injEq] at hM
  obtain ⟨⟨rfl, rfl, rfl, rfl⟩, rfl⟩ := hM
  obtain ⟨D, rfl, hA⟩ := algB_parts hz0 hT.1
  obtain ⟨r1, rfl, rfl, rfl, hr1, hn1, hx1⟩ := hsB_parts hz1 hS.1
  obtain ⟨r2, rfl, rfl, rfl, hr2, hn2, hx2⟩ := hsB_parts hz2 hTs.1
  simp only [prK, Int.toNat_natCast]
  have HPR := Lib.hid hA.pr
  have hp := isP_lo hA.pr
  have hp2 := isP_hi hA.pr
  have hD := hA.dim
  have HN := Lib.hid hA.len
  have HRL := Lib.hid hA.res
  have HX1 := Lib.hid hx1
  have HX2 := Lib.hid hx2
  have HN1 := Lib.hid hn1
  have HN2 := Lib.hid hn2
  have hk3 : r1 * r2 ≤ 784 := Nat.mul_le_mul (show r1 ≤ 28 by omega) (show r2 ≤ 28 by omega)
  have hpl : (pL P2 D l ss ts r2 r1).length = r1 * r2 * D := by rw [pL_length, Nat.mul_assoc]
  have HPL := Lib.hid hpl
  have HPRS : Hid (Res (pL P2 D l ss ts r2 r1) P2) := pL_res (by omega) _ _ _ _
  have hkk := (redTo_pv (P := P2) (R := r1 * r2) (C := D) (xs := pL P2 D l ss ts r2 r1) D).2.1
  change (redM P2 (r1 * r2) D (pL P2 D l ss ts r2 r1)).pv.length ≤ _ at hkk
  have HSL : Hid ((spanL P2 (r1 * r2) D (pL P2 D l ss ts r2 r1)).length = (redM P2 (r1 * r2) D (pL P2 D l ss ts r2 r1)).pv.length * D) := spanL_length hpl
  have HKB : Hid ((redM P2 (r1 * r2) D (pL P2 D l ss ts r2 r1)).pv.length * D ≤ 1048576) := Nat.le_trans (Nat.mul_le_mul (Nat.le_trans hkk hk3) hD) (by decide)
  have HPI : Hid (∀ w1 B, Ext w w1 → Cells w1 B [.int .i64 P2, .int .i64 D, .slice (some ⟨a0, oa, none⟩) n n] → Calls Try.prog 63 #[.pointer (some ⟨B, 0, none⟩), .agg #[.int .i64 P2, .int .i64 r1, .int .i64 D, .slice (some ⟨s0, so, none⟩) n1 n1], .agg #[.int .i64 P2, .int .i64 r2, .int .i64 D, .slice (some ⟨t0, tq, none⟩) n2 n2]] w1 fun e w' => ∃ b, e = .returned (.agg #[.int .i64 P2, .int .i64 ((r1 : Int) * (r2 : Int)), .int .i64 D, .slice (some ⟨b, 0, none⟩) (r1 * n2) (r1 * n2)]) ∧ w1.heap.size ≤ b ∧ b < w'.heap.size ∧ Has w' b (pL P2 D l ss ts r2 r1) ∧ Ext w1 w') := fun w1 B h hb => products_impl P2 D r1 r2 n1 n2 (r1 * n2) B a0 oa n n s0 so t0 tq l ss ts w1 hb hD (by omega) (by omega) hA.len hn1 hn2 rfl (Nat.le_refl _) (by unfold maxLen; omega) (hT.ext h) (hS.ext h) (hTs.ext h) hp hp2 hA.res hx1 hx2
  have HSI : Hid (∀ w1 b, Has w1 b (pL P2 D l ss ts r2 r1) → Calls Try.prog 62 #[.agg #[.int .i64 P2, .int .i64 ((r1 : Int) * (r2 : Int)), .int .i64 D, .slice (some ⟨b, 0, none⟩) (r1 * n2) (r1 * n2)]] w1 fun e w' => ∃ b3, e = .returned (.agg #[.int .i64 P2, .int .i64 ((redM P2 (r1 * r2) D (pL P2 D l ss ts r2 r1)).pv.length : Nat), .int .i64 D, .slice (some ⟨b3, 0, none⟩) ((redM P2 (r1 * r2) D (pL P2 D l ss ts r2 r1)).pv.length * D) ((redM P2 (r1 * r2) D (pL P2 D l ss ts r2 r1)).pv.length * D)]) ∧ w1.heap.size ≤ b3 ∧ b3 < w'.heap.size ∧ Has w' b3 (spanL P2 (r1 * r2) D (pL P2 D l ss ts r2 r1)) ∧ Ext w1 w') := fun w1 b h => by
    rw [← Int.natCast_mul]
    have e9 : r1 * n2 = r1 * r2 * D := by rw [hn2, Nat.mul_assoc]
    have h9 : r1 * r2 * D ≤ 21952 := Nat.mul_le_mul hk3 hD
    exact span_impl P2 (r1 * r2) D (r1 * n2) (r1 * n2) (some ⟨b, 0, none⟩) (pL P2 D l ss ts r2 r1) w1 (h.reads (by rw [hpl, e9])) e9 (by omega) (by omega) (by omega) hp hp2 HPRS.out
  clear hT hS hTs hA hx1 hx2 hn1 hn2 hpl hkk hz0 hz1 hz2 h0 h1 h2
  generalize (redM P2 (r1 * r2) D (pL P2 D l ss ts r2 r1)).pv.length = K at *
  generalize spanL P2 (r1 * r2) D (pL P2 D l ss ts r2 r1) = SPL at *
  go_enter Try.func25, Try.ntmps25
  have A0_1 := Lib.hid ((((cells_new' w #[.int .i64 P2, .int .i64 D, .slice (some ⟨a0, oa, none⟩) n n] 26 (w.heap.size) (by simp)).ext ((Ext.refl _).alloc (.cells #[.int .i64 P2, .int .i64 r1, .int .i64 D, .slice (some ⟨s0, so, none⟩) n1 n1] 36))).ext ((Ext.refl _).alloc (.cells #[.int .i64 P2, .int .i64 r2, .int .i64 D, .slice (some ⟨t0, tq, none⟩) n2 n2] 36))).ext ((Ext.refl _).alloc (.cells #[.int .i64 0, .int .i64 0, .int .i64 0, .slice none 0 0] 36)))
  have A1_2 := Lib.hid (((cells_new' (w.alloc (.cells #[.int .i64 P2, .int .i64 D, .slice (some ⟨a0, oa, none⟩) n n] 26)) #[.int .i64 P2, .int .i64 r1, .int .i64 D, .slice (some ⟨s0, so, none⟩) n1 n1] 36 (w.heap.size + 1) (by simp)).ext ((Ext.refl _).alloc (.cells #[.int .i64 P2, .int .i64 r2, .int .i64 D, .slice (some ⟨t0, tq, none⟩) n2 n2] 36))).ext ((Ext.refl _).alloc (.cells #[.int .i64 0, .int .i64 0, .int .i64 0, .slice none 0 0] 36)))
  have A2_3 := Lib.hid ((cells_new' ((w.alloc (.cells #[.int .i64 P2, .int .i64 D, .slice (some ⟨a0, oa, none⟩) n n] 26)).alloc (.cells #[.int .i64 P2, .int .i64 r1, .int .i64 D, .slice (some ⟨s0, so, none⟩) n1 n1] 36)) #[.int .i64 P2, .int .i64 r2, .int .i64 D, .slice (some ⟨t0, tq, none⟩) n2 n2] 36 (w.heap.size + 1 + 1) (by simp)).ext ((Ext.refl _).alloc (.cells #[.int .i64 0, .int .i64 0, .int .i64 0, .slice none 0 0] 36)))
  have R_4 := Lib.hid (cells_new' (((w.alloc (.cells #[.int .i64 P2, .int .i64 D, .slice (some ⟨a0, oa, none⟩) n n] 26)).alloc (.cells #[.int .i64 P2, .int .i64 r1, .int .i64 D, .slice (some ⟨s0, so, none⟩) n1 n1] 36)).alloc (.cells #[.int .i64 P2, .int .i64 r2, .int .i64 D, .slice (some ⟨t0, tq, none⟩) n2 n2] 36)) #[.int .i64 0, .int .i64 0, .int .i64 0, .slice none 0 0] 36 (w.heap.size + 1 + 1 + 1) (by simp))
  have E_5 := Lib.hid (((((Ext.refl w).alloc (.cells #[.int .i64 P2, .int .i64 D, .slice (some ⟨a0, oa, none⟩) n n] 26)).alloc (.cells #[.int .i64 P2, .int .i64 r1, .int .i64 D, .slice (some ⟨s0, so, none⟩) n1 n1] 36)).alloc (.cells #[.int .i64 P2, .int .i64 r2, .int .i64 D, .slice (some ⟨t0, tq, none⟩) n2 n2] 36)).alloc (.cells #[.int .i64 0, .int .i64 0, .int .i64 0, .slice none 0 0] 36))
  have lA0 := A0_1.out.1
  have qA00 := A0_1.out.2 0 _ rfl
  have qA01 := A0_1.out.2 1 _ rfl
  have qA02 := A0_1.out.2 2 _ rfl
  have lA1 := A1_2.out.1
  have qA10 := A1_2.out.2 0 _ rfl
  have qA11 := A1_2.out.2 1 _ rfl
  have qA12 := A1_2.out.2 2 _ rfl
  have qA13 := A1_2.out.2 3 _ rfl
  have lA2 := A2_3.out.1
  have qA20 := A2_3.out.2 0 _ rfl
  have qA21 := A2_3.out.2 1 _ rfl
  have qA22 := A2_3.out.2 2 _ rfl
  have qA23 := A2_3.out.2 3 _ rfl
  try simp only [World.size_alloc] at lA0 lA1 lA2
  go_wp2_with fail
  refine (wrap_impl P2 _ a0 oa n n l _ (HT.out.ext E_5.out) hm0 (Nat.le_refl _) (by unfold maxLen; omega)).mono ?_
  rintro e w_6 ⟨B, rfl, hb, hlo, h_6⟩
  clear lA0 qA00 qA01 qA02 lA1 qA10 qA11 qA12 qA13 lA2 qA20 qA21 qA22 qA23
  have A0_7 := Lib.hid (A0_1.out.ext h_6)
  clear A0_1
  have A1_8 := Lib.hid (A1_2.out.ext h_6)
  clear A1_2
  have A2_9 := Lib.hid (A2_3.out.ext h_6)
  clear A2_3
  have R_10 := Lib.hid (R_4.out.ext h_6)
  clear R_4
  have E_11 := Lib.hid (E_5.out.trans h_6)
  clear E_5
  have B_12 := Lib.hid hb
  clear hb
  rw [H0.out]
  have lA0 := A0_7.out.1
  have qA00 := A0_7.out.2 0 _ rfl
  have qA01 := A0_7.out.2 1 _ rfl
  have qA02 := A0_7.out.2 2 _ rfl
  have lA1 := A1_8.out.1
  have qA10 := A1_8.out.2 0 _ rfl
  have qA11 := A1_8.out.2 1 _ rfl
  have qA12 := A1_8.out.2 2 _ rfl
  have qA13 := A1_8.out.2 3 _ rfl
  have lA2 := A2_9.out.1
  have qA20 := A2_9.out.2 0 _ rfl
  have qA21 := A2_9.out.2 1 _ rfl
  have qA22 := A2_9.out.2 2 _ rfl
  have qA23 := A2_9.out.2 3 _ rfl
  try simp only [World.size_alloc] at lA0 lA1 lA2
  go_wp2_with fail
  refine (hasSubspace_impl P2 _ _ _ _ B s0 so n1 _ ss _ B_12.out (HS.out.ext E_11.out) hm1).mono ?_
  rintro e w_13 ⟨rfl, h_13⟩
  clear lA0 qA00 qA01 qA02 lA1 qA10 qA11 qA12 qA13 lA2 qA20 qA21 qA22 qA23
  have A0_14 := Lib.hid (A0_7.out.ext h_13)
  clear A0_7
  have A1_15 := Lib.hid (A1_8.out.ext h_13)
  clear A1_8
  have A2_16 := Lib.hid (A2_9.out.ext h_13)
  clear A2_9
  have R_17 := Lib.hid (R_10.out.ext h_13)
  clear R_10
  have B_18 := Lib.hid (B_12.out.ext h_13)
  clear B_12
  have E_19 := Lib.hid (E_11.out.trans h_13)
  clear E_11
  rw [H1.out]
  have lA0 := A0_14.out.1
  have qA00 := A0_14.out.2 0 _ rfl
  have qA01 := A0_14.out.2 1 _ rfl
  have qA02 := A0_14.out.2 2 _ rfl
  have lA1 := A1_15.out.1
  have qA10 := A1_15.out.2 0 _ rfl
  have qA11 := A1_15.out.2 1 _ rfl
  have qA12 := A1_15.out.2 2 _ rfl
  have qA13 := A1_15.out.2 3 _ rfl
  have lA2 := A2_16.out.1
  have qA20 := A2_16.out.2 0 _ rfl
  have qA21 := A2_16.out.2 1 _ rfl
  have qA22 := A2_16.out.2 2 _ rfl
  have qA23 := A2_16.out.2 3 _ rfl
  try simp only [World.size_alloc] at lA0 lA1 lA2
  go_wp2_with fail
  refine (hasSubspace_impl P2 _ _ _ _ B t0 tq n2 _ ts _ B_18.out (HTS.out.ext E_19.out) hm2).mono ?_
  rintro e w_20 ⟨rfl, h_20⟩
  clear lA0 qA00 qA01 qA02 lA1 qA10 qA11 qA12 qA13 lA2 qA20 qA21 qA22 qA23
  have A0_21 := Lib.hid (A0_14.out.ext h_20)
  clear A0_14
  have A1_22 := Lib.hid (A1_15.out.ext h_20)
  clear A1_15
  have A2_23 := Lib.hid (A2_16.out.ext h_20)
  clear A2_16
  have R_24 := Lib.hid (R_17.out.ext h_20)
  clear R_17
  have B_25 := Lib.hid (B_18.out.ext h_20)
  clear B_18
  have E_26 := Lib.hid (E_19.out.trans h_20)
  clear E_19
  rw [H2.out]
  have lA0 := A0_21.out.1
  have qA00 := A0_21.out.2 0 _ rfl
  have qA01 := A0_21.out.2 1 _ rfl
  have qA02 := A0_21.out.2 2 _ rfl
  have lA1 := A1_22.out.1
  have qA10 := A1_22.out.2 0 _ rfl
  have qA11 := A1_22.out.2 1 _ rfl
  have qA12 := A1_22.out.2 2 _ rfl
  have qA13 := A1_22.out.2 3 _ rfl
  have lA2 := A2_23.out.1
  have qA20 := A2_23.out.2 0 _ rfl
  have qA21 := A2_23.out.2 1 _ rfl
  have qA22 := A2_23.out.2 2 _ rfl
  have qA23 := A2_23.out.2 3 _ rfl
  try simp only [World.size_alloc] at lA0 lA1 lA2
  go_wp2_with fail
  refine (HPI.out _ _ E_26.out B_25.out).mono ?_
  rintro e w_27 ⟨pb, rfl, hpb1, hpb2, hpk, h_27⟩
  clear lA0 qA00 qA01 qA02 lA1 qA10 qA11 qA12 qA13 lA2 qA20 qA21 qA22 qA23
  have A0_28 := Lib.hid (A0_21.out.ext h_27)
  clear A0_21
  have A1_29 := Lib.hid (A1_22.out.ext h_27)
  clear A1_22
  have A2_30 := Lib.hid (A2_23.out.ext h_27)
  clear A2_23
  have R_31 := Lib.hid (R_24.out.ext h_27)
  clear R_24
  have B_32 := Lib.hid (B_25.out.ext h_27)
  clear B_25
  have E_33 := Lib.hid (E_26.out.trans h_27)
  clear E_26
  have hlR := R_31.out.1
  have lA0 := A0_28.out.1
  have qA00 := A0_28.out.2 0 _ rfl
  have qA01 := A0_28.out.2 1 _ rfl
  have qA02 := A0_28.out.2 2 _ rfl
  have lA1 := A1_29.out.1
  have qA10 := A1_29.out.2 0 _ rfl
  have qA11 := A1_29.out.2 1 _ rfl
  have qA12 := A1_29.out.2 2 _ rfl
  have qA13 := A1_29.out.2 3 _ rfl
  have lA2 := A2_30.out.1
  have qA20 := A2_30.out.2 0 _ rfl
  have qA21 := A2_30.out.2 1 _ rfl
  have qA22 := A2_30.out.2 2 _ rfl
  have qA23 := A2_30.out.2 3 _ rfl
  try simp only [World.size_alloc] at lA0 lA1 lA2
  go_wp2_with fail
  refine (HSI.out _ _ hpk).mono ?_
  rintro e w9 ⟨sb, rfl, hs1, hs2, hh, h9⟩
  clear lA0 qA00 qA01 qA02 lA1 qA10 qA11 qA12 qA13 lA2 qA20 qA21 qA22 qA23
  have HSB := Lib.hid hh
  clear hh
  have A0_34 := Lib.hid (A0_28.out.ext h9)
  clear A0_28
  have A1_35 := Lib.hid (A1_29.out.ext h9)
  clear A1_29
  have A2_36 := Lib.hid (A2_30.out.ext h9)
  clear A2_30
  have R_37 := Lib.hid (R_31.out.ext h9)
  clear R_31
  have B_38 := Lib.hid (B_32.out.ext h9)
  clear B_32
  have E_39 := Lib.hid (E_33.out.trans h9)
  clear E_33
  have r0 := R_37.out.2 0 _ rfl
  have r1' := R_37.out.2 1 _ rfl
  have r2' := R_37.out.2 2 _ rfl
  have r3 := R_37.out.2 3 _ rfl
  have tR := R_37.out.3
  have lR := R_37.out.1
  go_wp2
  refine bodyPost_ret (v := .tuple #[.agg #[.int .i64 P2, .int .i64 (K : Nat), .int .i64 D, .slice (some ⟨sb, 0, none⟩) (K * D) (K * D)], .bool true]) (by simp [results, Try.results25, go_sem, r0, r1', r2', r3]) rfl ⟨_, rfl, ⟨_, _, _, rfl, ?_, HKB.out⟩, ext4 E_39.out (by omega) _ _ _ _⟩
  refine Own.mono (own4 (HSB.out.own (lo := w.heap.size + 1 + 1 + 1 + 1) (hi := w9.heap.size) (by omega) (by omega) HSL.out) (by omega) _ _ _ _) (by omega) (by simp)

set_option maxRecDepth 100000 in
set_option maxHeartbeats 6400000 in
theorem productSpace_spec {P D : Int} {a0 oa n : Nat} {l : List Int} {P1 R1 C1 : Int} {s0 so n1 : Nat} {ss : List Int} {P2 R2 C2 : Int} {t0 tq n2 : Nat} {ts : List Int} {w : World} {p r c : Int} {d : List Int} {ok : Bool} (hT : Reads w (some ⟨a0, oa, none⟩) n l) (hm0 : n ≤ 1048576) (hS : Reads w (some ⟨s0, so, none⟩) n1 ss) (hm1 : n1 ≤ 1048576) (hTs : Reads w (some ⟨t0, tq, none⟩) n2 ts) (hm2 : n2 ≤ 1048576) (hM : prodM P D l P1 R1 C1 ss P2 R2 C2 ts = (⟨p, r, c, d⟩, ok)) :
    Calls Try.prog 23 #[.agg #[.int .i64 P, .int .i64 D, .slice (some ⟨a0, oa, none⟩) n n], .agg #[.int .i64 P1, .int .i64 R1, .int .i64 C1, .slice (some ⟨s0, so, none⟩) n1 n1], .agg #[.int .i64 P2, .int .i64 R2, .int .i64 C2, .slice (some ⟨t0, tq, none⟩) n2 n2]] w fun e w' => ∃ v, e = .returned (.tuple #[v, .bool ok]) ∧ Rmat w w' v p r c d ∧ Ext w w' := by
  have HT := Lib.hid hT
  have HS := Lib.hid hS
  have HTS := Lib.hid hTs
  rcases h1 : (algB P D l && hsB P D P1 R1 C1 ss) with _ | _
  · simp only [prodM, h1, noMat, Bool.false_and, Bool.and_false, Bool.false_eq_true, if_false, Prod.mk.injEq, Mat.mk.injEq] at hM
    obtain ⟨⟨rfl, rfl, rfl, rfl⟩, rfl⟩ := hM
    have H1 := Lib.hid h1
    clear h1 hT hS hTs
    go_enter Try.func23, Try.ntmps23
    have A0_1 := Lib.hid ((((cells_new' w #[.int .i64 P, .int .i64 D, .slice (some ⟨a0, oa, none⟩) n n] 26 (w.heap.size) (by simp)).ext ((Ext.refl _).alloc (.cells #[.int .i64 P1, .int .i64 R1, .int .i64 C1, .slice (some ⟨s0, so, none⟩) n1 n1] 36))).ext ((Ext.refl _).alloc (.cells #[.int .i64 P2, .int .i64 R2, .int .i64 C2, .slice (some ⟨t0, tq, none⟩) n2 n2] 36))).ext ((Ext.refl _).alloc (.cells #[.int .i64 0, .int .i64 0, .int .i64 0, .slice none 0 0] 36)))
    have A1_2 := Lib.hid (((cells_new' (w.alloc (.cells #[.int .i64 P, .int .i64 D, .slice (some ⟨a0, oa, none⟩) n n] 26)) #[.int .i64 P1, .int .i64 R1, .int .i64 C1, .slice (some ⟨s0, so, none⟩) n1 n1] 36 (w.heap.size + 1) (by simp)).ext ((Ext.refl _).alloc (.cells #[.int .i64 P2, .int .i64 R2, .int .i64 C2, .slice (some ⟨t0, tq, none⟩) n2 n2] 36))).ext ((Ext.refl _).alloc (.cells #[.int .i64 0, .int .i64 0, .int .i64 0, .slice none 0 0] 36)))
    have A2_3 := Lib.hid ((cells_new' ((w.alloc (.cells #[.int .i64 P, .int .i64 D, .slice (some ⟨a0, oa, none⟩) n n] 26)).alloc (.cells #[.int .i64 P1, .int .i64 R1, .int .i64 C1, .slice (some ⟨s0, so, none⟩) n1 n1] 36)) #[.int .i64 P2, .int .i64 R2, .int .i64 C2, .slice (some ⟨t0, tq, none⟩) n2 n2] 36 (w.heap.size + 1 + 1) (by simp)).ext ((Ext.refl _).alloc (.cells #[.int .i64 0, .int .i64 0, .int .i64 0, .slice none 0 0] 36)))
    have R_4 := Lib.hid (cells_new' (((w.alloc (.cells #[.int .i64 P, .int .i64 D, .slice (some ⟨a0, oa, none⟩) n n] 26)).alloc (.cells #[.int .i64 P1, .int .i64 R1, .int .i64 C1, .slice (some ⟨s0, so, none⟩) n1 n1] 36)).alloc (.cells #[.int .i64 P2, .int .i64 R2, .int .i64 C2, .slice (some ⟨t0, tq, none⟩) n2 n2] 36)) #[.int .i64 0, .int .i64 0, .int .i64 0, .slice none 0 0] 36 (w.heap.size + 1 + 1 + 1) (by simp))
    have E_5 := Lib.hid (((((Ext.refl w).alloc (.cells #[.int .i64 P, .int .i64 D, .slice (some ⟨a0, oa, none⟩) n n] 26)).alloc (.cells #[.int .i64 P1, .int .i64 R1, .int .i64 C1, .slice (some ⟨s0, so, none⟩) n1 n1] 36)).alloc (.cells #[.int .i64 P2, .int .i64 R2, .int .i64 C2, .slice (some ⟨t0, tq, none⟩) n2 n2] 36)).alloc (.cells #[.int .i64 0, .int .i64 0, .int .i64 0, .slice none 0 0] 36))
    have lA0 := A0_1.out.1
    have qA00 := A0_1.out.2 0 _ rfl
    have qA01 := A0_1.out.2 1 _ rfl
    have qA02 := A0_1.out.2 2 _ rfl
    have lA1 := A1_2.out.1
    have qA10 := A1_2.out.2 0 _ rfl
    have qA11 := A1_2.out.2 1 _ rfl
    have qA12 := A1_2.out.2 2 _ rfl
    have qA13 := A1_2.out.2 3 _ rfl
    have lA2 := A2_3.out.1
    have qA20 := A2_3.out.2 0 _ rfl
    have qA21 := A2_3.out.2 1 _ rfl
    have qA22 := A2_3.out.2 2 _ rfl
    have qA23 := A2_3.out.2 3 _ rfl
    try simp only [World.size_alloc] at lA0 lA1 lA2
    go_wp2_with fail
    refine (l2Space_spec P _ _ _ _ a0 oa n s0 so n1 l ss _ (HT.out.ext E_5.out) hm0 (HS.out.ext E_5.out) hm1).mono ?_
    rintro e w_6 ⟨rfl, h_6⟩
    clear lA0 qA00 qA01 qA02 lA1 qA10 qA11 qA12 qA13 lA2 qA20 qA21 qA22 qA23
    have A0_7 := Lib.hid (A0_1.out.ext h_6)
    clear A0_1
    have A1_8 := Lib.hid (A1_2.out.ext h_6)
    clear A1_2
    have A2_9 := Lib.hid (A2_3.out.ext h_6)
    clear A2_3
    have R_10 := Lib.hid (R_4.out.ext h_6)
    clear R_4
    have E_11 := Lib.hid (E_5.out.trans h_6)
    clear E_5
    rw [H1.out]
    have lA0 := A0_7.out.1
    have qA00 := A0_7.out.2 0 _ rfl
    have qA01 := A0_7.out.2 1 _ rfl
    have qA02 := A0_7.out.2 2 _ rfl
    have lA1 := A1_8.out.1
    have qA10 := A1_8.out.2 0 _ rfl
    have qA11 := A1_8.out.2 1 _ rfl
    have qA12 := A1_8.out.2 2 _ rfl
    have qA13 := A1_8.out.2 3 _ rfl
    have lA2 := A2_9.out.1
    have qA20 := A2_9.out.2 0 _ rfl
    have qA21 := A2_9.out.2 1 _ rfl
    have qA22 := A2_9.out.2 2 _ rfl
    have qA23 := A2_9.out.2 3 _ rfl
    try simp only [World.size_alloc] at lA0 lA1 lA2
    have r0 := R_10.out.2 0 _ rfl
    have r1 := R_10.out.2 1 _ rfl
    have r2 := R_10.out.2 2 _ rfl
    have r3 := R_10.out.2 3 _ rfl
    have tR := R_10.out.3
    have lR := R_10.out.1
    go_wp2
    refine bodyPost_ret (v := .tuple #[.agg #[.int .i64 0, .int .i64 0, .int .i64 0, .slice none 0 0], .bool false]) (by simp [results, Try.results23, go_sem, r0, r1, r2, r3]) rfl ⟨_, rfl, ⟨_, _, _, rfl, own_nil _ _ _, by omega⟩, ext4 E_11.out (by omega) _ _ _ _⟩
  have H1 := Lib.hid h1
  have hz0 : algB P D l = true := by simp only [Bool.and_eq_true] at h1; exact h1.1
  have hz1 : hsB P D P1 R1 C1 ss = true := by simp only [Bool.and_eq_true] at h1; exact h1.2
  rcases h2 : (algB P D l && hsB P D P2 R2 C2 ts) with _ | _
  · have hz2 : hsB P D P2 R2 C2 ts = false := by rw [hz0, Bool.true_and] at h2; exact h2
    simp only [prodM, hz0, hz1, hz2, noMat, Bool.false_and, Bool.and_false, Bool.false_eq_true, if_false, Prod.mk.injEq, Mat.mk.injEq] at hM
    obtain ⟨⟨rfl, rfl, rfl, rfl⟩, rfl⟩ := hM
    have H2 := Lib.hid h2
    clear h1 h2 hz0 hz1 hz2 hT hS hTs
    go_enter Try.func23, Try.ntmps23
    have A0_1 := Lib.hid ((((cells_new' w #[.int .i64 P, .int .i64 D, .slice (some ⟨a0, oa, none⟩) n n] 26 (w.heap.size) (by simp)).ext ((Ext.refl _).alloc (.cells #[.int .i64 P1, .int .i64 R1, .int .i64 C1, .slice (some ⟨s0, so, none⟩) n1 n1] 36))).ext ((Ext.refl _).alloc (.cells #[.int .i64 P2, .int .i64 R2, .int .i64 C2, .slice (some ⟨t0, tq, none⟩) n2 n2] 36))).ext ((Ext.refl _).alloc (.cells #[.int .i64 0, .int .i64 0, .int .i64 0, .slice none 0 0] 36)))
    have A1_2 := Lib.hid (((cells_new' (w.alloc (.cells #[.int .i64 P, .int .i64 D, .slice (some ⟨a0, oa, none⟩) n n] 26)) #[.int .i64 P1, .int .i64 R1, .int .i64 C1, .slice (some ⟨s0, so, none⟩) n1 n1] 36 (w.heap.size + 1) (by simp)).ext ((Ext.refl _).alloc (.cells #[.int .i64 P2, .int .i64 R2, .int .i64 C2, .slice (some ⟨t0, tq, none⟩) n2 n2] 36))).ext ((Ext.refl _).alloc (.cells #[.int .i64 0, .int .i64 0, .int .i64 0, .slice none 0 0] 36)))
    have A2_3 := Lib.hid ((cells_new' ((w.alloc (.cells #[.int .i64 P, .int .i64 D, .slice (some ⟨a0, oa, none⟩) n n] 26)).alloc (.cells #[.int .i64 P1, .int .i64 R1, .int .i64 C1, .slice (some ⟨s0, so, none⟩) n1 n1] 36)) #[.int .i64 P2, .int .i64 R2, .int .i64 C2, .slice (some ⟨t0, tq, none⟩) n2 n2] 36 (w.heap.size + 1 + 1) (by simp)).ext ((Ext.refl _).alloc (.cells #[.int .i64 0, .int .i64 0, .int .i64 0, .slice none 0 0] 36)))
    have R_4 := Lib.hid (cells_new' (((w.alloc (.cells #[.int .i64 P, .int .i64 D, .slice (some ⟨a0, oa, none⟩) n n] 26)).alloc (.cells #[.int .i64 P1, .int .i64 R1, .int .i64 C1, .slice (some ⟨s0, so, none⟩) n1 n1] 36)).alloc (.cells #[.int .i64 P2, .int .i64 R2, .int .i64 C2, .slice (some ⟨t0, tq, none⟩) n2 n2] 36)) #[.int .i64 0, .int .i64 0, .int .i64 0, .slice none 0 0] 36 (w.heap.size + 1 + 1 + 1) (by simp))
    have E_5 := Lib.hid (((((Ext.refl w).alloc (.cells #[.int .i64 P, .int .i64 D, .slice (some ⟨a0, oa, none⟩) n n] 26)).alloc (.cells #[.int .i64 P1, .int .i64 R1, .int .i64 C1, .slice (some ⟨s0, so, none⟩) n1 n1] 36)).alloc (.cells #[.int .i64 P2, .int .i64 R2, .int .i64 C2, .slice (some ⟨t0, tq, none⟩) n2 n2] 36)).alloc (.cells #[.int .i64 0, .int .i64 0, .int .i64 0, .slice none 0 0] 36))
    have lA0 := A0_1.out.1
    have qA00 := A0_1.out.2 0 _ rfl
    have qA01 := A0_1.out.2 1 _ rfl
    have qA02 := A0_1.out.2 2 _ rfl
    have lA1 := A1_2.out.1
    have qA10 := A1_2.out.2 0 _ rfl
    have qA11 := A1_2.out.2 1 _ rfl
    have qA12 := A1_2.out.2 2 _ rfl
    have qA13 := A1_2.out.2 3 _ rfl
    have lA2 := A2_3.out.1
    have qA20 := A2_3.out.2 0 _ rfl
    have qA21 := A2_3.out.2 1 _ rfl
    have qA22 := A2_3.out.2 2 _ rfl
    have qA23 := A2_3.out.2 3 _ rfl
    try simp only [World.size_alloc] at lA0 lA1 lA2
    go_wp2_with fail
    refine (l2Space_spec P _ _ _ _ a0 oa n s0 so n1 l ss _ (HT.out.ext E_5.out) hm0 (HS.out.ext E_5.out) hm1).mono ?_
    rintro e w_6 ⟨rfl, h_6⟩
    clear lA0 qA00 qA01 qA02 lA1 qA10 qA11 qA12 qA13 lA2 qA20 qA21 qA22 qA23
    have A0_7 := Lib.hid (A0_1.out.ext h_6)
    clear A0_1
    have A1_8 := Lib.hid (A1_2.out.ext h_6)
    clear A1_2
    have A2_9 := Lib.hid (A2_3.out.ext h_6)
    clear A2_3
    have R_10 := Lib.hid (R_4.out.ext h_6)
    clear R_4
    have E_11 := Lib.hid (E_5.out.trans h_6)
    clear E_5
    rw [H1.out]
    have lA0 := A0_7.out.1
    have qA00 := A0_7.out.2 0 _ rfl
    have qA01 := A0_7.out.2 1 _ rfl
    have qA02 := A0_7.out.2 2 _ rfl
    have lA1 := A1_8.out.1
    have qA10 := A1_8.out.2 0 _ rfl
    have qA11 := A1_8.out.2 1 _ rfl
    have qA12 := A1_8.out.2 2 _ rfl
    have qA13 := A1_8.out.2 3 _ rfl
    have lA2 := A2_9.out.1
    have qA20 := A2_9.out.2 0 _ rfl
    have qA21 := A2_9.out.2 1 _ rfl
    have qA22 := A2_9.out.2 2 _ rfl
    have qA23 := A2_9.out.2 3 _ rfl
    try simp only [World.size_alloc] at lA0 lA1 lA2
    go_wp2_with fail
    refine (l2Space_spec P _ _ _ _ a0 oa n t0 tq n2 l ts _ (HT.out.ext E_11.out) hm0 (HTS.out.ext E_11.out) hm2).mono ?_
    rintro e w_12 ⟨rfl, h_12⟩
    clear lA0 qA00 qA01 qA02 lA1 qA10 qA11 qA12 qA13 lA2 qA20 qA21 qA22 qA23
    have A0_13 := Lib.hid (A0_7.out.ext h_12)
    clear A0_7
    have A1_14 := Lib.hid (A1_8.out.ext h_12)
    clear A1_8
    have A2_15 := Lib.hid (A2_9.out.ext h_12)
    clear A2_9
    have R_16 := Lib.hid (R_10.out.ext h_12)
    clear R_10
    have E_17 := Lib.hid (E_11.out.trans h_12)
    clear E_11
    rw [H2.out]
    have lA0 := A0_13.out.1
    have qA00 := A0_13.out.2 0 _ rfl
    have qA01 := A0_13.out.2 1 _ rfl
    have qA02 := A0_13.out.2 2 _ rfl
    have lA1 := A1_14.out.1
    have qA10 := A1_14.out.2 0 _ rfl
    have qA11 := A1_14.out.2 1 _ rfl
    have qA12 := A1_14.out.2 2 _ rfl
    have qA13 := A1_14.out.2 3 _ rfl
    have lA2 := A2_15.out.1
    have qA20 := A2_15.out.2 0 _ rfl
    have qA21 := A2_15.out.2 1 _ rfl
    have qA22 := A2_15.out.2 2 _ rfl
    have qA23 := A2_15.out.2 3 _ rfl
    try simp only [World.size_alloc] at lA0 lA1 lA2
    have r0 := R_16.out.2 0 _ rfl
    have r1 := R_16.out.2 1 _ rfl
    have r2 := R_16.out.2 2 _ rfl
    have r3 := R_16.out.2 3 _ rfl
    have tR := R_16.out.3
    have lR := R_16.out.1
    go_wp2
    refine bodyPost_ret (v := .tuple #[.agg #[.int .i64 0, .int .i64 0, .int .i64 0, .slice none 0 0], .bool false]) (by simp [results, Try.results23, go_sem, r0, r1, r2, r3]) rfl ⟨_, rfl, ⟨_, _, _, rfl, own_nil _ _ _, by omega⟩, ext4 E_17.out (by omega) _ _ _ _⟩
  have H2 := Lib.hid h2
  have hz2 : hsB P D P2 R2 C2 ts = true := by simp only [Bool.and_eq_true] at h2; exact h2.2
  simp only [prodM, hz0, hz1, hz2, Bool.and_self, if_true, Prod.mk.injEq, Mat.mk.injEq] at hM
  obtain ⟨⟨rfl, rfl, rfl, rfl⟩, rfl⟩ := hM
  obtain ⟨D, rfl, hA⟩ := algB_parts hz0 hT.1
  obtain ⟨r1, rfl, rfl, rfl, hr1, hn1, hx1⟩ := hsB_parts hz1 hS.1
  obtain ⟨r2, rfl, rfl, rfl, hr2, hn2, hx2⟩ := hsB_parts hz2 hTs.1
  simp only [prK, Int.toNat_natCast]
  have HPR := Lib.hid hA.pr
  have hp := isP_lo hA.pr
  have hp2 := isP_hi hA.pr
  have hD := hA.dim
  have HN := Lib.hid hA.len
  have HRL := Lib.hid hA.res
  have HX1 := Lib.hid hx1
  have HX2 := Lib.hid hx2
  have HN1 := Lib.hid hn1
  have HN2 := Lib.hid hn2
  have hk3 : r1 * r2 ≤ 784 := Nat.mul_le_mul (show r1 ≤ 28 by omega) (show r2 ≤ 28 by omega)
  have hpl : (pL P2 D l ss ts r2 r1).length = r1 * r2 * D := by rw [pL_length, Nat.mul_assoc]
  have HPL := Lib.hid hpl
  have HPRS : Hid (Res (pL P2 D l ss ts r2 r1) P2) := pL_res (by omega) _ _ _ _
  have hkk := (redTo_pv (P := P2) (R := r1 * r2) (C := D) (xs := pL P2 D l ss ts r2 r1) D).2.1
  change (redM P2 (r1 * r2) D (pL P2 D l ss ts r2 r1)).pv.length ≤ _ at hkk
  have HSL : Hid ((spanL P2 (r1 * r2) D (pL P2 D l ss ts r2 r1)).length = (redM P2 (r1 * r2) D (pL P2 D l ss ts r2 r1)).pv.length * D) := spanL_length hpl
  have HKB : Hid ((redM P2 (r1 * r2) D (pL P2 D l ss ts r2 r1)).pv.length * D ≤ 1048576) := Nat.le_trans (Nat.mul_le_mul (Nat.le_trans hkk hk3) hD) (by decide)
  have HSI : Hid (∀ w1, Ext w w1 → Calls Try.prog 60 #[.agg #[.int .i64 P2, .int .i64 D, .slice (some ⟨a0, oa, none⟩) n n], .agg #[.int .i64 P2, .int .i64 r1, .int .i64 D, .slice (some ⟨s0, so, none⟩) n1 n1], .agg #[.int .i64 P2, .int .i64 r2, .int .i64 D, .slice (some ⟨t0, tq, none⟩) n2 n2]] w1 fun e w' => ∃ b3 c3, e = .returned (.agg #[.int .i64 P2, .int .i64 ((redM P2 (r1 * r2) D (pL P2 D l ss ts r2 r1)).pv.length : Nat), .int .i64 D, .slice (some ⟨b3, 0, none⟩) ((redM P2 (r1 * r2) D (pL P2 D l ss ts r2 r1)).pv.length * D) c3]) ∧ w1.heap.size ≤ b3 ∧ b3 < w'.heap.size ∧ Has w' b3 (spanL P2 (r1 * r2) D (pL P2 D l ss ts r2 r1)) ∧ Ext w1 w') := fun w1 h => by
    refine (l2Product_spec P2 D a0 oa n n r1 r2 s0 so n1 n1 t0 tq n2 n2 l ss ts w1 (hT.ext h) (hS.ext h) (hTs.ext h) hD (by omega) (by omega) hA.len hn1 hn2 (Nat.le_refl _) (by unfold maxLen; omega) (Nat.le_refl _) (by unfold maxLen; omega) hA.pr hA.res hx1 hx2).mono ?_
    rintro e w' ⟨b, c', rfl, g1, g2, g3, g4, g5⟩
    exact ⟨b, c', rfl, g1, g2, g3, g4⟩
  clear hT hS hTs hA hx1 hx2 hn1 hn2 hpl hkk hz0 hz1 hz2 h1 h2
  generalize (redM P2 (r1 * r2) D (pL P2 D l ss ts r2 r1)).pv.length = K at *
  generalize spanL P2 (r1 * r2) D (pL P2 D l ss ts r2 r1) = SPL at *
  go_enter Try.func23, Try.ntmps23
  have A0_1 := Lib.hid ((((cells_new' w #[.int .i64 P2, .int .i64 D, .slice (some ⟨a0, oa, none⟩) n n] 26 (w.heap.size) (by simp)).ext ((Ext.refl _).alloc (.cells #[.int .i64 P2, .int .i64 r1, .int .i64 D, .slice (some ⟨s0, so, none⟩) n1 n1] 36))).ext ((Ext.refl _).alloc (.cells #[.int .i64 P2, .int .i64 r2, .int .i64 D, .slice (some ⟨t0, tq, none⟩) n2 n2] 36))).ext ((Ext.refl _).alloc (.cells #[.int .i64 0, .int .i64 0, .int .i64 0, .slice none 0 0] 36)))
  have A1_2 := Lib.hid (((cells_new' (w.alloc (.cells #[.int .i64 P2, .int .i64 D, .slice (some ⟨a0, oa, none⟩) n n] 26)) #[.int .i64 P2, .int .i64 r1, .int .i64 D, .slice (some ⟨s0, so, none⟩) n1 n1] 36 (w.heap.size + 1) (by simp)).ext ((Ext.refl _).alloc (.cells #[.int .i64 P2, .int .i64 r2, .int .i64 D, .slice (some ⟨t0, tq, none⟩) n2 n2] 36))).ext ((Ext.refl _).alloc (.cells #[.int .i64 0, .int .i64 0, .int .i64 0, .slice none 0 0] 36)))
  have A2_3 := Lib.hid ((cells_new' ((w.alloc (.cells #[.int .i64 P2, .int .i64 D, .slice (some ⟨a0, oa, none⟩) n n] 26)).alloc (.cells #[.int .i64 P2, .int .i64 r1, .int .i64 D, .slice (some ⟨s0, so, none⟩) n1 n1] 36)) #[.int .i64 P2, .int .i64 r2, .int .i64 D, .slice (some ⟨t0, tq, none⟩) n2 n2] 36 (w.heap.size + 1 + 1) (by simp)).ext ((Ext.refl _).alloc (.cells #[.int .i64 0, .int .i64 0, .int .i64 0, .slice none 0 0] 36)))
  have R_4 := Lib.hid (cells_new' (((w.alloc (.cells #[.int .i64 P2, .int .i64 D, .slice (some ⟨a0, oa, none⟩) n n] 26)).alloc (.cells #[.int .i64 P2, .int .i64 r1, .int .i64 D, .slice (some ⟨s0, so, none⟩) n1 n1] 36)).alloc (.cells #[.int .i64 P2, .int .i64 r2, .int .i64 D, .slice (some ⟨t0, tq, none⟩) n2 n2] 36)) #[.int .i64 0, .int .i64 0, .int .i64 0, .slice none 0 0] 36 (w.heap.size + 1 + 1 + 1) (by simp))
  have E_5 := Lib.hid (((((Ext.refl w).alloc (.cells #[.int .i64 P2, .int .i64 D, .slice (some ⟨a0, oa, none⟩) n n] 26)).alloc (.cells #[.int .i64 P2, .int .i64 r1, .int .i64 D, .slice (some ⟨s0, so, none⟩) n1 n1] 36)).alloc (.cells #[.int .i64 P2, .int .i64 r2, .int .i64 D, .slice (some ⟨t0, tq, none⟩) n2 n2] 36)).alloc (.cells #[.int .i64 0, .int .i64 0, .int .i64 0, .slice none 0 0] 36))
  have lA0 := A0_1.out.1
  have qA00 := A0_1.out.2 0 _ rfl
  have qA01 := A0_1.out.2 1 _ rfl
  have qA02 := A0_1.out.2 2 _ rfl
  have lA1 := A1_2.out.1
  have qA10 := A1_2.out.2 0 _ rfl
  have qA11 := A1_2.out.2 1 _ rfl
  have qA12 := A1_2.out.2 2 _ rfl
  have qA13 := A1_2.out.2 3 _ rfl
  have lA2 := A2_3.out.1
  have qA20 := A2_3.out.2 0 _ rfl
  have qA21 := A2_3.out.2 1 _ rfl
  have qA22 := A2_3.out.2 2 _ rfl
  have qA23 := A2_3.out.2 3 _ rfl
  try simp only [World.size_alloc] at lA0 lA1 lA2
  go_wp2_with fail
  refine (l2Space_spec P2 _ _ _ _ a0 oa n s0 so n1 l ss _ (HT.out.ext E_5.out) hm0 (HS.out.ext E_5.out) hm1).mono ?_
  rintro e w_6 ⟨rfl, h_6⟩
  clear lA0 qA00 qA01 qA02 lA1 qA10 qA11 qA12 qA13 lA2 qA20 qA21 qA22 qA23
  have A0_7 := Lib.hid (A0_1.out.ext h_6)
  clear A0_1
  have A1_8 := Lib.hid (A1_2.out.ext h_6)
  clear A1_2
  have A2_9 := Lib.hid (A2_3.out.ext h_6)
  clear A2_3
  have R_10 := Lib.hid (R_4.out.ext h_6)
  clear R_4
  have E_11 := Lib.hid (E_5.out.trans h_6)
  clear E_5
  rw [H1.out]
  have lA0 := A0_7.out.1
  have qA00 := A0_7.out.2 0 _ rfl
  have qA01 := A0_7.out.2 1 _ rfl
  have qA02 := A0_7.out.2 2 _ rfl
  have lA1 := A1_8.out.1
  have qA10 := A1_8.out.2 0 _ rfl
  have qA11 := A1_8.out.2 1 _ rfl
  have qA12 := A1_8.out.2 2 _ rfl
  have qA13 := A1_8.out.2 3 _ rfl
  have lA2 := A2_9.out.1
  have qA20 := A2_9.out.2 0 _ rfl
  have qA21 := A2_9.out.2 1 _ rfl
  have qA22 := A2_9.out.2 2 _ rfl
  have qA23 := A2_9.out.2 3 _ rfl
  try simp only [World.size_alloc] at lA0 lA1 lA2
  go_wp2_with fail
  refine (l2Space_spec P2 _ _ _ _ a0 oa n t0 tq n2 l ts _ (HT.out.ext E_11.out) hm0 (HTS.out.ext E_11.out) hm2).mono ?_
  rintro e w_12 ⟨rfl, h_12⟩
  clear lA0 qA00 qA01 qA02 lA1 qA10 qA11 qA12 qA13 lA2 qA20 qA21 qA22 qA23
  have A0_13 := Lib.hid (A0_7.out.ext h_12)
  clear A0_7
  have A1_14 := Lib.hid (A1_8.out.ext h_12)
  clear A1_8
  have A2_15 := Lib.hid (A2_9.out.ext h_12)
  clear A2_9
  have R_16 := Lib.hid (R_10.out.ext h_12)
  clear R_10
  have E_17 := Lib.hid (E_11.out.trans h_12)
  clear E_11
  rw [H2.out]
  have hlR := R_16.out.1
  have lA0 := A0_13.out.1
  have qA00 := A0_13.out.2 0 _ rfl
  have qA01 := A0_13.out.2 1 _ rfl
  have qA02 := A0_13.out.2 2 _ rfl
  have lA1 := A1_14.out.1
  have qA10 := A1_14.out.2 0 _ rfl
  have qA11 := A1_14.out.2 1 _ rfl
  have qA12 := A1_14.out.2 2 _ rfl
  have qA13 := A1_14.out.2 3 _ rfl
  have lA2 := A2_15.out.1
  have qA20 := A2_15.out.2 0 _ rfl
  have qA21 := A2_15.out.2 1 _ rfl
  have qA22 := A2_15.out.2 2 _ rfl
  have qA23 := A2_15.out.2 3 _ rfl
  try simp only [World.size_alloc] at lA0 lA1 lA2
  go_wp2_with fail
  refine (HSI.out _ E_17.out).mono ?_
  rintro e w9 ⟨sb, sc, rfl, hs1, hs2, hh, h9⟩
  clear lA0 qA00 qA01 qA02 lA1 qA10 qA11 qA12 qA13 lA2 qA20 qA21 qA22 qA23
  have HSB := Lib.hid hh
  clear hh
  have A0_18 := Lib.hid (A0_13.out.ext h9)
  clear A0_13
  have A1_19 := Lib.hid (A1_14.out.ext h9)
  clear A1_14
  have A2_20 := Lib.hid (A2_15.out.ext h9)
  clear A2_15
  have R_21 := Lib.hid (R_16.out.ext h9)
  clear R_16
  have E_22 := Lib.hid (E_17.out.trans h9)
  clear E_17
  have r0 := R_21.out.2 0 _ rfl
  have r1' := R_21.out.2 1 _ rfl
  have r2' := R_21.out.2 2 _ rfl
  have r3 := R_21.out.2 3 _ rfl
  have tR := R_21.out.3
  have lR := R_21.out.1
  go_wp2
  refine bodyPost_ret (v := .tuple #[.agg #[.int .i64 P2, .int .i64 (K : Nat), .int .i64 D, .slice (some ⟨sb, 0, none⟩) (K * D) sc], .bool true]) (by simp [results, Try.results23, go_sem, r0, r1', r2', r3]) rfl ⟨_, rfl, ⟨_, _, _, rfl, ?_, HKB.out⟩, ext4 E_22.out (by omega) _ _ _ _⟩
  refine Own.mono (own4 (HSB.out.own (lo := w.heap.size + 1 + 1 + 1 + 1) (hi := w9.heap.size) (by omega) (by omega) HSL.out) (by omega) _ _ _ _) (by omega) (by simp)
end Go.Proofs.Ytgmipolgnpjmnaa
