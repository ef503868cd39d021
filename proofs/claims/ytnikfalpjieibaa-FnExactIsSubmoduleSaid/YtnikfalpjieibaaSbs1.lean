/-
  Submodules: the spaces of a module, by the specification.
-/
import Derived.Test.YtnikfalpjieibaaMs2
import Derived.Test.YtnikfalpjieibaaSbj
namespace Go.Proofs.Ytnikfalpjieibaa
open Go.ChangeShapes Go.WideShapes Go.ChangeAt Go.RowKit
open List (getElem_toArray getElem_cons_succ getElem_cons_zero setIfInBounds_toArray set_cons_succ set_cons_zero)
set_option linter.unusedVariables false
set_option linter.unusedSimpArgs false

/-- Whether m is a module of a, and s a space of its vectors. -/
noncomputable def spcB (P D : Int) (l : List Int) (ms : List Mat) (P2 R C : Int) (xs : List Int) : Bool := modB P D l ms && (spaceM P2 R C xs && ((P2 == P) && (C == (szM ms : Int))))
theorem smoB_spc {P D P2 R C : Int} {l : List Int} {ms : List Mat} {xs : List Int} : smoB P D l ms P2 R C xs = (spcB P D l ms P2 R C xs && inB2 P (D.toNat * R.toNat) R.toNat (szM ms) (imA P (szM ms) ms (R.toNat, xs) D.toNat) xs) := by
  unfold smoB hsmB spcB
  rcases h1 : modB P D l ms with _ | _
  · simp
  rcases h2 : spaceM P2 R C xs with _ | _
  · simp
  have h3 : mok P2 R C xs = true := by
    rw [spaceM] at h2
    simp only [Bool.and_eq_true] at h2
    exact h2.1
  rw [h3]
  simp
set_option maxRecDepth 100000 in
set_option maxHeartbeats 6400000 in
theorem l10Space_spec {P D P2 R C : Int} {a0 oa n g k s0 so n1 : Nat} {l : List Int} {ms : List Mat} {xs : List Int} {w : World} {q : Bool} (hT : Reads w (some ⟨a0, oa, none⟩) n l) (hn : n ≤ 1048576) (hm : MatsI w g k ms) (hk : k ≤ 1048576) (hX : Reads w (some ⟨s0, so, none⟩) n1 xs) (hx : n1 ≤ 1048576) (hM : spcB P D l ms P2 R C xs = q) :
    Calls Try.prog 89 #[.agg #[.int .i64 P, .int .i64 D, .slice (some ⟨a0, oa, none⟩) n n], .slice (some ⟨g, 0, none⟩) k k, .agg #[.int .i64 P2, .int .i64 R, .int .i64 C, .slice (some ⟨s0, so, none⟩) n1 n1]] w fun e w' => e = .returned (.bool q) ∧ Ext w w' := by
  subst hM
  have HM := Lib.hid hm
  have HIS := Lib.hid (fun w1 (h : Ext w w1) => isModule_spec (hT.ext h) hn (hm.ext h) hk (rfl : modB P D l ms = modB P D l ms))
  have HSP := Lib.hid (fun w1 (h : Ext w w1) => spaceOk_spec (c := n1) (hX.ext h) hx (rfl : spaceM P2 R C xs = spaceM P2 R C xs))
  have HTL := Lib.hid hT.1
  have A0 := Lib.hid ((cells_new w #[.int .i64 P, .int .i64 D, .slice (some ⟨a0, oa, none⟩) n n] 29).ext ((Ext.refl _).alloc (.cells #[.int .i64 P2, .int .i64 R, .int .i64 C, .slice (some ⟨s0, so, none⟩) n1 n1] 37)))
  have B0 := Lib.hid (cells_new' (w.alloc (.cells #[.int .i64 P, .int .i64 D, .slice (some ⟨a0, oa, none⟩) n n] 29)) #[.int .i64 P2, .int .i64 R, .int .i64 C, .slice (some ⟨s0, so, none⟩) n1 n1] 37 (w.heap.size + 1) (by simp))
  have E0 := Lib.hid (((Ext.refl w).alloc (.cells #[.int .i64 P, .int .i64 D, .slice (some ⟨a0, oa, none⟩) n n] 29)).alloc (.cells #[.int .i64 P2, .int .i64 R, .int .i64 C, .slice (some ⟨s0, so, none⟩) n1 n1] 37))
  have lA := A0.out.1
  have q0 := A0.out.2 0 _ rfl
  have q1 := A0.out.2 1 _ rfl
  have q2 := A0.out.2 2 _ rfl
  have lB := B0.out.1
  have x0 := B0.out.2 0 _ rfl
  have x1 := B0.out.2 1 _ rfl
  have x2 := B0.out.2 2 _ rfl
  have x3 := B0.out.2 3 _ rfl
  clear hm hX hT
  rcases h1 : modB P D l ms with _ | _
  · have HF : Hid (spcB P D l ms P2 R C xs = false) := by rw [Hid, spcB, h1, Bool.false_and]
    have H1 := Lib.hid h1
    rw [HF.out]
    clear h1
    go_enter Try.func89, Try.ntmps89
    go_wp2_with fail
    generalize ((w.alloc (.cells #[.int .i64 P, .int .i64 D, .slice (some ⟨a0, oa, none⟩) n n] 29)).alloc (.cells #[.int .i64 P2, .int .i64 R, .int .i64 C, .slice (some ⟨s0, so, none⟩) n1 n1] 37)) = W0 at *
    refine wp_region_held_drew (S := (fun w' => Ext W0 w' ∧ (∀ b o, b < W0.heap.size → w'.cell? ⟨b, o, none⟩ = W0.cell? ⟨b, o, none⟩))) (by kernel_rfl) (ext2 (Ext.refl W0).drew) (fun hHeld => ?_)
    refine wpAnyH_take (i := 0) (v := ?v1) rfl (by kernel_rfl) (by kernel_rfl) (by kernel_rfl) (fun _ _ _ h => h) (Or.inl ⟨by rfl, ?hy1⟩) hHeld ?rest1
    case hy1 => (intro wz hSw; (try dsimp only at hSw); go_simp; (try with_reducible rfl))
    (try simp only [Act.put, getElem_toArray, getElem_cons_succ, getElem_cons_zero]); (try simp only [setIfInBounds_toArray, set_cons_succ, set_cons_zero])
    refine wpAnyH_take (i := 1) (v := ?v2) rfl (by kernel_rfl) (by kernel_rfl) (by kernel_rfl) (fun _ _ _ h => h) (Or.inl ⟨by rfl, ?hy2⟩) hHeld ?rest2
    case hy2 => (intro wz hSw; (try dsimp only at hSw); go_simp; (try with_reducible rfl))
    (try simp only [Act.put, getElem_toArray, getElem_cons_succ, getElem_cons_zero]); (try simp only [setIfInBounds_toArray, set_cons_succ, set_cons_zero])
    refine wpAnyH_ready (rs := [2]) (by kernel_rfl) (by simp) ?_
    refine AllReadyH.cons rfl (fun K' hK => ?_) AllReadyH.nil
    go_simp
    refine (HIS.out _ (E0.out.trans (And.left hHeld))).mono ?_
    rintro e w2 ⟨rfl, h2⟩
    rw [H1.out]
    have X2 := (And.left hHeld).trans h2
    dsimp only
    refine hK.out _ _ (ext2 X2) (fun hHeld => ?_)
    clear hK
    refine wpAnyH_take (i := 3) (v := ?v3) rfl (by kernel_rfl) (by kernel_rfl) (by kernel_rfl) (fun _ _ _ h => h) (Or.inl ⟨by rfl, ?hy3⟩) hHeld ?rest3
    case hy3 => (intro wz hSw; (try dsimp only at hSw); go_simp; (try with_reducible rfl))
    (try simp only [Act.put, getElem_toArray, getElem_cons_succ, getElem_cons_zero]); (try simp only [setIfInBounds_toArray, set_cons_succ, set_cons_zero])
    refine wpAnyH_take (i := 4) (v := undef) rfl (by kernel_rfl) (by kernel_rfl) (by kernel_rfl) (fun _ _ _ h => h) (Or.inr ⟨by rfl, rfl⟩) hHeld ?rest4
    (try simp only [Act.put, getElem_toArray, getElem_cons_succ, getElem_cons_zero]); (try simp only [setIfInBounds_toArray, set_cons_succ, set_cons_zero])
    refine wpAnyH_take (i := 5) (v := undef) rfl (by kernel_rfl) (by kernel_rfl) (by kernel_rfl) (fun _ _ _ h => h) (Or.inr ⟨by rfl, rfl⟩) hHeld ?rest5
    (try simp only [Act.put, getElem_toArray, getElem_cons_succ, getElem_cons_zero]); (try simp only [setIfInBounds_toArray, set_cons_succ, set_cons_zero])
    refine wpAnyH_take (i := 6) (v := ?v6) rfl (by kernel_rfl) (by kernel_rfl) (by kernel_rfl) (fun _ _ _ h => h) (Or.inl ⟨by rfl, ?hy6⟩) hHeld ?rest6
    case hy6 => (intro wz hSw; (try dsimp only at hSw); go_simp; (try with_reducible rfl))
    (try simp only [Act.put, getElem_toArray, getElem_cons_succ, getElem_cons_zero]); (try simp only [setIfInBounds_toArray, set_cons_succ, set_cons_zero])
    refine wpAnyH_take (i := 7) (v := ?v7) rfl (by kernel_rfl) (by kernel_rfl) (by kernel_rfl) (fun _ _ _ h => h) (Or.inl ⟨by rfl, ?hy7⟩) hHeld ?rest7
    case hy7 => (intro wz hSw; (try dsimp only at hSw); go_simp; (try with_reducible rfl))
    (try simp only [Act.put, getElem_toArray, getElem_cons_succ, getElem_cons_zero]); (try simp only [setIfInBounds_toArray, set_cons_succ, set_cons_zero])
    refine wpAnyH_take (i := 8) (v := undef) rfl (by kernel_rfl) (by kernel_rfl) (by kernel_rfl) (fun _ _ _ h => h) (Or.inr ⟨by rfl, rfl⟩) hHeld ?rest8
    (try simp only [Act.put, getElem_toArray, getElem_cons_succ, getElem_cons_zero]); (try simp only [setIfInBounds_toArray, set_cons_succ, set_cons_zero])
    refine wpAnyH_take (i := 9) (v := undef) rfl (by kernel_rfl) (by kernel_rfl) (by kernel_rfl) (fun _ _ _ h => h) (Or.inr ⟨by rfl, rfl⟩) hHeld ?rest9
    (try simp only [Act.put, getElem_toArray, getElem_cons_succ, getElem_cons_zero]); (try simp only [setIfInBounds_toArray, set_cons_succ, set_cons_zero])
    refine wpAnyH_take (i := 10) (v := undef) rfl (by kernel_rfl) (by kernel_rfl) (by kernel_rfl) (fun _ _ _ h => h) (Or.inr ⟨by rfl, rfl⟩) hHeld ?rest10
    (try simp only [Act.put, getElem_toArray, getElem_cons_succ, getElem_cons_zero]); (try simp only [setIfInBounds_toArray, set_cons_succ, set_cons_zero])
    refine wpAnyH_take (i := 11) (v := undef) rfl (by kernel_rfl) (by kernel_rfl) (by kernel_rfl) (fun _ _ _ h => h) (Or.inr ⟨by rfl, rfl⟩) hHeld ?rest11
    (try simp only [Act.put, getElem_toArray, getElem_cons_succ, getElem_cons_zero]); (try simp only [setIfInBounds_toArray, set_cons_succ, set_cons_zero])
    refine wpAnyH_take (i := 12) (v := undef) rfl (by kernel_rfl) (by kernel_rfl) (by kernel_rfl) (fun _ _ _ h => h) (Or.inr ⟨by rfl, rfl⟩) hHeld ?rest12
    (try simp only [Act.put, getElem_toArray, getElem_cons_succ, getElem_cons_zero]); (try simp only [setIfInBounds_toArray, set_cons_succ, set_cons_zero])
    refine wpAnyH_take (i := 13) (v := ?v13) rfl (by kernel_rfl) (by kernel_rfl) (by kernel_rfl) (fun _ _ _ h => h) (Or.inl ⟨by rfl, ?hy13⟩) hHeld ?rest13
    case hy13 => (intro wz hSw; (try dsimp only at hSw); go_simp; (try with_reducible rfl))
    (try simp only [Act.put, getElem_toArray, getElem_cons_succ, getElem_cons_zero]); (try simp only [setIfInBounds_toArray, set_cons_succ, set_cons_zero])
    refine wpAnyH_take (i := 14) (v := ?v14) rfl (by kernel_rfl) (by kernel_rfl) (by kernel_rfl) (fun _ _ _ h => h) (Or.inl ⟨by rfl, ?hy14⟩) hHeld ?rest14
    case hy14 => (intro wz hSw; (try dsimp only at hSw); go_simp; (try with_reducible rfl))
    (try simp only [Act.put, getElem_toArray, getElem_cons_succ, getElem_cons_zero]); (try simp only [setIfInBounds_toArray, set_cons_succ, set_cons_zero])
    refine wpAnyH_take (i := 15) (v := undef) rfl (by kernel_rfl) (by kernel_rfl) (by kernel_rfl) (fun _ _ _ h => h) (Or.inr ⟨by rfl, rfl⟩) hHeld ?rest15
    (try simp only [Act.put, getElem_toArray, getElem_cons_succ, getElem_cons_zero]); (try simp only [setIfInBounds_toArray, set_cons_succ, set_cons_zero])
    refine wpAnyH_take (i := 16) (v := undef) rfl (by kernel_rfl) (by kernel_rfl) (by kernel_rfl) (fun _ _ _ h => h) (Or.inr ⟨by rfl, rfl⟩) hHeld ?rest16
    (try simp only [Act.put, getElem_toArray, getElem_cons_succ, getElem_cons_zero]); (try simp only [setIfInBounds_toArray, set_cons_succ, set_cons_zero])
    refine wpAnyH_take (i := 17) (v := undef) rfl (by kernel_rfl) (by kernel_rfl) (by kernel_rfl) (fun _ _ _ h => h) (Or.inr ⟨by rfl, rfl⟩) hHeld ?rest17
    (try simp only [Act.put, getElem_toArray, getElem_cons_succ, getElem_cons_zero]); (try simp only [setIfInBounds_toArray, set_cons_succ, set_cons_zero])
    refine wpAnyH_take (i := 18) (v := undef) rfl (by kernel_rfl) (by kernel_rfl) (by kernel_rfl) (fun _ _ _ h => h) (Or.inr ⟨by rfl, rfl⟩) hHeld ?rest18
    (try simp only [Act.put, getElem_toArray, getElem_cons_succ, getElem_cons_zero]); (try simp only [setIfInBounds_toArray, set_cons_succ, set_cons_zero])
    refine wpAnyH_take (i := 19) (v := undef) rfl (by kernel_rfl) (by kernel_rfl) (by kernel_rfl) (fun _ _ _ h => h) (Or.inr ⟨by rfl, rfl⟩) hHeld ?rest19
    (try simp only [Act.put, getElem_toArray, getElem_cons_succ, getElem_cons_zero]); (try simp only [setIfInBounds_toArray, set_cons_succ, set_cons_zero])
    refine wpAnyH_take (i := 20) (v := ?v20) rfl (by kernel_rfl) (by kernel_rfl) (by kernel_rfl) (fun _ _ _ h => h) (Or.inl ⟨by rfl, ?hy20⟩) hHeld ?rest20
    case hy20 => (intro wz hSw; (try dsimp only at hSw); go_simp; (try with_reducible rfl))
    (try simp only [Act.put, getElem_toArray, getElem_cons_succ, getElem_cons_zero]); (try simp only [setIfInBounds_toArray, set_cons_succ, set_cons_zero])
    refine wpAnyH_take (i := 21) (v := ?v21) rfl (by kernel_rfl) (by kernel_rfl) (by kernel_rfl) (fun _ _ _ h => h) (Or.inl ⟨by rfl, ?hy21⟩) hHeld ?rest21
    case hy21 => (intro wz hSw; (try dsimp only at hSw); go_simp; (try with_reducible rfl))
    (try simp only [Act.put, getElem_toArray, getElem_cons_succ, getElem_cons_zero]); (try simp only [setIfInBounds_toArray, set_cons_succ, set_cons_zero])
    refine wpAnyH_done (by kernel_rfl) ?_ _
    have X9 := Lib.hid (And.left hHeld)
    clear hHeld
    go_wp2
    go_ret
    exact ⟨rfl, E0.out.trans X9.out⟩
  have H1 := Lib.hid h1
  rcases h2 : spaceM P2 R C xs with _ | _
  · have HF : Hid (spcB P D l ms P2 R C xs = false) := by rw [Hid, spcB, h2, Bool.false_and, Bool.and_false]
    have H2 := Lib.hid h2
    rw [HF.out]
    clear h1 h2
    go_enter Try.func89, Try.ntmps89
    go_wp2_with fail
    generalize ((w.alloc (.cells #[.int .i64 P, .int .i64 D, .slice (some ⟨a0, oa, none⟩) n n] 29)).alloc (.cells #[.int .i64 P2, .int .i64 R, .int .i64 C, .slice (some ⟨s0, so, none⟩) n1 n1] 37)) = W0 at *
    refine wp_region_held_drew (S := (fun w' => Ext W0 w' ∧ (∀ b o, b < W0.heap.size → w'.cell? ⟨b, o, none⟩ = W0.cell? ⟨b, o, none⟩))) (by kernel_rfl) (ext2 (Ext.refl W0).drew) (fun hHeld => ?_)
    refine wpAnyH_take (i := 0) (v := ?v22) rfl (by kernel_rfl) (by kernel_rfl) (by kernel_rfl) (fun _ _ _ h => h) (Or.inl ⟨by rfl, ?hy22⟩) hHeld ?rest22
    case hy22 => (intro wz hSw; (try dsimp only at hSw); go_simp; (try with_reducible rfl))
    (try simp only [Act.put, getElem_toArray, getElem_cons_succ, getElem_cons_zero]); (try simp only [setIfInBounds_toArray, set_cons_succ, set_cons_zero])
    refine wpAnyH_take (i := 1) (v := ?v23) rfl (by kernel_rfl) (by kernel_rfl) (by kernel_rfl) (fun _ _ _ h => h) (Or.inl ⟨by rfl, ?hy23⟩) hHeld ?rest23
    case hy23 => (intro wz hSw; (try dsimp only at hSw); go_simp; (try with_reducible rfl))
    (try simp only [Act.put, getElem_toArray, getElem_cons_succ, getElem_cons_zero]); (try simp only [setIfInBounds_toArray, set_cons_succ, set_cons_zero])
    refine wpAnyH_ready (rs := [2]) (by kernel_rfl) (by simp) ?_
    refine AllReadyH.cons rfl (fun K' hK => ?_) AllReadyH.nil
    go_simp
    refine (HIS.out _ (E0.out.trans (And.left hHeld))).mono ?_
    rintro e w2 ⟨rfl, h2⟩
    rw [H1.out]
    have X2 := (And.left hHeld).trans h2
    dsimp only
    refine hK.out _ _ (ext2 X2) (fun hHeld => ?_)
    clear hK
    refine wpAnyH_take (i := 3) (v := ?v24) rfl (by kernel_rfl) (by kernel_rfl) (by kernel_rfl) (fun _ _ _ h => h) (Or.inl ⟨by rfl, ?hy24⟩) hHeld ?rest24
    case hy24 => (intro wz hSw; (try dsimp only at hSw); go_simp; (try with_reducible rfl))
    (try simp only [Act.put, getElem_toArray, getElem_cons_succ, getElem_cons_zero]); (try simp only [setIfInBounds_toArray, set_cons_succ, set_cons_zero])
    refine wpAnyH_take (i := 4) (v := ?v25) rfl (by kernel_rfl) (by kernel_rfl) (by kernel_rfl) (fun _ _ _ h => h) (Or.inl ⟨by rfl, ?hy25⟩) hHeld ?rest25
    case hy25 => (intro wz hSw; (try dsimp only at hSw); go_simp; (try with_reducible rfl))
    (try simp only [Act.put, getElem_toArray, getElem_cons_succ, getElem_cons_zero]); (try simp only [setIfInBounds_toArray, set_cons_succ, set_cons_zero])
    refine wpAnyH_ready (rs := [5]) (by kernel_rfl) (by simp) ?_
    refine AllReadyH.cons rfl (fun K' hK => ?_) AllReadyH.nil
    go_simp
    refine (HSP.out _ (E0.out.trans (And.left hHeld))).mono ?_
    rintro e w3 ⟨rfl, h3⟩
    rw [H2.out]
    have X3 := (And.left hHeld).trans h3
    dsimp only
    refine hK.out _ _ (ext2 X3) (fun hHeld => ?_)
    clear hK
    refine wpAnyH_take (i := 6) (v := ?v26) rfl (by kernel_rfl) (by kernel_rfl) (by kernel_rfl) (fun _ _ _ h => h) (Or.inl ⟨by rfl, ?hy26⟩) hHeld ?rest26
    case hy26 => (intro wz hSw; (try dsimp only at hSw); go_simp; (try with_reducible rfl))
    (try simp only [Act.put, getElem_toArray, getElem_cons_succ, getElem_cons_zero]); (try simp only [setIfInBounds_toArray, set_cons_succ, set_cons_zero])
    refine wpAnyH_take (i := 7) (v := ?v27) rfl (by kernel_rfl) (by kernel_rfl) (by kernel_rfl) (fun _ _ _ h => h) (Or.inl ⟨by rfl, ?hy27⟩) hHeld ?rest27
    case hy27 => (intro wz hSw; (try dsimp only at hSw); go_simp; (try with_reducible rfl))
    (try simp only [Act.put, getElem_toArray, getElem_cons_succ, getElem_cons_zero]); (try simp only [setIfInBounds_toArray, set_cons_succ, set_cons_zero])
    refine wpAnyH_take (i := 8) (v := undef) rfl (by kernel_rfl) (by kernel_rfl) (by kernel_rfl) (fun _ _ _ h => h) (Or.inr ⟨by rfl, rfl⟩) hHeld ?rest28
    (try simp only [Act.put, getElem_toArray, getElem_cons_succ, getElem_cons_zero]); (try simp only [setIfInBounds_toArray, set_cons_succ, set_cons_zero])
    refine wpAnyH_take (i := 9) (v := undef) rfl (by kernel_rfl) (by kernel_rfl) (by kernel_rfl) (fun _ _ _ h => h) (Or.inr ⟨by rfl, rfl⟩) hHeld ?rest29
    (try simp only [Act.put, getElem_toArray, getElem_cons_succ, getElem_cons_zero]); (try simp only [setIfInBounds_toArray, set_cons_succ, set_cons_zero])
    refine wpAnyH_take (i := 10) (v := undef) rfl (by kernel_rfl) (by kernel_rfl) (by kernel_rfl) (fun _ _ _ h => h) (Or.inr ⟨by rfl, rfl⟩) hHeld ?rest30
    (try simp only [Act.put, getElem_toArray, getElem_cons_succ, getElem_cons_zero]); (try simp only [setIfInBounds_toArray, set_cons_succ, set_cons_zero])
    refine wpAnyH_take (i := 11) (v := undef) rfl (by kernel_rfl) (by kernel_rfl) (by kernel_rfl) (fun _ _ _ h => h) (Or.inr ⟨by rfl, rfl⟩) hHeld ?rest31
    (try simp only [Act.put, getElem_toArray, getElem_cons_succ, getElem_cons_zero]); (try simp only [setIfInBounds_toArray, set_cons_succ, set_cons_zero])
    refine wpAnyH_take (i := 12) (v := undef) rfl (by kernel_rfl) (by kernel_rfl) (by kernel_rfl) (fun _ _ _ h => h) (Or.inr ⟨by rfl, rfl⟩) hHeld ?rest32
    (try simp only [Act.put, getElem_toArray, getElem_cons_succ, getElem_cons_zero]); (try simp only [setIfInBounds_toArray, set_cons_succ, set_cons_zero])
    refine wpAnyH_take (i := 13) (v := ?v33) rfl (by kernel_rfl) (by kernel_rfl) (by kernel_rfl) (fun _ _ _ h => h) (Or.inl ⟨by rfl, ?hy33⟩) hHeld ?rest33
    case hy33 => (intro wz hSw; (try dsimp only at hSw); go_simp; (try with_reducible rfl))
    (try simp only [Act.put, getElem_toArray, getElem_cons_succ, getElem_cons_zero]); (try simp only [setIfInBounds_toArray, set_cons_succ, set_cons_zero])
    refine wpAnyH_take (i := 14) (v := ?v34) rfl (by kernel_rfl) (by kernel_rfl) (by kernel_rfl) (fun _ _ _ h => h) (Or.inl ⟨by rfl, ?hy34⟩) hHeld ?rest34
    case hy34 => (intro wz hSw; (try dsimp only at hSw); go_simp; (try with_reducible rfl))
    (try simp only [Act.put, getElem_toArray, getElem_cons_succ, getElem_cons_zero]); (try simp only [setIfInBounds_toArray, set_cons_succ, set_cons_zero])
    refine wpAnyH_take (i := 15) (v := undef) rfl (by kernel_rfl) (by kernel_rfl) (by kernel_rfl) (fun _ _ _ h => h) (Or.inr ⟨by rfl, rfl⟩) hHeld ?rest35
    (try simp only [Act.put, getElem_toArray, getElem_cons_succ, getElem_cons_zero]); (try simp only [setIfInBounds_toArray, set_cons_succ, set_cons_zero])
    refine wpAnyH_take (i := 16) (v := undef) rfl (by kernel_rfl) (by kernel_rfl) (by kernel_rfl) (fun _ _ _ h => h) (Or.inr ⟨by rfl, rfl⟩) hHeld ?rest36
    (try simp only [Act.put, getElem_toArray, getElem_cons_succ, getElem_cons_zero]); (try simp only [setIfInBounds_toArray, set_cons_succ, set_cons_zero])
    refine wpAnyH_take (i := 17) (v := undef) rfl (by kernel_rfl) (by kernel_rfl) (by kernel_rfl) (fun _ _ _ h => h) (Or.inr ⟨by rfl, rfl⟩) hHeld ?rest37
    (try simp only [Act.put, getElem_toArray, getElem_cons_succ, getElem_cons_zero]); (try simp only [setIfInBounds_toArray, set_cons_succ, set_cons_zero])
    refine wpAnyH_take (i := 18) (v := undef) rfl (by kernel_rfl) (by kernel_rfl) (by kernel_rfl) (fun _ _ _ h => h) (Or.inr ⟨by rfl, rfl⟩) hHeld ?rest38
    (try simp only [Act.put, getElem_toArray, getElem_cons_succ, getElem_cons_zero]); (try simp only [setIfInBounds_toArray, set_cons_succ, set_cons_zero])
    refine wpAnyH_take (i := 19) (v := undef) rfl (by kernel_rfl) (by kernel_rfl) (by kernel_rfl) (fun _ _ _ h => h) (Or.inr ⟨by rfl, rfl⟩) hHeld ?rest39
    (try simp only [Act.put, getElem_toArray, getElem_cons_succ, getElem_cons_zero]); (try simp only [setIfInBounds_toArray, set_cons_succ, set_cons_zero])
    refine wpAnyH_take (i := 20) (v := ?v40) rfl (by kernel_rfl) (by kernel_rfl) (by kernel_rfl) (fun _ _ _ h => h) (Or.inl ⟨by rfl, ?hy40⟩) hHeld ?rest40
    case hy40 => (intro wz hSw; (try dsimp only at hSw); go_simp; (try with_reducible rfl))
    (try simp only [Act.put, getElem_toArray, getElem_cons_succ, getElem_cons_zero]); (try simp only [setIfInBounds_toArray, set_cons_succ, set_cons_zero])
    refine wpAnyH_take (i := 21) (v := ?v41) rfl (by kernel_rfl) (by kernel_rfl) (by kernel_rfl) (fun _ _ _ h => h) (Or.inl ⟨by rfl, ?hy41⟩) hHeld ?rest41
    case hy41 => (intro wz hSw; (try dsimp only at hSw); go_simp; (try with_reducible rfl))
    (try simp only [Act.put, getElem_toArray, getElem_cons_succ, getElem_cons_zero]); (try simp only [setIfInBounds_toArray, set_cons_succ, set_cons_zero])
    refine wpAnyH_done (by kernel_rfl) ?_ _
    have X9 := Lib.hid (And.left hHeld)
    clear hHeld
    go_wp2
    go_ret
    exact ⟨rfl, E0.out.trans X9.out⟩
  have H2 := Lib.hid h2
  obtain ⟨d, S, rfl, _, hP⟩ := mod_parts h1 HTL.out
  have hk0 : 0 < k := by rw [← hm_len HM.out, hP.cnt]; exact hP.pos
  have HS0 : Hid ((mt ms 0).r = S) := by rw [Hid, hP.at_ 0 hP.pos]
  have HF : Hid (spcB P d l ms P2 R C xs = ((P2 == P) && (C == (S : Int)))) := by rw [Hid, spcB, h1, h2, hP.szM, Bool.true_and, Bool.true_and]
  rw [HF.out]
  clear h1 h2 hP
  rcases hp : (P2 == P) with _ | _
  · simp only [Bool.false_and]
    go_enter Try.func89, Try.ntmps89
    go_wp2_with fail
    generalize ((w.alloc (.cells #[.int .i64 P, .int .i64 d, .slice (some ⟨a0, oa, none⟩) n n] 29)).alloc (.cells #[.int .i64 P2, .int .i64 R, .int .i64 C, .slice (some ⟨s0, so, none⟩) n1 n1] 37)) = W0 at *
    refine wp_region_held_drew (S := (fun w' => Ext W0 w' ∧ (∀ b o, b < W0.heap.size → w'.cell? ⟨b, o, none⟩ = W0.cell? ⟨b, o, none⟩))) (by kernel_rfl) (ext2 (Ext.refl W0).drew) (fun hHeld => ?_)
    refine wpAnyH_take (i := 0) (v := ?v42) rfl (by kernel_rfl) (by kernel_rfl) (by kernel_rfl) (fun _ _ _ h => h) (Or.inl ⟨by rfl, ?hy42⟩) hHeld ?rest42
    case hy42 => (intro wz hSw; (try dsimp only at hSw); go_simp; (try with_reducible rfl))
    (try simp only [Act.put, getElem_toArray, getElem_cons_succ, getElem_cons_zero]); (try simp only [setIfInBounds_toArray, set_cons_succ, set_cons_zero])
    refine wpAnyH_take (i := 1) (v := ?v43) rfl (by kernel_rfl) (by kernel_rfl) (by kernel_rfl) (fun _ _ _ h => h) (Or.inl ⟨by rfl, ?hy43⟩) hHeld ?rest43
    case hy43 => (intro wz hSw; (try dsimp only at hSw); go_simp; (try with_reducible rfl))
    (try simp only [Act.put, getElem_toArray, getElem_cons_succ, getElem_cons_zero]); (try simp only [setIfInBounds_toArray, set_cons_succ, set_cons_zero])
    refine wpAnyH_ready (rs := [2]) (by kernel_rfl) (by simp) ?_
    refine AllReadyH.cons rfl (fun K' hK => ?_) AllReadyH.nil
    go_simp
    refine (HIS.out _ (E0.out.trans (And.left hHeld))).mono ?_
    rintro e w2 ⟨rfl, h2⟩
    rw [H1.out]
    have X2 := (And.left hHeld).trans h2
    dsimp only
    refine hK.out _ _ (ext2 X2) (fun hHeld => ?_)
    clear hK
    refine wpAnyH_take (i := 3) (v := ?v44) rfl (by kernel_rfl) (by kernel_rfl) (by kernel_rfl) (fun _ _ _ h => h) (Or.inl ⟨by rfl, ?hy44⟩) hHeld ?rest44
    case hy44 => (intro wz hSw; (try dsimp only at hSw); go_simp; (try with_reducible rfl))
    (try simp only [Act.put, getElem_toArray, getElem_cons_succ, getElem_cons_zero]); (try simp only [setIfInBounds_toArray, set_cons_succ, set_cons_zero])
    refine wpAnyH_take (i := 4) (v := ?v45) rfl (by kernel_rfl) (by kernel_rfl) (by kernel_rfl) (fun _ _ _ h => h) (Or.inl ⟨by rfl, ?hy45⟩) hHeld ?rest45
    case hy45 => (intro wz hSw; (try dsimp only at hSw); go_simp; (try with_reducible rfl))
    (try simp only [Act.put, getElem_toArray, getElem_cons_succ, getElem_cons_zero]); (try simp only [setIfInBounds_toArray, set_cons_succ, set_cons_zero])
    refine wpAnyH_ready (rs := [5]) (by kernel_rfl) (by simp) ?_
    refine AllReadyH.cons rfl (fun K' hK => ?_) AllReadyH.nil
    go_simp
    refine (HSP.out _ (E0.out.trans (And.left hHeld))).mono ?_
    rintro e w3 ⟨rfl, h3⟩
    rw [H2.out]
    have X3 := (And.left hHeld).trans h3
    dsimp only
    refine hK.out _ _ (ext2 X3) (fun hHeld => ?_)
    clear hK
    refine wpAnyH_take (i := 6) (v := ?v46) rfl (by kernel_rfl) (by kernel_rfl) (by kernel_rfl) (fun _ _ _ h => h) (Or.inl ⟨by rfl, ?hy46⟩) hHeld ?rest46
    case hy46 => (intro wz hSw; (try dsimp only at hSw); go_simp; (try with_reducible rfl))
    (try simp only [Act.put, getElem_toArray, getElem_cons_succ, getElem_cons_zero]); (try simp only [setIfInBounds_toArray, set_cons_succ, set_cons_zero])
    refine wpAnyH_take (i := 7) (v := ?v47) rfl (by kernel_rfl) (by kernel_rfl) (by kernel_rfl) (fun _ _ _ h => h) (Or.inl ⟨by rfl, ?hy47⟩) hHeld ?rest47
    case hy47 => (intro wz hSw; (try dsimp only at hSw); go_simp; (try with_reducible rfl))
    (try simp only [Act.put, getElem_toArray, getElem_cons_succ, getElem_cons_zero]); (try simp only [setIfInBounds_toArray, set_cons_succ, set_cons_zero])
    refine wpAnyH_take (i := 8) (v := ?v48) rfl (by kernel_rfl) (by kernel_rfl) (by kernel_rfl) (fun _ _ _ h => h) (Or.inl ⟨by rfl, ?hy48⟩) hHeld ?rest48
    case hy48 => (intro wz hSw; (try dsimp only at hSw); go_simp; (try with_reducible rfl))
    (try simp only [Act.put, getElem_toArray, getElem_cons_succ, getElem_cons_zero]); (try simp only [setIfInBounds_toArray, set_cons_succ, set_cons_zero])
    refine wpAnyH_take (i := 9) (v := ?v49) rfl (by kernel_rfl) (by kernel_rfl) (by kernel_rfl) (fun _ _ _ h => h) (Or.inl ⟨by rfl, ?hy49⟩) hHeld ?rest49
    case hy49 => (intro wz hSw; (try dsimp only at hSw); go_simp; (try with_reducible rfl))
    (try simp only [Act.put, getElem_toArray, getElem_cons_succ, getElem_cons_zero]); (try simp only [setIfInBounds_toArray, set_cons_succ, set_cons_zero])
    refine wpAnyH_take (i := 10) (v := ?v50) rfl (by kernel_rfl) (by kernel_rfl) (by kernel_rfl) (fun _ _ _ h => h) (Or.inl ⟨by rfl, ?hy50⟩) hHeld ?rest50
    case hy50 => (intro wz hSw; (try dsimp only at hSw); go_simp; (try with_reducible rfl))
    (try simp only [Act.put, getElem_toArray, getElem_cons_succ, getElem_cons_zero]); (try simp only [setIfInBounds_toArray, set_cons_succ, set_cons_zero])
    refine wpAnyH_take (i := 11) (v := ?v51) rfl (by kernel_rfl) (by kernel_rfl) (by kernel_rfl) (fun _ _ _ h => h) (Or.inl ⟨by rfl, ?hy51⟩) hHeld ?rest51
    case hy51 => (intro wz hSw; (try dsimp only at hSw); go_simp; (try with_reducible rfl))
    (try simp only [Act.put, getElem_toArray, getElem_cons_succ, getElem_cons_zero]); (try simp only [setIfInBounds_toArray, set_cons_succ, set_cons_zero])
    refine wpAnyH_take (i := 12) (v := ?v52) rfl (by kernel_rfl) (by kernel_rfl) (by kernel_rfl) (fun _ _ _ h => h) (Or.inl ⟨by rfl, ?hy52⟩) hHeld ?rest52
    case hy52 => (intro wz hSw; (try dsimp only at hSw); go_simp; (try with_reducible rfl))
    (try simp only [Act.put, getElem_toArray, getElem_cons_succ, getElem_cons_zero]); (try simp only [setIfInBounds_toArray, set_cons_succ, set_cons_zero])
    refine wpAnyH_take (i := 13) (v := ?v53) rfl (by kernel_rfl) (by kernel_rfl) (by kernel_rfl) (fun _ _ _ h => h) (Or.inl ⟨by rfl, ?hy53⟩) hHeld ?rest53
    case hy53 => (intro wz hSw; (try dsimp only at hSw); go_simp; (try with_reducible rfl))
    (try simp only [Act.put, getElem_toArray, getElem_cons_succ, getElem_cons_zero]); (try simp only [setIfInBounds_toArray, set_cons_succ, set_cons_zero])
    refine wpAnyH_take (i := 14) (v := ?v54) rfl (by kernel_rfl) (by kernel_rfl) (by kernel_rfl) (fun _ _ _ h => h) (Or.inl ⟨by rfl, ?hy54⟩) hHeld ?rest54
    case hy54 => (intro wz hSw; (try dsimp only at hSw); go_simp; (try with_reducible rfl))
    (try simp only [Act.put, getElem_toArray, getElem_cons_succ, getElem_cons_zero]); (try simp only [setIfInBounds_toArray, set_cons_succ, set_cons_zero])
    refine wpAnyH_take (i := 15) (v := undef) rfl (by kernel_rfl) (by kernel_rfl) (by kernel_rfl) (fun _ _ _ h => h) (Or.inr ⟨by rfl, rfl⟩) hHeld ?rest55
    (try simp only [Act.put, getElem_toArray, getElem_cons_succ, getElem_cons_zero]); (try simp only [setIfInBounds_toArray, set_cons_succ, set_cons_zero])
    refine wpAnyH_take (i := 16) (v := undef) rfl (by kernel_rfl) (by kernel_rfl) (by kernel_rfl) (fun _ _ _ h => h) (Or.inr ⟨by rfl, rfl⟩) hHeld ?rest56
    (try simp only [Act.put, getElem_toArray, getElem_cons_succ, getElem_cons_zero]); (try simp only [setIfInBounds_toArray, set_cons_succ, set_cons_zero])
    refine wpAnyH_take (i := 17) (v := undef) rfl (by kernel_rfl) (by kernel_rfl) (by kernel_rfl) (fun _ _ _ h => h) (Or.inr ⟨by rfl, rfl⟩) hHeld ?rest57
    (try simp only [Act.put, getElem_toArray, getElem_cons_succ, getElem_cons_zero]); (try simp only [setIfInBounds_toArray, set_cons_succ, set_cons_zero])
    refine wpAnyH_take (i := 18) (v := undef) rfl (by kernel_rfl) (by kernel_rfl) (by kernel_rfl) (fun _ _ _ h => h) (Or.inr ⟨by rfl, rfl⟩) hHeld ?rest58
    (try simp only [Act.put, getElem_toArray, getElem_cons_succ, getElem_cons_zero]); (try simp only [setIfInBounds_toArray, set_cons_succ, set_cons_zero])
    refine wpAnyH_take (i := 19) (v := undef) rfl (by kernel_rfl) (by kernel_rfl) (by kernel_rfl) (fun _ _ _ h => h) (Or.inr ⟨by rfl, rfl⟩) hHeld ?rest59
    (try simp only [Act.put, getElem_toArray, getElem_cons_succ, getElem_cons_zero]); (try simp only [setIfInBounds_toArray, set_cons_succ, set_cons_zero])
    refine wpAnyH_take (i := 20) (v := ?v60) rfl (by kernel_rfl) (by kernel_rfl) (by kernel_rfl) (fun _ _ _ h => h) (Or.inl ⟨by rfl, ?hy60⟩) hHeld ?rest60
    case hy60 => (intro wz hSw; (try dsimp only at hSw); go_simp; (try with_reducible rfl))
    (try simp only [Act.put, getElem_toArray, getElem_cons_succ, getElem_cons_zero]); (try simp only [setIfInBounds_toArray, set_cons_succ, set_cons_zero])
    refine wpAnyH_take (i := 21) (v := ?v61) rfl (by kernel_rfl) (by kernel_rfl) (by kernel_rfl) (fun _ _ _ h => h) (Or.inl ⟨by rfl, ?hy61⟩) hHeld ?rest61
    case hy61 => (intro wz hSw; (try dsimp only at hSw); go_simp; (try with_reducible rfl))
    (try simp only [Act.put, getElem_toArray, getElem_cons_succ, getElem_cons_zero]); (try simp only [setIfInBounds_toArray, set_cons_succ, set_cons_zero])
    refine wpAnyH_done (by kernel_rfl) ?_ _
    have X9 := Lib.hid (And.left hHeld)
    clear hHeld
    go_wp2
    go_ret
    exact ⟨rfl, E0.out.trans X9.out⟩
  simp only [Bool.true_and]
  go_enter Try.func89, Try.ntmps89
  go_wp2_with fail
  generalize ((w.alloc (.cells #[.int .i64 P, .int .i64 d, .slice (some ⟨a0, oa, none⟩) n n] 29)).alloc (.cells #[.int .i64 P2, .int .i64 R, .int .i64 C, .slice (some ⟨s0, so, none⟩) n1 n1] 37)) = W0 at *
  refine wp_region_held_drew (S := (fun w' => Ext W0 w' ∧ (∀ b o, b < W0.heap.size → w'.cell? ⟨b, o, none⟩ = W0.cell? ⟨b, o, none⟩))) (by kernel_rfl) (ext2 (Ext.refl W0).drew) (fun hHeld => ?_)
  refine wpAnyH_take (i := 0) (v := ?v62) rfl (by kernel_rfl) (by kernel_rfl) (by kernel_rfl) (fun _ _ _ h => h) (Or.inl ⟨by rfl, ?hy62⟩) hHeld ?rest62
  case hy62 => (intro wz hSw; (try dsimp only at hSw); go_simp; (try with_reducible rfl))
  (try simp only [Act.put, getElem_toArray, getElem_cons_succ, getElem_cons_zero]); (try simp only [setIfInBounds_toArray, set_cons_succ, set_cons_zero])
  refine wpAnyH_take (i := 1) (v := ?v63) rfl (by kernel_rfl) (by kernel_rfl) (by kernel_rfl) (fun _ _ _ h => h) (Or.inl ⟨by rfl, ?hy63⟩) hHeld ?rest63
  case hy63 => (intro wz hSw; (try dsimp only at hSw); go_simp; (try with_reducible rfl))
  (try simp only [Act.put, getElem_toArray, getElem_cons_succ, getElem_cons_zero]); (try simp only [setIfInBounds_toArray, set_cons_succ, set_cons_zero])
  refine wpAnyH_ready (rs := [2]) (by kernel_rfl) (by simp) ?_
  refine AllReadyH.cons rfl (fun K' hK => ?_) AllReadyH.nil
  go_simp
  refine (HIS.out _ (E0.out.trans (And.left hHeld))).mono ?_
  rintro e w2 ⟨rfl, h2⟩
  rw [H1.out]
  have X2 := (And.left hHeld).trans h2
  dsimp only
  refine hK.out _ _ (ext2 X2) (fun hHeld => ?_)
  clear hK
  refine wpAnyH_take (i := 3) (v := ?v64) rfl (by kernel_rfl) (by kernel_rfl) (by kernel_rfl) (fun _ _ _ h => h) (Or.inl ⟨by rfl, ?hy64⟩) hHeld ?rest64
  case hy64 => (intro wz hSw; (try dsimp only at hSw); go_simp; (try with_reducible rfl))
  (try simp only [Act.put, getElem_toArray, getElem_cons_succ, getElem_cons_zero]); (try simp only [setIfInBounds_toArray, set_cons_succ, set_cons_zero])
  refine wpAnyH_take (i := 4) (v := ?v65) rfl (by kernel_rfl) (by kernel_rfl) (by kernel_rfl) (fun _ _ _ h => h) (Or.inl ⟨by rfl, ?hy65⟩) hHeld ?rest65
  case hy65 => (intro wz hSw; (try dsimp only at hSw); go_simp; (try with_reducible rfl))
  (try simp only [Act.put, getElem_toArray, getElem_cons_succ, getElem_cons_zero]); (try simp only [setIfInBounds_toArray, set_cons_succ, set_cons_zero])
  refine wpAnyH_ready (rs := [5]) (by kernel_rfl) (by simp) ?_
  refine AllReadyH.cons rfl (fun K' hK => ?_) AllReadyH.nil
  go_simp
  refine (HSP.out _ (E0.out.trans (And.left hHeld))).mono ?_
  rintro e w3 ⟨rfl, h3⟩
  rw [H2.out]
  have X3 := (And.left hHeld).trans h3
  dsimp only
  refine hK.out _ _ (ext2 X3) (fun hHeld => ?_)
  clear hK
  refine wpAnyH_take (i := 6) (v := ?v66) rfl (by kernel_rfl) (by kernel_rfl) (by kernel_rfl) (fun _ _ _ h => h) (Or.inl ⟨by rfl, ?hy66⟩) hHeld ?rest66
  case hy66 => (intro wz hSw; (try dsimp only at hSw); go_simp; (try with_reducible rfl))
  (try simp only [Act.put, getElem_toArray, getElem_cons_succ, getElem_cons_zero]); (try simp only [setIfInBounds_toArray, set_cons_succ, set_cons_zero])
  refine wpAnyH_take (i := 7) (v := ?v67) rfl (by kernel_rfl) (by kernel_rfl) (by kernel_rfl) (fun _ _ _ h => h) (Or.inl ⟨by rfl, ?hy67⟩) hHeld ?rest67
  case hy67 => (intro wz hSw; (try dsimp only at hSw); go_simp; (try with_reducible rfl))
  (try simp only [Act.put, getElem_toArray, getElem_cons_succ, getElem_cons_zero]); (try simp only [setIfInBounds_toArray, set_cons_succ, set_cons_zero])
  refine wpAnyH_take (i := 8) (v := ?v68) rfl (by kernel_rfl) (by kernel_rfl) (by kernel_rfl) (fun _ _ _ h => h) (Or.inl ⟨by rfl, ?hy68⟩) hHeld ?rest68
  case hy68 => (intro wz hSw; (try dsimp only at hSw); go_simp; (try with_reducible rfl))
  (try simp only [Act.put, getElem_toArray, getElem_cons_succ, getElem_cons_zero]); (try simp only [setIfInBounds_toArray, set_cons_succ, set_cons_zero])
  refine wpAnyH_take (i := 9) (v := ?v69) rfl (by kernel_rfl) (by kernel_rfl) (by kernel_rfl) (fun _ _ _ h => h) (Or.inl ⟨by rfl, ?hy69⟩) hHeld ?rest69
  case hy69 => (intro wz hSw; (try dsimp only at hSw); go_simp; (try with_reducible rfl))
  (try simp only [Act.put, getElem_toArray, getElem_cons_succ, getElem_cons_zero]); (try simp only [setIfInBounds_toArray, set_cons_succ, set_cons_zero])
  refine wpAnyH_take (i := 10) (v := ?v70) rfl (by kernel_rfl) (by kernel_rfl) (by kernel_rfl) (fun _ _ _ h => h) (Or.inl ⟨by rfl, ?hy70⟩) hHeld ?rest70
  case hy70 => (intro wz hSw; (try dsimp only at hSw); go_simp; (try with_reducible rfl))
  (try simp only [Act.put, getElem_toArray, getElem_cons_succ, getElem_cons_zero]); (try simp only [setIfInBounds_toArray, set_cons_succ, set_cons_zero])
  refine wpAnyH_take (i := 11) (v := ?v71) rfl (by kernel_rfl) (by kernel_rfl) (by kernel_rfl) (fun _ _ _ h => h) (Or.inl ⟨by rfl, ?hy71⟩) hHeld ?rest71
  case hy71 => (intro wz hSw; (try dsimp only at hSw); go_simp; (try with_reducible rfl))
  (try simp only [Act.put, getElem_toArray, getElem_cons_succ, getElem_cons_zero]); (try simp only [setIfInBounds_toArray, set_cons_succ, set_cons_zero])
  refine wpAnyH_take (i := 12) (v := ?v72) rfl (by kernel_rfl) (by kernel_rfl) (by kernel_rfl) (fun _ _ _ h => h) (Or.inl ⟨by rfl, ?hy72⟩) hHeld ?rest72
  case hy72 => (intro wz hSw; (try dsimp only at hSw); go_simp; (try with_reducible rfl))
  (try simp only [Act.put, getElem_toArray, getElem_cons_succ, getElem_cons_zero]); (try simp only [setIfInBounds_toArray, set_cons_succ, set_cons_zero])
  refine wpAnyH_take (i := 13) (v := ?v73) rfl (by kernel_rfl) (by kernel_rfl) (by kernel_rfl) (fun _ _ _ h => h) (Or.inl ⟨by rfl, ?hy73⟩) hHeld ?rest73
  case hy73 => (intro wz hSw; (try dsimp only at hSw); go_simp; (try with_reducible rfl))
  (try simp only [Act.put, getElem_toArray, getElem_cons_succ, getElem_cons_zero]); (try simp only [setIfInBounds_toArray, set_cons_succ, set_cons_zero])
  refine wpAnyH_take (i := 14) (v := ?v74) rfl (by kernel_rfl) (by kernel_rfl) (by kernel_rfl) (fun _ _ _ h => h) (Or.inl ⟨by rfl, ?hy74⟩) hHeld ?rest74
  case hy74 => (intro wz hSw; (try dsimp only at hSw); go_simp; (try with_reducible rfl))
  (try simp only [Act.put, getElem_toArray, getElem_cons_succ, getElem_cons_zero]); (try simp only [setIfInBounds_toArray, set_cons_succ, set_cons_zero])
  refine wpAnyH_take (i := 15) (v := ?v75) rfl (by kernel_rfl) (by kernel_rfl) (by kernel_rfl) (fun _ _ _ h => h) (Or.inl ⟨by rfl, ?hy75⟩) hHeld ?rest75
  case hy75 => (intro wz hSw; (try dsimp only at hSw); go_simp; (try with_reducible rfl))
  (try simp only [Act.put, getElem_toArray, getElem_cons_succ, getElem_cons_zero]); (try simp only [setIfInBounds_toArray, set_cons_succ, set_cons_zero])
  refine wpAnyH_take (i := 16) (v := ?v76) rfl (by kernel_rfl) (by kernel_rfl) (by kernel_rfl) (fun _ _ _ h => h) (Or.inl ⟨by rfl, ?hy76⟩) hHeld ?rest76
  case hy76 => (intro wz hSw; (try dsimp only at hSw); go_simp; (try with_reducible rfl))
  (try simp only [Act.put, getElem_toArray, getElem_cons_succ, getElem_cons_zero]); (try simp only [setIfInBounds_toArray, set_cons_succ, set_cons_zero])
  refine wpAnyH_take (i := 17) (v := ?v77) rfl (by kernel_rfl) (by kernel_rfl) (by kernel_rfl) (fun _ _ _ h => h) (Or.inl ⟨by rfl, ?hy77⟩) hHeld ?rest77
  case hy77 => (intro wz hSw; (try dsimp only at hSw); go_simp; (try with_reducible rfl))
  (try simp only [Act.put, getElem_toArray, getElem_cons_succ, getElem_cons_zero]); (try simp only [setIfInBounds_toArray, set_cons_succ, set_cons_zero])
  refine wpAnyH_ready (rs := [18]) (by kernel_rfl) (by simp) ?_
  refine AllReadyH.cons rfl (fun K' hK => ?_) AllReadyH.nil
  go_simp
  refine (l10Size_spec g k S ms _ (HM.out.ext (E0.out.trans (And.left hHeld))) hk0 HS0.out).mono ?_
  rintro e _ ⟨rfl, rfl⟩
  dsimp only
  refine hK.out _ _ hHeld (fun hHeld => ?_)
  clear hK
  refine wpAnyH_take (i := 19) (v := ?v78) rfl (by kernel_rfl) (by kernel_rfl) (by kernel_rfl) (fun _ _ _ h => h) (Or.inl ⟨by rfl, ?hy78⟩) hHeld ?rest78
  case hy78 => (intro wz hSw; (try dsimp only at hSw); go_simp; (try with_reducible rfl))
  (try simp only [Act.put, getElem_toArray, getElem_cons_succ, getElem_cons_zero]); (try simp only [setIfInBounds_toArray, set_cons_succ, set_cons_zero])
  refine wpAnyH_take (i := 20) (v := ?v79) rfl (by kernel_rfl) (by kernel_rfl) (by kernel_rfl) (fun _ _ _ h => h) (Or.inl ⟨by rfl, ?hy79⟩) hHeld ?rest79
  case hy79 => (intro wz hSw; (try dsimp only at hSw); go_simp; (try with_reducible rfl))
  (try simp only [Act.put, getElem_toArray, getElem_cons_succ, getElem_cons_zero]); (try simp only [setIfInBounds_toArray, set_cons_succ, set_cons_zero])
  refine wpAnyH_take (i := 21) (v := ?v80) rfl (by kernel_rfl) (by kernel_rfl) (by kernel_rfl) (fun _ _ _ h => h) (Or.inl ⟨by rfl, ?hy80⟩) hHeld ?rest80
  case hy80 => (intro wz hSw; (try dsimp only at hSw); go_simp; (try with_reducible rfl))
  (try simp only [Act.put, getElem_toArray, getElem_cons_succ, getElem_cons_zero]); (try simp only [setIfInBounds_toArray, set_cons_succ, set_cons_zero])
  refine wpAnyH_done (by kernel_rfl) ?_ _
  have X9 := Lib.hid (And.left hHeld)
  clear hHeld
  go_wp2
  go_ret
  exact ⟨rfl, E0.out.trans X9.out⟩
end Go.Proofs.Ytnikfalpjieibaa
