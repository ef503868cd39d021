/-
  Submodules: hasSubmodule, wrapSubmodule, IsSubmodule in the program.
-/
import Derived.Test.YtnikfalpjieibaaSbi
import Derived.Test.YtnikfalpjieibaaTk
import Derived.Test.YtnikfalpjieibaaSp
import Derived.Test.YtnikfalpjieibaaHsm
namespace Go.Proofs.Ytnikfalpjieibaa
open Go.ChangeShapes Go.WideShapes Go.ChangeAt Go.RowKit
open List (getElem_toArray getElem_cons_succ getElem_cons_zero setIfInBounds_toArray set_cons_succ set_cons_zero)
set_option linter.unusedVariables false
set_option linter.unusedSimpArgs false

/-- Whether the rows are a space of vectors that the matrices take into itself. -/
noncomputable def hsmB (P : Int) (S k : Nat) (ms : List Mat) (P2 R C : Int) (xs : List Int) : Bool := (mok P2 R C xs && ((P2 == P) && (C == (S : Int)))) && (spaceM P2 R C xs && inB2 P (k * R.toNat) R.toNat S (imA P S ms (R.toNat, xs) k) xs)
theorem hsm_parts {P : Int} {S : Nat} {P2 R C : Int} {xs : List Int} (h : (mok P2 R C xs && ((P2 == P) && (C == (S : Int)))) = true) : P2 = P ∧ C = S ∧ ∃ r : Nat, R = r ∧ r ≤ 40 ∧ mok P r S xs = true ∧ xs.length = r * S ∧ Res xs P := by
  simp only [Bool.and_eq_true, beq_iff_eq] at h
  obtain ⟨h1, rfl, rfl⟩ := h
  have hb := inB_iff.1 (mok_iff.1 h1).2.1
  obtain ⟨r, rfl⟩ := Int.eq_ofNat_of_zero_le hb.1
  have hl := mok_len h1
  rw [← Int.natCast_mul] at hl
  exact ⟨rfl, rfl, r, rfl, by omega, h1, by omega, mok_res h1⟩
set_option maxRecDepth 100000 in
set_option maxHeartbeats 6400000 in
theorem hasSubmodule_impl (P P2 R C : Int) (D S k g BM BL n1 s0 so : Nat) (v : Value) (ms : List Mat) (xs : List Int) (w : World) (hm : ModW w P D S k g BM BL v ms) (hX : Reads w (some ⟨s0, so, none⟩) n1 xs) (hx : n1 ≤ 1048576) :
    Calls Try.prog 119 #[.pointer (some ⟨BM, 0, none⟩), .agg #[.int .i64 P2, .int .i64 R, .int .i64 C, .slice (some ⟨s0, so, none⟩) n1 n1]] w fun e w' => e = .returned (.bool (hsmB P S k ms P2 R C xs)) ∧ Ext w w' := by
  have HM := Lib.hid hm
  have HX := Lib.hid hX
  have HV := Lib.hid (fun w1 (h : Ext w w1) => hasVectors_impl P P2 R C D S k g BM BL n1 n1 v (some ⟨s0, so, none⟩) ms xs w1 (hm.ext h) (hX.ext h) hx)
  have HSP := Lib.hid (fun w1 (h : Ext w w1) => spaceOk_impl (hX.ext h) hx (rfl : spaceM P2 R C xs = spaceM P2 R C xs))
  clear hm hX
  rcases h1 : (mok P2 R C xs && ((P2 == P) && (C == (S : Int)))) with _ | _
  · simp only [hsmB, h1, Bool.false_and]
    have H1 := Lib.hid h1
    clear h1
    have A0 := Lib.hid (cells_new w #[.int .i64 P2, .int .i64 R, .int .i64 C, .slice (some ⟨s0, so, none⟩) n1 n1] 37)
    have E0 := Lib.hid ((Ext.refl w).alloc (.cells #[.int .i64 P2, .int .i64 R, .int .i64 C, .slice (some ⟨s0, so, none⟩) n1 n1] 37))
    have lA := A0.out.1
    have q0 := A0.out.2 0 _ rfl
    have q1 := A0.out.2 1 _ rfl
    have q2 := A0.out.2 2 _ rfl
    have q3 := A0.out.2 3 _ rfl
    go_enter Try.func119, Try.ntmps119
    go_wp2_with fail
    generalize w.alloc (.cells #[.int .i64 P2, .int .i64 R, .int .i64 C, .slice (some ⟨s0, so, none⟩) n1 n1] 37) = W0 at *
    refine wp_region_held_drew (S := (fun w' => Ext W0 w' ∧ (∀ b o, b < W0.heap.size → w'.cell? ⟨b, o, none⟩ = W0.cell? ⟨b, o, none⟩))) (by kernel_rfl) (ext2 (Ext.refl W0).drew) (fun hHeld => ?_)
    refine wpAnyH_take (i := 0) (v := ?v75) rfl (by kernel_rfl) (by kernel_rfl) (by kernel_rfl) (fun _ _ _ h => h) (Or.inl ⟨by rfl, ?hy75⟩) hHeld ?rest75
    case hy75 => (intro wz hSw; (try dsimp only at hSw); go_simp; (try with_reducible rfl))
    (try simp only [Act.put, getElem_toArray, getElem_cons_succ, getElem_cons_zero]); (try simp only [setIfInBounds_toArray, set_cons_succ, set_cons_zero])
    refine wpAnyH_take (i := 1) (v := ?v76) rfl (by kernel_rfl) (by kernel_rfl) (by kernel_rfl) (fun _ _ _ h => h) (Or.inl ⟨by rfl, ?hy76⟩) hHeld ?rest76
    case hy76 => (intro wz hSw; (try dsimp only at hSw); go_simp; (try with_reducible rfl))
    (try simp only [Act.put, getElem_toArray, getElem_cons_succ, getElem_cons_zero]); (try simp only [setIfInBounds_toArray, set_cons_succ, set_cons_zero])
    refine wpAnyH_ready (rs := [2]) (by kernel_rfl) (by simp) ?_
    refine AllReadyH.cons rfl (fun K' hK => ?_) AllReadyH.nil
    go_simp
    refine (HV.out _ (E0.out.trans (And.left hHeld))).mono ?_
    rintro e w2 ⟨rfl, h2⟩
    rw [H1.out]
    have X2 := (And.left hHeld).trans h2
    dsimp only
    refine hK.out _ _ (ext2 X2) (fun hHeld => ?_)
    clear hK
    refine wpAnyH_take (i := 3) (v := ?v77) rfl (by kernel_rfl) (by kernel_rfl) (by kernel_rfl) (fun _ _ _ h => h) (Or.inl ⟨by rfl, ?hy77⟩) hHeld ?rest77
    case hy77 => (intro wz hSw; (try dsimp only at hSw); go_simp; (try with_reducible rfl))
    (try simp only [Act.put, getElem_toArray, getElem_cons_succ, getElem_cons_zero]); (try simp only [setIfInBounds_toArray, set_cons_succ, set_cons_zero])
    refine wpAnyH_take (i := 4) (v := undef) rfl (by kernel_rfl) (by kernel_rfl) (by kernel_rfl) (fun _ _ _ h => h) (Or.inr ⟨by rfl, rfl⟩) hHeld ?rest78
    (try simp only [Act.put, getElem_toArray, getElem_cons_succ, getElem_cons_zero]); (try simp only [setIfInBounds_toArray, set_cons_succ, set_cons_zero])
    refine wpAnyH_take (i := 5) (v := undef) rfl (by kernel_rfl) (by kernel_rfl) (by kernel_rfl) (fun _ _ _ h => h) (Or.inr ⟨by rfl, rfl⟩) hHeld ?rest79
    (try simp only [Act.put, getElem_toArray, getElem_cons_succ, getElem_cons_zero]); (try simp only [setIfInBounds_toArray, set_cons_succ, set_cons_zero])
    refine wpAnyH_take (i := 6) (v := ?v80) rfl (by kernel_rfl) (by kernel_rfl) (by kernel_rfl) (fun _ _ _ h => h) (Or.inl ⟨by rfl, ?hy80⟩) hHeld ?rest80
    case hy80 => (intro wz hSw; (try dsimp only at hSw); go_simp; (try with_reducible rfl))
    (try simp only [Act.put, getElem_toArray, getElem_cons_succ, getElem_cons_zero]); (try simp only [setIfInBounds_toArray, set_cons_succ, set_cons_zero])
    refine wpAnyH_take (i := 7) (v := ?v81) rfl (by kernel_rfl) (by kernel_rfl) (by kernel_rfl) (fun _ _ _ h => h) (Or.inl ⟨by rfl, ?hy81⟩) hHeld ?rest81
    case hy81 => (intro wz hSw; (try dsimp only at hSw); go_simp; (try with_reducible rfl))
    (try simp only [Act.put, getElem_toArray, getElem_cons_succ, getElem_cons_zero]); (try simp only [setIfInBounds_toArray, set_cons_succ, set_cons_zero])
    refine wpAnyH_take (i := 8) (v := undef) rfl (by kernel_rfl) (by kernel_rfl) (by kernel_rfl) (fun _ _ _ h => h) (Or.inr ⟨by rfl, rfl⟩) hHeld ?rest82
    (try simp only [Act.put, getElem_toArray, getElem_cons_succ, getElem_cons_zero]); (try simp only [setIfInBounds_toArray, set_cons_succ, set_cons_zero])
    refine wpAnyH_take (i := 9) (v := undef) rfl (by kernel_rfl) (by kernel_rfl) (by kernel_rfl) (fun _ _ _ h => h) (Or.inr ⟨by rfl, rfl⟩) hHeld ?rest83
    (try simp only [Act.put, getElem_toArray, getElem_cons_succ, getElem_cons_zero]); (try simp only [setIfInBounds_toArray, set_cons_succ, set_cons_zero])
    refine wpAnyH_take (i := 10) (v := undef) rfl (by kernel_rfl) (by kernel_rfl) (by kernel_rfl) (fun _ _ _ h => h) (Or.inr ⟨by rfl, rfl⟩) hHeld ?rest84
    (try simp only [Act.put, getElem_toArray, getElem_cons_succ, getElem_cons_zero]); (try simp only [setIfInBounds_toArray, set_cons_succ, set_cons_zero])
    refine wpAnyH_take (i := 11) (v := undef) rfl (by kernel_rfl) (by kernel_rfl) (by kernel_rfl) (fun _ _ _ h => h) (Or.inr ⟨by rfl, rfl⟩) hHeld ?rest85
    (try simp only [Act.put, getElem_toArray, getElem_cons_succ, getElem_cons_zero]); (try simp only [setIfInBounds_toArray, set_cons_succ, set_cons_zero])
    refine wpAnyH_take (i := 12) (v := undef) rfl (by kernel_rfl) (by kernel_rfl) (by kernel_rfl) (fun _ _ _ h => h) (Or.inr ⟨by rfl, rfl⟩) hHeld ?rest86
    (try simp only [Act.put, getElem_toArray, getElem_cons_succ, getElem_cons_zero]); (try simp only [setIfInBounds_toArray, set_cons_succ, set_cons_zero])
    refine wpAnyH_take (i := 13) (v := undef) rfl (by kernel_rfl) (by kernel_rfl) (by kernel_rfl) (fun _ _ _ h => h) (Or.inr ⟨by rfl, rfl⟩) hHeld ?rest87
    (try simp only [Act.put, getElem_toArray, getElem_cons_succ, getElem_cons_zero]); (try simp only [setIfInBounds_toArray, set_cons_succ, set_cons_zero])
    refine wpAnyH_take (i := 14) (v := undef) rfl (by kernel_rfl) (by kernel_rfl) (by kernel_rfl) (fun _ _ _ h => h) (Or.inr ⟨by rfl, rfl⟩) hHeld ?rest88
    (try simp only [Act.put, getElem_toArray, getElem_cons_succ, getElem_cons_zero]); (try simp only [setIfInBounds_toArray, set_cons_succ, set_cons_zero])
    refine wpAnyH_take (i := 15) (v := undef) rfl (by kernel_rfl) (by kernel_rfl) (by kernel_rfl) (fun _ _ _ h => h) (Or.inr ⟨by rfl, rfl⟩) hHeld ?rest89
    (try simp only [Act.put, getElem_toArray, getElem_cons_succ, getElem_cons_zero]); (try simp only [setIfInBounds_toArray, set_cons_succ, set_cons_zero])
    refine wpAnyH_take (i := 16) (v := ?v90) rfl (by kernel_rfl) (by kernel_rfl) (by kernel_rfl) (fun _ _ _ h => h) (Or.inl ⟨by rfl, ?hy90⟩) hHeld ?rest90
    case hy90 => (intro wz hSw; (try dsimp only at hSw); go_simp; (try with_reducible rfl))
    (try simp only [Act.put, getElem_toArray, getElem_cons_succ, getElem_cons_zero]); (try simp only [setIfInBounds_toArray, set_cons_succ, set_cons_zero])
    refine wpAnyH_take (i := 17) (v := ?v91) rfl (by kernel_rfl) (by kernel_rfl) (by kernel_rfl) (fun _ _ _ h => h) (Or.inl ⟨by rfl, ?hy91⟩) hHeld ?rest91
    case hy91 => (intro wz hSw; (try dsimp only at hSw); go_simp; (try with_reducible rfl))
    (try simp only [Act.put, getElem_toArray, getElem_cons_succ, getElem_cons_zero]); (try simp only [setIfInBounds_toArray, set_cons_succ, set_cons_zero])
    refine wpAnyH_done (by kernel_rfl) ?_ _
    have X9 := Lib.hid (And.left hHeld)
    clear hHeld
    go_wp2
    go_ret
    exact ⟨rfl, E0.out.trans X9.out⟩
  have H1 := Lib.hid h1
  rcases h2 : spaceM P2 R C xs with _ | _
  · simp only [hsmB, h1, h2, Bool.false_and, Bool.and_false]
    have H2 := Lib.hid h2
    clear h1 h2
    have A0 := Lib.hid (cells_new w #[.int .i64 P2, .int .i64 R, .int .i64 C, .slice (some ⟨s0, so, none⟩) n1 n1] 37)
    have E0 := Lib.hid ((Ext.refl w).alloc (.cells #[.int .i64 P2, .int .i64 R, .int .i64 C, .slice (some ⟨s0, so, none⟩) n1 n1] 37))
    have lA := A0.out.1
    have q0 := A0.out.2 0 _ rfl
    have q1 := A0.out.2 1 _ rfl
    have q2 := A0.out.2 2 _ rfl
    have q3 := A0.out.2 3 _ rfl
    go_enter Try.func119, Try.ntmps119
    go_wp2_with fail
    generalize w.alloc (.cells #[.int .i64 P2, .int .i64 R, .int .i64 C, .slice (some ⟨s0, so, none⟩) n1 n1] 37) = W0 at *
    refine wp_region_held_drew (S := (fun w' => Ext W0 w' ∧ (∀ b o, b < W0.heap.size → w'.cell? ⟨b, o, none⟩ = W0.cell? ⟨b, o, none⟩))) (by kernel_rfl) (ext2 (Ext.refl W0).drew) (fun hHeld => ?_)
    refine wpAnyH_take (i := 0) (v := ?v92) rfl (by kernel_rfl) (by kernel_rfl) (by kernel_rfl) (fun _ _ _ h => h) (Or.inl ⟨by rfl, ?hy92⟩) hHeld ?rest92
    case hy92 => (intro wz hSw; (try dsimp only at hSw); go_simp; (try with_reducible rfl))
    (try simp only [Act.put, getElem_toArray, getElem_cons_succ, getElem_cons_zero]); (try simp only [setIfInBounds_toArray, set_cons_succ, set_cons_zero])
    refine wpAnyH_take (i := 1) (v := ?v93) rfl (by kernel_rfl) (by kernel_rfl) (by kernel_rfl) (fun _ _ _ h => h) (Or.inl ⟨by rfl, ?hy93⟩) hHeld ?rest93
    case hy93 => (intro wz hSw; (try dsimp only at hSw); go_simp; (try with_reducible rfl))
    (try simp only [Act.put, getElem_toArray, getElem_cons_succ, getElem_cons_zero]); (try simp only [setIfInBounds_toArray, set_cons_succ, set_cons_zero])
    refine wpAnyH_ready (rs := [2]) (by kernel_rfl) (by simp) ?_
    refine AllReadyH.cons rfl (fun K' hK => ?_) AllReadyH.nil
    go_simp
    refine (HV.out _ (E0.out.trans (And.left hHeld))).mono ?_
    rintro e w2 ⟨rfl, h2⟩
    rw [H1.out]
    have X2 := (And.left hHeld).trans h2
    dsimp only
    refine hK.out _ _ (ext2 X2) (fun hHeld => ?_)
    clear hK
    refine wpAnyH_take (i := 3) (v := ?v94) rfl (by kernel_rfl) (by kernel_rfl) (by kernel_rfl) (fun _ _ _ h => h) (Or.inl ⟨by rfl, ?hy94⟩) hHeld ?rest94
    case hy94 => (intro wz hSw; (try dsimp only at hSw); go_simp; (try with_reducible rfl))
    (try simp only [Act.put, getElem_toArray, getElem_cons_succ, getElem_cons_zero]); (try simp only [setIfInBounds_toArray, set_cons_succ, set_cons_zero])
    refine wpAnyH_take (i := 4) (v := ?v95) rfl (by kernel_rfl) (by kernel_rfl) (by kernel_rfl) (fun _ _ _ h => h) (Or.inl ⟨by rfl, ?hy95⟩) hHeld ?rest95
    case hy95 => (intro wz hSw; (try dsimp only at hSw); go_simp; (try with_reducible rfl))
    (try simp only [Act.put, getElem_toArray, getElem_cons_succ, getElem_cons_zero]); (try simp only [setIfInBounds_toArray, set_cons_succ, set_cons_zero])
    refine wpAnyH_ready (rs := [5]) (by kernel_rfl) (by simp) ?_
    refine AllReadyH.cons rfl (fun K' hK => ?_) AllReadyH.nil
    go_simp
    refine (HSP.out _ (E0.out.trans (And.left hHeld))).mono ?_
    rintro e w3 ⟨rfl, h3⟩
    rw [H2.out]
    have X3 := (And.left hHeld).trans h3
    dsimp only
    refine hK.out _ _ (ext2 X3) (fun hHeld => ?_)
    clear hK
    refine wpAnyH_take (i := 6) (v := ?v96) rfl (by kernel_rfl) (by kernel_rfl) (by kernel_rfl) (fun _ _ _ h => h) (Or.inl ⟨by rfl, ?hy96⟩) hHeld ?rest96
    case hy96 => (intro wz hSw; (try dsimp only at hSw); go_simp; (try with_reducible rfl))
    (try simp only [Act.put, getElem_toArray, getElem_cons_succ, getElem_cons_zero]); (try simp only [setIfInBounds_toArray, set_cons_succ, set_cons_zero])
    refine wpAnyH_take (i := 7) (v := ?v97) rfl (by kernel_rfl) (by kernel_rfl) (by kernel_rfl) (fun _ _ _ h => h) (Or.inl ⟨by rfl, ?hy97⟩) hHeld ?rest97
    case hy97 => (intro wz hSw; (try dsimp only at hSw); go_simp; (try with_reducible rfl))
    (try simp only [Act.put, getElem_toArray, getElem_cons_succ, getElem_cons_zero]); (try simp only [setIfInBounds_toArray, set_cons_succ, set_cons_zero])
    refine wpAnyH_take (i := 8) (v := undef) rfl (by kernel_rfl) (by kernel_rfl) (by kernel_rfl) (fun _ _ _ h => h) (Or.inr ⟨by rfl, rfl⟩) hHeld ?rest98
    (try simp only [Act.put, getElem_toArray, getElem_cons_succ, getElem_cons_zero]); (try simp only [setIfInBounds_toArray, set_cons_succ, set_cons_zero])
    refine wpAnyH_take (i := 9) (v := undef) rfl (by kernel_rfl) (by kernel_rfl) (by kernel_rfl) (fun _ _ _ h => h) (Or.inr ⟨by rfl, rfl⟩) hHeld ?rest99
    (try simp only [Act.put, getElem_toArray, getElem_cons_succ, getElem_cons_zero]); (try simp only [setIfInBounds_toArray, set_cons_succ, set_cons_zero])
    refine wpAnyH_take (i := 10) (v := undef) rfl (by kernel_rfl) (by kernel_rfl) (by kernel_rfl) (fun _ _ _ h => h) (Or.inr ⟨by rfl, rfl⟩) hHeld ?rest100
    (try simp only [Act.put, getElem_toArray, getElem_cons_succ, getElem_cons_zero]); (try simp only [setIfInBounds_toArray, set_cons_succ, set_cons_zero])
    refine wpAnyH_take (i := 11) (v := undef) rfl (by kernel_rfl) (by kernel_rfl) (by kernel_rfl) (fun _ _ _ h => h) (Or.inr ⟨by rfl, rfl⟩) hHeld ?rest101
    (try simp only [Act.put, getElem_toArray, getElem_cons_succ, getElem_cons_zero]); (try simp only [setIfInBounds_toArray, set_cons_succ, set_cons_zero])
    refine wpAnyH_take (i := 12) (v := undef) rfl (by kernel_rfl) (by kernel_rfl) (by kernel_rfl) (fun _ _ _ h => h) (Or.inr ⟨by rfl, rfl⟩) hHeld ?rest102
    (try simp only [Act.put, getElem_toArray, getElem_cons_succ, getElem_cons_zero]); (try simp only [setIfInBounds_toArray, set_cons_succ, set_cons_zero])
    refine wpAnyH_take (i := 13) (v := undef) rfl (by kernel_rfl) (by kernel_rfl) (by kernel_rfl) (fun _ _ _ h => h) (Or.inr ⟨by rfl, rfl⟩) hHeld ?rest103
    (try simp only [Act.put, getElem_toArray, getElem_cons_succ, getElem_cons_zero]); (try simp only [setIfInBounds_toArray, set_cons_succ, set_cons_zero])
    refine wpAnyH_take (i := 14) (v := undef) rfl (by kernel_rfl) (by kernel_rfl) (by kernel_rfl) (fun _ _ _ h => h) (Or.inr ⟨by rfl, rfl⟩) hHeld ?rest104
    (try simp only [Act.put, getElem_toArray, getElem_cons_succ, getElem_cons_zero]); (try simp only [setIfInBounds_toArray, set_cons_succ, set_cons_zero])
    refine wpAnyH_take (i := 15) (v := undef) rfl (by kernel_rfl) (by kernel_rfl) (by kernel_rfl) (fun _ _ _ h => h) (Or.inr ⟨by rfl, rfl⟩) hHeld ?rest105
    (try simp only [Act.put, getElem_toArray, getElem_cons_succ, getElem_cons_zero]); (try simp only [setIfInBounds_toArray, set_cons_succ, set_cons_zero])
    refine wpAnyH_take (i := 16) (v := ?v106) rfl (by kernel_rfl) (by kernel_rfl) (by kernel_rfl) (fun _ _ _ h => h) (Or.inl ⟨by rfl, ?hy106⟩) hHeld ?rest106
    case hy106 => (intro wz hSw; (try dsimp only at hSw); go_simp; (try with_reducible rfl))
    (try simp only [Act.put, getElem_toArray, getElem_cons_succ, getElem_cons_zero]); (try simp only [setIfInBounds_toArray, set_cons_succ, set_cons_zero])
    refine wpAnyH_take (i := 17) (v := ?v107) rfl (by kernel_rfl) (by kernel_rfl) (by kernel_rfl) (fun _ _ _ h => h) (Or.inl ⟨by rfl, ?hy107⟩) hHeld ?rest107
    case hy107 => (intro wz hSw; (try dsimp only at hSw); go_simp; (try with_reducible rfl))
    (try simp only [Act.put, getElem_toArray, getElem_cons_succ, getElem_cons_zero]); (try simp only [setIfInBounds_toArray, set_cons_succ, set_cons_zero])
    refine wpAnyH_done (by kernel_rfl) ?_ _
    have X9 := Lib.hid (And.left hHeld)
    clear hHeld
    go_wp2
    go_ret
    exact ⟨rfl, E0.out.trans X9.out⟩
  have H2 := Lib.hid h2
  have hpa := hsm_parts h1
  obtain ⟨rfl, rfl, r, rfl, hr40, hmo, hxl, hxr⟩ := hpa
  obtain ⟨hpr, hss, hxs, hls, hk40, hC40⟩ := spaceM_parts h2
  simp only [hsmB, h1, h2, Bool.true_and, Int.toNat_natCast]
  obtain rfl : n1 = r * S := by rw [← HX.out.1, hxl]
  have hp := isP_lo hpr
  have hS := HM.out.ss
  have hkk : k ≤ 28 := by rw [HM.out.kd]; exact HM.out.dd
  have hkr : k * r ≤ 1120 := Nat.mul_le_mul hkk hr40
  have hkrs : k * r * S ≤ 33600 := Nat.mul_le_mul hkr hS
  have HF : Hid (inB2 P2 (k * r) r S (imA P2 S ms (r, xs) k) xs = decide (fzR (rmL P2 (k * r) S xs (imA P2 S ms (r, xs) k) (redM P2 r S xs).pv) < 0)) := (rm_in (isP_iff.1 hpr) hss hls hxs).symm
  have HIM := Lib.hid (fun w1 (h : Ext w w1) => images_impl P2 D S k g BM BL r s0 so (r * S) v ms xs w1 (HM.out.ext h) (HX.out.ext h) rfl hr40 hxr)
  have HRI := Lib.hid (fun w1 b (h : Ext w w1) (hh : Has w1 b (imA P2 S ms (r, xs) k)) => remainders_impl P2 (k * r) S r (k * r * S) (r * S) (k * r * S) s0 so (some ⟨b, 0, none⟩) (imA P2 S ms (r, xs) k) xs w1 (hh.reads (imA_length _ _)) rfl (by omega) (by omega) (HX.out.ext h) H2.out (imA_res (by omega) _ _))
  have hrl : (rmL P2 (k * r) S xs (imA P2 S ms (r, xs) k) (redM P2 r S xs).pv).length = k * r * S := rmL_length
  generalize rmL P2 (k * r) S xs (imA P2 S ms (r, xs) k) (redM P2 r S xs).pv = RM at HF HRI hrl
  generalize inB2 P2 (k * r) r S (imA P2 S ms (r, xs) k) xs = q at HF ⊢
  have HFZ := Lib.hid (fun w1 b (h : Has w1 b RM) => firstNonzero_impl (some ⟨b, 0, none⟩) (k * r * S) (k * r * S) RM w1 (h.reads hrl) (by unfold maxLen; omega))
  generalize fzR RM = z at HF HFZ
  have hfd := run_fieldM
  clear h1 h2 hrl hxs hls hss hpr hmo hxl hxr
  have A0 := Lib.hid (cells_new w #[.int .i64 P2, .int .i64 r, .int .i64 S, .slice (some ⟨s0, so, none⟩) (r * S) (r * S)] 37)
  have E0 := Lib.hid ((Ext.refl w).alloc (.cells #[.int .i64 P2, .int .i64 r, .int .i64 S, .slice (some ⟨s0, so, none⟩) (r * S) (r * S)] 37))
  have lA := A0.out.1
  have q0 := A0.out.2 0 _ rfl
  have q1 := A0.out.2 1 _ rfl
  have q2 := A0.out.2 2 _ rfl
  have q3 := A0.out.2 3 _ rfl
  go_enter Try.func119, Try.ntmps119
  go_wp2_with fail
  generalize w.alloc (.cells #[.int .i64 P2, .int .i64 r, .int .i64 S, .slice (some ⟨s0, so, none⟩) (r * S) (r * S)] 37) = W0 at *
  refine wp_region_held_drew (S := (fun w' => Ext W0 w' ∧ (∀ b o, b < W0.heap.size → w'.cell? ⟨b, o, none⟩ = W0.cell? ⟨b, o, none⟩))) (by kernel_rfl) (ext2 (Ext.refl W0).drew) (fun hHeld => ?_)
  refine wpAnyH_take (i := 0) (v := ?v108) rfl (by kernel_rfl) (by kernel_rfl) (by kernel_rfl) (fun _ _ _ h => h) (Or.inl ⟨by rfl, ?hy108⟩) hHeld ?rest108
  case hy108 => (intro wz hSw; (try dsimp only at hSw); go_simp; (try with_reducible rfl))
  (try simp only [Act.put, getElem_toArray, getElem_cons_succ, getElem_cons_zero]); (try simp only [setIfInBounds_toArray, set_cons_succ, set_cons_zero])
  refine wpAnyH_take (i := 1) (v := ?v109) rfl (by kernel_rfl) (by kernel_rfl) (by kernel_rfl) (fun _ _ _ h => h) (Or.inl ⟨by rfl, ?hy109⟩) hHeld ?rest109
  case hy109 => (intro wz hSw; (try dsimp only at hSw); go_simp; (try with_reducible rfl))
  (try simp only [Act.put, getElem_toArray, getElem_cons_succ, getElem_cons_zero]); (try simp only [setIfInBounds_toArray, set_cons_succ, set_cons_zero])
  refine wpAnyH_ready (rs := [2]) (by kernel_rfl) (by simp) ?_
  refine AllReadyH.cons rfl (fun K' hK => ?_) AllReadyH.nil
  go_simp
  refine (HV.out _ (E0.out.trans (And.left hHeld))).mono ?_
  rintro e w2 ⟨rfl, h2⟩
  rw [H1.out]
  have X2 := (And.left hHeld).trans h2
  dsimp only
  refine hK.out _ _ (ext2 X2) (fun hHeld => ?_)
  clear hK
  refine wpAnyH_take (i := 3) (v := ?v110) rfl (by kernel_rfl) (by kernel_rfl) (by kernel_rfl) (fun _ _ _ h => h) (Or.inl ⟨by rfl, ?hy110⟩) hHeld ?rest110
  case hy110 => (intro wz hSw; (try dsimp only at hSw); go_simp; (try with_reducible rfl))
  (try simp only [Act.put, getElem_toArray, getElem_cons_succ, getElem_cons_zero]); (try simp only [setIfInBounds_toArray, set_cons_succ, set_cons_zero])
  refine wpAnyH_take (i := 4) (v := ?v111) rfl (by kernel_rfl) (by kernel_rfl) (by kernel_rfl) (fun _ _ _ h => h) (Or.inl ⟨by rfl, ?hy111⟩) hHeld ?rest111
  case hy111 => (intro wz hSw; (try dsimp only at hSw); go_simp; (try with_reducible rfl))
  (try simp only [Act.put, getElem_toArray, getElem_cons_succ, getElem_cons_zero]); (try simp only [setIfInBounds_toArray, set_cons_succ, set_cons_zero])
  refine wpAnyH_ready (rs := [5]) (by kernel_rfl) (by simp) ?_
  refine AllReadyH.cons rfl (fun K' hK => ?_) AllReadyH.nil
  go_simp
  refine (HSP.out _ (E0.out.trans (And.left hHeld))).mono ?_
  rintro e w3 ⟨rfl, h3⟩
  rw [H2.out]
  have X3 := (And.left hHeld).trans h3
  dsimp only
  refine hK.out _ _ (ext2 X3) (fun hHeld => ?_)
  clear hK
  refine wpAnyH_take (i := 6) (v := ?v112) rfl (by kernel_rfl) (by kernel_rfl) (by kernel_rfl) (fun _ _ _ h => h) (Or.inl ⟨by rfl, ?hy112⟩) hHeld ?rest112
  case hy112 => (intro wz hSw; (try dsimp only at hSw); go_simp; (try with_reducible rfl))
  (try simp only [Act.put, getElem_toArray, getElem_cons_succ, getElem_cons_zero]); (try simp only [setIfInBounds_toArray, set_cons_succ, set_cons_zero])
  refine wpAnyH_take (i := 7) (v := ?v113) rfl (by kernel_rfl) (by kernel_rfl) (by kernel_rfl) (fun _ _ _ h => h) (Or.inl ⟨by rfl, ?hy113⟩) hHeld ?rest113
  case hy113 => (intro wz hSw; (try dsimp only at hSw); go_simp; (try with_reducible rfl))
  (try simp only [Act.put, getElem_toArray, getElem_cons_succ, getElem_cons_zero]); (try simp only [setIfInBounds_toArray, set_cons_succ, set_cons_zero])
  refine wpAnyH_take (i := 8) (v := ?v114) rfl (by kernel_rfl) (by kernel_rfl) (by kernel_rfl) (fun _ _ _ h => h) (Or.inl ⟨by rfl, ?hy114⟩) hHeld ?rest114
  case hy114 => (intro wz hSw; (try dsimp only at hSw); go_simp; (try with_reducible rfl))
  (try simp only [Act.put, getElem_toArray, getElem_cons_succ, getElem_cons_zero]); (try simp only [setIfInBounds_toArray, set_cons_succ, set_cons_zero])
  refine wpAnyH_take (i := 9) (v := ?v115) rfl (by kernel_rfl) (by kernel_rfl) (by kernel_rfl) (fun _ _ _ h => h) (Or.inl ⟨by rfl, ?hy115⟩) hHeld ?rest115
  case hy115 => (intro wz hSw; (try dsimp only at hSw); go_simp; (try with_reducible rfl))
  (try simp only [Act.put, getElem_toArray, getElem_cons_succ, getElem_cons_zero]); (try simp only [setIfInBounds_toArray, set_cons_succ, set_cons_zero])
  refine wpAnyH_take (i := 11) (v := ?v116) rfl (by kernel_rfl) (by kernel_rfl) (by kernel_rfl) (fun _ _ _ h => h) (Or.inl ⟨by rfl, ?hy116⟩) hHeld ?rest116
  case hy116 => (intro wz hSw; (try dsimp only at hSw); go_simp; (try with_reducible rfl))
  (try simp only [Act.put, getElem_toArray, getElem_cons_succ, getElem_cons_zero]); (try simp only [setIfInBounds_toArray, set_cons_succ, set_cons_zero])
  refine wpAnyH_ready (rs := [10]) (by kernel_rfl) (by simp) ?_
  refine AllReadyH.cons rfl (fun K' hK => ?_) AllReadyH.nil
  go_simp
  refine (HIM.out _ (E0.out.trans (And.left hHeld))).mono ?_
  rintro e w4 ⟨b4, rfl, hb4, hb4b, k4, h4⟩
  have X4 := (And.left hHeld).trans h4
  dsimp only
  refine hK.out _ _ (ext2 X4) (fun hHeld => ?_)
  clear hK
  refine wpAnyH_ready (rs := [12]) (by kernel_rfl) (by simp) ?_
  refine AllReadyH.cons rfl (fun K' hK => ?_) AllReadyH.nil
  go_simp
  refine (HRI.out _ b4 (E0.out.trans (And.left hHeld)) k4).mono ?_
  rintro e w5 ⟨b5, rfl, hb5, hb5b, k5, h5⟩
  have X5 := (And.left hHeld).trans h5
  dsimp only
  refine hK.out _ _ (ext2 X5) (fun hHeld => ?_)
  clear hK
  refine wpAnyH_take (i := 13) (v := ?v117) rfl (by kernel_rfl) (by kernel_rfl) (by kernel_rfl) (fun _ _ _ h => h) (Or.inl ⟨by rfl, ?hy117⟩) hHeld ?rest117
  case hy117 => (intro wz hSw; (try dsimp only at hSw); go_simp; (try with_reducible rfl))
  (try simp only [Act.put, getElem_toArray, getElem_cons_succ, getElem_cons_zero]); (try simp only [setIfInBounds_toArray, set_cons_succ, set_cons_zero])
  refine wpAnyH_ready (rs := [14]) (by kernel_rfl) (by simp) ?_
  refine AllReadyH.cons rfl (fun K' hK => ?_) AllReadyH.nil
  go_simp
  refine (HFZ.out _ b5 k5).mono ?_
  rintro e _ ⟨rfl, rfl⟩
  dsimp only
  refine hK.out _ _ hHeld (fun hHeld => ?_)
  clear hK
  refine wpAnyH_take (i := 15) (v := ?v118) rfl (by kernel_rfl) (by kernel_rfl) (by kernel_rfl) (fun _ _ _ h => h) (Or.inl ⟨by rfl, ?hy118⟩) hHeld ?rest118
  case hy118 => (intro wz hSw; (try dsimp only at hSw); go_simp; (try with_reducible rfl))
  (try simp only [Act.put, getElem_toArray, getElem_cons_succ, getElem_cons_zero]); (try simp only [setIfInBounds_toArray, set_cons_succ, set_cons_zero])
  refine wpAnyH_take (i := 16) (v := ?v119) rfl (by kernel_rfl) (by kernel_rfl) (by kernel_rfl) (fun _ _ _ h => h) (Or.inl ⟨by rfl, ?hy119⟩) hHeld ?rest119
  case hy119 => (intro wz hSw; (try dsimp only at hSw); go_simp; (try with_reducible rfl))
  (try simp only [Act.put, getElem_toArray, getElem_cons_succ, getElem_cons_zero]); (try simp only [setIfInBounds_toArray, set_cons_succ, set_cons_zero])
  refine wpAnyH_take (i := 17) (v := ?v120) rfl (by kernel_rfl) (by kernel_rfl) (by kernel_rfl) (fun _ _ _ h => h) (Or.inl ⟨by rfl, ?hy120⟩) hHeld ?rest120
  case hy120 => (intro wz hSw; (try dsimp only at hSw); go_simp; (try with_reducible rfl))
  (try simp only [Act.put, getElem_toArray, getElem_cons_succ, getElem_cons_zero]); (try simp only [setIfInBounds_toArray, set_cons_succ, set_cons_zero])
  refine wpAnyH_done (by kernel_rfl) ?_ _
  have X9 := Lib.hid (And.left hHeld)
  clear hHeld
  go_wp2
  go_ret
  exact ⟨ret_bool HF.out.symm, E0.out.trans X9.out⟩

/-- Whether m is a module of a, and s one of its submodules. -/
noncomputable def smoB (P D : Int) (l : List Int) (ms : List Mat) (P2 R C : Int) (xs : List Int) : Bool := modB P D l ms && hsmB P (szM ms) D.toNat ms P2 R C xs
/-- What wrapSubmodule hands on. -/
def SmPost (P D : Int) (a0 oa n g k : Nat) (l : List Int) (ms : List Mat) (P2 R C : Int) (xs : List Int) (w : World) (e : Ending) (w' : World) : Prop := (smoB P D l ms P2 R C xs = false ∧ (∃ v, e = .returned (.tuple #[v, .bool false])) ∧ Ext w w') ∨ (smoB P D l ms P2 R C xs = true ∧ ∃ (d S BM BL : Nat), D = d ∧ ModP P d S n l ms ∧ e = .returned (.tuple #[.pointer (some ⟨BM, 0, none⟩), .bool true]) ∧ ModW w' P d S k g BM BL (.slice (some ⟨a0, oa, none⟩) n n) ms ∧ w.heap.size ≤ BM ∧ Ext w w')
set_option maxRecDepth 100000 in
set_option maxHeartbeats 3200000 in
theorem wrapSubmodule_impl (P D P2 R C : Int) (a0 oa n g k s0 so n1 : Nat) (l : List Int) (ms : List Mat) (xs : List Int) (w : World) (hT : Reads w (some ⟨a0, oa, none⟩) n l) (hn : n ≤ 1048576) (hm : MatsI w g k ms) (hk : k ≤ 1048576) (hX : Reads w (some ⟨s0, so, none⟩) n1 xs) (hx : n1 ≤ 1048576) :
    Calls Try.prog 90 #[.agg #[.int .i64 P, .int .i64 D, .slice (some ⟨a0, oa, none⟩) n n], .slice (some ⟨g, 0, none⟩) k k, .agg #[.int .i64 P2, .int .i64 R, .int .i64 C, .slice (some ⟨s0, so, none⟩) n1 n1]] w (SmPost P D a0 oa n g k l ms P2 R C xs w) := by
  have A0 := Lib.hid ((cells_new w #[.int .i64 P, .int .i64 D, .slice (some ⟨a0, oa, none⟩) n n] 29).ext ((Ext.refl _).alloc (.cells #[.int .i64 P2, .int .i64 R, .int .i64 C, .slice (some ⟨s0, so, none⟩) n1 n1] 37)))
  have B0 := Lib.hid (cells_new' (w.alloc (.cells #[.int .i64 P, .int .i64 D, .slice (some ⟨a0, oa, none⟩) n n] 29)) #[.int .i64 P2, .int .i64 R, .int .i64 C, .slice (some ⟨s0, so, none⟩) n1 n1] 37 (w.heap.size + 1) (by simp))
  have E0 := Lib.hid (((Ext.refl w).alloc (.cells #[.int .i64 P, .int .i64 D, .slice (some ⟨a0, oa, none⟩) n n] 29)).alloc (.cells #[.int .i64 P2, .int .i64 R, .int .i64 C, .slice (some ⟨s0, so, none⟩) n1 n1] 37))
  have lA := A0.out.1
  have q0 := A0.out.2 0 _ rfl
  have q1 := A0.out.2 1 _ rfl
  have q2 := A0.out.2 2 _ rfl
  have lB := B0.out.1
  have x0 := B0.out.2 0 _ rfl
  have x1 := B0.out.2 1 _ rfl
  have x2 := B0.out.2 2 _ rfl
  have x3 := B0.out.2 3 _ rfl
  have HW := Lib.hid (wrapModule_impl P D a0 oa n g k l ms _ (hT.ext E0.out) hn (hm.ext E0.out) hk)
  have HX := Lib.hid (hX.ext E0.out)
  have HMM := Lib.hid (hm.ext E0.out)
  clear hT hm hX
  go_enter Try.func90, Try.ntmps90
  go_wp2_with fail
  refine HW.out.mono ?_
  rintro e w1 (⟨hf, ⟨v, rfl⟩, h1⟩ | ⟨hf, d', S, BM, BL, rfl, hP, rfl, hb, hbl, hlo, h1⟩)
  · have HF : Hid (smoB P D l ms P2 R C xs = false) := by rw [Hid, smoB, hf, Bool.false_and]
    clear lA q0 q1 q2 lB x0 x1 x2 x3 hf
    go_wp2
    go_ret2
    exact Or.inl ⟨HF.out, ⟨_, rfl⟩, E0.out.trans h1⟩
  · have HP := Lib.hid hP
    have HWM := Lib.hid (hP.toW hb hbl (HMM.out.ext h1))
    have HKD : Hid (k = d') := by rw [Hid, ← hm_len HMM.out, hP.cnt]
    have HH : Hid (smoB P d' l ms P2 R C xs = hsmB P S k ms P2 R C xs) := by rw [Hid, smoB, hf, Bool.true_and, hP.szM, Int.toNat_natCast, ← HKD.out]
    have HS := Lib.hid (hasSubmodule_impl P P2 R C d' S k g BM BL n1 s0 so _ ms xs w1 HWM.out (HX.out.ext h1) hx)
    have E1 := Lib.hid (E0.out.trans h1)
    have HLO : Hid (w.heap.size ≤ BM) := by have := E0.out.le; show _ ≤ _; omega
    have B1 := Lib.hid (B0.out.ext h1)
    clear lA q0 q1 q2 lB x0 x1 x2 x3 hf hP hb hbl hlo h1
    have lB := B1.out.1
    have x0 := B1.out.2 0 _ rfl
    have x1 := B1.out.2 1 _ rfl
    have x2 := B1.out.2 2 _ rfl
    have x3 := B1.out.2 3 _ rfl
    rcases hq : hsmB P S k ms P2 R C xs with _ | _
    all_goals
      rw [hq] at HH HS
      clear hq
      go_wp2_with fail
      refine HS.out.mono ?_
      rintro e w2 ⟨rfl, h2⟩
      have E2 := Lib.hid (E1.out.trans h2)
      have HW2 := Lib.hid (HWM.out.ext h2)
      clear lB x0 x1 x2 x3 h2
      go_wp2
      go_ret2
      first
        | exact Or.inl ⟨HH.out, ⟨_, rfl⟩, E2.out⟩
        | exact Or.inr ⟨HH.out, d', S, BM, BL, rfl, HP.out, rfl, HW2.out, HLO.out, E2.out⟩

set_option maxRecDepth 100000 in
set_option maxHeartbeats 3200000 in
theorem isSubmodule_impl {P D P2 R C : Int} {a0 oa n g k s0 so n1 : Nat} {l : List Int} {ms : List Mat} {xs : List Int} {w : World} {q : Bool} (hT : Reads w (some ⟨a0, oa, none⟩) n l) (hn : n ≤ 1048576) (hm : MatsI w g k ms) (hk : k ≤ 1048576) (hX : Reads w (some ⟨s0, so, none⟩) n1 xs) (hx : n1 ≤ 1048576) (hM : smoB P D l ms P2 R C xs = q) :
    Calls Try.prog 46 #[.agg #[.int .i64 P, .int .i64 D, .slice (some ⟨a0, oa, none⟩) n n], .slice (some ⟨g, 0, none⟩) k k, .agg #[.int .i64 P2, .int .i64 R, .int .i64 C, .slice (some ⟨s0, so, none⟩) n1 n1]] w fun e w' => e = .returned (.bool q) ∧ Ext w w' := by
  have A0 := Lib.hid ((cells_new w #[.int .i64 P, .int .i64 D, .slice (some ⟨a0, oa, none⟩) n n] 29).ext ((Ext.refl _).alloc (.cells #[.int .i64 P2, .int .i64 R, .int .i64 C, .slice (some ⟨s0, so, none⟩) n1 n1] 37)))
  have B0 := Lib.hid (cells_new' (w.alloc (.cells #[.int .i64 P, .int .i64 D, .slice (some ⟨a0, oa, none⟩) n n] 29)) #[.int .i64 P2, .int .i64 R, .int .i64 C, .slice (some ⟨s0, so, none⟩) n1 n1] 37 (w.heap.size + 1) (by simp))
  have E0 := Lib.hid (((Ext.refl w).alloc (.cells #[.int .i64 P, .int .i64 D, .slice (some ⟨a0, oa, none⟩) n n] 29)).alloc (.cells #[.int .i64 P2, .int .i64 R, .int .i64 C, .slice (some ⟨s0, so, none⟩) n1 n1] 37))
  have lA := A0.out.1
  have q0 := A0.out.2 0 _ rfl
  have q1 := A0.out.2 1 _ rfl
  have q2 := A0.out.2 2 _ rfl
  have lB := B0.out.1
  have x0 := B0.out.2 0 _ rfl
  have x1 := B0.out.2 1 _ rfl
  have x2 := B0.out.2 2 _ rfl
  have x3 := B0.out.2 3 _ rfl
  have HW := Lib.hid (wrapSubmodule_impl P D P2 R C a0 oa n g k s0 so n1 l ms xs _ (hT.ext E0.out) hn (hm.ext E0.out) hk (hX.ext E0.out) hx)
  have HMQ := Lib.hid hM
  clear hT hm hX hM
  go_enter Try.func46, Try.ntmps46
  go_wp2_with fail
  refine HW.out.mono ?_
  rintro e w1 (⟨hf, ⟨v, rfl⟩, h1⟩ | ⟨hf, d', S, BM, BL, _, _, rfl, _, _, h1⟩)
  all_goals
    have HF := Lib.hid (HMQ.out.symm.trans hf)
    clear lA q0 q1 q2 lB x0 x1 x2 x3 hf
    go_wp2
    go_ret
    exact ⟨ret_bool HF.out.symm, E0.out.trans h1⟩
end Go.Proofs.Ytnikfalpjieibaa
