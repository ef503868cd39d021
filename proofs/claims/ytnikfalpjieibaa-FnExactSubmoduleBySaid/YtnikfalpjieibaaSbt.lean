/-
  Submodules: SubmoduleBy by the specification.
-/
import Derived.Test.YtnikfalpjieibaaSbk
import Derived.Test.YtnikfalpjieibaaSbs0
import Derived.Test.YtnikfalpjieibaaMs2
import Derived.Test.YtnikfalpjieibaaR1
namespace Go.Proofs.Ytnikfalpjieibaa
open Go.ChangeShapes Go.WideShapes Go.ChangeAt Go.RowKit
open List (getElem_toArray getElem_cons_succ getElem_cons_zero setIfInBounds_toArray set_cons_succ set_cons_zero)
set_option linter.unusedVariables false
set_option linter.unusedSimpArgs false

set_option maxRecDepth 100000 in
set_option maxHeartbeats 6400000 in
theorem submoduleBy_spec {P D P2 R C : Int} {a0 oa n g k s0 so n1 : Nat} {l : List Int} {ms : List Mat} {xs : List Int} {w : World} {p r' q : Int} {d : List Int} {ok : Bool} (hT : Reads w (some ⟨a0, oa, none⟩) n l) (hm0 : n ≤ 1048576) (hm : MatsI w g k ms) (hk : k ≤ 1048576) (hX : Reads w (some ⟨s0, so, none⟩) n1 xs) (hx : n1 ≤ 1048576) (hM : smbM P D l ms P2 R C xs = (⟨p, r', q, d⟩, ok)) :
    Calls Try.prog 42 #[.agg #[.int .i64 P, .int .i64 D, .slice (some ⟨a0, oa, none⟩) n n], .slice (some ⟨g, 0, none⟩) k k, .agg #[.int .i64 P2, .int .i64 R, .int .i64 C, .slice (some ⟨s0, so, none⟩) n1 n1]] w fun e w' => ∃ v, e = .returned (.tuple #[v, .bool ok]) ∧ Rmat w w' v p r' q d ∧ Ext w w' := by
  have HT := Lib.hid hT
  have HMM := Lib.hid hm
  have HX := Lib.hid hX
  clear hT hm hX
  have HIS := Lib.hid (fun w1 (h : Ext w w1) => isModule_spec (HT.out.ext h) hm0 (HMM.out.ext h) hk (rfl : modB P D l ms = modB P D l ms))
  have HMO := Lib.hid (fun w1 (h : Ext w w1) => matrixOk_spec P2 R C (some ⟨s0, so, none⟩) n1 n1 xs w1 (HX.out.ext h) (by unfold maxLen; omega))
  rcases h0 : modB P D l ms with _ | _
  · have H0 := Lib.hid h0
    simp only [smbM, h0, noMat, Bool.false_and, Bool.and_false, Bool.false_eq_true, if_false, Prod.mk.injEq, Mat.mk.injEq] at hM
    obtain ⟨⟨rfl, rfl, rfl, rfl⟩, rfl⟩ := hM
    clear h0
    go_enter Try.func42, Try.ntmps42
    have A0_1 := Lib.hid (((cells_new' w #[.int .i64 P, .int .i64 D, .slice (some ⟨a0, oa, none⟩) n n] 29 (w.heap.size) (by simp)).ext ((Ext.refl _).alloc (.cells #[.int .i64 P2, .int .i64 R, .int .i64 C, .slice (some ⟨s0, so, none⟩) n1 n1] 37))).ext ((Ext.refl _).alloc (.cells #[.int .i64 0, .int .i64 0, .int .i64 0, .slice none 0 0] 37)))
    have A1_2 := Lib.hid ((cells_new' (w.alloc (.cells #[.int .i64 P, .int .i64 D, .slice (some ⟨a0, oa, none⟩) n n] 29)) #[.int .i64 P2, .int .i64 R, .int .i64 C, .slice (some ⟨s0, so, none⟩) n1 n1] 37 (w.heap.size + 1) (by simp)).ext ((Ext.refl _).alloc (.cells #[.int .i64 0, .int .i64 0, .int .i64 0, .slice none 0 0] 37)))
    have R_3 := Lib.hid (cells_new' ((w.alloc (.cells #[.int .i64 P, .int .i64 D, .slice (some ⟨a0, oa, none⟩) n n] 29)).alloc (.cells #[.int .i64 P2, .int .i64 R, .int .i64 C, .slice (some ⟨s0, so, none⟩) n1 n1] 37)) #[.int .i64 0, .int .i64 0, .int .i64 0, .slice none 0 0] 37 (w.heap.size + 1 + 1) (by simp))
    have E_4 := Lib.hid ((((Ext.refl w).alloc (.cells #[.int .i64 P, .int .i64 D, .slice (some ⟨a0, oa, none⟩) n n] 29)).alloc (.cells #[.int .i64 P2, .int .i64 R, .int .i64 C, .slice (some ⟨s0, so, none⟩) n1 n1] 37)).alloc (.cells #[.int .i64 0, .int .i64 0, .int .i64 0, .slice none 0 0] 37))
    go_wp2_with fail
    generalize (((w.alloc (.cells #[.int .i64 P, .int .i64 D, .slice (some ⟨a0, oa, none⟩) n n] 29)).alloc (.cells #[.int .i64 P2, .int .i64 R, .int .i64 C, .slice (some ⟨s0, so, none⟩) n1 n1] 37)).alloc (.cells #[.int .i64 0, .int .i64 0, .int .i64 0, .slice none 0 0] 37)) = W0 at *
    have lA0 := A0_1.out.1
    have qA00 := A0_1.out.2 0 _ rfl
    have qA01 := A0_1.out.2 1 _ rfl
    have qA02 := A0_1.out.2 2 _ rfl
    have lA1 := A1_2.out.1
    have qA10 := A1_2.out.2 0 _ rfl
    have qA11 := A1_2.out.2 1 _ rfl
    have qA12 := A1_2.out.2 2 _ rfl
    have qA13 := A1_2.out.2 3 _ rfl
    try simp only [World.size_alloc] at lA0 lA1
    refine wp_region_held_drew (S := (fun w' => Ext W0 w' ∧ (∀ b o, b < W0.heap.size → w'.cell? ⟨b, o, none⟩ = W0.cell? ⟨b, o, none⟩))) (by kernel_rfl) (ext2 (Ext.refl W0).drew) (fun hHeld => ?_)
    refine wpAnyH_take (i := 0) (v := ?v1) rfl (by kernel_rfl) (by kernel_rfl) (by kernel_rfl) (fun _ _ _ h => h) (Or.inl ⟨by rfl, ?hy1⟩) hHeld ?rest1
    case hy1 => (intro wz hSw; (try dsimp only at hSw); go_simp; (try with_reducible rfl))
    (try simp only [Act.put, getElem_toArray, getElem_cons_succ, getElem_cons_zero]); (try simp only [setIfInBounds_toArray, set_cons_succ, set_cons_zero])
    refine wpAnyH_take (i := 1) (v := ?v2) rfl (by kernel_rfl) (by kernel_rfl) (by kernel_rfl) (fun _ _ _ h => h) (Or.inl ⟨by rfl, ?hy2⟩) hHeld ?rest2
    case hy2 => (intro wz hSw; (try dsimp only at hSw); go_simp; (try with_reducible rfl))
    (try simp only [Act.put, getElem_toArray, getElem_cons_succ, getElem_cons_zero]); (try simp only [setIfInBounds_toArray, set_cons_succ, set_cons_zero])
    refine wpAnyH_ready (rs := [2]) (by kernel_rfl) (by simp) ?_
    refine AllReadyH.cons rfl (fun K' hK => ?_) AllReadyH.nil
    go_simp
    refine (HIS.out _ (E_4.out.trans (And.left hHeld))).mono ?_
    rintro e w2 ⟨rfl, h2⟩
    rw [H0.out]
    have X2 := (And.left hHeld).trans h2
    dsimp only
    refine hK.out _ _ (ext2 X2) (fun hHeld => ?_)
    clear hK
    refine wpAnyH_take (i := 3) (v := ?v3) rfl (by kernel_rfl) (by kernel_rfl) (by kernel_rfl) (fun _ _ _ h => h) (Or.inl ⟨by rfl, ?hy3⟩) hHeld ?rest3
    case hy3 => (intro wz hSw; (try dsimp only at hSw); go_simp; (try with_reducible rfl))
    (try simp only [Act.put, getElem_toArray, getElem_cons_succ, getElem_cons_zero]); (try simp only [setIfInBounds_toArray, set_cons_succ, set_cons_zero])
    refine wpAnyH_take (i := 4) (v := ?v4) rfl (by kernel_rfl) (by kernel_rfl) (by kernel_rfl) (fun _ _ _ h => h) (Or.inl ⟨by rfl, ?hy4⟩) hHeld ?rest4
    case hy4 => (intro wz hSw; (try dsimp only at hSw); go_simp; (try with_reducible rfl))
    (try simp only [Act.put, getElem_toArray, getElem_cons_succ, getElem_cons_zero]); (try simp only [setIfInBounds_toArray, set_cons_succ, set_cons_zero])
    refine wpAnyH_take (i := 5) (v := undef) rfl (by kernel_rfl) (by kernel_rfl) (by kernel_rfl) (fun _ _ _ h => h) (Or.inr ⟨by rfl, rfl⟩) hHeld ?rest5
    (try simp only [Act.put, getElem_toArray, getElem_cons_succ, getElem_cons_zero]); (try simp only [setIfInBounds_toArray, set_cons_succ, set_cons_zero])
    refine wpAnyH_take (i := 6) (v := undef) rfl (by kernel_rfl) (by kernel_rfl) (by kernel_rfl) (fun _ _ _ h => h) (Or.inr ⟨by rfl, rfl⟩) hHeld ?rest6
    (try simp only [Act.put, getElem_toArray, getElem_cons_succ, getElem_cons_zero]); (try simp only [setIfInBounds_toArray, set_cons_succ, set_cons_zero])
    refine wpAnyH_take (i := 7) (v := undef) rfl (by kernel_rfl) (by kernel_rfl) (by kernel_rfl) (fun _ _ _ h => h) (Or.inr ⟨by rfl, rfl⟩) hHeld ?rest7
    (try simp only [Act.put, getElem_toArray, getElem_cons_succ, getElem_cons_zero]); (try simp only [setIfInBounds_toArray, set_cons_succ, set_cons_zero])
    refine wpAnyH_take (i := 8) (v := ?v8) rfl (by kernel_rfl) (by kernel_rfl) (by kernel_rfl) (fun _ _ _ h => h) (Or.inl ⟨by rfl, ?hy8⟩) hHeld ?rest8
    case hy8 => (intro wz hSw; (try dsimp only at hSw); go_simp; (try with_reducible rfl))
    (try simp only [Act.put, getElem_toArray, getElem_cons_succ, getElem_cons_zero]); (try simp only [setIfInBounds_toArray, set_cons_succ, set_cons_zero])
    refine wpAnyH_take (i := 9) (v := ?v9) rfl (by kernel_rfl) (by kernel_rfl) (by kernel_rfl) (fun _ _ _ h => h) (Or.inl ⟨by rfl, ?hy9⟩) hHeld ?rest9
    case hy9 => (intro wz hSw; (try dsimp only at hSw); go_simp; (try with_reducible rfl))
    (try simp only [Act.put, getElem_toArray, getElem_cons_succ, getElem_cons_zero]); (try simp only [setIfInBounds_toArray, set_cons_succ, set_cons_zero])
    refine wpAnyH_take (i := 10) (v := undef) rfl (by kernel_rfl) (by kernel_rfl) (by kernel_rfl) (fun _ _ _ h => h) (Or.inr ⟨by rfl, rfl⟩) hHeld ?rest10
    (try simp only [Act.put, getElem_toArray, getElem_cons_succ, getElem_cons_zero]); (try simp only [setIfInBounds_toArray, set_cons_succ, set_cons_zero])
    refine wpAnyH_take (i := 11) (v := undef) rfl (by kernel_rfl) (by kernel_rfl) (by kernel_rfl) (fun _ _ _ h => h) (Or.inr ⟨by rfl, rfl⟩) hHeld ?rest11
    (try simp only [Act.put, getElem_toArray, getElem_cons_succ, getElem_cons_zero]); (try simp only [setIfInBounds_toArray, set_cons_succ, set_cons_zero])
    refine wpAnyH_take (i := 12) (v := undef) rfl (by kernel_rfl) (by kernel_rfl) (by kernel_rfl) (fun _ _ _ h => h) (Or.inr ⟨by rfl, rfl⟩) hHeld ?rest12
    (try simp only [Act.put, getElem_toArray, getElem_cons_succ, getElem_cons_zero]); (try simp only [setIfInBounds_toArray, set_cons_succ, set_cons_zero])
    refine wpAnyH_take (i := 13) (v := undef) rfl (by kernel_rfl) (by kernel_rfl) (by kernel_rfl) (fun _ _ _ h => h) (Or.inr ⟨by rfl, rfl⟩) hHeld ?rest13
    (try simp only [Act.put, getElem_toArray, getElem_cons_succ, getElem_cons_zero]); (try simp only [setIfInBounds_toArray, set_cons_succ, set_cons_zero])
    refine wpAnyH_take (i := 14) (v := undef) rfl (by kernel_rfl) (by kernel_rfl) (by kernel_rfl) (fun _ _ _ h => h) (Or.inr ⟨by rfl, rfl⟩) hHeld ?rest14
    (try simp only [Act.put, getElem_toArray, getElem_cons_succ, getElem_cons_zero]); (try simp only [setIfInBounds_toArray, set_cons_succ, set_cons_zero])
    refine wpAnyH_take (i := 15) (v := ?v15) rfl (by kernel_rfl) (by kernel_rfl) (by kernel_rfl) (fun _ _ _ h => h) (Or.inl ⟨by rfl, ?hy15⟩) hHeld ?rest15
    case hy15 => (intro wz hSw; (try dsimp only at hSw); go_simp; (try with_reducible rfl))
    (try simp only [Act.put, getElem_toArray, getElem_cons_succ, getElem_cons_zero]); (try simp only [setIfInBounds_toArray, set_cons_succ, set_cons_zero])
    refine wpAnyH_take (i := 16) (v := ?v16) rfl (by kernel_rfl) (by kernel_rfl) (by kernel_rfl) (fun _ _ _ h => h) (Or.inl ⟨by rfl, ?hy16⟩) hHeld ?rest16
    case hy16 => (intro wz hSw; (try dsimp only at hSw); go_simp; (try with_reducible rfl))
    (try simp only [Act.put, getElem_toArray, getElem_cons_succ, getElem_cons_zero]); (try simp only [setIfInBounds_toArray, set_cons_succ, set_cons_zero])
    refine wpAnyH_take (i := 17) (v := undef) rfl (by kernel_rfl) (by kernel_rfl) (by kernel_rfl) (fun _ _ _ h => h) (Or.inr ⟨by rfl, rfl⟩) hHeld ?rest17
    (try simp only [Act.put, getElem_toArray, getElem_cons_succ, getElem_cons_zero]); (try simp only [setIfInBounds_toArray, set_cons_succ, set_cons_zero])
    refine wpAnyH_take (i := 18) (v := undef) rfl (by kernel_rfl) (by kernel_rfl) (by kernel_rfl) (fun _ _ _ h => h) (Or.inr ⟨by rfl, rfl⟩) hHeld ?rest18
    (try simp only [Act.put, getElem_toArray, getElem_cons_succ, getElem_cons_zero]); (try simp only [setIfInBounds_toArray, set_cons_succ, set_cons_zero])
    refine wpAnyH_take (i := 19) (v := undef) rfl (by kernel_rfl) (by kernel_rfl) (by kernel_rfl) (fun _ _ _ h => h) (Or.inr ⟨by rfl, rfl⟩) hHeld ?rest19
    (try simp only [Act.put, getElem_toArray, getElem_cons_succ, getElem_cons_zero]); (try simp only [setIfInBounds_toArray, set_cons_succ, set_cons_zero])
    refine wpAnyH_take (i := 20) (v := undef) rfl (by kernel_rfl) (by kernel_rfl) (by kernel_rfl) (fun _ _ _ h => h) (Or.inr ⟨by rfl, rfl⟩) hHeld ?rest20
    (try simp only [Act.put, getElem_toArray, getElem_cons_succ, getElem_cons_zero]); (try simp only [setIfInBounds_toArray, set_cons_succ, set_cons_zero])
    refine wpAnyH_take (i := 21) (v := undef) rfl (by kernel_rfl) (by kernel_rfl) (by kernel_rfl) (fun _ _ _ h => h) (Or.inr ⟨by rfl, rfl⟩) hHeld ?rest21
    (try simp only [Act.put, getElem_toArray, getElem_cons_succ, getElem_cons_zero]); (try simp only [setIfInBounds_toArray, set_cons_succ, set_cons_zero])
    refine wpAnyH_take (i := 22) (v := ?v22) rfl (by kernel_rfl) (by kernel_rfl) (by kernel_rfl) (fun _ _ _ h => h) (Or.inl ⟨by rfl, ?hy22⟩) hHeld ?rest22
    case hy22 => (intro wz hSw; (try dsimp only at hSw); go_simp; (try with_reducible rfl))
    (try simp only [Act.put, getElem_toArray, getElem_cons_succ, getElem_cons_zero]); (try simp only [setIfInBounds_toArray, set_cons_succ, set_cons_zero])
    refine wpAnyH_done (by kernel_rfl) ?_ _
    have X9 := (And.left hHeld)
    clear hHeld
    clear lA0 qA00 qA01 qA02 lA1 qA10 qA11 qA12 qA13
    have A0_5 := Lib.hid (A0_1.out.ext X9)
    clear A0_1
    have A1_6 := Lib.hid (A1_2.out.ext X9)
    clear A1_2
    have R_7 := Lib.hid (R_3.out.ext X9)
    clear R_3
    have E_8 := Lib.hid (E_4.out.trans X9)
    clear E_4
    have lR := R_7.out.1
    have qR0 := R_7.out.2 0 _ rfl
    have qR1 := R_7.out.2 1 _ rfl
    have qR2 := R_7.out.2 2 _ rfl
    have qR3 := R_7.out.2 3 _ rfl
    have tR := R_7.out.3
    try simp only [World.size_alloc] at lR
    go_wp2
    refine bodyPost_ret (v := .tuple #[.agg #[.int .i64 0, .int .i64 0, .int .i64 0, .slice none 0 0], .bool false]) (by simp [results, Try.results42, go_sem, qR0, qR1, qR2, qR3]) rfl ⟨_, rfl, ⟨_, _, _, rfl, own_nil _ _ _, by omega⟩, ext4 E_8.out (by omega) _ _ _ _⟩
  have H0 := Lib.hid h0
  obtain ⟨d', S, rfl, _, hP⟩ := mod_parts h0 HT.out.1
  obtain rfl : k = d' := by rw [← hm_len HMM.out, hP.cnt]
  have hk0 : 0 < k := hP.pos
  have HS0 : Hid ((mt ms 0).r = S) := by rw [Hid, hP.at_ 0 hP.pos]
  have HVB : Hid (hvB P ms P2 R C xs = (mok P2 R C xs && ((P2 == P) && (C == (S : Int))))) := by rw [Hid, hvB, hP.szM]
  rcases h1 : mok P2 R C xs with _ | _
  · have H1 := Lib.hid h1
    have hv : hvB P ms P2 R C xs = false := by rw [HVB.out, h1, Bool.false_and]
    simp only [smbM, h0, hv, noMat, Bool.false_and, Bool.and_false, Bool.false_eq_true, if_false, Prod.mk.injEq, Mat.mk.injEq] at hM
    obtain ⟨⟨rfl, rfl, rfl, rfl⟩, rfl⟩ := hM
    clear h0 h1 hv hP HVB
    go_enter Try.func42, Try.ntmps42
    have A0_1 := Lib.hid (((cells_new' w #[.int .i64 P, .int .i64 k, .slice (some ⟨a0, oa, none⟩) n n] 29 (w.heap.size) (by simp)).ext ((Ext.refl _).alloc (.cells #[.int .i64 P2, .int .i64 R, .int .i64 C, .slice (some ⟨s0, so, none⟩) n1 n1] 37))).ext ((Ext.refl _).alloc (.cells #[.int .i64 0, .int .i64 0, .int .i64 0, .slice none 0 0] 37)))
    have A1_2 := Lib.hid ((cells_new' (w.alloc (.cells #[.int .i64 P, .int .i64 k, .slice (some ⟨a0, oa, none⟩) n n] 29)) #[.int .i64 P2, .int .i64 R, .int .i64 C, .slice (some ⟨s0, so, none⟩) n1 n1] 37 (w.heap.size + 1) (by simp)).ext ((Ext.refl _).alloc (.cells #[.int .i64 0, .int .i64 0, .int .i64 0, .slice none 0 0] 37)))
    have R_3 := Lib.hid (cells_new' ((w.alloc (.cells #[.int .i64 P, .int .i64 k, .slice (some ⟨a0, oa, none⟩) n n] 29)).alloc (.cells #[.int .i64 P2, .int .i64 R, .int .i64 C, .slice (some ⟨s0, so, none⟩) n1 n1] 37)) #[.int .i64 0, .int .i64 0, .int .i64 0, .slice none 0 0] 37 (w.heap.size + 1 + 1) (by simp))
    have E_4 := Lib.hid ((((Ext.refl w).alloc (.cells #[.int .i64 P, .int .i64 k, .slice (some ⟨a0, oa, none⟩) n n] 29)).alloc (.cells #[.int .i64 P2, .int .i64 R, .int .i64 C, .slice (some ⟨s0, so, none⟩) n1 n1] 37)).alloc (.cells #[.int .i64 0, .int .i64 0, .int .i64 0, .slice none 0 0] 37))
    go_wp2_with fail
    generalize (((w.alloc (.cells #[.int .i64 P, .int .i64 k, .slice (some ⟨a0, oa, none⟩) n n] 29)).alloc (.cells #[.int .i64 P2, .int .i64 R, .int .i64 C, .slice (some ⟨s0, so, none⟩) n1 n1] 37)).alloc (.cells #[.int .i64 0, .int .i64 0, .int .i64 0, .slice none 0 0] 37)) = W0 at *
    have lA0 := A0_1.out.1
    have qA00 := A0_1.out.2 0 _ rfl
    have qA01 := A0_1.out.2 1 _ rfl
    have qA02 := A0_1.out.2 2 _ rfl
    have lA1 := A1_2.out.1
    have qA10 := A1_2.out.2 0 _ rfl
    have qA11 := A1_2.out.2 1 _ rfl
    have qA12 := A1_2.out.2 2 _ rfl
    have qA13 := A1_2.out.2 3 _ rfl
    try simp only [World.size_alloc] at lA0 lA1
    refine wp_region_held_drew (S := (fun w' => Ext W0 w' ∧ (∀ b o, b < W0.heap.size → w'.cell? ⟨b, o, none⟩ = W0.cell? ⟨b, o, none⟩))) (by kernel_rfl) (ext2 (Ext.refl W0).drew) (fun hHeld => ?_)
    refine wpAnyH_take (i := 0) (v := ?v23) rfl (by kernel_rfl) (by kernel_rfl) (by kernel_rfl) (fun _ _ _ h => h) (Or.inl ⟨by rfl, ?hy23⟩) hHeld ?rest23
    case hy23 => (intro wz hSw; (try dsimp only at hSw); go_simp; (try with_reducible rfl))
    (try simp only [Act.put, getElem_toArray, getElem_cons_succ, getElem_cons_zero]); (try simp only [setIfInBounds_toArray, set_cons_succ, set_cons_zero])
    refine wpAnyH_take (i := 1) (v := ?v24) rfl (by kernel_rfl) (by kernel_rfl) (by kernel_rfl) (fun _ _ _ h => h) (Or.inl ⟨by rfl, ?hy24⟩) hHeld ?rest24
    case hy24 => (intro wz hSw; (try dsimp only at hSw); go_simp; (try with_reducible rfl))
    (try simp only [Act.put, getElem_toArray, getElem_cons_succ, getElem_cons_zero]); (try simp only [setIfInBounds_toArray, set_cons_succ, set_cons_zero])
    refine wpAnyH_ready (rs := [2]) (by kernel_rfl) (by simp) ?_
    refine AllReadyH.cons rfl (fun K' hK => ?_) AllReadyH.nil
    go_simp
    refine (HIS.out _ (E_4.out.trans (And.left hHeld))).mono ?_
    rintro e w2 ⟨rfl, h2⟩
    rw [H0.out]
    have X2 := (And.left hHeld).trans h2
    dsimp only
    refine hK.out _ _ (ext2 X2) (fun hHeld => ?_)
    clear hK
    refine wpAnyH_take (i := 3) (v := ?v25) rfl (by kernel_rfl) (by kernel_rfl) (by kernel_rfl) (fun _ _ _ h => h) (Or.inl ⟨by rfl, ?hy25⟩) hHeld ?rest25
    case hy25 => (intro wz hSw; (try dsimp only at hSw); go_simp; (try with_reducible rfl))
    (try simp only [Act.put, getElem_toArray, getElem_cons_succ, getElem_cons_zero]); (try simp only [setIfInBounds_toArray, set_cons_succ, set_cons_zero])
    refine wpAnyH_take (i := 4) (v := ?v26) rfl (by kernel_rfl) (by kernel_rfl) (by kernel_rfl) (fun _ _ _ h => h) (Or.inl ⟨by rfl, ?hy26⟩) hHeld ?rest26
    case hy26 => (intro wz hSw; (try dsimp only at hSw); go_simp; (try with_reducible rfl))
    (try simp only [Act.put, getElem_toArray, getElem_cons_succ, getElem_cons_zero]); (try simp only [setIfInBounds_toArray, set_cons_succ, set_cons_zero])
    refine wpAnyH_take (i := 5) (v := ?v27) rfl (by kernel_rfl) (by kernel_rfl) (by kernel_rfl) (fun _ _ _ h => h) (Or.inl ⟨by rfl, ?hy27⟩) hHeld ?rest27
    case hy27 => (intro wz hSw; (try dsimp only at hSw); go_simp; (try with_reducible rfl))
    (try simp only [Act.put, getElem_toArray, getElem_cons_succ, getElem_cons_zero]); (try simp only [setIfInBounds_toArray, set_cons_succ, set_cons_zero])
    refine wpAnyH_ready (rs := [6]) (by kernel_rfl) (by simp) ?_
    refine AllReadyH.cons rfl (fun K' hK => ?_) AllReadyH.nil
    go_simp
    refine (HMO.out _ (E_4.out.trans (And.left hHeld))).mono ?_
    rintro e w3 ⟨rfl, h3⟩
    rw [H1.out]
    have X3 := (And.left hHeld).trans h3
    dsimp only
    refine hK.out _ _ (ext2 X3) (fun hHeld => ?_)
    clear hK
    refine wpAnyH_take (i := 7) (v := ?v28) rfl (by kernel_rfl) (by kernel_rfl) (by kernel_rfl) (fun _ _ _ h => h) (Or.inl ⟨by rfl, ?hy28⟩) hHeld ?rest28
    case hy28 => (intro wz hSw; (try dsimp only at hSw); go_simp; (try with_reducible rfl))
    (try simp only [Act.put, getElem_toArray, getElem_cons_succ, getElem_cons_zero]); (try simp only [setIfInBounds_toArray, set_cons_succ, set_cons_zero])
    refine wpAnyH_take (i := 8) (v := ?v29) rfl (by kernel_rfl) (by kernel_rfl) (by kernel_rfl) (fun _ _ _ h => h) (Or.inl ⟨by rfl, ?hy29⟩) hHeld ?rest29
    case hy29 => (intro wz hSw; (try dsimp only at hSw); go_simp; (try with_reducible rfl))
    (try simp only [Act.put, getElem_toArray, getElem_cons_succ, getElem_cons_zero]); (try simp only [setIfInBounds_toArray, set_cons_succ, set_cons_zero])
    refine wpAnyH_take (i := 9) (v := ?v30) rfl (by kernel_rfl) (by kernel_rfl) (by kernel_rfl) (fun _ _ _ h => h) (Or.inl ⟨by rfl, ?hy30⟩) hHeld ?rest30
    case hy30 => (intro wz hSw; (try dsimp only at hSw); go_simp; (try with_reducible rfl))
    (try simp only [Act.put, getElem_toArray, getElem_cons_succ, getElem_cons_zero]); (try simp only [setIfInBounds_toArray, set_cons_succ, set_cons_zero])
    refine wpAnyH_take (i := 10) (v := undef) rfl (by kernel_rfl) (by kernel_rfl) (by kernel_rfl) (fun _ _ _ h => h) (Or.inr ⟨by rfl, rfl⟩) hHeld ?rest31
    (try simp only [Act.put, getElem_toArray, getElem_cons_succ, getElem_cons_zero]); (try simp only [setIfInBounds_toArray, set_cons_succ, set_cons_zero])
    refine wpAnyH_take (i := 11) (v := undef) rfl (by kernel_rfl) (by kernel_rfl) (by kernel_rfl) (fun _ _ _ h => h) (Or.inr ⟨by rfl, rfl⟩) hHeld ?rest32
    (try simp only [Act.put, getElem_toArray, getElem_cons_succ, getElem_cons_zero]); (try simp only [setIfInBounds_toArray, set_cons_succ, set_cons_zero])
    refine wpAnyH_take (i := 12) (v := undef) rfl (by kernel_rfl) (by kernel_rfl) (by kernel_rfl) (fun _ _ _ h => h) (Or.inr ⟨by rfl, rfl⟩) hHeld ?rest33
    (try simp only [Act.put, getElem_toArray, getElem_cons_succ, getElem_cons_zero]); (try simp only [setIfInBounds_toArray, set_cons_succ, set_cons_zero])
    refine wpAnyH_take (i := 13) (v := undef) rfl (by kernel_rfl) (by kernel_rfl) (by kernel_rfl) (fun _ _ _ h => h) (Or.inr ⟨by rfl, rfl⟩) hHeld ?rest34
    (try simp only [Act.put, getElem_toArray, getElem_cons_succ, getElem_cons_zero]); (try simp only [setIfInBounds_toArray, set_cons_succ, set_cons_zero])
    refine wpAnyH_take (i := 14) (v := undef) rfl (by kernel_rfl) (by kernel_rfl) (by kernel_rfl) (fun _ _ _ h => h) (Or.inr ⟨by rfl, rfl⟩) hHeld ?rest35
    (try simp only [Act.put, getElem_toArray, getElem_cons_succ, getElem_cons_zero]); (try simp only [setIfInBounds_toArray, set_cons_succ, set_cons_zero])
    refine wpAnyH_take (i := 15) (v := ?v36) rfl (by kernel_rfl) (by kernel_rfl) (by kernel_rfl) (fun _ _ _ h => h) (Or.inl ⟨by rfl, ?hy36⟩) hHeld ?rest36
    case hy36 => (intro wz hSw; (try dsimp only at hSw); go_simp; (try with_reducible rfl))
    (try simp only [Act.put, getElem_toArray, getElem_cons_succ, getElem_cons_zero]); (try simp only [setIfInBounds_toArray, set_cons_succ, set_cons_zero])
    refine wpAnyH_take (i := 16) (v := ?v37) rfl (by kernel_rfl) (by kernel_rfl) (by kernel_rfl) (fun _ _ _ h => h) (Or.inl ⟨by rfl, ?hy37⟩) hHeld ?rest37
    case hy37 => (intro wz hSw; (try dsimp only at hSw); go_simp; (try with_reducible rfl))
    (try simp only [Act.put, getElem_toArray, getElem_cons_succ, getElem_cons_zero]); (try simp only [setIfInBounds_toArray, set_cons_succ, set_cons_zero])
    refine wpAnyH_take (i := 17) (v := undef) rfl (by kernel_rfl) (by kernel_rfl) (by kernel_rfl) (fun _ _ _ h => h) (Or.inr ⟨by rfl, rfl⟩) hHeld ?rest38
    (try simp only [Act.put, getElem_toArray, getElem_cons_succ, getElem_cons_zero]); (try simp only [setIfInBounds_toArray, set_cons_succ, set_cons_zero])
    refine wpAnyH_take (i := 18) (v := undef) rfl (by kernel_rfl) (by kernel_rfl) (by kernel_rfl) (fun _ _ _ h => h) (Or.inr ⟨by rfl, rfl⟩) hHeld ?rest39
    (try simp only [Act.put, getElem_toArray, getElem_cons_succ, getElem_cons_zero]); (try simp only [setIfInBounds_toArray, set_cons_succ, set_cons_zero])
    refine wpAnyH_take (i := 19) (v := undef) rfl (by kernel_rfl) (by kernel_rfl) (by kernel_rfl) (fun _ _ _ h => h) (Or.inr ⟨by rfl, rfl⟩) hHeld ?rest40
    (try simp only [Act.put, getElem_toArray, getElem_cons_succ, getElem_cons_zero]); (try simp only [setIfInBounds_toArray, set_cons_succ, set_cons_zero])
    refine wpAnyH_take (i := 20) (v := undef) rfl (by kernel_rfl) (by kernel_rfl) (by kernel_rfl) (fun _ _ _ h => h) (Or.inr ⟨by rfl, rfl⟩) hHeld ?rest41
    (try simp only [Act.put, getElem_toArray, getElem_cons_succ, getElem_cons_zero]); (try simp only [setIfInBounds_toArray, set_cons_succ, set_cons_zero])
    refine wpAnyH_take (i := 21) (v := undef) rfl (by kernel_rfl) (by kernel_rfl) (by kernel_rfl) (fun _ _ _ h => h) (Or.inr ⟨by rfl, rfl⟩) hHeld ?rest42
    (try simp only [Act.put, getElem_toArray, getElem_cons_succ, getElem_cons_zero]); (try simp only [setIfInBounds_toArray, set_cons_succ, set_cons_zero])
    refine wpAnyH_take (i := 22) (v := ?v43) rfl (by kernel_rfl) (by kernel_rfl) (by kernel_rfl) (fun _ _ _ h => h) (Or.inl ⟨by rfl, ?hy43⟩) hHeld ?rest43
    case hy43 => (intro wz hSw; (try dsimp only at hSw); go_simp; (try with_reducible rfl))
    (try simp only [Act.put, getElem_toArray, getElem_cons_succ, getElem_cons_zero]); (try simp only [setIfInBounds_toArray, set_cons_succ, set_cons_zero])
    refine wpAnyH_done (by kernel_rfl) ?_ _
    have X9 := (And.left hHeld)
    clear hHeld
    clear lA0 qA00 qA01 qA02 lA1 qA10 qA11 qA12 qA13
    have A0_5 := Lib.hid (A0_1.out.ext X9)
    clear A0_1
    have A1_6 := Lib.hid (A1_2.out.ext X9)
    clear A1_2
    have R_7 := Lib.hid (R_3.out.ext X9)
    clear R_3
    have E_8 := Lib.hid (E_4.out.trans X9)
    clear E_4
    have lR := R_7.out.1
    have qR0 := R_7.out.2 0 _ rfl
    have qR1 := R_7.out.2 1 _ rfl
    have qR2 := R_7.out.2 2 _ rfl
    have qR3 := R_7.out.2 3 _ rfl
    have tR := R_7.out.3
    try simp only [World.size_alloc] at lR
    go_wp2
    refine bodyPost_ret (v := .tuple #[.agg #[.int .i64 0, .int .i64 0, .int .i64 0, .slice none 0 0], .bool false]) (by simp [results, Try.results42, go_sem, qR0, qR1, qR2, qR3]) rfl ⟨_, rfl, ⟨_, _, _, rfl, own_nil _ _ _, by omega⟩, ext4 E_8.out (by omega) _ _ _ _⟩
  have H1 := Lib.hid h1
  by_cases hpp : P2 = P
  case neg =>
    have hpn : (P2 != P) = true := by simpa using hpp
    have hv : hvB P ms P2 R C xs = false := by rw [HVB.out, show (P2 == P) = false by simpa using hpp, Bool.false_and, Bool.and_false]
    simp only [smbM, h0, hv, noMat, Bool.false_and, Bool.and_false, Bool.false_eq_true, if_false, Prod.mk.injEq, Mat.mk.injEq] at hM
    obtain ⟨⟨rfl, rfl, rfl, rfl⟩, rfl⟩ := hM
    clear h0 h1 hv hP HVB hpp
    go_enter Try.func42, Try.ntmps42
    have A0_1 := Lib.hid (((cells_new' w #[.int .i64 P, .int .i64 k, .slice (some ⟨a0, oa, none⟩) n n] 29 (w.heap.size) (by simp)).ext ((Ext.refl _).alloc (.cells #[.int .i64 P2, .int .i64 R, .int .i64 C, .slice (some ⟨s0, so, none⟩) n1 n1] 37))).ext ((Ext.refl _).alloc (.cells #[.int .i64 0, .int .i64 0, .int .i64 0, .slice none 0 0] 37)))
    have A1_2 := Lib.hid ((cells_new' (w.alloc (.cells #[.int .i64 P, .int .i64 k, .slice (some ⟨a0, oa, none⟩) n n] 29)) #[.int .i64 P2, .int .i64 R, .int .i64 C, .slice (some ⟨s0, so, none⟩) n1 n1] 37 (w.heap.size + 1) (by simp)).ext ((Ext.refl _).alloc (.cells #[.int .i64 0, .int .i64 0, .int .i64 0, .slice none 0 0] 37)))
    have R_3 := Lib.hid (cells_new' ((w.alloc (.cells #[.int .i64 P, .int .i64 k, .slice (some ⟨a0, oa, none⟩) n n] 29)).alloc (.cells #[.int .i64 P2, .int .i64 R, .int .i64 C, .slice (some ⟨s0, so, none⟩) n1 n1] 37)) #[.int .i64 0, .int .i64 0, .int .i64 0, .slice none 0 0] 37 (w.heap.size + 1 + 1) (by simp))
    have E_4 := Lib.hid ((((Ext.refl w).alloc (.cells #[.int .i64 P, .int .i64 k, .slice (some ⟨a0, oa, none⟩) n n] 29)).alloc (.cells #[.int .i64 P2, .int .i64 R, .int .i64 C, .slice (some ⟨s0, so, none⟩) n1 n1] 37)).alloc (.cells #[.int .i64 0, .int .i64 0, .int .i64 0, .slice none 0 0] 37))
    go_wp2_with fail
    generalize (((w.alloc (.cells #[.int .i64 P, .int .i64 k, .slice (some ⟨a0, oa, none⟩) n n] 29)).alloc (.cells #[.int .i64 P2, .int .i64 R, .int .i64 C, .slice (some ⟨s0, so, none⟩) n1 n1] 37)).alloc (.cells #[.int .i64 0, .int .i64 0, .int .i64 0, .slice none 0 0] 37)) = W0 at *
    have lA0 := A0_1.out.1
    have qA00 := A0_1.out.2 0 _ rfl
    have qA01 := A0_1.out.2 1 _ rfl
    have qA02 := A0_1.out.2 2 _ rfl
    have lA1 := A1_2.out.1
    have qA10 := A1_2.out.2 0 _ rfl
    have qA11 := A1_2.out.2 1 _ rfl
    have qA12 := A1_2.out.2 2 _ rfl
    have qA13 := A1_2.out.2 3 _ rfl
    try simp only [World.size_alloc] at lA0 lA1
    refine wp_region_held_drew (S := (fun w' => Ext W0 w' ∧ (∀ b o, b < W0.heap.size → w'.cell? ⟨b, o, none⟩ = W0.cell? ⟨b, o, none⟩))) (by kernel_rfl) (ext2 (Ext.refl W0).drew) (fun hHeld => ?_)
    refine wpAnyH_take (i := 0) (v := ?v44) rfl (by kernel_rfl) (by kernel_rfl) (by kernel_rfl) (fun _ _ _ h => h) (Or.inl ⟨by rfl, ?hy44⟩) hHeld ?rest44
    case hy44 => (intro wz hSw; (try dsimp only at hSw); go_simp; (try with_reducible rfl))
    (try simp only [Act.put, getElem_toArray, getElem_cons_succ, getElem_cons_zero]); (try simp only [setIfInBounds_toArray, set_cons_succ, set_cons_zero])
    refine wpAnyH_take (i := 1) (v := ?v45) rfl (by kernel_rfl) (by kernel_rfl) (by kernel_rfl) (fun _ _ _ h => h) (Or.inl ⟨by rfl, ?hy45⟩) hHeld ?rest45
    case hy45 => (intro wz hSw; (try dsimp only at hSw); go_simp; (try with_reducible rfl))
    (try simp only [Act.put, getElem_toArray, getElem_cons_succ, getElem_cons_zero]); (try simp only [setIfInBounds_toArray, set_cons_succ, set_cons_zero])
    refine wpAnyH_ready (rs := [2]) (by kernel_rfl) (by simp) ?_
    refine AllReadyH.cons rfl (fun K' hK => ?_) AllReadyH.nil
    go_simp
    refine (HIS.out _ (E_4.out.trans (And.left hHeld))).mono ?_
    rintro e w2 ⟨rfl, h2⟩
    rw [H0.out]
    have X2 := (And.left hHeld).trans h2
    dsimp only
    refine hK.out _ _ (ext2 X2) (fun hHeld => ?_)
    clear hK
    refine wpAnyH_take (i := 3) (v := ?v46) rfl (by kernel_rfl) (by kernel_rfl) (by kernel_rfl) (fun _ _ _ h => h) (Or.inl ⟨by rfl, ?hy46⟩) hHeld ?rest46
    case hy46 => (intro wz hSw; (try dsimp only at hSw); go_simp; (try with_reducible rfl))
    (try simp only [Act.put, getElem_toArray, getElem_cons_succ, getElem_cons_zero]); (try simp only [setIfInBounds_toArray, set_cons_succ, set_cons_zero])
    refine wpAnyH_take (i := 4) (v := ?v47) rfl (by kernel_rfl) (by kernel_rfl) (by kernel_rfl) (fun _ _ _ h => h) (Or.inl ⟨by rfl, ?hy47⟩) hHeld ?rest47
    case hy47 => (intro wz hSw; (try dsimp only at hSw); go_simp; (try with_reducible rfl))
    (try simp only [Act.put, getElem_toArray, getElem_cons_succ, getElem_cons_zero]); (try simp only [setIfInBounds_toArray, set_cons_succ, set_cons_zero])
    refine wpAnyH_take (i := 5) (v := ?v48) rfl (by kernel_rfl) (by kernel_rfl) (by kernel_rfl) (fun _ _ _ h => h) (Or.inl ⟨by rfl, ?hy48⟩) hHeld ?rest48
    case hy48 => (intro wz hSw; (try dsimp only at hSw); go_simp; (try with_reducible rfl))
    (try simp only [Act.put, getElem_toArray, getElem_cons_succ, getElem_cons_zero]); (try simp only [setIfInBounds_toArray, set_cons_succ, set_cons_zero])
    refine wpAnyH_ready (rs := [6]) (by kernel_rfl) (by simp) ?_
    refine AllReadyH.cons rfl (fun K' hK => ?_) AllReadyH.nil
    go_simp
    refine (HMO.out _ (E_4.out.trans (And.left hHeld))).mono ?_
    rintro e w3 ⟨rfl, h3⟩
    rw [H1.out]
    have X3 := (And.left hHeld).trans h3
    dsimp only
    refine hK.out _ _ (ext2 X3) (fun hHeld => ?_)
    clear hK
    refine wpAnyH_take (i := 7) (v := ?v49) rfl (by kernel_rfl) (by kernel_rfl) (by kernel_rfl) (fun _ _ _ h => h) (Or.inl ⟨by rfl, ?hy49⟩) hHeld ?rest49
    case hy49 => (intro wz hSw; (try dsimp only at hSw); go_simp; (try with_reducible rfl))
    (try simp only [Act.put, getElem_toArray, getElem_cons_succ, getElem_cons_zero]); (try simp only [setIfInBounds_toArray, set_cons_succ, set_cons_zero])
    refine wpAnyH_take (i := 8) (v := ?v50) rfl (by kernel_rfl) (by kernel_rfl) (by kernel_rfl) (fun _ _ _ h => h) (Or.inl ⟨by rfl, ?hy50⟩) hHeld ?rest50
    case hy50 => (intro wz hSw; (try dsimp only at hSw); go_simp; (try with_reducible rfl))
    (try simp only [Act.put, getElem_toArray, getElem_cons_succ, getElem_cons_zero]); (try simp only [setIfInBounds_toArray, set_cons_succ, set_cons_zero])
    refine wpAnyH_take (i := 9) (v := ?v51) rfl (by kernel_rfl) (by kernel_rfl) (by kernel_rfl) (fun _ _ _ h => h) (Or.inl ⟨by rfl, ?hy51⟩) hHeld ?rest51
    case hy51 => (intro wz hSw; (try dsimp only at hSw); go_simp; (try with_reducible rfl))
    (try simp only [Act.put, getElem_toArray, getElem_cons_succ, getElem_cons_zero]); (try simp only [setIfInBounds_toArray, set_cons_succ, set_cons_zero])
    refine wpAnyH_take (i := 10) (v := ?v52) rfl (by kernel_rfl) (by kernel_rfl) (by kernel_rfl) (fun _ _ _ h => h) (Or.inl ⟨by rfl, ?hy52⟩) hHeld ?rest52
    case hy52 => (intro wz hSw; (try dsimp only at hSw); go_simp; (try with_reducible rfl))
    (try simp only [Act.put, getElem_toArray, getElem_cons_succ, getElem_cons_zero]); (try simp only [setIfInBounds_toArray, set_cons_succ, set_cons_zero])
    refine wpAnyH_take (i := 11) (v := ?v53) rfl (by kernel_rfl) (by kernel_rfl) (by kernel_rfl) (fun _ _ _ h => h) (Or.inl ⟨by rfl, ?hy53⟩) hHeld ?rest53
    case hy53 => (intro wz hSw; (try dsimp only at hSw); go_simp; (try with_reducible rfl))
    (try simp only [Act.put, getElem_toArray, getElem_cons_succ, getElem_cons_zero]); (try simp only [setIfInBounds_toArray, set_cons_succ, set_cons_zero])
    refine wpAnyH_take (i := 12) (v := ?v54) rfl (by kernel_rfl) (by kernel_rfl) (by kernel_rfl) (fun _ _ _ h => h) (Or.inl ⟨by rfl, ?hy54⟩) hHeld ?rest54
    case hy54 => (intro wz hSw; (try dsimp only at hSw); go_simp; (try with_reducible rfl))
    (try simp only [Act.put, getElem_toArray, getElem_cons_succ, getElem_cons_zero]); (try simp only [setIfInBounds_toArray, set_cons_succ, set_cons_zero])
    refine wpAnyH_take (i := 13) (v := ?v55) rfl (by kernel_rfl) (by kernel_rfl) (by kernel_rfl) (fun _ _ _ h => h) (Or.inl ⟨by rfl, ?hy55⟩) hHeld ?rest55
    case hy55 => (intro wz hSw; (try dsimp only at hSw); go_simp; (try with_reducible rfl))
    (try simp only [Act.put, getElem_toArray, getElem_cons_succ, getElem_cons_zero]); (try simp only [setIfInBounds_toArray, set_cons_succ, set_cons_zero])
    refine wpAnyH_take (i := 14) (v := ?v56) rfl (by kernel_rfl) (by kernel_rfl) (by kernel_rfl) (fun _ _ _ h => h) (Or.inl ⟨by rfl, ?hy56⟩) hHeld ?rest56
    case hy56 => (intro wz hSw; (try dsimp only at hSw); go_simp; (try with_reducible rfl))
    (try simp only [Act.put, getElem_toArray, getElem_cons_succ, getElem_cons_zero]); (try simp only [setIfInBounds_toArray, set_cons_succ, set_cons_zero])
    refine wpAnyH_take (i := 15) (v := ?v57) rfl (by kernel_rfl) (by kernel_rfl) (by kernel_rfl) (fun _ _ _ h => h) (Or.inl ⟨by rfl, ?hy57⟩) hHeld ?rest57
    case hy57 => (intro wz hSw; (try dsimp only at hSw); go_simp; (try with_reducible rfl))
    (try simp only [Act.put, getElem_toArray, getElem_cons_succ, getElem_cons_zero]); (try simp only [setIfInBounds_toArray, set_cons_succ, set_cons_zero])
    refine wpAnyH_take (i := 16) (v := ?v58) rfl (by kernel_rfl) (by kernel_rfl) (by kernel_rfl) (fun _ _ _ h => h) (Or.inl ⟨by rfl, ?hy58⟩) hHeld ?rest58
    case hy58 => (intro wz hSw; (try dsimp only at hSw); go_simp; (try with_reducible rfl))
    (try simp only [Act.put, getElem_toArray, getElem_cons_succ, getElem_cons_zero]); (try simp only [setIfInBounds_toArray, set_cons_succ, set_cons_zero])
    refine wpAnyH_take (i := 17) (v := undef) rfl (by kernel_rfl) (by kernel_rfl) (by kernel_rfl) (fun _ _ _ h => h) (Or.inr ⟨by rfl, rfl⟩) hHeld ?rest59
    (try simp only [Act.put, getElem_toArray, getElem_cons_succ, getElem_cons_zero]); (try simp only [setIfInBounds_toArray, set_cons_succ, set_cons_zero])
    refine wpAnyH_take (i := 18) (v := undef) rfl (by kernel_rfl) (by kernel_rfl) (by kernel_rfl) (fun _ _ _ h => h) (Or.inr ⟨by rfl, rfl⟩) hHeld ?rest60
    (try simp only [Act.put, getElem_toArray, getElem_cons_succ, getElem_cons_zero]); (try simp only [setIfInBounds_toArray, set_cons_succ, set_cons_zero])
    refine wpAnyH_take (i := 19) (v := undef) rfl (by kernel_rfl) (by kernel_rfl) (by kernel_rfl) (fun _ _ _ h => h) (Or.inr ⟨by rfl, rfl⟩) hHeld ?rest61
    (try simp only [Act.put, getElem_toArray, getElem_cons_succ, getElem_cons_zero]); (try simp only [setIfInBounds_toArray, set_cons_succ, set_cons_zero])
    refine wpAnyH_take (i := 20) (v := undef) rfl (by kernel_rfl) (by kernel_rfl) (by kernel_rfl) (fun _ _ _ h => h) (Or.inr ⟨by rfl, rfl⟩) hHeld ?rest62
    (try simp only [Act.put, getElem_toArray, getElem_cons_succ, getElem_cons_zero]); (try simp only [setIfInBounds_toArray, set_cons_succ, set_cons_zero])
    refine wpAnyH_take (i := 21) (v := undef) rfl (by kernel_rfl) (by kernel_rfl) (by kernel_rfl) (fun _ _ _ h => h) (Or.inr ⟨by rfl, rfl⟩) hHeld ?rest63
    (try simp only [Act.put, getElem_toArray, getElem_cons_succ, getElem_cons_zero]); (try simp only [setIfInBounds_toArray, set_cons_succ, set_cons_zero])
    refine wpAnyH_take (i := 22) (v := ?v64) rfl (by kernel_rfl) (by kernel_rfl) (by kernel_rfl) (fun _ _ _ h => h) (Or.inl ⟨by rfl, ?hy64⟩) hHeld ?rest64
    case hy64 => (intro wz hSw; (try dsimp only at hSw); go_simp; (try with_reducible rfl))
    (try simp only [Act.put, getElem_toArray, getElem_cons_succ, getElem_cons_zero]); (try simp only [setIfInBounds_toArray, set_cons_succ, set_cons_zero])
    refine wpAnyH_done (by kernel_rfl) ?_ _
    have X9 := (And.left hHeld)
    clear hHeld
    clear lA0 qA00 qA01 qA02 lA1 qA10 qA11 qA12 qA13
    have A0_5 := Lib.hid (A0_1.out.ext X9)
    clear A0_1
    have A1_6 := Lib.hid (A1_2.out.ext X9)
    clear A1_2
    have R_7 := Lib.hid (R_3.out.ext X9)
    clear R_3
    have E_8 := Lib.hid (E_4.out.trans X9)
    clear E_4
    have lR := R_7.out.1
    have qR0 := R_7.out.2 0 _ rfl
    have qR1 := R_7.out.2 1 _ rfl
    have qR2 := R_7.out.2 2 _ rfl
    have qR3 := R_7.out.2 3 _ rfl
    have tR := R_7.out.3
    try simp only [World.size_alloc] at lR
    go_wp2
    refine bodyPost_ret (v := .tuple #[.agg #[.int .i64 0, .int .i64 0, .int .i64 0, .slice none 0 0], .bool false]) (by simp [results, Try.results42, go_sem, qR0, qR1, qR2, qR3]) rfl ⟨_, rfl, ⟨_, _, _, rfl, own_nil _ _ _, by omega⟩, ext4 E_8.out (by omega) _ _ _ _⟩
  have hpn : (P2 != P) = false := by simpa using hpp
  by_cases hcs : C = S
  case neg =>
    have hcn : (C != (S : Int)) = true := by simpa using hcs
    have hv : hvB P ms P2 R C xs = false := by rw [HVB.out, show (C == (S : Int)) = false by simpa using hcs, Bool.and_false, Bool.and_false]
    simp only [smbM, h0, hv, noMat, Bool.false_and, Bool.and_false, Bool.false_eq_true, if_false, Prod.mk.injEq, Mat.mk.injEq] at hM
    obtain ⟨⟨rfl, rfl, rfl, rfl⟩, rfl⟩ := hM
    clear h0 h1 hv hP HVB hpp hcs
    go_enter Try.func42, Try.ntmps42
    have A0_1 := Lib.hid (((cells_new' w #[.int .i64 P, .int .i64 k, .slice (some ⟨a0, oa, none⟩) n n] 29 (w.heap.size) (by simp)).ext ((Ext.refl _).alloc (.cells #[.int .i64 P2, .int .i64 R, .int .i64 C, .slice (some ⟨s0, so, none⟩) n1 n1] 37))).ext ((Ext.refl _).alloc (.cells #[.int .i64 0, .int .i64 0, .int .i64 0, .slice none 0 0] 37)))
    have A1_2 := Lib.hid ((cells_new' (w.alloc (.cells #[.int .i64 P, .int .i64 k, .slice (some ⟨a0, oa, none⟩) n n] 29)) #[.int .i64 P2, .int .i64 R, .int .i64 C, .slice (some ⟨s0, so, none⟩) n1 n1] 37 (w.heap.size + 1) (by simp)).ext ((Ext.refl _).alloc (.cells #[.int .i64 0, .int .i64 0, .int .i64 0, .slice none 0 0] 37)))
    have R_3 := Lib.hid (cells_new' ((w.alloc (.cells #[.int .i64 P, .int .i64 k, .slice (some ⟨a0, oa, none⟩) n n] 29)).alloc (.cells #[.int .i64 P2, .int .i64 R, .int .i64 C, .slice (some ⟨s0, so, none⟩) n1 n1] 37)) #[.int .i64 0, .int .i64 0, .int .i64 0, .slice none 0 0] 37 (w.heap.size + 1 + 1) (by simp))
    have E_4 := Lib.hid ((((Ext.refl w).alloc (.cells #[.int .i64 P, .int .i64 k, .slice (some ⟨a0, oa, none⟩) n n] 29)).alloc (.cells #[.int .i64 P2, .int .i64 R, .int .i64 C, .slice (some ⟨s0, so, none⟩) n1 n1] 37)).alloc (.cells #[.int .i64 0, .int .i64 0, .int .i64 0, .slice none 0 0] 37))
    go_wp2_with fail
    generalize (((w.alloc (.cells #[.int .i64 P, .int .i64 k, .slice (some ⟨a0, oa, none⟩) n n] 29)).alloc (.cells #[.int .i64 P2, .int .i64 R, .int .i64 C, .slice (some ⟨s0, so, none⟩) n1 n1] 37)).alloc (.cells #[.int .i64 0, .int .i64 0, .int .i64 0, .slice none 0 0] 37)) = W0 at *
    have lA0 := A0_1.out.1
    have qA00 := A0_1.out.2 0 _ rfl
    have qA01 := A0_1.out.2 1 _ rfl
    have qA02 := A0_1.out.2 2 _ rfl
    have lA1 := A1_2.out.1
    have qA10 := A1_2.out.2 0 _ rfl
    have qA11 := A1_2.out.2 1 _ rfl
    have qA12 := A1_2.out.2 2 _ rfl
    have qA13 := A1_2.out.2 3 _ rfl
    try simp only [World.size_alloc] at lA0 lA1
    refine wp_region_held_drew (S := (fun w' => Ext W0 w' ∧ (∀ b o, b < W0.heap.size → w'.cell? ⟨b, o, none⟩ = W0.cell? ⟨b, o, none⟩))) (by kernel_rfl) (ext2 (Ext.refl W0).drew) (fun hHeld => ?_)
    refine wpAnyH_take (i := 0) (v := ?v65) rfl (by kernel_rfl) (by kernel_rfl) (by kernel_rfl) (fun _ _ _ h => h) (Or.inl ⟨by rfl, ?hy65⟩) hHeld ?rest65
    case hy65 => (intro wz hSw; (try dsimp only at hSw); go_simp; (try with_reducible rfl))
    (try simp only [Act.put, getElem_toArray, getElem_cons_succ, getElem_cons_zero]); (try simp only [setIfInBounds_toArray, set_cons_succ, set_cons_zero])
    refine wpAnyH_take (i := 1) (v := ?v66) rfl (by kernel_rfl) (by kernel_rfl) (by kernel_rfl) (fun _ _ _ h => h) (Or.inl ⟨by rfl, ?hy66⟩) hHeld ?rest66
    case hy66 => (intro wz hSw; (try dsimp only at hSw); go_simp; (try with_reducible rfl))
    (try simp only [Act.put, getElem_toArray, getElem_cons_succ, getElem_cons_zero]); (try simp only [setIfInBounds_toArray, set_cons_succ, set_cons_zero])
    refine wpAnyH_ready (rs := [2]) (by kernel_rfl) (by simp) ?_
    refine AllReadyH.cons rfl (fun K' hK => ?_) AllReadyH.nil
    go_simp
    refine (HIS.out _ (E_4.out.trans (And.left hHeld))).mono ?_
    rintro e w2 ⟨rfl, h2⟩
    rw [H0.out]
    have X2 := (And.left hHeld).trans h2
    dsimp only
    refine hK.out _ _ (ext2 X2) (fun hHeld => ?_)
    clear hK
    refine wpAnyH_take (i := 3) (v := ?v67) rfl (by kernel_rfl) (by kernel_rfl) (by kernel_rfl) (fun _ _ _ h => h) (Or.inl ⟨by rfl, ?hy67⟩) hHeld ?rest67
    case hy67 => (intro wz hSw; (try dsimp only at hSw); go_simp; (try with_reducible rfl))
    (try simp only [Act.put, getElem_toArray, getElem_cons_succ, getElem_cons_zero]); (try simp only [setIfInBounds_toArray, set_cons_succ, set_cons_zero])
    refine wpAnyH_take (i := 4) (v := ?v68) rfl (by kernel_rfl) (by kernel_rfl) (by kernel_rfl) (fun _ _ _ h => h) (Or.inl ⟨by rfl, ?hy68⟩) hHeld ?rest68
    case hy68 => (intro wz hSw; (try dsimp only at hSw); go_simp; (try with_reducible rfl))
    (try simp only [Act.put, getElem_toArray, getElem_cons_succ, getElem_cons_zero]); (try simp only [setIfInBounds_toArray, set_cons_succ, set_cons_zero])
    refine wpAnyH_take (i := 5) (v := ?v69) rfl (by kernel_rfl) (by kernel_rfl) (by kernel_rfl) (fun _ _ _ h => h) (Or.inl ⟨by rfl, ?hy69⟩) hHeld ?rest69
    case hy69 => (intro wz hSw; (try dsimp only at hSw); go_simp; (try with_reducible rfl))
    (try simp only [Act.put, getElem_toArray, getElem_cons_succ, getElem_cons_zero]); (try simp only [setIfInBounds_toArray, set_cons_succ, set_cons_zero])
    refine wpAnyH_ready (rs := [6]) (by kernel_rfl) (by simp) ?_
    refine AllReadyH.cons rfl (fun K' hK => ?_) AllReadyH.nil
    go_simp
    refine (HMO.out _ (E_4.out.trans (And.left hHeld))).mono ?_
    rintro e w3 ⟨rfl, h3⟩
    rw [H1.out]
    have X3 := (And.left hHeld).trans h3
    dsimp only
    refine hK.out _ _ (ext2 X3) (fun hHeld => ?_)
    clear hK
    refine wpAnyH_take (i := 7) (v := ?v70) rfl (by kernel_rfl) (by kernel_rfl) (by kernel_rfl) (fun _ _ _ h => h) (Or.inl ⟨by rfl, ?hy70⟩) hHeld ?rest70
    case hy70 => (intro wz hSw; (try dsimp only at hSw); go_simp; (try with_reducible rfl))
    (try simp only [Act.put, getElem_toArray, getElem_cons_succ, getElem_cons_zero]); (try simp only [setIfInBounds_toArray, set_cons_succ, set_cons_zero])
    refine wpAnyH_take (i := 8) (v := ?v71) rfl (by kernel_rfl) (by kernel_rfl) (by kernel_rfl) (fun _ _ _ h => h) (Or.inl ⟨by rfl, ?hy71⟩) hHeld ?rest71
    case hy71 => (intro wz hSw; (try dsimp only at hSw); go_simp; (try with_reducible rfl))
    (try simp only [Act.put, getElem_toArray, getElem_cons_succ, getElem_cons_zero]); (try simp only [setIfInBounds_toArray, set_cons_succ, set_cons_zero])
    refine wpAnyH_take (i := 9) (v := ?v72) rfl (by kernel_rfl) (by kernel_rfl) (by kernel_rfl) (fun _ _ _ h => h) (Or.inl ⟨by rfl, ?hy72⟩) hHeld ?rest72
    case hy72 => (intro wz hSw; (try dsimp only at hSw); go_simp; (try with_reducible rfl))
    (try simp only [Act.put, getElem_toArray, getElem_cons_succ, getElem_cons_zero]); (try simp only [setIfInBounds_toArray, set_cons_succ, set_cons_zero])
    refine wpAnyH_take (i := 10) (v := ?v73) rfl (by kernel_rfl) (by kernel_rfl) (by kernel_rfl) (fun _ _ _ h => h) (Or.inl ⟨by rfl, ?hy73⟩) hHeld ?rest73
    case hy73 => (intro wz hSw; (try dsimp only at hSw); go_simp; (try with_reducible rfl))
    (try simp only [Act.put, getElem_toArray, getElem_cons_succ, getElem_cons_zero]); (try simp only [setIfInBounds_toArray, set_cons_succ, set_cons_zero])
    refine wpAnyH_take (i := 11) (v := ?v74) rfl (by kernel_rfl) (by kernel_rfl) (by kernel_rfl) (fun _ _ _ h => h) (Or.inl ⟨by rfl, ?hy74⟩) hHeld ?rest74
    case hy74 => (intro wz hSw; (try dsimp only at hSw); go_simp; (try with_reducible rfl))
    (try simp only [Act.put, getElem_toArray, getElem_cons_succ, getElem_cons_zero]); (try simp only [setIfInBounds_toArray, set_cons_succ, set_cons_zero])
    refine wpAnyH_take (i := 12) (v := ?v75) rfl (by kernel_rfl) (by kernel_rfl) (by kernel_rfl) (fun _ _ _ h => h) (Or.inl ⟨by rfl, ?hy75⟩) hHeld ?rest75
    case hy75 => (intro wz hSw; (try dsimp only at hSw); go_simp; (try with_reducible rfl))
    (try simp only [Act.put, getElem_toArray, getElem_cons_succ, getElem_cons_zero]); (try simp only [setIfInBounds_toArray, set_cons_succ, set_cons_zero])
    refine wpAnyH_take (i := 13) (v := ?v76) rfl (by kernel_rfl) (by kernel_rfl) (by kernel_rfl) (fun _ _ _ h => h) (Or.inl ⟨by rfl, ?hy76⟩) hHeld ?rest76
    case hy76 => (intro wz hSw; (try dsimp only at hSw); go_simp; (try with_reducible rfl))
    (try simp only [Act.put, getElem_toArray, getElem_cons_succ, getElem_cons_zero]); (try simp only [setIfInBounds_toArray, set_cons_succ, set_cons_zero])
    refine wpAnyH_take (i := 14) (v := ?v77) rfl (by kernel_rfl) (by kernel_rfl) (by kernel_rfl) (fun _ _ _ h => h) (Or.inl ⟨by rfl, ?hy77⟩) hHeld ?rest77
    case hy77 => (intro wz hSw; (try dsimp only at hSw); go_simp; (try with_reducible rfl))
    (try simp only [Act.put, getElem_toArray, getElem_cons_succ, getElem_cons_zero]); (try simp only [setIfInBounds_toArray, set_cons_succ, set_cons_zero])
    refine wpAnyH_take (i := 15) (v := ?v78) rfl (by kernel_rfl) (by kernel_rfl) (by kernel_rfl) (fun _ _ _ h => h) (Or.inl ⟨by rfl, ?hy78⟩) hHeld ?rest78
    case hy78 => (intro wz hSw; (try dsimp only at hSw); go_simp; (try with_reducible rfl))
    (try simp only [Act.put, getElem_toArray, getElem_cons_succ, getElem_cons_zero]); (try simp only [setIfInBounds_toArray, set_cons_succ, set_cons_zero])
    refine wpAnyH_take (i := 16) (v := ?v79) rfl (by kernel_rfl) (by kernel_rfl) (by kernel_rfl) (fun _ _ _ h => h) (Or.inl ⟨by rfl, ?hy79⟩) hHeld ?rest79
    case hy79 => (intro wz hSw; (try dsimp only at hSw); go_simp; (try with_reducible rfl))
    (try simp only [Act.put, getElem_toArray, getElem_cons_succ, getElem_cons_zero]); (try simp only [setIfInBounds_toArray, set_cons_succ, set_cons_zero])
    refine wpAnyH_take (i := 17) (v := ?v80) rfl (by kernel_rfl) (by kernel_rfl) (by kernel_rfl) (fun _ _ _ h => h) (Or.inl ⟨by rfl, ?hy80⟩) hHeld ?rest80
    case hy80 => (intro wz hSw; (try dsimp only at hSw); go_simp; (try with_reducible rfl))
    (try simp only [Act.put, getElem_toArray, getElem_cons_succ, getElem_cons_zero]); (try simp only [setIfInBounds_toArray, set_cons_succ, set_cons_zero])
    refine wpAnyH_take (i := 18) (v := ?v81) rfl (by kernel_rfl) (by kernel_rfl) (by kernel_rfl) (fun _ _ _ h => h) (Or.inl ⟨by rfl, ?hy81⟩) hHeld ?rest81
    case hy81 => (intro wz hSw; (try dsimp only at hSw); go_simp; (try with_reducible rfl))
    (try simp only [Act.put, getElem_toArray, getElem_cons_succ, getElem_cons_zero]); (try simp only [setIfInBounds_toArray, set_cons_succ, set_cons_zero])
    refine wpAnyH_take (i := 19) (v := ?v82) rfl (by kernel_rfl) (by kernel_rfl) (by kernel_rfl) (fun _ _ _ h => h) (Or.inl ⟨by rfl, ?hy82⟩) hHeld ?rest82
    case hy82 => (intro wz hSw; (try dsimp only at hSw); go_simp; (try with_reducible rfl))
    (try simp only [Act.put, getElem_toArray, getElem_cons_succ, getElem_cons_zero]); (try simp only [setIfInBounds_toArray, set_cons_succ, set_cons_zero])
    refine wpAnyH_ready (rs := [20]) (by kernel_rfl) (by simp) ?_
    refine AllReadyH.cons rfl (fun K' hK => ?_) AllReadyH.nil
    go_simp
    refine (l10Size_spec g k S ms _ (HMM.out.ext (E_4.out.trans (And.left hHeld))) hk0 HS0.out).mono ?_
    rintro e _ ⟨rfl, rfl⟩
    dsimp only
    refine hK.out _ _ hHeld (fun hHeld => ?_)
    clear hK
    refine wpAnyH_take (i := 21) (v := ?v83) rfl (by kernel_rfl) (by kernel_rfl) (by kernel_rfl) (fun _ _ _ h => h) (Or.inl ⟨by rfl, ?hy83⟩) hHeld ?rest83
    case hy83 => (intro wz hSw; (try dsimp only at hSw); go_simp; (try with_reducible rfl))
    (try simp only [Act.put, getElem_toArray, getElem_cons_succ, getElem_cons_zero]); (try simp only [setIfInBounds_toArray, set_cons_succ, set_cons_zero])
    refine wpAnyH_take (i := 22) (v := ?v84) rfl (by kernel_rfl) (by kernel_rfl) (by kernel_rfl) (fun _ _ _ h => h) (Or.inl ⟨by rfl, ?hy84⟩) hHeld ?rest84
    case hy84 => (intro wz hSw; (try dsimp only at hSw); go_simp; (try with_reducible rfl))
    (try simp only [Act.put, getElem_toArray, getElem_cons_succ, getElem_cons_zero]); (try simp only [setIfInBounds_toArray, set_cons_succ, set_cons_zero])
    refine wpAnyH_done (by kernel_rfl) ?_ _
    have X9 := (And.left hHeld)
    clear hHeld
    clear lA0 qA00 qA01 qA02 lA1 qA10 qA11 qA12 qA13
    have A0_5 := Lib.hid (A0_1.out.ext X9)
    clear A0_1
    have A1_6 := Lib.hid (A1_2.out.ext X9)
    clear A1_2
    have R_7 := Lib.hid (R_3.out.ext X9)
    clear R_3
    have E_8 := Lib.hid (E_4.out.trans X9)
    clear E_4
    have lR := R_7.out.1
    have qR0 := R_7.out.2 0 _ rfl
    have qR1 := R_7.out.2 1 _ rfl
    have qR2 := R_7.out.2 2 _ rfl
    have qR3 := R_7.out.2 3 _ rfl
    have tR := R_7.out.3
    try simp only [World.size_alloc] at lR
    go_wp2
    refine bodyPost_ret (v := .tuple #[.agg #[.int .i64 0, .int .i64 0, .int .i64 0, .slice none 0 0], .bool false]) (by simp [results, Try.results42, go_sem, qR0, qR1, qR2, qR3]) rfl ⟨_, rfl, ⟨_, _, _, rfl, own_nil _ _ _, by omega⟩, ext4 E_8.out (by omega) _ _ _ _⟩
  have hcn : ((S : Int) != (S : Int)) = false := by simp
  have hpn : (P != P) = false := by simp
  have hv : hvB P ms P2 R C xs = true := by rw [HVB.out, h1, show (P2 == P) = true by simpa using hpp, show (C == (S : Int)) = true by simpa using hcs]; rfl
  simp only [smbM, h0, hv, Bool.and_self, if_true, hP.szM, Prod.mk.injEq, Mat.mk.injEq] at hM
  obtain ⟨⟨rfl, rfl, rfl, rfl⟩, rfl⟩ := hM
  have hv2 : (mok P2 R C xs && ((P2 == P) && (C == (S : Int)))) = true := by rw [← hv, hvB, hP.szM]
  clear hcs
  obtain ⟨hPP, rfl, r, rfl, hr40, hmo, hxl, hxr⟩ := hsm_parts hv2
  obtain rfl : P = P2 := hPP.symm
  simp only [Int.toNat_natCast]
  have HP := Lib.hid hP
  have hpr := hP.alg.pr
  have hS := hP.sz
  have hD := hP.alg.dim
  have hIP := isP_iff.1 hP.alg.pr
  have hp := isP_lo hP.alg.pr
  have hp2 := isP_hi hP.alg.pr
  have hn1 : n1 = r * S := by rw [← HX.out.1, hxl]
  have HNS := Lib.hid (sbN_spec (P := P) (S := S) (D := k) (ms := ms) hIP hxl hxr)
  have HSP : Hid (∀ i, Spc P S (sbS P S k ms r xs i)) := fun i => sbS_spc hIP hxl hxr i
  have HSPN : Hid (∀ w1, Ext w w1 → Calls Try.prog 84 #[.agg #[.int .i64 P, .int .i64 r, .int .i64 S, .slice (some ⟨s0, so, none⟩) n1 n1]] w1 fun e w' => ∃ b c, e = .returned (.agg #[.int .i64 P, .int .i64 ((sbS P S k ms r xs 0).1 : Nat), .int .i64 S, .slice (some ⟨b, 0, none⟩) ((sbS P S k ms r xs 0).1 * S) c]) ∧ w1.heap.size ≤ b ∧ b < w'.heap.size ∧ Has w' b (sbS P S k ms r xs 0).2 ∧ Ext w1 w') := fun w1 h =>
    (l1Span_spec P r S n1 n1 (some ⟨s0, so, none⟩) xs w1 (HX.out.ext h) hn1 hx (by omega) (by omega) hpr hxr (fun h => absurd h (by simp))).mono (fun e w' h => by
      obtain ⟨b, c, e1, e2, e3, e4, e5, _⟩ := h
      exact ⟨b, c, e1, e2, e3, e4, e5⟩)
  have HMV : Hid (∀ i w1 b c, Ext w w1 → Has w1 b (sbS P S k ms r xs i).2 → Calls Try.prog 85 #[.agg #[.int .i64 P, .int .i64 k, .slice (some ⟨a0, oa, none⟩) n n], .slice (some ⟨g, 0, none⟩) k k, .agg #[.int .i64 P, .int .i64 ((sbS P S k ms r xs i).1 : Nat), .int .i64 S, .slice (some ⟨b, 0, none⟩) ((sbS P S k ms r xs i).1 * S) c]] w1 fun e w' => ∃ b' c', e = .returned (.agg #[.int .i64 P, .int .i64 ((sbS P S k ms r xs (i + 1)).1 : Nat), .int .i64 S, .slice (some ⟨b', 0, none⟩) ((sbS P S k ms r xs (i + 1)).1 * S) c']) ∧ w1.heap.size ≤ b' ∧ b' < w'.heap.size ∧ Has w' b' (sbS P S k ms r xs (i + 1)).2 ∧ Ext w1 w') := fun i w1 b c h hb => by
    rw [sbS_mv hIP hxl hxr i]
    exact l10Moved_spec P S k g (sbS P S k ms r xs i).1 b 0 _ c (.slice (some ⟨a0, oa, none⟩) n n) ms (sbS P S k ms r xs i).2 w1 (HMM.out.ext h) (hb.reads (HSP.out i).len) rfl hk0 hD hS (HSP.out i) (fun i hi => HP.out.at_ i hi) (fun i hi => HP.out.len hi) (fun i hi => HP.out.res hi) hpr
  have HLAST : Hid (sbS P S k ms r xs (sbN P S k ms r xs + 1) = sbS P S k ms r xs (sbN P S k ms r xs)) := sbN_last hIP hxl hxr
  have HUP : Hid (∀ i, i < sbN P S k ms r xs → (sbS P S k ms r xs i).1 < (sbS P S k ms r xs (i + 1)).1) := fun i hi => sbN_up hIP hxl hxr i hi
  have HLE : Hid (∀ i, (sbS P S k ms r xs i).1 ≤ S) := fun i => (HSP.out i).le
  have HLB : Hid (∀ i, (sbS P S k ms r xs i).1 * S ≤ 900) := fun i => Nat.mul_le_mul (Nat.le_trans (HSP.out i).le hS) hS
  have HLN : Hid (∀ i, (sbS P S k ms r xs i).2.length = (sbS P S k ms r xs i).1 * S) := fun i => (HSP.out i).len
  clear h0 hv hv2 hP hxl hxr hmo HNS HSP hIP hn1 HVB HP
  generalize sbN P S k ms r xs = N at *
  generalize sbS P S k ms r xs = s at *
  go_enter Try.func42, Try.ntmps42
  have A0_1 := Lib.hid (((cells_new' w #[.int .i64 P, .int .i64 k, .slice (some ⟨a0, oa, none⟩) n n] 29 (w.heap.size) (by simp)).ext ((Ext.refl _).alloc (.cells #[.int .i64 P, .int .i64 r, .int .i64 S, .slice (some ⟨s0, so, none⟩) n1 n1] 37))).ext ((Ext.refl _).alloc (.cells #[.int .i64 0, .int .i64 0, .int .i64 0, .slice none 0 0] 37)))
  have A1_2 := Lib.hid ((cells_new' (w.alloc (.cells #[.int .i64 P, .int .i64 k, .slice (some ⟨a0, oa, none⟩) n n] 29)) #[.int .i64 P, .int .i64 r, .int .i64 S, .slice (some ⟨s0, so, none⟩) n1 n1] 37 (w.heap.size + 1) (by simp)).ext ((Ext.refl _).alloc (.cells #[.int .i64 0, .int .i64 0, .int .i64 0, .slice none 0 0] 37)))
  have R_3 := Lib.hid (cells_new' ((w.alloc (.cells #[.int .i64 P, .int .i64 k, .slice (some ⟨a0, oa, none⟩) n n] 29)).alloc (.cells #[.int .i64 P, .int .i64 r, .int .i64 S, .slice (some ⟨s0, so, none⟩) n1 n1] 37)) #[.int .i64 0, .int .i64 0, .int .i64 0, .slice none 0 0] 37 (w.heap.size + 1 + 1) (by simp))
  have E_4 := Lib.hid ((((Ext.refl w).alloc (.cells #[.int .i64 P, .int .i64 k, .slice (some ⟨a0, oa, none⟩) n n] 29)).alloc (.cells #[.int .i64 P, .int .i64 r, .int .i64 S, .slice (some ⟨s0, so, none⟩) n1 n1] 37)).alloc (.cells #[.int .i64 0, .int .i64 0, .int .i64 0, .slice none 0 0] 37))
  go_wp2_with fail
  generalize (((w.alloc (.cells #[.int .i64 P, .int .i64 k, .slice (some ⟨a0, oa, none⟩) n n] 29)).alloc (.cells #[.int .i64 P, .int .i64 r, .int .i64 S, .slice (some ⟨s0, so, none⟩) n1 n1] 37)).alloc (.cells #[.int .i64 0, .int .i64 0, .int .i64 0, .slice none 0 0] 37)) = W0 at *
  have lA0 := A0_1.out.1
  have qA00 := A0_1.out.2 0 _ rfl
  have qA01 := A0_1.out.2 1 _ rfl
  have qA02 := A0_1.out.2 2 _ rfl
  have lA1 := A1_2.out.1
  have qA10 := A1_2.out.2 0 _ rfl
  have qA11 := A1_2.out.2 1 _ rfl
  have qA12 := A1_2.out.2 2 _ rfl
  have qA13 := A1_2.out.2 3 _ rfl
  try simp only [World.size_alloc] at lA0 lA1
  refine wp_region_held_drew (S := (fun w' => Ext W0 w' ∧ (∀ b o, b < W0.heap.size → w'.cell? ⟨b, o, none⟩ = W0.cell? ⟨b, o, none⟩))) (by kernel_rfl) (ext2 (Ext.refl W0).drew) (fun hHeld => ?_)
  refine wpAnyH_take (i := 0) (v := ?v85) rfl (by kernel_rfl) (by kernel_rfl) (by kernel_rfl) (fun _ _ _ h => h) (Or.inl ⟨by rfl, ?hy85⟩) hHeld ?rest85
  case hy85 => (intro wz hSw; (try dsimp only at hSw); go_simp; (try with_reducible rfl))
  (try simp only [Act.put, getElem_toArray, getElem_cons_succ, getElem_cons_zero]); (try simp only [setIfInBounds_toArray, set_cons_succ, set_cons_zero])
  refine wpAnyH_take (i := 1) (v := ?v86) rfl (by kernel_rfl) (by kernel_rfl) (by kernel_rfl) (fun _ _ _ h => h) (Or.inl ⟨by rfl, ?hy86⟩) hHeld ?rest86
  case hy86 => (intro wz hSw; (try dsimp only at hSw); go_simp; (try with_reducible rfl))
  (try simp only [Act.put, getElem_toArray, getElem_cons_succ, getElem_cons_zero]); (try simp only [setIfInBounds_toArray, set_cons_succ, set_cons_zero])
  refine wpAnyH_ready (rs := [2]) (by kernel_rfl) (by simp) ?_
  refine AllReadyH.cons rfl (fun K' hK => ?_) AllReadyH.nil
  go_simp
  refine (HIS.out _ (E_4.out.trans (And.left hHeld))).mono ?_
  rintro e w2 ⟨rfl, h2⟩
  rw [H0.out]
  have X2 := (And.left hHeld).trans h2
  dsimp only
  refine hK.out _ _ (ext2 X2) (fun hHeld => ?_)
  clear hK
  refine wpAnyH_take (i := 3) (v := ?v87) rfl (by kernel_rfl) (by kernel_rfl) (by kernel_rfl) (fun _ _ _ h => h) (Or.inl ⟨by rfl, ?hy87⟩) hHeld ?rest87
  case hy87 => (intro wz hSw; (try dsimp only at hSw); go_simp; (try with_reducible rfl))
  (try simp only [Act.put, getElem_toArray, getElem_cons_succ, getElem_cons_zero]); (try simp only [setIfInBounds_toArray, set_cons_succ, set_cons_zero])
  refine wpAnyH_take (i := 4) (v := ?v88) rfl (by kernel_rfl) (by kernel_rfl) (by kernel_rfl) (fun _ _ _ h => h) (Or.inl ⟨by rfl, ?hy88⟩) hHeld ?rest88
  case hy88 => (intro wz hSw; (try dsimp only at hSw); go_simp; (try with_reducible rfl))
  (try simp only [Act.put, getElem_toArray, getElem_cons_succ, getElem_cons_zero]); (try simp only [setIfInBounds_toArray, set_cons_succ, set_cons_zero])
  refine wpAnyH_take (i := 5) (v := ?v89) rfl (by kernel_rfl) (by kernel_rfl) (by kernel_rfl) (fun _ _ _ h => h) (Or.inl ⟨by rfl, ?hy89⟩) hHeld ?rest89
  case hy89 => (intro wz hSw; (try dsimp only at hSw); go_simp; (try with_reducible rfl))
  (try simp only [Act.put, getElem_toArray, getElem_cons_succ, getElem_cons_zero]); (try simp only [setIfInBounds_toArray, set_cons_succ, set_cons_zero])
  refine wpAnyH_ready (rs := [6]) (by kernel_rfl) (by simp) ?_
  refine AllReadyH.cons rfl (fun K' hK => ?_) AllReadyH.nil
  go_simp
  refine (HMO.out _ (E_4.out.trans (And.left hHeld))).mono ?_
  rintro e w3 ⟨rfl, h3⟩
  rw [H1.out]
  have X3 := (And.left hHeld).trans h3
  dsimp only
  refine hK.out _ _ (ext2 X3) (fun hHeld => ?_)
  clear hK
  refine wpAnyH_take (i := 7) (v := ?v90) rfl (by kernel_rfl) (by kernel_rfl) (by kernel_rfl) (fun _ _ _ h => h) (Or.inl ⟨by rfl, ?hy90⟩) hHeld ?rest90
  case hy90 => (intro wz hSw; (try dsimp only at hSw); go_simp; (try with_reducible rfl))
  (try simp only [Act.put, getElem_toArray, getElem_cons_succ, getElem_cons_zero]); (try simp only [setIfInBounds_toArray, set_cons_succ, set_cons_zero])
  refine wpAnyH_take (i := 8) (v := ?v91) rfl (by kernel_rfl) (by kernel_rfl) (by kernel_rfl) (fun _ _ _ h => h) (Or.inl ⟨by rfl, ?hy91⟩) hHeld ?rest91
  case hy91 => (intro wz hSw; (try dsimp only at hSw); go_simp; (try with_reducible rfl))
  (try simp only [Act.put, getElem_toArray, getElem_cons_succ, getElem_cons_zero]); (try simp only [setIfInBounds_toArray, set_cons_succ, set_cons_zero])
  refine wpAnyH_take (i := 9) (v := ?v92) rfl (by kernel_rfl) (by kernel_rfl) (by kernel_rfl) (fun _ _ _ h => h) (Or.inl ⟨by rfl, ?hy92⟩) hHeld ?rest92
  case hy92 => (intro wz hSw; (try dsimp only at hSw); go_simp; (try with_reducible rfl))
  (try simp only [Act.put, getElem_toArray, getElem_cons_succ, getElem_cons_zero]); (try simp only [setIfInBounds_toArray, set_cons_succ, set_cons_zero])
  refine wpAnyH_take (i := 10) (v := ?v93) rfl (by kernel_rfl) (by kernel_rfl) (by kernel_rfl) (fun _ _ _ h => h) (Or.inl ⟨by rfl, ?hy93⟩) hHeld ?rest93
  case hy93 => (intro wz hSw; (try dsimp only at hSw); go_simp; (try with_reducible rfl))
  (try simp only [Act.put, getElem_toArray, getElem_cons_succ, getElem_cons_zero]); (try simp only [setIfInBounds_toArray, set_cons_succ, set_cons_zero])
  refine wpAnyH_take (i := 11) (v := ?v94) rfl (by kernel_rfl) (by kernel_rfl) (by kernel_rfl) (fun _ _ _ h => h) (Or.inl ⟨by rfl, ?hy94⟩) hHeld ?rest94
  case hy94 => (intro wz hSw; (try dsimp only at hSw); go_simp; (try with_reducible rfl))
  (try simp only [Act.put, getElem_toArray, getElem_cons_succ, getElem_cons_zero]); (try simp only [setIfInBounds_toArray, set_cons_succ, set_cons_zero])
  refine wpAnyH_take (i := 12) (v := ?v95) rfl (by kernel_rfl) (by kernel_rfl) (by kernel_rfl) (fun _ _ _ h => h) (Or.inl ⟨by rfl, ?hy95⟩) hHeld ?rest95
  case hy95 => (intro wz hSw; (try dsimp only at hSw); go_simp; (try with_reducible rfl))
  (try simp only [Act.put, getElem_toArray, getElem_cons_succ, getElem_cons_zero]); (try simp only [setIfInBounds_toArray, set_cons_succ, set_cons_zero])
  refine wpAnyH_take (i := 13) (v := ?v96) rfl (by kernel_rfl) (by kernel_rfl) (by kernel_rfl) (fun _ _ _ h => h) (Or.inl ⟨by rfl, ?hy96⟩) hHeld ?rest96
  case hy96 => (intro wz hSw; (try dsimp only at hSw); go_simp; (try with_reducible rfl))
  (try simp only [Act.put, getElem_toArray, getElem_cons_succ, getElem_cons_zero]); (try simp only [setIfInBounds_toArray, set_cons_succ, set_cons_zero])
  refine wpAnyH_take (i := 14) (v := ?v97) rfl (by kernel_rfl) (by kernel_rfl) (by kernel_rfl) (fun _ _ _ h => h) (Or.inl ⟨by rfl, ?hy97⟩) hHeld ?rest97
  case hy97 => (intro wz hSw; (try dsimp only at hSw); go_simp; (try with_reducible rfl))
  (try simp only [Act.put, getElem_toArray, getElem_cons_succ, getElem_cons_zero]); (try simp only [setIfInBounds_toArray, set_cons_succ, set_cons_zero])
  refine wpAnyH_take (i := 15) (v := ?v98) rfl (by kernel_rfl) (by kernel_rfl) (by kernel_rfl) (fun _ _ _ h => h) (Or.inl ⟨by rfl, ?hy98⟩) hHeld ?rest98
  case hy98 => (intro wz hSw; (try dsimp only at hSw); go_simp; (try with_reducible rfl))
  (try simp only [Act.put, getElem_toArray, getElem_cons_succ, getElem_cons_zero]); (try simp only [setIfInBounds_toArray, set_cons_succ, set_cons_zero])
  refine wpAnyH_take (i := 16) (v := ?v99) rfl (by kernel_rfl) (by kernel_rfl) (by kernel_rfl) (fun _ _ _ h => h) (Or.inl ⟨by rfl, ?hy99⟩) hHeld ?rest99
  case hy99 => (intro wz hSw; (try dsimp only at hSw); go_simp; (try with_reducible rfl))
  (try simp only [Act.put, getElem_toArray, getElem_cons_succ, getElem_cons_zero]); (try simp only [setIfInBounds_toArray, set_cons_succ, set_cons_zero])
  refine wpAnyH_take (i := 17) (v := ?v100) rfl (by kernel_rfl) (by kernel_rfl) (by kernel_rfl) (fun _ _ _ h => h) (Or.inl ⟨by rfl, ?hy100⟩) hHeld ?rest100
  case hy100 => (intro wz hSw; (try dsimp only at hSw); go_simp; (try with_reducible rfl))
  (try simp only [Act.put, getElem_toArray, getElem_cons_succ, getElem_cons_zero]); (try simp only [setIfInBounds_toArray, set_cons_succ, set_cons_zero])
  refine wpAnyH_take (i := 18) (v := ?v101) rfl (by kernel_rfl) (by kernel_rfl) (by kernel_rfl) (fun _ _ _ h => h) (Or.inl ⟨by rfl, ?hy101⟩) hHeld ?rest101
  case hy101 => (intro wz hSw; (try dsimp only at hSw); go_simp; (try with_reducible rfl))
  (try simp only [Act.put, getElem_toArray, getElem_cons_succ, getElem_cons_zero]); (try simp only [setIfInBounds_toArray, set_cons_succ, set_cons_zero])
  refine wpAnyH_take (i := 19) (v := ?v102) rfl (by kernel_rfl) (by kernel_rfl) (by kernel_rfl) (fun _ _ _ h => h) (Or.inl ⟨by rfl, ?hy102⟩) hHeld ?rest102
  case hy102 => (intro wz hSw; (try dsimp only at hSw); go_simp; (try with_reducible rfl))
  (try simp only [Act.put, getElem_toArray, getElem_cons_succ, getElem_cons_zero]); (try simp only [setIfInBounds_toArray, set_cons_succ, set_cons_zero])
  refine wpAnyH_ready (rs := [20]) (by kernel_rfl) (by simp) ?_
  refine AllReadyH.cons rfl (fun K' hK => ?_) AllReadyH.nil
  go_simp
  refine (l10Size_spec g k S ms _ (HMM.out.ext (E_4.out.trans (And.left hHeld))) hk0 HS0.out).mono ?_
  rintro e _ ⟨rfl, rfl⟩
  dsimp only
  refine hK.out _ _ hHeld (fun hHeld => ?_)
  clear hK
  refine wpAnyH_take (i := 21) (v := ?v103) rfl (by kernel_rfl) (by kernel_rfl) (by kernel_rfl) (fun _ _ _ h => h) (Or.inl ⟨by rfl, ?hy103⟩) hHeld ?rest103
  case hy103 => (intro wz hSw; (try dsimp only at hSw); go_simp; (try with_reducible rfl))
  (try simp only [Act.put, getElem_toArray, getElem_cons_succ, getElem_cons_zero]); (try simp only [setIfInBounds_toArray, set_cons_succ, set_cons_zero])
  refine wpAnyH_take (i := 22) (v := ?v104) rfl (by kernel_rfl) (by kernel_rfl) (by kernel_rfl) (fun _ _ _ h => h) (Or.inl ⟨by rfl, ?hy104⟩) hHeld ?rest104
  case hy104 => (intro wz hSw; (try dsimp only at hSw); go_simp; (try with_reducible rfl))
  (try simp only [Act.put, getElem_toArray, getElem_cons_succ, getElem_cons_zero]); (try simp only [setIfInBounds_toArray, set_cons_succ, set_cons_zero])
  refine wpAnyH_done (by kernel_rfl) ?_ _
  have X9 := (And.left hHeld)
  clear hHeld
  clear lA0 qA00 qA01 qA02 lA1 qA10 qA11 qA12 qA13
  have A0_5 := Lib.hid (A0_1.out.ext X9)
  clear A0_1
  have A1_6 := Lib.hid (A1_2.out.ext X9)
  clear A1_2
  have R_7 := Lib.hid (R_3.out.ext X9)
  clear R_3
  have E_8 := Lib.hid (E_4.out.trans X9)
  clear E_4
  have hwr := R_7.out.1
  have lA1 := A1_6.out.1
  have qA10 := A1_6.out.2 0 _ rfl
  have qA11 := A1_6.out.2 1 _ rfl
  have qA12 := A1_6.out.2 2 _ rfl
  have qA13 := A1_6.out.2 3 _ rfl
  try simp only [World.size_alloc] at lA1
  go_wp2_with fail
  refine (HSPN.out _ E_8.out).mono ?_
  rintro e w_9 ⟨b0, c0, rfl, hb1, hb2, hh, h_9⟩
  clear lA1 qA10 qA11 qA12 qA13
  have A0_10 := Lib.hid (A0_5.out.ext h_9)
  clear A0_5
  have A1_11 := Lib.hid (A1_6.out.ext h_9)
  clear A1_6
  have R_12 := Lib.hid (R_7.out.ext h_9)
  clear R_7
  have E_13 := Lib.hid (E_8.out.trans h_9)
  clear E_8
  have H2 := Lib.hid hh
  clear hh
  have hE9 := E_13.out.le
  have P_14 := (Ext.refl w_9).alloc (.cells #[.int .i64 P, .int .i64 ((s 0).1 : Nat), .int .i64 S, .slice (some ⟨b0, 0, none⟩) ((s 0).1 * S) c0] 37)
  have A0_15 := Lib.hid (A0_10.out.ext P_14)
  clear A0_10
  have A1_16 := Lib.hid (A1_11.out.ext P_14)
  clear A1_11
  have R_17 := Lib.hid (R_12.out.ext P_14)
  clear R_12
  have E_18 := Lib.hid (E_13.out.trans P_14)
  clear E_13
  clear P_14
  have L_19 := Lib.hid (cells_new w_9 #[.int .i64 P, .int .i64 ((s 0).1 : Nat), .int .i64 S, .slice (some ⟨b0, 0, none⟩) ((s 0).1 * S) c0] 37)
  have H3 := Lib.hid (H2.out.alloc (.cells #[.int .i64 P, .int .i64 ((s 0).1 : Nat), .int .i64 S, .slice (some ⟨b0, 0, none⟩) ((s 0).1 * S) c0] 37))
  have hLBs : w.heap.size + 1 + 1 < w_9.heap.size := by omega
  have hb0 : w.heap.size + 1 + 1 + 1 ≤ b0 := by omega
  clear H2 hb1 hb2 hwr hE9 A1_16
  go_wp2_with fail
  generalize hW1 : (w_9.alloc (.cells #[.int .i64 P, .int .i64 ((s 0).1 : Nat), .int .i64 S, .slice (some ⟨b0, 0, none⟩) ((s 0).1 * S) c0] 37)) = W1 at *
  generalize hLB : w_9.heap.size = LB at *
  clear hW1
  clear hLB
  go_loopw [9] (fun _ wr => ∃ i b c, i ≤ N ∧ w.heap.size + 1 + 1 + 1 ≤ b ∧ Hid (Cells wr LB [.int .i64 P, .int .i64 ((s i).1 : Nat), .int .i64 S, .slice (some ⟨b, 0, none⟩) ((s i).1 * S) c]) ∧ Hid (Has wr b (s i).2) ∧ Hid (Cells wr (w.heap.size + 1 + 1) [.int .i64 0, .int .i64 0, .int .i64 0, .slice none 0 0]) ∧ Hid (Cells wr w.heap.size [.int .i64 P, .int .i64 k, .slice (some ⟨a0, oa, none⟩) n n]) ∧ Hid (Ext w wr)) (fun _ wr => S - rowsAt (wr.cell? ⟨LB, 1, none⟩))
  case atStart => exact ⟨0, b0, c0, by omega, hb0, L_19, H3, R_17, A0_15, E_18⟩
  case round =>
    clear L_19 H3 R_17 A0_15 E_18
    obtain ⟨i, b, c, hi, hbw, hL, hH, hR0, hA0, hE⟩ := hrel
    have HM1 := Lib.hid (HMV.out i wr b c hE.out hH.out)
    have hle1 := HLE.out (i + 1)
    have hln1 := Lib.hid (HLN.out (i + 1))
    have lA := hA0.out.1
    have a0' := hA0.out.2 0 _ rfl
    have a1' := hA0.out.2 1 _ rfl
    have a2' := hA0.out.2 2 _ rfl
    have lL := hL.out.1
    have q0 := hL.out.2 0 _ rfl
    have q1 := hL.out.2 1 _ rfl
    have q2 := hL.out.2 2 _ rfl
    have q3 := hL.out.2 3 _ rfl
    have HQ1 := Lib.hid q1
    go_wp2_with fail
    refine HM1.out.mono ?_
    rintro e w5 ⟨b4, c4, rfl, hb4, hb5, k4, h5⟩
    have hL2 := Lib.hid (hL.out.ext h5)
    have hR2 := Lib.hid (hR0.out.ext h5)
    have hA2 := Lib.hid (hA0.out.ext h5)
    have hE2 := Lib.hid (hE.out.trans h5)
    have K4 := Lib.hid k4
    have HBS : Hid (w.heap.size + 1 + 1 < wr.heap.size ∧ wr.heap.size ≤ b4 ∧ b4 < w5.heap.size ∧ LB < wr.heap.size ∧ wr.heap.size ≤ w5.heap.size) := ⟨hR0.out.1, hb4, hb5, hL.out.1, h5.le⟩
    clear lA a0' a1' a2' lL q0 q1 q2 q3 hL hR0 hA0 hE hH HM1 k4 h5 hb4 hb5
    go_upto_region 5 with fail
    have EX := Lib.hid ((Ext.refl w5).alloc (.cells #[.int .i64 P, .int .i64 ((s (i + 1)).1 : Nat), .int .i64 S, .slice (some ⟨b4, 0, none⟩) ((s (i + 1)).1 * S) c4] 37))
    have CX := Lib.hid (cells_new w5 #[.int .i64 P, .int .i64 ((s (i + 1)).1 : Nat), .int .i64 S, .slice (some ⟨b4, 0, none⟩) ((s (i + 1)).1 * S) c4] 37)
    have KX := Lib.hid (K4.out.alloc (.cells #[.int .i64 P, .int .i64 ((s (i + 1)).1 : Nat), .int .i64 S, .slice (some ⟨b4, 0, none⟩) ((s (i + 1)).1 * S) c4] 37))
    have hL3 := Lib.hid (hL2.out.ext EX.out)
    have hR3 := Lib.hid (hR2.out.ext EX.out)
    have hA3 := Lib.hid (hA2.out.ext EX.out)
    have hE3 := Lib.hid (hE2.out.trans EX.out)
    have HBX : Hid (w.heap.size + 1 + 1 < wr.heap.size ∧ wr.heap.size ≤ b4 ∧ b4 < (w5.alloc (.cells #[.int .i64 P, .int .i64 ((s (i + 1)).1 : Nat), .int .i64 S, .slice (some ⟨b4, 0, none⟩) ((s (i + 1)).1 * S) c4] 37)).heap.size ∧ LB < wr.heap.size ∧ wr.heap.size ≤ w5.heap.size) := by
      obtain ⟨u1, u2, u3, u4, u5⟩ := HBS.out
      exact ⟨u1, u2, by simp; omega, u4, u5⟩
    clear hL2 hR2 hA2 hE2 K4 HBS EX
    generalize hWX : w5.alloc (.cells #[.int .i64 P, .int .i64 ((s (i + 1)).1 : Nat), .int .i64 S, .slice (some ⟨b4, 0, none⟩) ((s (i + 1)).1 * S) c4] 37) = wx at *
    generalize hXB : w5.heap.size = XB at *
    clear hWX
    clear hXB
    have nXR : XB ≠ w.heap.size + 1 + 1 := by have := HBX.out; omega
    have nXL : XB ≠ LB := by have := HBX.out; omega
    have lL := hL3.out.1
    have q0 := hL3.out.2 0 _ rfl
    have q1 := hL3.out.2 1 _ rfl
    have q2 := hL3.out.2 2 _ rfl
    have q3 := hL3.out.2 3 _ rfl
    by_cases e : i = N
    · subst e
      have HS1 := HLAST.out
      rw [HS1] at KX hln1 CX
      clear HS1 HLAST HUP
      have lX := CX.out.1
      have x0 := CX.out.2 0 _ rfl
      have x1 := CX.out.2 1 _ rfl
      have x2 := CX.out.2 2 _ rfl
      have x3 := CX.out.2 3 _ rfl
      have r0 := hR3.out.2 0 _ rfl
      have r1 := hR3.out.2 1 _ rfl
      have r2 := hR3.out.2 2 _ rfl
      have r3 := hR3.out.2 3 _ rfl
      have tR := hR3.out.3
      have lR := hR3.out.1
      go_wp2
      obtain ⟨u1, u2, u3, u4, u5⟩ := HBX.out
      have hlb9 := HLB.out i
      refine bodyPost_ret (v := .tuple #[.agg #[.int .i64 P, .int .i64 ((s i).1 : Nat), .int .i64 S, .slice (some ⟨b4, 0, none⟩) ((s i).1 * S) c4], .bool true]) (by simp [results, Try.results42, go_sem, r0, r1, r2, r3]) rfl ⟨_, rfl, ⟨_, _, _, rfl, ?_, by omega⟩, ext4 hE3.out (by omega) _ _ _ _⟩
      exact Own.mono (own4 (KX.out.own (lo := w.heap.size + 1 + 1 + 1) (hi := wx.heap.size) (by omega) u3 hln1.out) (by omega) _ _ _ _) (by omega) (by simp)
    · have hlt := HUP.out i (by omega)
      have hne3 : (((s (i + 1)).1 : Int) == ((s i).1 : Int)) = false := by simp only [beq_eq_false_iff_ne, ne_eq]; omega
      have tL := hL3.out.3
      have lX := CX.out.1
      have x0 := CX.out.2 0 _ rfl
      have x1 := CX.out.2 1 _ rfl
      have x2 := CX.out.2 2 _ rfl
      have x3 := CX.out.2 3 _ rfl
      obtain ⟨u1, u2, u3, u4, u5⟩ := HBX.out
      have C' := Lib.hid (early4 (lo := 0) (v0 := .int .i64 P) (v1 := .int .i64 ((s (i + 1)).1 : Nat)) (v2 := .int .i64 S) (v3 := .slice (some ⟨b4, 0, none⟩) ((s (i + 1)).1 * S) c4) hL3.out)
      have H' := Lib.hid (ha4 KX.out (show b4 ≠ LB by omega) (.int .i64 P) (.int .i64 ((s (i + 1)).1 : Nat)) (.int .i64 S) (.slice (some ⟨b4, 0, none⟩) ((s (i + 1)).1 * S) c4))
      have R' := Lib.hid (cl4 hR3.out (show w.heap.size + 1 + 1 ≠ LB by omega) (.int .i64 P) (.int .i64 ((s (i + 1)).1 : Nat)) (.int .i64 S) (.slice (some ⟨b4, 0, none⟩) ((s (i + 1)).1 * S) c4))
      have A' := Lib.hid (cl4 hA3.out (show w.heap.size ≠ LB by omega) (.int .i64 P) (.int .i64 ((s (i + 1)).1 : Nat)) (.int .i64 S) (.slice (some ⟨b4, 0, none⟩) ((s (i + 1)).1 * S) c4))
      have E' := Lib.hid (ext4 (B := LB) hE3.out (by omega) (.int .i64 P) (.int .i64 ((s (i + 1)).1 : Nat)) (.int .i64 S) (.slice (some ⟨b4, 0, none⟩) ((s (i + 1)).1 * S) c4))
      have hb49 : w.heap.size + 1 + 1 + 1 ≤ b4 := by omega
      clear u1 u2 u3 u4 u5
      go_wp2
      refine ⟨⟨i + 1, b4, c4, by omega, hb49, C', H', R', A', E'⟩, ?_⟩
      rw [C'.out.2 1 _ rfl, HQ1.out]
      simp only [rowsAt, Int.toNat_natCast]
      omega
end Go.Proofs.Ytnikfalpjieibaa
