/-
  Submodules: images and vectors, in the program.
-/
import Derived.Test.YtnikfalpjieibaaSbm0
import Derived.Test.YtnikfalpjieibaaMd4
import Derived.Test.YtnikfalpjieibaaMs1
import Derived.Test.YtnikfalpjieibaaJn
namespace Go.Proofs.Ytnikfalpjieibaa
open Go.ChangeShapes Go.WideShapes Go.ChangeAt Go.RowKit
open List (getElem_toArray getElem_cons_succ getElem_cons_zero setIfInBounds_toArray set_cons_succ set_cons_zero)
set_option linter.unusedVariables false
set_option linter.unusedSimpArgs false

/-- A module that the program has wrapped. -/
structure ModW (w : World) (P : Int) (D S k g BM BL : Nat) (v : Value) (ms : List Mat) : Prop where
  bm : Cells w BM [.pointer (some ⟨BL, 0, none⟩), .slice (some ⟨g, 0, none⟩) k k, .int .i64 S]
  bl : Cells w BL [.int .i64 P, .int .i64 D, v]
  mi : MatsI w g k ms
  kd : k = D
  dd : D ≤ 28
  ss : S ≤ 30
  at_ : ∀ i, i < k → mt ms i = ⟨P, S, S, (mt ms i).d⟩
  len : ∀ i, i < k → (mt ms i).d.length = S * S
  res : ∀ i, i < k → Res (mt ms i).d P
  pr : isP P = true
theorem ModW.ext {w w' : World} {P : Int} {D S k g BM BL : Nat} {v : Value} {ms : List Mat} (h : ModW w P D S k g BM BL v ms) (hE : Ext w w') : ModW w' P D S k g BM BL v ms :=
  ⟨h.1.ext hE, h.2.ext hE, h.3.ext hE, h.4, h.5, h.6, h.7, h.8, h.9, h.10⟩
theorem ModP.toW {w : World} {P : Int} {D S k g n BM BL : Nat} {v : Value} {l : List Int} {ms : List Mat} (h : ModP P D S n l ms) (hb : Cells w BM [.pointer (some ⟨BL, 0, none⟩), .slice (some ⟨g, 0, none⟩) k k, .int .i64 S]) (hl : Cells w BL [.int .i64 P, .int .i64 D, v]) (hm : MatsI w g k ms) : ModW w P D S k g BM BL v ms := by
  have e : k = D := by rw [← hm.1, h.cnt]
  exact ⟨hb, hl, hm, e, h.alg.dim, h.sz, fun i hi => h.at_ i (by omega), fun i hi => h.len (by omega), fun i hi => h.res (by omega), h.alg.pr⟩

theorem hsm_parts {P : Int} {S : Nat} {P2 R C : Int} {xs : List Int} (h : (mok P2 R C xs && ((P2 == P) && (C == (S : Int)))) = true) : P2 = P ∧ C = S ∧ ∃ r : Nat, R = r ∧ r ≤ 40 ∧ mok P r S xs = true ∧ xs.length = r * S ∧ Res xs P := by
  simp only [Bool.and_eq_true, beq_iff_eq] at h
  obtain ⟨h1, rfl, rfl⟩ := h
  have hb := inB_iff.1 (mok_iff.1 h1).2.1
  obtain ⟨r, rfl⟩ := Int.eq_ofNat_of_zero_le hb.1
  have hl := mok_len h1
  rw [← Int.natCast_mul] at hl
  exact ⟨rfl, rfl, r, rfl, by omega, h1, by omega, mok_res h1⟩

set_option maxRecDepth 100000 in
set_option maxHeartbeats 3200000 in
theorem hasVectors_impl (P P2 R C : Int) (D S k g BM BL n1 c1 : Nat) (v : Value) (a : Option Addr) (ms : List Mat) (xs : List Int) (w : World) (hm : ModW w P D S k g BM BL v ms) (hX : Reads w a n1 xs) (hx : n1 ≤ 1048576) :
    Calls Try.prog 86 #[.pointer (some ⟨BM, 0, none⟩), .agg #[.int .i64 P2, .int .i64 R, .int .i64 C, .slice a n1 c1]] w fun e w' => e = .returned (.bool (mok P2 R C xs && ((P2 == P) && (C == (S : Int))))) ∧ Ext w w' := by
  have A0 := Lib.hid (cells_new w #[.int .i64 P2, .int .i64 R, .int .i64 C, .slice a n1 c1] 37)
  have E0 := Lib.hid ((Ext.refl w).alloc (.cells #[.int .i64 P2, .int .i64 R, .int .i64 C, .slice a n1 c1] 37))
  have HC := Lib.hid (fun w1 (h : Ext w w1) => matrixOk_impl P2 R C a n1 c1 xs w1 (hX.ext h) (by unfold maxLen; omega))
  have MB := hm.bm.ext E0.out
  have ML := hm.bl.ext E0.out
  have lM := MB.1
  have m0 := MB.2 0 _ rfl
  have m2 := MB.2 2 _ rfl
  have lL := ML.1
  have r0 := ML.2 0 _ rfl
  have lA := A0.out.1
  have q0 := A0.out.2 0 _ rfl
  have q1 := A0.out.2 1 _ rfl
  have q2 := A0.out.2 2 _ rfl
  have q3 := A0.out.2 3 _ rfl
  clear hm hX hx MB ML
  generalize mok P2 R C xs = mq at HC ⊢
  rcases mq with _ | _
  · simp only [Bool.false_and]
    go_enter Try.func86, Try.ntmps86
    go_wp2_with fail
    generalize w.alloc (.cells #[.int .i64 P2, .int .i64 R, .int .i64 C, .slice a n1 c1] 37) = W0 at *
    refine wp_region_held_drew (S := (fun w' => Ext W0 w' ∧ (∀ b o, b < W0.heap.size → w'.cell? ⟨b, o, none⟩ = W0.cell? ⟨b, o, none⟩))) (by kernel_rfl) (ext2 (Ext.refl W0).drew) (fun hHeld => ?_)
    refine wpAnyH_take (i := 0) (v := ?v1) rfl (by kernel_rfl) (by kernel_rfl) (by kernel_rfl) (fun _ _ _ h => h) (Or.inl ⟨by rfl, ?hy1⟩) hHeld ?rest1
    case hy1 => (intro wz hSw; (try dsimp only at hSw); go_simp; (try with_reducible rfl))
    (try simp only [Act.put, getElem_toArray, getElem_cons_succ, getElem_cons_zero]); (try simp only [setIfInBounds_toArray, set_cons_succ, set_cons_zero])
    refine wpAnyH_ready (rs := [1]) (by kernel_rfl) (by simp) ?_
    refine AllReadyH.cons rfl (fun K' hK => ?_) AllReadyH.nil
    go_simp
    refine (HC.out _ (E0.out.trans (And.left hHeld))).mono ?_
    rintro e w2 ⟨rfl, h2⟩
    have X2 := (And.left hHeld).trans h2
    dsimp only
    refine hK.out _ _ (ext2 X2) (fun hHeld => ?_)
    clear hK
    refine wpAnyH_take (i := 2) (v := ?v2) rfl (by kernel_rfl) (by kernel_rfl) (by kernel_rfl) (fun _ _ _ h => h) (Or.inl ⟨by rfl, ?hy2⟩) hHeld ?rest2
    case hy2 => (intro wz hSw; (try dsimp only at hSw); go_simp; (try with_reducible rfl))
    (try simp only [Act.put, getElem_toArray, getElem_cons_succ, getElem_cons_zero]); (try simp only [setIfInBounds_toArray, set_cons_succ, set_cons_zero])
    refine wpAnyH_take (i := 3) (v := undef) rfl (by kernel_rfl) (by kernel_rfl) (by kernel_rfl) (fun _ _ _ h => h) (Or.inr ⟨by rfl, rfl⟩) hHeld ?rest3
    (try simp only [Act.put, getElem_toArray, getElem_cons_succ, getElem_cons_zero]); (try simp only [setIfInBounds_toArray, set_cons_succ, set_cons_zero])
    refine wpAnyH_take (i := 4) (v := undef) rfl (by kernel_rfl) (by kernel_rfl) (by kernel_rfl) (fun _ _ _ h => h) (Or.inr ⟨by rfl, rfl⟩) hHeld ?rest4
    (try simp only [Act.put, getElem_toArray, getElem_cons_succ, getElem_cons_zero]); (try simp only [setIfInBounds_toArray, set_cons_succ, set_cons_zero])
    refine wpAnyH_take (i := 5) (v := undef) rfl (by kernel_rfl) (by kernel_rfl) (by kernel_rfl) (fun _ _ _ h => h) (Or.inr ⟨by rfl, rfl⟩) hHeld ?rest5
    (try simp only [Act.put, getElem_toArray, getElem_cons_succ, getElem_cons_zero]); (try simp only [setIfInBounds_toArray, set_cons_succ, set_cons_zero])
    refine wpAnyH_take (i := 6) (v := undef) rfl (by kernel_rfl) (by kernel_rfl) (by kernel_rfl) (fun _ _ _ h => h) (Or.inr ⟨by rfl, rfl⟩) hHeld ?rest6
    (try simp only [Act.put, getElem_toArray, getElem_cons_succ, getElem_cons_zero]); (try simp only [setIfInBounds_toArray, set_cons_succ, set_cons_zero])
    refine wpAnyH_take (i := 7) (v := undef) rfl (by kernel_rfl) (by kernel_rfl) (by kernel_rfl) (fun _ _ _ h => h) (Or.inr ⟨by rfl, rfl⟩) hHeld ?rest7
    (try simp only [Act.put, getElem_toArray, getElem_cons_succ, getElem_cons_zero]); (try simp only [setIfInBounds_toArray, set_cons_succ, set_cons_zero])
    refine wpAnyH_take (i := 8) (v := undef) rfl (by kernel_rfl) (by kernel_rfl) (by kernel_rfl) (fun _ _ _ h => h) (Or.inr ⟨by rfl, rfl⟩) hHeld ?rest8
    (try simp only [Act.put, getElem_toArray, getElem_cons_succ, getElem_cons_zero]); (try simp only [setIfInBounds_toArray, set_cons_succ, set_cons_zero])
    refine wpAnyH_take (i := 9) (v := undef) rfl (by kernel_rfl) (by kernel_rfl) (by kernel_rfl) (fun _ _ _ h => h) (Or.inr ⟨by rfl, rfl⟩) hHeld ?rest9
    (try simp only [Act.put, getElem_toArray, getElem_cons_succ, getElem_cons_zero]); (try simp only [setIfInBounds_toArray, set_cons_succ, set_cons_zero])
    refine wpAnyH_take (i := 10) (v := undef) rfl (by kernel_rfl) (by kernel_rfl) (by kernel_rfl) (fun _ _ _ h => h) (Or.inr ⟨by rfl, rfl⟩) hHeld ?rest10
    (try simp only [Act.put, getElem_toArray, getElem_cons_succ, getElem_cons_zero]); (try simp only [setIfInBounds_toArray, set_cons_succ, set_cons_zero])
    refine wpAnyH_take (i := 11) (v := undef) rfl (by kernel_rfl) (by kernel_rfl) (by kernel_rfl) (fun _ _ _ h => h) (Or.inr ⟨by rfl, rfl⟩) hHeld ?rest11
    (try simp only [Act.put, getElem_toArray, getElem_cons_succ, getElem_cons_zero]); (try simp only [setIfInBounds_toArray, set_cons_succ, set_cons_zero])
    refine wpAnyH_take (i := 12) (v := undef) rfl (by kernel_rfl) (by kernel_rfl) (by kernel_rfl) (fun _ _ _ h => h) (Or.inr ⟨by rfl, rfl⟩) hHeld ?rest12
    (try simp only [Act.put, getElem_toArray, getElem_cons_succ, getElem_cons_zero]); (try simp only [setIfInBounds_toArray, set_cons_succ, set_cons_zero])
    refine wpAnyH_take (i := 13) (v := undef) rfl (by kernel_rfl) (by kernel_rfl) (by kernel_rfl) (fun _ _ _ h => h) (Or.inr ⟨by rfl, rfl⟩) hHeld ?rest13
    (try simp only [Act.put, getElem_toArray, getElem_cons_succ, getElem_cons_zero]); (try simp only [setIfInBounds_toArray, set_cons_succ, set_cons_zero])
    refine wpAnyH_take (i := 14) (v := ?v14) rfl (by kernel_rfl) (by kernel_rfl) (by kernel_rfl) (fun _ _ _ h => h) (Or.inl ⟨by rfl, ?hy14⟩) hHeld ?rest14
    case hy14 => (intro wz hSw; (try dsimp only at hSw); go_simp; (try with_reducible rfl))
    (try simp only [Act.put, getElem_toArray, getElem_cons_succ, getElem_cons_zero]); (try simp only [setIfInBounds_toArray, set_cons_succ, set_cons_zero])
    refine wpAnyH_take (i := 15) (v := ?v15) rfl (by kernel_rfl) (by kernel_rfl) (by kernel_rfl) (fun _ _ _ h => h) (Or.inl ⟨by rfl, ?hy15⟩) hHeld ?rest15
    case hy15 => (intro wz hSw; (try dsimp only at hSw); go_simp; (try with_reducible rfl))
    (try simp only [Act.put, getElem_toArray, getElem_cons_succ, getElem_cons_zero]); (try simp only [setIfInBounds_toArray, set_cons_succ, set_cons_zero])
    refine wpAnyH_take (i := 16) (v := undef) rfl (by kernel_rfl) (by kernel_rfl) (by kernel_rfl) (fun _ _ _ h => h) (Or.inr ⟨by rfl, rfl⟩) hHeld ?rest16
    (try simp only [Act.put, getElem_toArray, getElem_cons_succ, getElem_cons_zero]); (try simp only [setIfInBounds_toArray, set_cons_succ, set_cons_zero])
    refine wpAnyH_take (i := 17) (v := undef) rfl (by kernel_rfl) (by kernel_rfl) (by kernel_rfl) (fun _ _ _ h => h) (Or.inr ⟨by rfl, rfl⟩) hHeld ?rest17
    (try simp only [Act.put, getElem_toArray, getElem_cons_succ, getElem_cons_zero]); (try simp only [setIfInBounds_toArray, set_cons_succ, set_cons_zero])
    refine wpAnyH_take (i := 18) (v := undef) rfl (by kernel_rfl) (by kernel_rfl) (by kernel_rfl) (fun _ _ _ h => h) (Or.inr ⟨by rfl, rfl⟩) hHeld ?rest18
    (try simp only [Act.put, getElem_toArray, getElem_cons_succ, getElem_cons_zero]); (try simp only [setIfInBounds_toArray, set_cons_succ, set_cons_zero])
    refine wpAnyH_take (i := 19) (v := undef) rfl (by kernel_rfl) (by kernel_rfl) (by kernel_rfl) (fun _ _ _ h => h) (Or.inr ⟨by rfl, rfl⟩) hHeld ?rest19
    (try simp only [Act.put, getElem_toArray, getElem_cons_succ, getElem_cons_zero]); (try simp only [setIfInBounds_toArray, set_cons_succ, set_cons_zero])
    refine wpAnyH_take (i := 20) (v := undef) rfl (by kernel_rfl) (by kernel_rfl) (by kernel_rfl) (fun _ _ _ h => h) (Or.inr ⟨by rfl, rfl⟩) hHeld ?rest20
    (try simp only [Act.put, getElem_toArray, getElem_cons_succ, getElem_cons_zero]); (try simp only [setIfInBounds_toArray, set_cons_succ, set_cons_zero])
    refine wpAnyH_take (i := 21) (v := undef) rfl (by kernel_rfl) (by kernel_rfl) (by kernel_rfl) (fun _ _ _ h => h) (Or.inr ⟨by rfl, rfl⟩) hHeld ?rest21
    (try simp only [Act.put, getElem_toArray, getElem_cons_succ, getElem_cons_zero]); (try simp only [setIfInBounds_toArray, set_cons_succ, set_cons_zero])
    refine wpAnyH_take (i := 22) (v := undef) rfl (by kernel_rfl) (by kernel_rfl) (by kernel_rfl) (fun _ _ _ h => h) (Or.inr ⟨by rfl, rfl⟩) hHeld ?rest22
    (try simp only [Act.put, getElem_toArray, getElem_cons_succ, getElem_cons_zero]); (try simp only [setIfInBounds_toArray, set_cons_succ, set_cons_zero])
    refine wpAnyH_take (i := 23) (v := ?v23) rfl (by kernel_rfl) (by kernel_rfl) (by kernel_rfl) (fun _ _ _ h => h) (Or.inl ⟨by rfl, ?hy23⟩) hHeld ?rest23
    case hy23 => (intro wz hSw; (try dsimp only at hSw); go_simp; (try with_reducible rfl))
    (try simp only [Act.put, getElem_toArray, getElem_cons_succ, getElem_cons_zero]); (try simp only [setIfInBounds_toArray, set_cons_succ, set_cons_zero])
    refine wpAnyH_take (i := 24) (v := ?v24) rfl (by kernel_rfl) (by kernel_rfl) (by kernel_rfl) (fun _ _ _ h => h) (Or.inl ⟨by rfl, ?hy24⟩) hHeld ?rest24
    case hy24 => (intro wz hSw; (try dsimp only at hSw); go_simp; (try with_reducible rfl))
    (try simp only [Act.put, getElem_toArray, getElem_cons_succ, getElem_cons_zero]); (try simp only [setIfInBounds_toArray, set_cons_succ, set_cons_zero])
    refine wpAnyH_done (by kernel_rfl) ?_ _
    have X9 := Lib.hid (And.left hHeld)
    clear hHeld
    go_wp2
    go_ret
    exact ⟨rfl, E0.out.trans X9.out⟩
  rcases hp : (P2 == P) with _ | _
  · simp only [Bool.true_and, Bool.false_and]
    go_enter Try.func86, Try.ntmps86
    go_wp2_with fail
    generalize w.alloc (.cells #[.int .i64 P2, .int .i64 R, .int .i64 C, .slice a n1 c1] 37) = W0 at *
    refine wp_region_held_drew (S := (fun w' => Ext W0 w' ∧ (∀ b o, b < W0.heap.size → w'.cell? ⟨b, o, none⟩ = W0.cell? ⟨b, o, none⟩))) (by kernel_rfl) (ext2 (Ext.refl W0).drew) (fun hHeld => ?_)
    refine wpAnyH_take (i := 0) (v := ?v25) rfl (by kernel_rfl) (by kernel_rfl) (by kernel_rfl) (fun _ _ _ h => h) (Or.inl ⟨by rfl, ?hy25⟩) hHeld ?rest25
    case hy25 => (intro wz hSw; (try dsimp only at hSw); go_simp; (try with_reducible rfl))
    (try simp only [Act.put, getElem_toArray, getElem_cons_succ, getElem_cons_zero]); (try simp only [setIfInBounds_toArray, set_cons_succ, set_cons_zero])
    refine wpAnyH_ready (rs := [1]) (by kernel_rfl) (by simp) ?_
    refine AllReadyH.cons rfl (fun K' hK => ?_) AllReadyH.nil
    go_simp
    refine (HC.out _ (E0.out.trans (And.left hHeld))).mono ?_
    rintro e w2 ⟨rfl, h2⟩
    have X2 := (And.left hHeld).trans h2
    dsimp only
    refine hK.out _ _ (ext2 X2) (fun hHeld => ?_)
    clear hK
    refine wpAnyH_take (i := 2) (v := ?v26) rfl (by kernel_rfl) (by kernel_rfl) (by kernel_rfl) (fun _ _ _ h => h) (Or.inl ⟨by rfl, ?hy26⟩) hHeld ?rest26
    case hy26 => (intro wz hSw; (try dsimp only at hSw); go_simp; (try with_reducible rfl))
    (try simp only [Act.put, getElem_toArray, getElem_cons_succ, getElem_cons_zero]); (try simp only [setIfInBounds_toArray, set_cons_succ, set_cons_zero])
    refine wpAnyH_take (i := 3) (v := ?v27) rfl (by kernel_rfl) (by kernel_rfl) (by kernel_rfl) (fun _ _ _ h => h) (Or.inl ⟨by rfl, ?hy27⟩) hHeld ?rest27
    case hy27 => (intro wz hSw; (try dsimp only at hSw); go_simp; (try with_reducible rfl))
    (try simp only [Act.put, getElem_toArray, getElem_cons_succ, getElem_cons_zero]); (try simp only [setIfInBounds_toArray, set_cons_succ, set_cons_zero])
    refine wpAnyH_take (i := 4) (v := ?v28) rfl (by kernel_rfl) (by kernel_rfl) (by kernel_rfl) (fun _ _ _ h => h) (Or.inl ⟨by rfl, ?hy28⟩) hHeld ?rest28
    case hy28 => (intro wz hSw; (try dsimp only at hSw); go_simp; (try with_reducible rfl))
    (try simp only [Act.put, getElem_toArray, getElem_cons_succ, getElem_cons_zero]); (try simp only [setIfInBounds_toArray, set_cons_succ, set_cons_zero])
    refine wpAnyH_take (i := 5) (v := ?v29) rfl (by kernel_rfl) (by kernel_rfl) (by kernel_rfl) (fun _ _ _ h => h) (Or.inl ⟨by rfl, ?hy29⟩) hHeld ?rest29
    case hy29 => (intro wz hSw; (try dsimp only at hSw); go_simp; (try with_reducible rfl))
    (try simp only [Act.put, getElem_toArray, getElem_cons_succ, getElem_cons_zero]); (try simp only [setIfInBounds_toArray, set_cons_succ, set_cons_zero])
    refine wpAnyH_take (i := 6) (v := ?v30) rfl (by kernel_rfl) (by kernel_rfl) (by kernel_rfl) (fun _ _ _ h => h) (Or.inl ⟨by rfl, ?hy30⟩) hHeld ?rest30
    case hy30 => (intro wz hSw; (try dsimp only at hSw); go_simp; (try with_reducible rfl))
    (try simp only [Act.put, getElem_toArray, getElem_cons_succ, getElem_cons_zero]); (try simp only [setIfInBounds_toArray, set_cons_succ, set_cons_zero])
    refine wpAnyH_take (i := 7) (v := ?v31) rfl (by kernel_rfl) (by kernel_rfl) (by kernel_rfl) (fun _ _ _ h => h) (Or.inl ⟨by rfl, ?hy31⟩) hHeld ?rest31
    case hy31 => (intro wz hSw; (try dsimp only at hSw); go_simp; (try with_reducible rfl))
    (try simp only [Act.put, getElem_toArray, getElem_cons_succ, getElem_cons_zero]); (try simp only [setIfInBounds_toArray, set_cons_succ, set_cons_zero])
    refine wpAnyH_take (i := 8) (v := ?v32) rfl (by kernel_rfl) (by kernel_rfl) (by kernel_rfl) (fun _ _ _ h => h) (Or.inl ⟨by rfl, ?hy32⟩) hHeld ?rest32
    case hy32 => (intro wz hSw; (try dsimp only at hSw); go_simp; (try with_reducible rfl))
    (try simp only [Act.put, getElem_toArray, getElem_cons_succ, getElem_cons_zero]); (try simp only [setIfInBounds_toArray, set_cons_succ, set_cons_zero])
    refine wpAnyH_take (i := 9) (v := ?v33) rfl (by kernel_rfl) (by kernel_rfl) (by kernel_rfl) (fun _ _ _ h => h) (Or.inl ⟨by rfl, ?hy33⟩) hHeld ?rest33
    case hy33 => (intro wz hSw; (try dsimp only at hSw); go_simp; (try with_reducible rfl))
    (try simp only [Act.put, getElem_toArray, getElem_cons_succ, getElem_cons_zero]); (try simp only [setIfInBounds_toArray, set_cons_succ, set_cons_zero])
    refine wpAnyH_take (i := 10) (v := ?v34) rfl (by kernel_rfl) (by kernel_rfl) (by kernel_rfl) (fun _ _ _ h => h) (Or.inl ⟨by rfl, ?hy34⟩) hHeld ?rest34
    case hy34 => (intro wz hSw; (try dsimp only at hSw); go_simp; (try with_reducible rfl))
    (try simp only [Act.put, getElem_toArray, getElem_cons_succ, getElem_cons_zero]); (try simp only [setIfInBounds_toArray, set_cons_succ, set_cons_zero])
    refine wpAnyH_take (i := 11) (v := ?v35) rfl (by kernel_rfl) (by kernel_rfl) (by kernel_rfl) (fun _ _ _ h => h) (Or.inl ⟨by rfl, ?hy35⟩) hHeld ?rest35
    case hy35 => (intro wz hSw; (try dsimp only at hSw); go_simp; (try with_reducible rfl))
    (try simp only [Act.put, getElem_toArray, getElem_cons_succ, getElem_cons_zero]); (try simp only [setIfInBounds_toArray, set_cons_succ, set_cons_zero])
    refine wpAnyH_take (i := 12) (v := ?v36) rfl (by kernel_rfl) (by kernel_rfl) (by kernel_rfl) (fun _ _ _ h => h) (Or.inl ⟨by rfl, ?hy36⟩) hHeld ?rest36
    case hy36 => (intro wz hSw; (try dsimp only at hSw); go_simp; (try with_reducible rfl))
    (try simp only [Act.put, getElem_toArray, getElem_cons_succ, getElem_cons_zero]); (try simp only [setIfInBounds_toArray, set_cons_succ, set_cons_zero])
    refine wpAnyH_take (i := 13) (v := ?v37) rfl (by kernel_rfl) (by kernel_rfl) (by kernel_rfl) (fun _ _ _ h => h) (Or.inl ⟨by rfl, ?hy37⟩) hHeld ?rest37
    case hy37 => (intro wz hSw; (try dsimp only at hSw); go_simp; (try with_reducible rfl))
    (try simp only [Act.put, getElem_toArray, getElem_cons_succ, getElem_cons_zero]); (try simp only [setIfInBounds_toArray, set_cons_succ, set_cons_zero])
    refine wpAnyH_take (i := 14) (v := ?v38) rfl (by kernel_rfl) (by kernel_rfl) (by kernel_rfl) (fun _ _ _ h => h) (Or.inl ⟨by rfl, ?hy38⟩) hHeld ?rest38
    case hy38 => (intro wz hSw; (try dsimp only at hSw); go_simp; (try with_reducible rfl))
    (try simp only [Act.put, getElem_toArray, getElem_cons_succ, getElem_cons_zero]); (try simp only [setIfInBounds_toArray, set_cons_succ, set_cons_zero])
    refine wpAnyH_take (i := 15) (v := ?v39) rfl (by kernel_rfl) (by kernel_rfl) (by kernel_rfl) (fun _ _ _ h => h) (Or.inl ⟨by rfl, ?hy39⟩) hHeld ?rest39
    case hy39 => (intro wz hSw; (try dsimp only at hSw); go_simp; (try with_reducible rfl))
    (try simp only [Act.put, getElem_toArray, getElem_cons_succ, getElem_cons_zero]); (try simp only [setIfInBounds_toArray, set_cons_succ, set_cons_zero])
    refine wpAnyH_take (i := 16) (v := undef) rfl (by kernel_rfl) (by kernel_rfl) (by kernel_rfl) (fun _ _ _ h => h) (Or.inr ⟨by rfl, rfl⟩) hHeld ?rest40
    (try simp only [Act.put, getElem_toArray, getElem_cons_succ, getElem_cons_zero]); (try simp only [setIfInBounds_toArray, set_cons_succ, set_cons_zero])
    refine wpAnyH_take (i := 17) (v := undef) rfl (by kernel_rfl) (by kernel_rfl) (by kernel_rfl) (fun _ _ _ h => h) (Or.inr ⟨by rfl, rfl⟩) hHeld ?rest41
    (try simp only [Act.put, getElem_toArray, getElem_cons_succ, getElem_cons_zero]); (try simp only [setIfInBounds_toArray, set_cons_succ, set_cons_zero])
    refine wpAnyH_take (i := 18) (v := undef) rfl (by kernel_rfl) (by kernel_rfl) (by kernel_rfl) (fun _ _ _ h => h) (Or.inr ⟨by rfl, rfl⟩) hHeld ?rest42
    (try simp only [Act.put, getElem_toArray, getElem_cons_succ, getElem_cons_zero]); (try simp only [setIfInBounds_toArray, set_cons_succ, set_cons_zero])
    refine wpAnyH_take (i := 19) (v := undef) rfl (by kernel_rfl) (by kernel_rfl) (by kernel_rfl) (fun _ _ _ h => h) (Or.inr ⟨by rfl, rfl⟩) hHeld ?rest43
    (try simp only [Act.put, getElem_toArray, getElem_cons_succ, getElem_cons_zero]); (try simp only [setIfInBounds_toArray, set_cons_succ, set_cons_zero])
    refine wpAnyH_take (i := 20) (v := undef) rfl (by kernel_rfl) (by kernel_rfl) (by kernel_rfl) (fun _ _ _ h => h) (Or.inr ⟨by rfl, rfl⟩) hHeld ?rest44
    (try simp only [Act.put, getElem_toArray, getElem_cons_succ, getElem_cons_zero]); (try simp only [setIfInBounds_toArray, set_cons_succ, set_cons_zero])
    refine wpAnyH_take (i := 21) (v := undef) rfl (by kernel_rfl) (by kernel_rfl) (by kernel_rfl) (fun _ _ _ h => h) (Or.inr ⟨by rfl, rfl⟩) hHeld ?rest45
    (try simp only [Act.put, getElem_toArray, getElem_cons_succ, getElem_cons_zero]); (try simp only [setIfInBounds_toArray, set_cons_succ, set_cons_zero])
    refine wpAnyH_take (i := 22) (v := undef) rfl (by kernel_rfl) (by kernel_rfl) (by kernel_rfl) (fun _ _ _ h => h) (Or.inr ⟨by rfl, rfl⟩) hHeld ?rest46
    (try simp only [Act.put, getElem_toArray, getElem_cons_succ, getElem_cons_zero]); (try simp only [setIfInBounds_toArray, set_cons_succ, set_cons_zero])
    refine wpAnyH_take (i := 23) (v := ?v47) rfl (by kernel_rfl) (by kernel_rfl) (by kernel_rfl) (fun _ _ _ h => h) (Or.inl ⟨by rfl, ?hy47⟩) hHeld ?rest47
    case hy47 => (intro wz hSw; (try dsimp only at hSw); go_simp; (try with_reducible rfl))
    (try simp only [Act.put, getElem_toArray, getElem_cons_succ, getElem_cons_zero]); (try simp only [setIfInBounds_toArray, set_cons_succ, set_cons_zero])
    refine wpAnyH_take (i := 24) (v := ?v48) rfl (by kernel_rfl) (by kernel_rfl) (by kernel_rfl) (fun _ _ _ h => h) (Or.inl ⟨by rfl, ?hy48⟩) hHeld ?rest48
    case hy48 => (intro wz hSw; (try dsimp only at hSw); go_simp; (try with_reducible rfl))
    (try simp only [Act.put, getElem_toArray, getElem_cons_succ, getElem_cons_zero]); (try simp only [setIfInBounds_toArray, set_cons_succ, set_cons_zero])
    refine wpAnyH_done (by kernel_rfl) ?_ _
    have X9 := Lib.hid (And.left hHeld)
    clear hHeld
    go_wp2
    go_ret
    exact ⟨rfl, E0.out.trans X9.out⟩
  simp only [Bool.true_and]
  go_enter Try.func86, Try.ntmps86
  go_wp2_with fail
  generalize w.alloc (.cells #[.int .i64 P2, .int .i64 R, .int .i64 C, .slice a n1 c1] 37) = W0 at *
  refine wp_region_held_drew (S := (fun w' => Ext W0 w' ∧ (∀ b o, b < W0.heap.size → w'.cell? ⟨b, o, none⟩ = W0.cell? ⟨b, o, none⟩))) (by kernel_rfl) (ext2 (Ext.refl W0).drew) (fun hHeld => ?_)
  refine wpAnyH_take (i := 0) (v := ?v49) rfl (by kernel_rfl) (by kernel_rfl) (by kernel_rfl) (fun _ _ _ h => h) (Or.inl ⟨by rfl, ?hy49⟩) hHeld ?rest49
  case hy49 => (intro wz hSw; (try dsimp only at hSw); go_simp; (try with_reducible rfl))
  (try simp only [Act.put, getElem_toArray, getElem_cons_succ, getElem_cons_zero]); (try simp only [setIfInBounds_toArray, set_cons_succ, set_cons_zero])
  refine wpAnyH_ready (rs := [1]) (by kernel_rfl) (by simp) ?_
  refine AllReadyH.cons rfl (fun K' hK => ?_) AllReadyH.nil
  go_simp
  refine (HC.out _ (E0.out.trans (And.left hHeld))).mono ?_
  rintro e w2 ⟨rfl, h2⟩
  have X2 := (And.left hHeld).trans h2
  dsimp only
  refine hK.out _ _ (ext2 X2) (fun hHeld => ?_)
  clear hK
  refine wpAnyH_take (i := 2) (v := ?v50) rfl (by kernel_rfl) (by kernel_rfl) (by kernel_rfl) (fun _ _ _ h => h) (Or.inl ⟨by rfl, ?hy50⟩) hHeld ?rest50
  case hy50 => (intro wz hSw; (try dsimp only at hSw); go_simp; (try with_reducible rfl))
  (try simp only [Act.put, getElem_toArray, getElem_cons_succ, getElem_cons_zero]); (try simp only [setIfInBounds_toArray, set_cons_succ, set_cons_zero])
  refine wpAnyH_take (i := 3) (v := ?v51) rfl (by kernel_rfl) (by kernel_rfl) (by kernel_rfl) (fun _ _ _ h => h) (Or.inl ⟨by rfl, ?hy51⟩) hHeld ?rest51
  case hy51 => (intro wz hSw; (try dsimp only at hSw); go_simp; (try with_reducible rfl))
  (try simp only [Act.put, getElem_toArray, getElem_cons_succ, getElem_cons_zero]); (try simp only [setIfInBounds_toArray, set_cons_succ, set_cons_zero])
  refine wpAnyH_take (i := 4) (v := ?v52) rfl (by kernel_rfl) (by kernel_rfl) (by kernel_rfl) (fun _ _ _ h => h) (Or.inl ⟨by rfl, ?hy52⟩) hHeld ?rest52
  case hy52 => (intro wz hSw; (try dsimp only at hSw); go_simp; (try with_reducible rfl))
  (try simp only [Act.put, getElem_toArray, getElem_cons_succ, getElem_cons_zero]); (try simp only [setIfInBounds_toArray, set_cons_succ, set_cons_zero])
  refine wpAnyH_take (i := 5) (v := ?v53) rfl (by kernel_rfl) (by kernel_rfl) (by kernel_rfl) (fun _ _ _ h => h) (Or.inl ⟨by rfl, ?hy53⟩) hHeld ?rest53
  case hy53 => (intro wz hSw; (try dsimp only at hSw); go_simp; (try with_reducible rfl))
  (try simp only [Act.put, getElem_toArray, getElem_cons_succ, getElem_cons_zero]); (try simp only [setIfInBounds_toArray, set_cons_succ, set_cons_zero])
  refine wpAnyH_take (i := 6) (v := ?v54) rfl (by kernel_rfl) (by kernel_rfl) (by kernel_rfl) (fun _ _ _ h => h) (Or.inl ⟨by rfl, ?hy54⟩) hHeld ?rest54
  case hy54 => (intro wz hSw; (try dsimp only at hSw); go_simp; (try with_reducible rfl))
  (try simp only [Act.put, getElem_toArray, getElem_cons_succ, getElem_cons_zero]); (try simp only [setIfInBounds_toArray, set_cons_succ, set_cons_zero])
  refine wpAnyH_take (i := 7) (v := ?v55) rfl (by kernel_rfl) (by kernel_rfl) (by kernel_rfl) (fun _ _ _ h => h) (Or.inl ⟨by rfl, ?hy55⟩) hHeld ?rest55
  case hy55 => (intro wz hSw; (try dsimp only at hSw); go_simp; (try with_reducible rfl))
  (try simp only [Act.put, getElem_toArray, getElem_cons_succ, getElem_cons_zero]); (try simp only [setIfInBounds_toArray, set_cons_succ, set_cons_zero])
  refine wpAnyH_take (i := 8) (v := ?v56) rfl (by kernel_rfl) (by kernel_rfl) (by kernel_rfl) (fun _ _ _ h => h) (Or.inl ⟨by rfl, ?hy56⟩) hHeld ?rest56
  case hy56 => (intro wz hSw; (try dsimp only at hSw); go_simp; (try with_reducible rfl))
  (try simp only [Act.put, getElem_toArray, getElem_cons_succ, getElem_cons_zero]); (try simp only [setIfInBounds_toArray, set_cons_succ, set_cons_zero])
  refine wpAnyH_take (i := 9) (v := ?v57) rfl (by kernel_rfl) (by kernel_rfl) (by kernel_rfl) (fun _ _ _ h => h) (Or.inl ⟨by rfl, ?hy57⟩) hHeld ?rest57
  case hy57 => (intro wz hSw; (try dsimp only at hSw); go_simp; (try with_reducible rfl))
  (try simp only [Act.put, getElem_toArray, getElem_cons_succ, getElem_cons_zero]); (try simp only [setIfInBounds_toArray, set_cons_succ, set_cons_zero])
  refine wpAnyH_take (i := 10) (v := ?v58) rfl (by kernel_rfl) (by kernel_rfl) (by kernel_rfl) (fun _ _ _ h => h) (Or.inl ⟨by rfl, ?hy58⟩) hHeld ?rest58
  case hy58 => (intro wz hSw; (try dsimp only at hSw); go_simp; (try with_reducible rfl))
  (try simp only [Act.put, getElem_toArray, getElem_cons_succ, getElem_cons_zero]); (try simp only [setIfInBounds_toArray, set_cons_succ, set_cons_zero])
  refine wpAnyH_take (i := 11) (v := ?v59) rfl (by kernel_rfl) (by kernel_rfl) (by kernel_rfl) (fun _ _ _ h => h) (Or.inl ⟨by rfl, ?hy59⟩) hHeld ?rest59
  case hy59 => (intro wz hSw; (try dsimp only at hSw); go_simp; (try with_reducible rfl))
  (try simp only [Act.put, getElem_toArray, getElem_cons_succ, getElem_cons_zero]); (try simp only [setIfInBounds_toArray, set_cons_succ, set_cons_zero])
  refine wpAnyH_take (i := 12) (v := ?v60) rfl (by kernel_rfl) (by kernel_rfl) (by kernel_rfl) (fun _ _ _ h => h) (Or.inl ⟨by rfl, ?hy60⟩) hHeld ?rest60
  case hy60 => (intro wz hSw; (try dsimp only at hSw); go_simp; (try with_reducible rfl))
  (try simp only [Act.put, getElem_toArray, getElem_cons_succ, getElem_cons_zero]); (try simp only [setIfInBounds_toArray, set_cons_succ, set_cons_zero])
  refine wpAnyH_take (i := 13) (v := ?v61) rfl (by kernel_rfl) (by kernel_rfl) (by kernel_rfl) (fun _ _ _ h => h) (Or.inl ⟨by rfl, ?hy61⟩) hHeld ?rest61
  case hy61 => (intro wz hSw; (try dsimp only at hSw); go_simp; (try with_reducible rfl))
  (try simp only [Act.put, getElem_toArray, getElem_cons_succ, getElem_cons_zero]); (try simp only [setIfInBounds_toArray, set_cons_succ, set_cons_zero])
  refine wpAnyH_take (i := 14) (v := ?v62) rfl (by kernel_rfl) (by kernel_rfl) (by kernel_rfl) (fun _ _ _ h => h) (Or.inl ⟨by rfl, ?hy62⟩) hHeld ?rest62
  case hy62 => (intro wz hSw; (try dsimp only at hSw); go_simp; (try with_reducible rfl))
  (try simp only [Act.put, getElem_toArray, getElem_cons_succ, getElem_cons_zero]); (try simp only [setIfInBounds_toArray, set_cons_succ, set_cons_zero])
  refine wpAnyH_take (i := 15) (v := ?v63) rfl (by kernel_rfl) (by kernel_rfl) (by kernel_rfl) (fun _ _ _ h => h) (Or.inl ⟨by rfl, ?hy63⟩) hHeld ?rest63
  case hy63 => (intro wz hSw; (try dsimp only at hSw); go_simp; (try with_reducible rfl))
  (try simp only [Act.put, getElem_toArray, getElem_cons_succ, getElem_cons_zero]); (try simp only [setIfInBounds_toArray, set_cons_succ, set_cons_zero])
  refine wpAnyH_take (i := 16) (v := ?v64) rfl (by kernel_rfl) (by kernel_rfl) (by kernel_rfl) (fun _ _ _ h => h) (Or.inl ⟨by rfl, ?hy64⟩) hHeld ?rest64
  case hy64 => (intro wz hSw; (try dsimp only at hSw); go_simp; (try with_reducible rfl))
  (try simp only [Act.put, getElem_toArray, getElem_cons_succ, getElem_cons_zero]); (try simp only [setIfInBounds_toArray, set_cons_succ, set_cons_zero])
  refine wpAnyH_take (i := 17) (v := ?v65) rfl (by kernel_rfl) (by kernel_rfl) (by kernel_rfl) (fun _ _ _ h => h) (Or.inl ⟨by rfl, ?hy65⟩) hHeld ?rest65
  case hy65 => (intro wz hSw; (try dsimp only at hSw); go_simp; (try with_reducible rfl))
  (try simp only [Act.put, getElem_toArray, getElem_cons_succ, getElem_cons_zero]); (try simp only [setIfInBounds_toArray, set_cons_succ, set_cons_zero])
  refine wpAnyH_take (i := 18) (v := ?v66) rfl (by kernel_rfl) (by kernel_rfl) (by kernel_rfl) (fun _ _ _ h => h) (Or.inl ⟨by rfl, ?hy66⟩) hHeld ?rest66
  case hy66 => (intro wz hSw; (try dsimp only at hSw); go_simp; (try with_reducible rfl))
  (try simp only [Act.put, getElem_toArray, getElem_cons_succ, getElem_cons_zero]); (try simp only [setIfInBounds_toArray, set_cons_succ, set_cons_zero])
  refine wpAnyH_take (i := 19) (v := ?v67) rfl (by kernel_rfl) (by kernel_rfl) (by kernel_rfl) (fun _ _ _ h => h) (Or.inl ⟨by rfl, ?hy67⟩) hHeld ?rest67
  case hy67 => (intro wz hSw; (try dsimp only at hSw); go_simp; (try with_reducible rfl))
  (try simp only [Act.put, getElem_toArray, getElem_cons_succ, getElem_cons_zero]); (try simp only [setIfInBounds_toArray, set_cons_succ, set_cons_zero])
  refine wpAnyH_take (i := 20) (v := ?v68) rfl (by kernel_rfl) (by kernel_rfl) (by kernel_rfl) (fun _ _ _ h => h) (Or.inl ⟨by rfl, ?hy68⟩) hHeld ?rest68
  case hy68 => (intro wz hSw; (try dsimp only at hSw); go_simp; (try with_reducible rfl))
  (try simp only [Act.put, getElem_toArray, getElem_cons_succ, getElem_cons_zero]); (try simp only [setIfInBounds_toArray, set_cons_succ, set_cons_zero])
  refine wpAnyH_take (i := 21) (v := ?v69) rfl (by kernel_rfl) (by kernel_rfl) (by kernel_rfl) (fun _ _ _ h => h) (Or.inl ⟨by rfl, ?hy69⟩) hHeld ?rest69
  case hy69 => (intro wz hSw; (try dsimp only at hSw); go_simp; (try with_reducible rfl))
  (try simp only [Act.put, getElem_toArray, getElem_cons_succ, getElem_cons_zero]); (try simp only [setIfInBounds_toArray, set_cons_succ, set_cons_zero])
  refine wpAnyH_take (i := 22) (v := ?v70) rfl (by kernel_rfl) (by kernel_rfl) (by kernel_rfl) (fun _ _ _ h => h) (Or.inl ⟨by rfl, ?hy70⟩) hHeld ?rest70
  case hy70 => (intro wz hSw; (try dsimp only at hSw); go_simp; (try with_reducible rfl))
  (try simp only [Act.put, getElem_toArray, getElem_cons_succ, getElem_cons_zero]); (try simp only [setIfInBounds_toArray, set_cons_succ, set_cons_zero])
  refine wpAnyH_take (i := 23) (v := ?v71) rfl (by kernel_rfl) (by kernel_rfl) (by kernel_rfl) (fun _ _ _ h => h) (Or.inl ⟨by rfl, ?hy71⟩) hHeld ?rest71
  case hy71 => (intro wz hSw; (try dsimp only at hSw); go_simp; (try with_reducible rfl))
  (try simp only [Act.put, getElem_toArray, getElem_cons_succ, getElem_cons_zero]); (try simp only [setIfInBounds_toArray, set_cons_succ, set_cons_zero])
  refine wpAnyH_take (i := 24) (v := ?v72) rfl (by kernel_rfl) (by kernel_rfl) (by kernel_rfl) (fun _ _ _ h => h) (Or.inl ⟨by rfl, ?hy72⟩) hHeld ?rest72
  case hy72 => (intro wz hSw; (try dsimp only at hSw); go_simp; (try with_reducible rfl))
  (try simp only [Act.put, getElem_toArray, getElem_cons_succ, getElem_cons_zero]); (try simp only [setIfInBounds_toArray, set_cons_succ, set_cons_zero])
  refine wpAnyH_done (by kernel_rfl) ?_ _
  have X9 := Lib.hid (And.left hHeld)
  clear hHeld
  go_wp2
  go_ret
  exact ⟨rfl, E0.out.trans X9.out⟩

set_option maxRecDepth 100000 in
set_option maxHeartbeats 6400000 in
theorem images_impl (P : Int) (D S k g BM BL R s0 so n1 : Nat) (v : Value) (ms : List Mat) (ss : List Int) (w : World) (hm : ModW w P D S k g BM BL v ms) (hX : Reads w (some ⟨s0, so, none⟩) n1 ss) (hn : n1 = R * S) (hR : R ≤ 40) (hx : Res ss P) :
    Calls Try.prog 88 #[.pointer (some ⟨BM, 0, none⟩), .agg #[.int .i64 P, .int .i64 R, .int .i64 S, .slice (some ⟨s0, so, none⟩) n1 n1]] w fun e w' => ∃ b, e = .returned (.agg #[.int .i64 P, .int .i64 ((k * R : Nat) : Int), .int .i64 S, .slice (some ⟨b, 0, none⟩) (k * R * S) (k * R * S)]) ∧ w.heap.size ≤ b ∧ b < w'.heap.size ∧ Has w' b (imA P S ms (R, ss) k) ∧ Ext w w' := by
  have HM := Lib.hid hm
  have HX := Lib.hid hX
  have HN := Lib.hid hn
  have HXR := Lib.hid hx
  have hp := isP_lo hm.pr
  have hp2 := isP_hi hm.pr
  have hS := hm.ss
  have hkk : k ≤ 28 := by rw [hm.kd]; exact hm.dd
  have HRS : Hid (R * S ≤ 1200) := Nat.mul_le_mul hR hS
  have hSS : S * S ≤ 900 := Nat.mul_le_mul hS hS
  have g0 : (0 : Int) ≤ 0 * (S : Int) := by omega
  have g1 : 0 * (S : Int) ≤ 1048576 := by omega
  have E1 : Hid ((0 * (S : Int)).toNat = 0) := by rw [Hid]; simp
  have HKR : Hid (∀ i, i ≤ k → i * R * S ≤ 33600 ∧ i * R ≤ 1120) := fun i hi => by
    have h1 : i * R ≤ 1120 := Nat.mul_le_mul (show i ≤ 28 by omega) hR
    exact ⟨Nat.mul_le_mul h1 hS, h1⟩
  have HJ : Hid (∀ i w1 a c a' c', i < k → Reads w1 a (i * R * S) (imA P S ms (R, ss) i) → Reads w1 a' (R * S) (imR P S ms (R, ss) i) → Calls Try.prog 113 #[.agg #[.int .i64 P, .int .i64 ((i * R : Nat) : Int), .int .i64 S, .slice a (i * R * S) c], .agg #[.int .i64 P, .int .i64 R, .int .i64 S, .slice a' (R * S) c']] w1 fun e w' => ∃ b, e = .returned (.agg #[.int .i64 P, .int .i64 (((i + 1) * R : Nat) : Int), .int .i64 S, .slice (some ⟨b, 0, none⟩) ((i + 1) * R * S) ((i + 1) * R * S)]) ∧ w1.heap.size ≤ b ∧ b < w'.heap.size ∧ Has w' b (imA P S ms (R, ss) (i + 1)) ∧ Ext w1 w') := fun i w1 a c a' c' hi h1 h2 => by
    obtain ⟨u1, u2⟩ := HKR.out (i + 1) (by omega)
    have e1 : (i + 1) * R * S = i * R * S + R * S := by rw [Nat.add_mul, Nat.one_mul, Nat.add_mul]
    have e2 : (((i + 1) * R : Nat) : Int) = ((i * R : Nat) : Int) + (R : Int) := by rw [Nat.add_mul, Nat.one_mul, Int.natCast_add]
    have h9 := joinRows_impl P P S (i * R) R S (i * R * S) (R * S) c c' a a' (imA P S ms (R, ss) i) (imR P S ms (R, ss) i) w1 h1 h2 rfl rfl (by omega) (by omega) (by omega)
    rw [e1, e2, imA_succ]
    exact h9
  clear hm hX hn hx
  have A0 := Lib.hid ((cells_new w #[.int .i64 P, .int .i64 R, .int .i64 S, .slice (some ⟨s0, so, none⟩) n1 n1] 37).ext ((Ext.refl _).alloc (.cells #[.int .i64 0, .int .i64 0, .int .i64 0, .slice none 0 0] 37)))
  have M0 := Lib.hid (cells_new' (w.alloc (.cells #[.int .i64 P, .int .i64 R, .int .i64 S, .slice (some ⟨s0, so, none⟩) n1 n1] 37)) #[.int .i64 0, .int .i64 0, .int .i64 0, .slice none 0 0] 37 (w.heap.size + 1) (by simp))
  have E0 := Lib.hid (((Ext.refl w).alloc (.cells #[.int .i64 P, .int .i64 R, .int .i64 S, .slice (some ⟨s0, so, none⟩) n1 n1] 37)).alloc (.cells #[.int .i64 0, .int .i64 0, .int .i64 0, .slice none 0 0] 37))
  have MW := HM.out.ext E0.out
  have lM := MW.bm.1
  have m0 := MW.bm.2 0 _ rfl
  have m2 := MW.bm.2 2 _ rfl
  have lL := MW.bl.1
  have r0 := MW.bl.2 0 _ rfl
  have HSZ : Hid (((w.alloc (.cells #[.int .i64 P, .int .i64 R, .int .i64 S, .slice (some ⟨s0, so, none⟩) n1 n1] 37)).alloc (.cells #[.int .i64 0, .int .i64 0, .int .i64 0, .slice none 0 0] 37)).heap.size = w.heap.size + 1 + 1) := by simp [Hid]
  clear MW
  go_enter Try.func88, Try.ntmps88
  go_upto_region 1 with fail
  generalize ((w.alloc (.cells #[.int .i64 P, .int .i64 R, .int .i64 S, .slice (some ⟨s0, so, none⟩) n1 n1] 37)).alloc (.cells #[.int .i64 0, .int .i64 0, .int .i64 0, .slice none 0 0] 37)) = W0 at *
  go_cut [5] (fun s5 wx => ∃ ZB b, s5 = .pointer (some ⟨ZB, 0, none⟩) ∧ W0.heap.size ≤ ZB ∧ W0.heap.size ≤ b ∧ b ≠ ZB ∧ Hid (Cells wx ZB [.int .i64 P, .int .i64 0, .int .i64 S, .slice (some ⟨b, 0, none⟩) 0 0]) ∧ Hid (Has wx b (imA P S ms (R, ss) 0)) ∧ Hid (Ext W0 wx))
  case first =>
    go_region_held3 (fun w' => Ext W0 w' ∧ (∀ b o, b < W0.heap.size → w'.cell? ⟨b, o, none⟩ = W0.cell? ⟨b, o, none⟩)) ((first | assumption | (with_reducible exact ext2 (Ext.trans (And.left ‹Ext W0 _ ∧ _›) ‹Ext _ _›)) | (refine ext2 ?_; with_reducible repeat (first | exact Ext.refl _ | exact And.left ‹Ext W0 _ ∧ _› | exact Ext.trans (Ext.drew (Ext.refl _)) ‹Ext _ _› | exact Ext.trans (Ext.alloc (Ext.drew (Ext.refl _)) _) ‹Ext _ _› | exact Ext.trans (Ext.drew (Ext.alloc (Ext.refl _) _)) ‹Ext _ _› | refine Ext.drew ?_ | refine Ext.drewN ?_ _ | refine Ext.alloc ?_ _ | refine Ext.setCell ?_ (by simp <;> omega) _)))) (first
      | (go_at_call 69; refine (zeros_impl _ _ _ _ g0 g1).mono ?_; rintro e w1 ⟨b, rfl, hb1, hb2, hh, h1⟩; have c1 := h1.cells; have f1 := h1.frees; have y1 := h1.le; have x1 := fun k hk => Nat.lt_of_lt_of_le (n := k) hk h1.le; (try simp only [World.size_drew] at y1 x1 hb1); (try simp only [World.size_alloc] at y1 x1 hb1); (try simp only [World.size_drew] at y1 x1 hb1)))
    all_goals (go_wp2_with fail; go_meet; (try rw [E1.out] at hh); (try rw [E1.out]); have hh2 : Has w1 b (imA P S ms (R, ss) 0) := hh; first
      | exact ⟨w1.heap.size, b, rfl, by omega, by omega, by omega, cells_new _ _ _, hh2.alloc _, And.left ‹Ext W0 _ ∧ _›⟩
      | exact ⟨W0.heap.size, b, rfl, by omega, by omega, by omega, early4 (lo := 0) ((((cells_new W0 _ _).ext (Ext.drew (Ext.refl _)))).ext h1), ha4 hh2 (by omega) _ _ _ _, And.left ‹Ext W0 _ ∧ _›⟩)
  case rest =>
    obtain ⟨ZB, b, rfl, hZ1, hZ2, hZ3, L1, L2, L3⟩ := hcut
    have HZB : Hid (w.heap.size + 1 + 1 ≤ ZB ∧ w.heap.size + 1 + 1 ≤ b ∧ b ≠ ZB) := by have := HSZ.out; exact ⟨by omega, by omega, hZ3⟩
    clear lM m0 m2 lL r0 hZ1 hZ2 hZ3
    obtain ⟨wz, hwz⟩ : ∃ wz : World, wz = wc := ⟨_, rfl⟩
    subst hwz
    have MX := HM.out.bm.ext (E0.out.trans L3.out)
    have lM := MX.1
    have m1 := MX.2 1 _ rfl
    clear MX
    go_wp2_with fail
    clear lM m1
    have L1' : Hid (Cells wz ZB [.int .i64 P, .int .i64 ((0 * R : Nat) : Int), .int .i64 S, .slice (some ⟨b, 0, none⟩) (0 * R * S) (0 * R * S)]) := by simpa using L1
    clear L1
    go_loopw [26, 7] (fun z _ wr => ∃ (i b : Nat), i ≤ k ∧ z = .int .i64 i ∧ Hid (Cells wr ZB [.int .i64 P, .int .i64 ((i * R : Nat) : Int), .int .i64 S, .slice (some ⟨b, 0, none⟩) (i * R * S) (i * R * S)]) ∧ Hid (Has wr b (imA P S ms (R, ss) i)) ∧ Hid (W0.heap.size ≤ b ∧ b ≠ ZB) ∧ Hid (Ext W0 wr)) (fun z _ _ => k - (intOf z).toNat)
    case atStart => exact ⟨0, b, by omega, rfl, L1', L2, by have := HZB.out; have := HSZ.out; exact ⟨by omega, by omega⟩, L3⟩
    case round =>
      clear L1' L2 L3
      obtain ⟨i, b, hi, rfl, L1, L2, L4, L3⟩ := hrel
      by_cases hlt : i < k
      · have HMw := HM.out.mi.ext (E0.out.trans L3.out)
        have lG := HMw.lt
        have hltI : (i : Int) < (k : Int) := by omega
        obtain ⟨bj, c0, c1, c2, c3, hrd⟩ := HMw.cells hlt (HM.out.at_ i hlt) (HM.out.len i hlt)
        have HRD := Lib.hid hrd
        clear HMw hrd
        go_wp2_with fail
        have EB := Lib.hid ((Ext.refl wr).alloc (.cells #[.int .i64 P, .int .i64 S, .int .i64 S, .slice (some ⟨bj, 0, none⟩) (S * S) (S * S)] 37))
        have CB := Lib.hid (cells_new wr #[.int .i64 P, .int .i64 S, .int .i64 S, .slice (some ⟨bj, 0, none⟩) (S * S) (S * S)] 37)
        have hZw := L1.out.1
        have L1b := Lib.hid (L1.out.ext EB.out)
        have L2b := Lib.hid (L2.out.ext EB.out)
        have L3b := Lib.hid (L3.out.trans EB.out)
        have HRDb := Lib.hid (HRD.out.ext EB.out)
        have HSSr : Hid (Reads w (some ⟨s0, so, none⟩) (R * S) ss) := by have := HX.out; rwa [HN.out] at this
        have AX := A0.out.ext L3b.out
        have lA := AX.1
        have q0 := AX.2 0 _ rfl
        have q1 := AX.2 1 _ rfl
        have q2 := AX.2 2 _ rfl
        have q3 := AX.2 3 _ rfl
        clear L1 L2 L3 HRD c0 c1 c2 c3 lG AX
        generalize hWB : wr.alloc (.cells #[.int .i64 P, .int .i64 S, .int .i64 S, .slice (some ⟨bj, 0, none⟩) (S * S) (S * S)] 37) = wb at *
        generalize hXB : wr.heap.size = XB at *
        clear hWB hXB EB
        have lB := CB.out.1
        have x0 := CB.out.2 0 _ rfl
        have x1 := CB.out.2 1 _ rfl
        have x2 := CB.out.2 2 _ rfl
        have x3 := CB.out.2 3 _ rfl
        have lZ := L1b.out.1
        have p0 := L1b.out.2 0 _ rfl
        have p1 := L1b.out.2 1 _ rfl
        have p2 := L1b.out.2 2 _ rfl
        have p3 := L1b.out.2 3 _ rfl
        have nX : XB ≠ ZB := by omega
        have nA : w.heap.size ≠ ZB := by have := HZB.out; omega
        have HJi := Lib.hid (HJ.out i)
        clear hZw
        refine wp_region_held_drew (S := fun w' => wb.grownBy w' (some ZB) ∧ ∀ B o, B ≠ ZB → B < wb.heap.size → w'.cell? ⟨B, o, none⟩ = wb.cell? ⟨B, o, none⟩) (by kernel_rfl) keptB_drew (fun hHeld => ?_)
        refine wpAnyH_take (i := 1) (v := ?v73) rfl (by kernel_rfl) (by kernel_rfl) (by kernel_rfl) (fun _ _ _ h => h) (Or.inl ⟨by rfl, ?hy73⟩) hHeld ?rest73
        case hy73 => (intro wz hSw; (try dsimp only at hSw); go_simp; (try with_reducible rfl))
        (try simp only [Act.put, getElem_toArray, getElem_cons_succ, getElem_cons_zero]); (try simp only [setIfInBounds_toArray, set_cons_succ, set_cons_zero])
        refine wpAnyH_take (i := 2) (v := ?v74) rfl (by kernel_rfl) (by kernel_rfl) (by kernel_rfl) (fun _ _ _ h => h) (Or.inl ⟨by rfl, ?hy74⟩) hHeld ?rest74
        case hy74 => (intro wz hSw; (try dsimp only at hSw); go_simp; (try with_reducible rfl))
        (try simp only [Act.put, getElem_toArray, getElem_cons_succ, getElem_cons_zero]); (try simp only [setIfInBounds_toArray, set_cons_succ, set_cons_zero])
        refine wpAnyH_ready (rs := [0, 3]) (by kernel_rfl) (by simp) ?_
        refine AllReadyH.cons rfl (fun K' hK => ?_) (AllReadyH.cons rfl (fun K' hK => ?_) AllReadyH.nil)
        · skip
          go_simp
          refine hK.out _ _ hHeld (fun hHeld => ?_)
          clear hK
          refine wpAnyH_ready (rs := [3]) (by kernel_rfl) (by simp) ?_
          refine AllReadyH.cons rfl (fun K' hK => ?_) AllReadyH.nil
          go_simp
          refine (product_any P R S S s0 so bj 0 n1 (S * S) n1 (S * S) ss (mt ms i).d _ (HX.out.ext ((E0.out.trans L3b.out).drew)) (HRDb.out.ext (Ext.refl _).drew) HN.out rfl (by omega) (by omega) (by omega) (by have := HRS.out; omega) (by have := HRS.out; omega) (by omega) hp hp2 HXR.out (HM.out.res i hlt) (Nat.le_refl _) (by rw [HN.out]; have := HRS.out; unfold maxLen; omega) (Nat.le_refl _) (by unfold maxLen; omega)).mono ?_
          rintro e w7 ⟨b7, rfl, hb7, hb7', k7, h7⟩
          have X7 := (Ext.refl wb).drew.trans h7
          have z7 := X7.le
          have M7 := L1b.out.ext X7
          have lY := M7.1
          have s0' := M7.2 0 _ rfl
          have s1' := M7.2 1 _ rfl
          have s2' := M7.2 2 _ rfl
          have s3' := M7.2 3 _ rfl
          clear M7
          dsimp only
          refine hK.out _ _ (keptB_call hHeld h7) (fun hHeld => ?_)
          clear hK
          refine wpAnyH_ready (rs := [4]) (by kernel_rfl) (by simp) ?_
          refine AllReadyH.cons rfl (fun K' hK => ?_) AllReadyH.nil
          go_simp
          refine (HJi.out _ (some ⟨b, 0, none⟩) _ (some ⟨b7, 0, none⟩) _ hlt ((L2b.out.ext X7).reads (imA_length _ _)) (k7.reads (imR_length (R, ss) i))).mono ?_
          rintro e w8 ⟨b8, rfl, hb8, hb8', k8, h8⟩
          have X8 := X7.trans h8
          have z8 := X8.le
          have M8 := L1b.out.ext X8
          have lW := M8.1
          have t0 := M8.2 0 _ rfl
          have t1 := M8.2 1 _ rfl
          have t2 := M8.2 2 _ rfl
          have t3 := M8.2 3 _ rfl
          have tf := M8.3
          clear M8
          dsimp only
          refine hK.out _ _ (keptB_call hHeld h8) (fun hHeld => ?_)
          clear hK
          refine wpAnyH_ready (rs := [5]) (by kernel_rfl) (by simp) ?_
          refine AllReadyH.cons rfl (fun K' hK => ?_) AllReadyH.nil
          go_simp
          refine hK.out _ _ (kb4 hHeld _ _ _ _) (fun hHeld => ?_)
          clear hK
          refine wpAnyH_done (by kernel_rfl) ?_ _
          have hne : b8 ≠ ZB := by omega
          have N1 := Lib.hid (early4 (lo := 0) (v0 := .int .i64 P) (v1 := .int .i64 (((i + 1) * R : Nat) : Int)) (v2 := .int .i64 S) (v3 := .slice (some ⟨b8, 0, none⟩) ((i + 1) * R * S) ((i + 1) * R * S)) (L1b.out.ext X8))
          have N2 := Lib.hid (ha4 k8 hne (.int .i64 P) (.int .i64 (((i + 1) * R : Nat) : Int)) (.int .i64 S) (.slice (some ⟨b8, 0, none⟩) ((i + 1) * R * S) ((i + 1) * R * S)))
          have N3 := Lib.hid (ext4 (L3b.out.trans X8) (show W0.heap.size ≤ ZB by have := HZB.out; have := HSZ.out; omega) (.int .i64 P) (.int .i64 (((i + 1) * R : Nat) : Int)) (.int .i64 S) (.slice (some ⟨b8, 0, none⟩) ((i + 1) * R * S) ((i + 1) * R * S)))
          have N4 : Hid (W0.heap.size ≤ b8 ∧ b8 ≠ ZB) := ⟨by have := L3b.out.le; omega, hne⟩
          clear hHeld L1b L2b L3b L4 X7 X8 k7 k8 h7 h8 lA q0 q1 q2 q3 lZ p0 p1 p2 p3 t0 t1 t2 t3 tf lW lY s0' s1' s2' s3' lB x0 x1 x2 x3 HRDb HSSr CB
          go_wp2
          exact ⟨⟨i + 1, b8, by omega, by simp, N1, N2, N4, N3⟩, by simp [intOf]; omega⟩
        · skip
          go_simp
          refine (product_any P R S S s0 so bj 0 n1 (S * S) n1 (S * S) ss (mt ms i).d _ (HX.out.ext ((E0.out.trans L3b.out).drew)) (HRDb.out.ext (Ext.refl _).drew) HN.out rfl (by omega) (by omega) (by omega) (by have := HRS.out; omega) (by have := HRS.out; omega) (by omega) hp hp2 HXR.out (HM.out.res i hlt) (Nat.le_refl _) (by rw [HN.out]; have := HRS.out; unfold maxLen; omega) (Nat.le_refl _) (by unfold maxLen; omega)).mono ?_
          rintro e w7 ⟨b7, rfl, hb7, hb7', k7, h7⟩
          have X7 := (Ext.refl wb).drew.trans h7
          have z7 := X7.le
          have M7 := L1b.out.ext X7
          have lY := M7.1
          have s0' := M7.2 0 _ rfl
          have s1' := M7.2 1 _ rfl
          have s2' := M7.2 2 _ rfl
          have s3' := M7.2 3 _ rfl
          clear M7
          dsimp only
          refine hK.out _ _ (keptB_call hHeld h7) (fun hHeld => ?_)
          clear hK
          refine wpAnyH_ready (rs := [0]) (by kernel_rfl) (by simp) ?_
          refine AllReadyH.cons rfl (fun K' hK => ?_) AllReadyH.nil
          go_simp
          refine hK.out _ _ hHeld (fun hHeld => ?_)
          clear hK
          refine wpAnyH_ready (rs := [4]) (by kernel_rfl) (by simp) ?_
          refine AllReadyH.cons rfl (fun K' hK => ?_) AllReadyH.nil
          go_simp
          refine (HJi.out _ (some ⟨b, 0, none⟩) _ (some ⟨b7, 0, none⟩) _ hlt ((L2b.out.ext X7).reads (imA_length _ _)) (k7.reads (imR_length (R, ss) i))).mono ?_
          rintro e w8 ⟨b8, rfl, hb8, hb8', k8, h8⟩
          have X8 := X7.trans h8
          have z8 := X8.le
          have M8 := L1b.out.ext X8
          have lW := M8.1
          have t0 := M8.2 0 _ rfl
          have t1 := M8.2 1 _ rfl
          have t2 := M8.2 2 _ rfl
          have t3 := M8.2 3 _ rfl
          have tf := M8.3
          clear M8
          dsimp only
          refine hK.out _ _ (keptB_call hHeld h8) (fun hHeld => ?_)
          clear hK
          refine wpAnyH_ready (rs := [5]) (by kernel_rfl) (by simp) ?_
          refine AllReadyH.cons rfl (fun K' hK => ?_) AllReadyH.nil
          go_simp
          refine hK.out _ _ (kb4 hHeld _ _ _ _) (fun hHeld => ?_)
          clear hK
          refine wpAnyH_done (by kernel_rfl) ?_ _
          have hne : b8 ≠ ZB := by omega
          have N1 := Lib.hid (early4 (lo := 0) (v0 := .int .i64 P) (v1 := .int .i64 (((i + 1) * R : Nat) : Int)) (v2 := .int .i64 S) (v3 := .slice (some ⟨b8, 0, none⟩) ((i + 1) * R * S) ((i + 1) * R * S)) (L1b.out.ext X8))
          have N2 := Lib.hid (ha4 k8 hne (.int .i64 P) (.int .i64 (((i + 1) * R : Nat) : Int)) (.int .i64 S) (.slice (some ⟨b8, 0, none⟩) ((i + 1) * R * S) ((i + 1) * R * S)))
          have N3 := Lib.hid (ext4 (L3b.out.trans X8) (show W0.heap.size ≤ ZB by have := HZB.out; have := HSZ.out; omega) (.int .i64 P) (.int .i64 (((i + 1) * R : Nat) : Int)) (.int .i64 S) (.slice (some ⟨b8, 0, none⟩) ((i + 1) * R * S) ((i + 1) * R * S)))
          have N4 : Hid (W0.heap.size ≤ b8 ∧ b8 ≠ ZB) := ⟨by have := L3b.out.le; omega, hne⟩
          clear hHeld L1b L2b L3b L4 X7 X8 k7 k8 h7 h8 lA q0 q1 q2 q3 lZ p0 p1 p2 p3 t0 t1 t2 t3 tf lW lY s0' s1' s2' s3' lB x0 x1 x2 x3 HRDb HSSr CB
          go_wp2
          exact ⟨⟨i + 1, b8, by omega, by simp, N1, N2, N4, N3⟩, by simp [intOf]; omega⟩
      · obtain rfl : i = k := by omega
        have M4 := M0.out.ext L3.out
        have f0 := M4.2 0 _ rfl
        have f1 := M4.2 1 _ rfl
        have f2 := M4.2 2 _ rfl
        have f3 := M4.2 3 _ rfl
        have t0 := M4.3
        have lZ := L1.out.1
        have p0 := L1.out.2 0 _ rfl
        have p1 := L1.out.2 1 _ rfl
        have p2 := L1.out.2 2 _ rfl
        have p3 := L1.out.2 3 _ rfl
        have hle := L3.out.le
        have hsz := HSZ.out
        have hbl := L2.out.lt
        have h41 := L4.out.1
        go_wp2
        refine bodyPost_ret (v := .agg #[.int .i64 P, .int .i64 ((i * R : Nat) : Int), .int .i64 S, .slice (some ⟨b, 0, none⟩) (i * R * S) (i * R * S)]) (by simp [results, Try.results88, go_sem, f0, f1, f2, f3]) rfl ⟨b, rfl, by omega, ?_, ?_, ?_⟩
        · simpa using hbl
        · exact ha4 L2.out (by omega) _ _ _ _
        · exact ext4 (E0.out.trans L3.out) (by omega) _ _ _ _
end Go.Proofs.Ytnikfalpjieibaa
