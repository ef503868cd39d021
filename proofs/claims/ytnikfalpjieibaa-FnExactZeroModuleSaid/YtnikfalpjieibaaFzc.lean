/-
  Lists of matrices: ZeroModule, its closure.
-/
import Derived.Test.YtnikfalpjieibaaMs1
namespace Go.Proofs.Ytnikfalpjieibaa
open Go.ChangeShapes Go.WideShapes Go.ChangeAt Go.RowKit
set_option linter.unusedVariables false
set_option linter.unusedSimpArgs false

set_option maxRecDepth 100000 in
set_option maxHeartbeats 3200000 in
theorem zeroModule_clo (P : Int) (D n BL F0 F1 i : Nat) (v : Value) (w : World) (hf : Cells w F0 [.pointer (some ⟨BL, 0, none⟩)]) (hg : Cells w F1 [.int .i64 n]) (hb : Cells w BL [.int .i64 P, .int .i64 D, v]) (hn : n ≤ 30) :
    Calls Try.prog 68 #[.int .i64 i, .pointer (some ⟨F0, 0, none⟩), .pointer (some ⟨F1, 0, none⟩)] w fun e w' => ∃ b, e = .returned (.agg #[.int .i64 P, .int .i64 n, .int .i64 n, .slice (some ⟨b, 0, none⟩) (n * n) (n * n)]) ∧ Own w' w.heap.size w'.heap.size (some ⟨b, 0, none⟩) (n * n) (List.replicate (n * n) 0) ∧ Ext w w' := by
  have e1 : (n : Int) * (n : Int) = ((n * n : Nat) : Int) := by simp
  have h27 : n * n ≤ 900 := Nat.mul_le_mul hn hn
  have g0 : 0 ≤ (n : Int) * (n : Int) := by rw [e1]; omega
  have g1 : (n : Int) * (n : Int) ≤ 1048576 := by rw [e1]; omega
  have E1 : Hid (((n : Int) * (n : Int)).toNat = n * n) := by rw [Hid, e1, Int.toNat_natCast]
  have R0 := Lib.hid (cells_new w #[.int .i64 0, .int .i64 0, .int .i64 0, .slice none 0 0] 37)
  have E0 := Lib.hid ((Ext.refl w).alloc (.cells #[.int .i64 0, .int .i64 0, .int .i64 0, .slice none 0 0] 37))
  have HF := hf.ext E0.out
  have HG := hg.ext E0.out
  have HB := hb.ext E0.out
  have lF := HF.1
  have qF := HF.2 0 _ rfl
  have lG := HG.1
  have qG := HG.2 0 _ rfl
  have lB := HB.1
  have qB := HB.2 0 _ rfl
  have nF : F0 ≠ w.heap.size := by have := hf.1; omega
  have nG : F1 ≠ w.heap.size := by have := hg.1; omega
  have nB : BL ≠ w.heap.size := by have := hb.1; omega
  have HSZ : Hid ((w.alloc (.cells #[.int .i64 0, .int .i64 0, .int .i64 0, .slice none 0 0] 37)).heap.size = w.heap.size + 1) := by simp [Hid]
  clear hf hg hb e1 HF HG HB
  go_enter Try.func68, Try.ntmps68
  go_wp2_with fail
  generalize w.alloc (.cells #[.int .i64 0, .int .i64 0, .int .i64 0, .slice none 0 0] 37) = W0 at *
  refine wp_region_held_drew (S := fun w' => W0.grownBy w' (some w.heap.size) ∧ ∀ B o, B ≠ w.heap.size → B < W0.heap.size → w'.cell? ⟨B, o, none⟩ = W0.cell? ⟨B, o, none⟩) (by kernel_rfl) keptB_drew (fun hHeld => ?_)
  refine wpAnyH_take (i := 0) (v := ?v1) rfl (by kernel_rfl) (by kernel_rfl) (by kernel_rfl) (fun _ _ _ h => h) (Or.inl ⟨by rfl, ?hy1⟩) hHeld ?rest1
  case hy1 => (intro wz hSw; (try dsimp only at hSw); go_simp; (try with_reducible rfl))
  (try simp only [Act.put, List.getElem_toArray, List.getElem_cons_succ, List.getElem_cons_zero]); (try simp only [List.setIfInBounds_toArray]); (try simp only [List.set_cons_succ]); (try simp only [List.set_cons_zero])
  refine wpAnyH_take (i := 1) (v := ?v2) rfl (by kernel_rfl) (by kernel_rfl) (by kernel_rfl) (fun _ _ _ h => h) (Or.inl ⟨by rfl, ?hy2⟩) hHeld ?rest2
  case hy2 => (intro wz hSw; (try dsimp only at hSw); go_simp; (try with_reducible rfl))
  (try simp only [Act.put, List.getElem_toArray, List.getElem_cons_succ, List.getElem_cons_zero]); (try simp only [List.setIfInBounds_toArray]); (try simp only [List.set_cons_succ]); (try simp only [List.set_cons_zero])
  refine wpAnyH_take (i := 2) (v := ?v3) rfl (by kernel_rfl) (by kernel_rfl) (by kernel_rfl) (fun _ _ _ h => h) (Or.inl ⟨by rfl, ?hy3⟩) hHeld ?rest3
  case hy3 => (intro wz hSw; (try dsimp only at hSw); go_simp; (try with_reducible rfl))
  (try simp only [Act.put, List.getElem_toArray, List.getElem_cons_succ, List.getElem_cons_zero]); (try simp only [List.setIfInBounds_toArray]); (try simp only [List.set_cons_succ]); (try simp only [List.set_cons_zero])
  refine wpAnyH_take (i := 3) (v := ?v4) rfl (by kernel_rfl) (by kernel_rfl) (by kernel_rfl) (fun _ _ _ h => h) (Or.inl ⟨by rfl, ?hy4⟩) hHeld ?rest4
  case hy4 => (intro wz hSw; (try dsimp only at hSw); go_simp; (try with_reducible rfl))
  (try simp only [Act.put, List.getElem_toArray, List.getElem_cons_succ, List.getElem_cons_zero]); (try simp only [List.setIfInBounds_toArray]); (try simp only [List.set_cons_succ]); (try simp only [List.set_cons_zero])
  refine wpAnyH_take (i := 4) (v := ?v5) rfl (by kernel_rfl) (by kernel_rfl) (by kernel_rfl) (fun _ _ _ h => h) (Or.inl ⟨by rfl, ?hy5⟩) hHeld ?rest5
  case hy5 => (intro wz hSw; (try dsimp only at hSw); go_simp; (try with_reducible rfl))
  (try simp only [Act.put, List.getElem_toArray, List.getElem_cons_succ, List.getElem_cons_zero]); (try simp only [List.setIfInBounds_toArray]); (try simp only [List.set_cons_succ]); (try simp only [List.set_cons_zero])
  refine wpAnyH_take (i := 5) (v := ?v6) rfl (by kernel_rfl) (by kernel_rfl) (by kernel_rfl) (fun _ _ _ h => h) (Or.inl ⟨by rfl, ?hy6⟩) hHeld ?rest6
  case hy6 => (intro wz hSw; (try dsimp only at hSw); go_simp; (try with_reducible rfl))
  (try simp only [Act.put, List.getElem_toArray, List.getElem_cons_succ, List.getElem_cons_zero]); (try simp only [List.setIfInBounds_toArray]); (try simp only [List.set_cons_succ]); (try simp only [List.set_cons_zero])
  refine wpAnyH_take (i := 6) (v := ?v7) rfl (by kernel_rfl) (by kernel_rfl) (by kernel_rfl) (fun _ _ _ h => h) (Or.inl ⟨by rfl, ?hy7⟩) hHeld ?rest7
  case hy7 => (intro wz hSw; (try dsimp only at hSw); go_simp; (try with_reducible rfl))
  (try simp only [Act.put, List.getElem_toArray, List.getElem_cons_succ, List.getElem_cons_zero]); (try simp only [List.setIfInBounds_toArray]); (try simp only [List.set_cons_succ]); (try simp only [List.set_cons_zero])
  refine wpAnyH_ready (rs := [7]) (by kernel_rfl) (by simp) ?_
  refine AllReadyH.cons rfl (fun K' hK => ?_) AllReadyH.nil
  go_simp
  refine (zeros_impl _ _ _ _ g0 g1).mono ?_
  rintro e w1 ⟨b, rfl, hb1, hb2, hh, h1⟩
  have X1 := (Ext.refl W0).drew.trans h1
  have M1 := R0.out.ext X1
  have lN := M1.1
  have f0 := M1.2 0 _ rfl
  have f1 := M1.2 1 _ rfl
  have f2 := M1.2 2 _ rfl
  have f3 := M1.2 3 _ rfl
  have tN := M1.3
  dsimp only
  refine hK.out _ _ (keptB_call hHeld h1) (fun hHeld => ?_)
  clear hK
  refine wpAnyH_ready (rs := [8]) (by kernel_rfl) (by simp) ?_
  refine AllReadyH.cons rfl (fun K' hK => ?_) AllReadyH.nil
  go_simp
  refine hK.out _ _ (kb4 hHeld _ _ _ _) (fun hHeld => ?_)
  clear hK
  refine wpAnyH_done (by kernel_rfl) ?_ _
  rw [E1.out] at hh ⊢
  have hbw : w.heap.size + 1 ≤ b := by have : W0.drew.heap.size = W0.heap.size := rfl; have := HSZ.out; omega
  clear hHeld
  go_wp2
  refine bodyPost_ret (v := .agg #[.int .i64 P, .int .i64 n, .int .i64 n, .slice (some ⟨b, 0, none⟩) (n * n) (n * n)]) (by simp [results, Try.results68, go_sem, f0, f1, f2, f3]) rfl ⟨b, rfl, ?_, ext4 (E0.out.trans X1) (Nat.le_refl _) _ _ _ _⟩
  exact (own4 ((hh.own (lo := w.heap.size + 1) hbw hb2 (by simp))) (by omega) _ _ _ _).mono (by omega) (by simp)
end Go.Proofs.Ytnikfalpjieibaa
