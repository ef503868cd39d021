/-
  LongestWord, NormalWord and SameElement, of the program and of the specification.
-/
import Derived.Test.YtlnpaplbcocmkaaGreatTw6
namespace Go.Proofs.YtlnpaplbcocmkaaGreat
open Go.ChangeShapes Go.WideShapes Go.ChangeAt Go.RowKit
set_option linter.unusedVariables false
set_option linter.unusedSimpArgs false

theorem climb_ones {l h : List Int} {K : Nat} {y : List Int} (hK4 : K ≤ 4) (hW : WOk l h K) (hy : ImB l K 24 y) : ∃ d rows, climbO l K y = some (d, rows) :=
  climbO_total hK4 hW.cl (fun u hu => imB_lat hW.rt (by omega) (by omega) hu) (fun u i hi hu => imB_turn hW.rt hu hi) _ y (Nat.lt_succ_self _) hy
theorem imB_actO {l h : List Int} {K : Nat} {x : List Int} (hK4 : K ≤ 4) (hW : WOk l h K) (hx : rowB K x = true) : ImB l K 24 (actM l K x (List.replicate K 1)) :=
  imB_act hW.rt (imB_ones hK4 hW.rt) x hx
theorem ones_bnd (K : Nat) : ∀ e, -1000000 ≤ gi (List.replicate K (1 : Int)) e ∧ gi (List.replicate K (1 : Int)) e ≤ 1000000 := by
  intro e
  simp only [gi, List.getD_eq_getElem?_getD, List.getElem?_replicate]
  split <;> simp
theorem ones_len (K : Nat) : (List.replicate K (1 : Int)).length = K := by simp
theorem neg_len (K : Nat) : (List.replicate K (-1 : Int)).length = K := by simp

set_option maxRecDepth 100000 in
set_option maxHeartbeats 6400000 in
theorem l6Longest_spec {K a0 oa n : Nat} {l h d : List Int} {rows : List Nat} {w : World} (hT : Reads w (some ⟨a0, oa, none⟩) n l) (hn : n = K * K) (hK1 : 1 ≤ K) (hK4 : K ≤ 4) (hW : WOk l h K) (hO : climbO l K (List.replicate K (-1)) = some (d, rows)) :
    Calls Tryz.prog 74 #[.agg #[.int .i64 (K : Nat), .slice (some ⟨a0, oa, none⟩) n n]] w fun e w' => ∃ v, e = .returned v ∧ Grows w' w.heap.size v rows.length (rI rows) ∧ rows.length ≤ 512001 ∧ Ext w w' := by
  have HT := Lib.hid hT
  have HN := Lib.hid hn
  have HW := Lib.hid hW
  have HO := Lib.hid hO
  have HBX := Lib.hid (cells_new w #[.int .i64 (K : Nat), .slice (some ⟨a0, oa, none⟩) n n] 27)
  have X0 := Lib.hid ((Ext.refl w).alloc (.cells #[.int .i64 (K : Nat), .slice (some ⟨a0, oa, none⟩) n n] 27))
  have lB := HBX.out.1
  have q0 := HBX.out.2 0 _ rfl
  have q1 := HBX.out.2 1 _ rfl
  clear hT hn hW hO
  go_enter Tryz.func74, Tryz.ntmps74
  go_wp2_with fail
  generalize (w.alloc (.cells #[.int .i64 (K : Nat), .slice (some ⟨a0, oa, none⟩) n n] 27)) = W1 at *
  have hle1 := X0.out.le
  refine wp_region_held_drew (S := (fun w' => Ext W1 w' ∧ (∀ b o, b < W1.heap.size → w'.cell? ⟨b, o, none⟩ = W1.cell? ⟨b, o, none⟩))) (by kernel_rfl) (ext2 (Ext.refl W1).drew) (fun hHeld => ?_)
  refine wpAnyH_take (i := 0) (v := ?v1) rfl (by kernel_rfl) (by kernel_rfl) (by kernel_rfl) (fun _ _ _ h => h) (Or.inl ⟨by rfl, ?hy1⟩) hHeld ?rest1
  case hy1 => (intro wz hSw; (try dsimp only at hSw); go_simp; (try with_reducible rfl))
  (try simp only [Act.put, List.getElem_toArray, List.getElem_cons_succ, List.getElem_cons_zero]); (try simp only [List.setIfInBounds_toArray]); (try simp only [List.set_cons_succ]); (try simp only [List.set_cons_zero])
  refine wpAnyH_take (i := 1) (v := ?v2) rfl (by kernel_rfl) (by kernel_rfl) (by kernel_rfl) (fun _ _ _ h => h) (Or.inl ⟨by rfl, ?hy2⟩) hHeld ?rest2
  case hy2 => (intro wz hSw; (try dsimp only at hSw); go_simp; (try with_reducible rfl))
  (try simp only [Act.put, List.getElem_toArray, List.getElem_cons_succ, List.getElem_cons_zero]); (try simp only [List.setIfInBounds_toArray]); (try simp only [List.set_cons_succ]); (try simp only [List.set_cons_zero])
  refine wpAnyH_ready (rs := [2]) (by kernel_rfl) (by simp) ?_
  refine AllReadyH.cons rfl (fun K' hK => ?_) AllReadyH.nil
  go_simp
  refine (l6Rho_spec K a0 oa n n _ hK4 hK1).mono ?_
  rintro e w3 ⟨b3, c3, rfl, hc3, hb31, hb32, hh3, h3⟩
  have Xw3 := (And.left hHeld).trans h3
  dsimp only
  refine hK.out _ _ (ext2 Xw3) (fun hHeld => ?_)
  clear hK
  refine wpAnyH_ready (rs := [3]) (by kernel_rfl) (by simp) ?_
  refine AllReadyH.cons rfl (fun K' hK => ?_) AllReadyH.nil
  go_simp
  refine (l5Minus_spec K c3 (some ⟨b3, 0, none⟩) (List.replicate K 1) _ (hh3.reads (ones_len K)) (by omega) (ones_bnd K)).mono ?_
  rintro e w4 ⟨b4, rfl, hb41, hb42, hh4, h4⟩
  have Xw4 := (And.left hHeld).trans h4
  rw [negL_ones] at hh4
  dsimp only
  refine hK.out _ _ (ext2 Xw4) (fun hHeld => ?_)
  clear hK
  refine wpAnyH_ready (rs := [4]) (by kernel_rfl) (by simp) ?_
  refine AllReadyH.cons rfl (fun K' hK => ?_) AllReadyH.nil
  go_simp
  refine (l6Climb_spec K a0 oa n n K K b4 0 l h (List.replicate K (-1)) (ImB l K 24) _ (HT.out.ext (X0.out.trans (And.left hHeld))) HN.out hK1 hK4 HW.out.xb HW.out.cl (hh4.reads (neg_len K)) rfl (imB_neg hK4 HW.out.rt) (fun u hu => imB_lat HW.out.rt (by omega) (by omega) hu) (fun u i hi hu => imB_turn HW.out.rt hu hi)).mono ?_
  rintro e w5 ⟨h5, d5, rows5, b5, ob5, c5, v5, hO5, rfl, hr5, hP5, hG5, hl5⟩
  have Xw5 := (And.left hHeld).trans h5
  rw [HO.out] at hO5
  injection hO5 with hO5
  injection hO5 with hO6 hO7
  subst hO6 hO7
  have hG6 : Hid (Grows w5 w.heap.size v5 rows.length (rI rows)) := hG5.low (by have := hb41; have := (And.left hHeld).le; omega)
  clear hG5 hP5 hr5
  dsimp only
  refine hK.out _ _ (ext2 Xw5) (fun hHeld => ?_)
  clear hK
  refine wpAnyH_take (i := 5) (v := ?v3) rfl (by kernel_rfl) (by kernel_rfl) (by kernel_rfl) (fun _ _ _ h => h) (Or.inl ⟨by rfl, ?hy3⟩) hHeld ?rest3
  case hy3 => (intro wz hSw; (try dsimp only at hSw); go_simp; (try with_reducible rfl))
  (try simp only [Act.put, List.getElem_toArray, List.getElem_cons_succ, List.getElem_cons_zero]); (try simp only [List.setIfInBounds_toArray]); (try simp only [List.set_cons_succ]); (try simp only [List.set_cons_zero])
  refine wpAnyH_take (i := 6) (v := ?v4) rfl (by kernel_rfl) (by kernel_rfl) (by kernel_rfl) (fun _ _ _ h => h) (Or.inl ⟨by rfl, ?hy4⟩) hHeld ?rest4
  case hy4 => (intro wz hSw; (try dsimp only at hSw); go_simp; (try with_reducible rfl))
  (try simp only [Act.put, List.getElem_toArray, List.getElem_cons_succ, List.getElem_cons_zero]); (try simp only [List.setIfInBounds_toArray]); (try simp only [List.set_cons_succ]); (try simp only [List.set_cons_zero])
  refine wpAnyH_take (i := 7) (v := ?v5) rfl (by kernel_rfl) (by kernel_rfl) (by kernel_rfl) (fun _ _ _ h => h) (Or.inl ⟨by rfl, ?hy5⟩) hHeld ?rest5
  case hy5 => (intro wz hSw; (try dsimp only at hSw); go_simp; (try with_reducible rfl))
  (try simp only [Act.put, List.getElem_toArray, List.getElem_cons_succ, List.getElem_cons_zero]); (try simp only [List.setIfInBounds_toArray]); (try simp only [List.set_cons_succ]); (try simp only [List.set_cons_zero])
  refine wpAnyH_take (i := 8) (v := ?v6) rfl (by kernel_rfl) (by kernel_rfl) (by kernel_rfl) (fun _ _ _ h => h) (Or.inl ⟨by rfl, ?hy6⟩) hHeld ?rest6
  case hy6 => (intro wz hSw; (try dsimp only at hSw); go_simp; (try with_reducible rfl))
  (try simp only [Act.put, List.getElem_toArray, List.getElem_cons_succ, List.getElem_cons_zero]); (try simp only [List.setIfInBounds_toArray]); (try simp only [List.set_cons_succ]); (try simp only [List.set_cons_zero])
  refine wpAnyH_take (i := 9) (v := ?v7) rfl (by kernel_rfl) (by kernel_rfl) (by kernel_rfl) (fun _ _ _ h => h) (Or.inl ⟨by rfl, ?hy7⟩) hHeld ?rest7
  case hy7 => (intro wz hSw; (try dsimp only at hSw); go_simp; (try with_reducible rfl))
  (try simp only [Act.put, List.getElem_toArray, List.getElem_cons_succ, List.getElem_cons_zero]); (try simp only [List.setIfInBounds_toArray]); (try simp only [List.set_cons_succ]); (try simp only [List.set_cons_zero])
  refine wpAnyH_done (by kernel_rfl) ?_ _
  have X9 := X0.out.trans (And.left hHeld)
  clear hHeld
  go_wp2
  go_ret
  exact ⟨_, rfl, hG6.out, hl5, X9⟩

end Go.Proofs.YtlnpaplbcocmkaaGreat
