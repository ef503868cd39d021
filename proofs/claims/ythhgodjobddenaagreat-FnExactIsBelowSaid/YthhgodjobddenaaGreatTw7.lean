/-
  LongestWord, NormalWord and SameElement, of the program and of the specification.
-/
import Derived.Test.YthhgodjobddenaaGreatTw6
namespace Go.Proofs.YthhgodjobddenaaGreat
open Go.ChangeShapes Go.WideShapes Go.ChangeAt Go.RowKit
set_option linter.unusedVariables false
set_option linter.unusedSimpArgs false

theorem climb_ones {l h : List Int} {K : Nat} {y : List Int} (hK4 : K ≤ 4) (hW : WOk l h K) (hy : ImB l K 24 y) : ∃ d rows, climbO l K y = some (d, rows) :=
  climbO_total hK4 hW.cl (fun u hu => imB_lat hW.rt (by omega) (by omega) hu) (fun u i hi hu => imB_turn hW.rt hu hi) _ y (Nat.lt_succ_self _) hy
theorem imB_actO {l h : List Int} {K : Nat} {x : List Int} (hK4 : K ≤ 4) (hW : WOk l h K) (hx : rowB K x = true) : ImB l K 24 (actM l K x (List.replicate K 1)) :=
  imB_act hW.rt (imB_ones hK4 hW.rt) x hx
theorem ones_bnd (K : Nat) : ∀ e, -1000000 ≤ gi (List.replicate K (1 : Int)) e ∧ gi (List.replicate K (1 : Int)) e ≤ 1000000 := by
  intro e
  simp only [gi, List.getD_eq_getElem?_getD, List.getElem?_replicate]
  split <;> simp
theorem ones_len (K : Nat) : (List.replicate K (1 : Int)).length = K := by simp
theorem neg_len (K : Nat) : (List.replicate K (-1 : Int)).length = K := by simp

set_option maxRecDepth 100000 in
set_option maxHeartbeats 6400000 in
theorem l6Longest_spec {K a0 oa n : Nat} {l h d : List Int} {rows : List Nat} {w : World} (hT : Reads w (some ⟨a0, oa, none⟩) n l) (hn : n = K * K) (hK1 : 1 ≤ K) (hK4 : K ≤ 4) (hW : WOk l h K) (hO : climbO l K (List.replicate K (-1)) = some (d, rows)) :
    Calls Tryz.prog 49 #[.agg #[.int .i64 (K : Nat), .slice (some ⟨a0, oa, none⟩) n n]] w fun e w' => ∃ v, e = .returned v ∧ Grows w' w.heap.size v rows.length (rI rows) ∧ rows.length ≤ 512001 ∧ Ext w w' := by
  have HT := Lib.hid hT
  have HN := Lib.hid hn
  have HW := Lib.hid hW
  have HO := Lib.hid hO
  have HBX := Lib.hid (cells_new w #[.int .i64 (K : Nat), .slice (some ⟨a0, oa, none⟩) n n] 27)
  have X0 := Lib.hid ((Ext.refl w).alloc (.cells #[.int .i64 (K : Nat), .slice (some ⟨a0, oa, none⟩) n n] 27))
  have lB := HBX.out.1
  have q0 := HBX.out.2 0 _ rfl
  have q1 := HBX.out.2 1 _ rfl
  clear hT hn hW hO
  go_enter Tryz.func49, Tryz.ntmps49
  go_wp2_with fail
  generalize (w.alloc (.cells #[.int .i64 (K : Nat), .slice (some ⟨a0, oa, none⟩) n n] 27)) = W1 at *
  have hle1 := X0.out.le
  refine wp_region_held_drew (S := (fun w' => Ext W1 w' ∧ (∀ b o, b < W1.heap.size → w'.cell? ⟨b, o, none⟩ = W1.cell? ⟨b, o, none⟩))) (by kernel_rfl) (ext2 (Ext.refl W1).drew) (fun hHeld => ?_)
  refine wpAnyH_take (i := 0) (v := ?v1) rfl (by kernel_rfl) (by kernel_rfl) (by kernel_rfl) (fun _ _ _ h => h) (Or.inl ⟨by rfl, ?hy1⟩) hHeld ?rest1
  case hy1 => (intro wz hSw; (try dsimp only at hSw); go_simp; (try with_reducible rfl))
  (try simp only [Act.put, List.getElem_toArray, List.getElem_cons_succ, List.getElem_cons_zero]); (try simp only [List.setIfInBounds_toArray]); (try simp only [List.set_cons_succ]); (try simp only [List.set_cons_zero])
  refine wpAnyH_take (i := 1) (v := ?v2) rfl (by kernel_rfl) (by kernel_rfl) (by kernel_rfl) (fun _ _ _ h => h) (Or.inl ⟨by rfl, ?hy2⟩) hHeld ?rest2
  case hy2 => (intro wz hSw; (try dsimp only at hSw); go_simp; (try with_reducible rfl))
  (try simp only [Act.put, List.getElem_toArray, List.getElem_cons_succ, List.getElem_cons_zero]); (try simp only [List.setIfInBounds_toArray]); (try simp only [List.set_cons_succ]); (try simp only [List.set_cons_zero])
  refine wpAnyH_ready (rs := [2]) (by kernel_rfl) (by simp) ?_
  refine AllReadyH.cons rfl (fun K' hK => ?_) AllReadyH.nil
  go_simp
  refine (l6Rho_spec K a0 oa n n _ hK4 hK1).mono ?_
  rintro e w3 ⟨b3, c3, rfl, hc3, hb31, hb32, hh3, h3⟩
  have Xw3 := (And.left hHeld).trans h3
  dsimp only
  refine hK.out _ _ (ext2 Xw3) (fun hHeld => ?_)
  clear hK
  refine wpAnyH_ready (rs := [3]) (by kernel_rfl) (by simp) ?_
  refine AllReadyH.cons rfl (fun K' hK => ?_) AllReadyH.nil
  go_simp
  refine (l5Minus_spec K c3 (some ⟨b3, 0, none⟩) (List.replicate K 1) _ (hh3.reads (ones_len K)) (by omega) (ones_bnd K)).mono ?_
  rintro e w4 ⟨b4, rfl, hb41, hb42, hh4, h4⟩
  have Xw4 := (And.left hHeld).trans h4
  rw [negL_ones] at hh4
  dsimp only
  refine hK.out _ _ (ext2 Xw4) (fun hHeld => ?_)
  clear hK
  refine wpAnyH_ready (rs := [4]) (by kernel_rfl) (by simp) ?_
  refine AllReadyH.cons rfl (fun K' hK => ?_) AllReadyH.nil
  go_simp
  refine (l6Climb_spec K a0 oa n n K K b4 0 l h (List.replicate K (-1)) (ImB l K 24) _ (HT.out.ext (X0.out.trans (And.left hHeld))) HN.out hK1 hK4 HW.out.xb HW.out.cl (hh4.reads (neg_len K)) rfl (imB_neg hK4 HW.out.rt) (fun u hu => imB_lat HW.out.rt (by omega) (by omega) hu) (fun u i hi hu => imB_turn HW.out.rt hu hi)).mono ?_
  rintro e w5 ⟨h5, d5, rows5, b5, ob5, c5, v5, hO5, rfl, hr5, hP5, hG5, hl5⟩
  have Xw5 := (And.left hHeld).trans h5
  rw [HO.out] at hO5
  injection hO5 with hO5
  injection hO5 with hO6 hO7
  subst hO6 hO7
  have hG6 : Hid (Grows w5 w.heap.size v5 rows.length (rI rows)) := hG5.low (by have := hb41; have := (And.left hHeld).le; omega)
  clear hG5 hP5 hr5
  dsimp only
  refine hK.out _ _ (ext2 Xw5) (fun hHeld => ?_)
  clear hK
  refine wpAnyH_take (i := 5) (v := ?v3) rfl (by kernel_rfl) (by kernel_rfl) (by kernel_rfl) (fun _ _ _ h => h) (Or.inl ⟨by rfl, ?hy3⟩) hHeld ?rest3
  case hy3 => (intro wz hSw; (try dsimp only at hSw); go_simp; (try with_reducible rfl))
  (try simp only [Act.put, List.getElem_toArray, List.getElem_cons_succ, List.getElem_cons_zero]); (try simp only [List.setIfInBounds_toArray]); (try simp only [List.set_cons_succ]); (try simp only [List.set_cons_zero])
  refine wpAnyH_take (i := 6) (v := ?v4) rfl (by kernel_rfl) (by kernel_rfl) (by kernel_rfl) (fun _ _ _ h => h) (Or.inl ⟨by rfl, ?hy4⟩) hHeld ?rest4
  case hy4 => (intro wz hSw; (try dsimp only at hSw); go_simp; (try with_reducible rfl))
  (try simp only [Act.put, List.getElem_toArray, List.getElem_cons_succ, List.getElem_cons_zero]); (try simp only [List.setIfInBounds_toArray]); (try simp only [List.set_cons_succ]); (try simp only [List.set_cons_zero])
  refine wpAnyH_take (i := 7) (v := ?v5) rfl (by kernel_rfl) (by kernel_rfl) (by kernel_rfl) (fun _ _ _ h => h) (Or.inl ⟨by rfl, ?hy5⟩) hHeld ?rest5
  case hy5 => (intro wz hSw; (try dsimp only at hSw); go_simp; (try with_reducible rfl))
  (try simp only [Act.put, List.getElem_toArray, List.getElem_cons_succ, List.getElem_cons_zero]); (try simp only [List.setIfInBounds_toArray]); (try simp only [List.set_cons_succ]); (try simp only [List.set_cons_zero])
  refine wpAnyH_take (i := 8) (v := ?v6) rfl (by kernel_rfl) (by kernel_rfl) (by kernel_rfl) (fun _ _ _ h => h) (Or.inl ⟨by rfl, ?hy6⟩) hHeld ?rest6
  case hy6 => (intro wz hSw; (try dsimp only at hSw); go_simp; (try with_reducible rfl))
  (try simp only [Act.put, List.getElem_toArray, List.getElem_cons_succ, List.getElem_cons_zero]); (try simp only [List.setIfInBounds_toArray]); (try simp only [List.set_cons_succ]); (try simp only [List.set_cons_zero])
  refine wpAnyH_take (i := 9) (v := ?v7) rfl (by kernel_rfl) (by kernel_rfl) (by kernel_rfl) (fun _ _ _ h => h) (Or.inl ⟨by rfl, ?hy7⟩) hHeld ?rest7
  case hy7 => (intro wz hSw; (try dsimp only at hSw); go_simp; (try with_reducible rfl))
  (try simp only [Act.put, List.getElem_toArray, List.getElem_cons_succ, List.getElem_cons_zero]); (try simp only [List.setIfInBounds_toArray]); (try simp only [List.set_cons_succ]); (try simp only [List.set_cons_zero])
  refine wpAnyH_done (by kernel_rfl) ?_ _
  have X9 := X0.out.trans (And.left hHeld)
  clear hHeld
  go_wp2
  go_ret
  exact ⟨_, rfl, hG6.out, hl5, X9⟩

set_option maxRecDepth 100000 in
set_option maxHeartbeats 6400000 in
theorem l6Normal_spec {K a0 oa n bx ox nx cx : Nat} {l h d x : List Int} {rows : List Nat} {w : World} (hT : Reads w (some ⟨a0, oa, none⟩) n l) (hn : n = K * K) (hK1 : 1 ≤ K) (hK4 : K ≤ 4) (hW : WOk l h K) (hx : Reads w (some ⟨bx, ox, none⟩) nx x) (hmx : nx ≤ 1048576) (hrx : rowB K x = true) (hO : climbO l K (actM l K x (List.replicate K 1)) = some (d, rows)) :
    Calls Tryz.prog 68 #[.agg #[.int .i64 (K : Nat), .slice (some ⟨a0, oa, none⟩) n n], .slice (some ⟨bx, ox, none⟩) nx cx] w fun e w' => ∃ v, e = .returned v ∧ Grows w' w.heap.size v rows.length (rI rows) ∧ rows.length ≤ 512001 ∧ Ext w w' := by
  have HT := Lib.hid hT
  have HN := Lib.hid hn
  have HW := Lib.hid hW
  have HO := Lib.hid hO
  have HX := Lib.hid hx
  have HRX := Lib.hid hrx
  have HBX := Lib.hid (cells_new w #[.int .i64 (K : Nat), .slice (some ⟨a0, oa, none⟩) n n] 27)
  have X0 := Lib.hid ((Ext.refl w).alloc (.cells #[.int .i64 (K : Nat), .slice (some ⟨a0, oa, none⟩) n n] 27))
  have lB := HBX.out.1
  have q0 := HBX.out.2 0 _ rfl
  have q1 := HBX.out.2 1 _ rfl
  clear hT hn hW hO hx hrx
  go_enter Tryz.func68, Tryz.ntmps68
  go_wp2_with fail
  generalize (w.alloc (.cells #[.int .i64 (K : Nat), .slice (some ⟨a0, oa, none⟩) n n] 27)) = W1 at *
  have hle1 := X0.out.le
  refine wp_region_held_drew (S := (fun w' => Ext W1 w' ∧ (∀ b o, b < W1.heap.size → w'.cell? ⟨b, o, none⟩ = W1.cell? ⟨b, o, none⟩))) (by kernel_rfl) (ext2 (Ext.refl W1).drew) (fun hHeld => ?_)
  refine wpAnyH_take (i := 0) (v := ?v8) rfl (by kernel_rfl) (by kernel_rfl) (by kernel_rfl) (fun _ _ _ h => h) (Or.inl ⟨by rfl, ?hy8⟩) hHeld ?rest8
  case hy8 => (intro wz hSw; (try dsimp only at hSw); go_simp; (try with_reducible rfl))
  (try simp only [Act.put, List.getElem_toArray, List.getElem_cons_succ, List.getElem_cons_zero]); (try simp only [List.setIfInBounds_toArray]); (try simp only [List.set_cons_succ]); (try simp only [List.set_cons_zero])
  refine wpAnyH_take (i := 1) (v := ?v9) rfl (by kernel_rfl) (by kernel_rfl) (by kernel_rfl) (fun _ _ _ h => h) (Or.inl ⟨by rfl, ?hy9⟩) hHeld ?rest9
  case hy9 => (intro wz hSw; (try dsimp only at hSw); go_simp; (try with_reducible rfl))
  (try simp only [Act.put, List.getElem_toArray, List.getElem_cons_succ, List.getElem_cons_zero]); (try simp only [List.setIfInBounds_toArray]); (try simp only [List.set_cons_succ]); (try simp only [List.set_cons_zero])
  refine wpAnyH_take (i := 2) (v := ?v10) rfl (by kernel_rfl) (by kernel_rfl) (by kernel_rfl) (fun _ _ _ h => h) (Or.inl ⟨by rfl, ?hy10⟩) hHeld ?rest10
  case hy10 => (intro wz hSw; (try dsimp only at hSw); go_simp; (try with_reducible rfl))
  (try simp only [Act.put, List.getElem_toArray, List.getElem_cons_succ, List.getElem_cons_zero]); (try simp only [List.setIfInBounds_toArray]); (try simp only [List.set_cons_succ]); (try simp only [List.set_cons_zero])
  refine wpAnyH_take (i := 3) (v := ?v11) rfl (by kernel_rfl) (by kernel_rfl) (by kernel_rfl) (fun _ _ _ h => h) (Or.inl ⟨by rfl, ?hy11⟩) hHeld ?rest11
  case hy11 => (intro wz hSw; (try dsimp only at hSw); go_simp; (try with_reducible rfl))
  (try simp only [Act.put, List.getElem_toArray, List.getElem_cons_succ, List.getElem_cons_zero]); (try simp only [List.setIfInBounds_toArray]); (try simp only [List.set_cons_succ]); (try simp only [List.set_cons_zero])
  refine wpAnyH_ready (rs := [4]) (by kernel_rfl) (by simp) ?_
  refine AllReadyH.cons rfl (fun K' hK => ?_) AllReadyH.nil
  go_simp
  refine (l6Rho_spec K a0 oa n n _ hK4 hK1).mono ?_
  rintro e w3 ⟨b3, c3, rfl, hc3, hb31, hb32, hh3, h3⟩
  have Xw3 := (And.left hHeld).trans h3
  dsimp only
  refine hK.out _ _ (ext2 Xw3) (fun hHeld => ?_)
  clear hK
  refine wpAnyH_ready (rs := [5]) (by kernel_rfl) (by simp) ?_
  refine AllReadyH.cons rfl (fun K' hK => ?_) AllReadyH.nil
  go_simp
  refine (l6Act_spec K a0 oa n n bx ox nx cx b3 0 c3 l x (List.replicate K 1) (ImB l K 24) _ (HT.out.ext (X0.out.trans (And.left hHeld))) HN.out hK1 hK4 HW.out.xb (HX.out.ext (X0.out.trans (And.left hHeld))) hmx HRX.out (hh3.reads (ones_len K)) (imB_ones hK4 HW.out.rt) (imB_bnd6 HW.out.rt (by omega) (by omega)) (fun u i hi hu => imB_turn HW.out.rt hu hi)).mono ?_
  rintro e w4 ⟨b4, c4, rfl, hc4, hb41, hb42, hh4, hP4, h4⟩
  have Xw4 := (And.left hHeld).trans h4
  dsimp only
  refine hK.out _ _ (ext2 Xw4) (fun hHeld => ?_)
  clear hK
  refine wpAnyH_ready (rs := [6]) (by kernel_rfl) (by simp) ?_
  refine AllReadyH.cons rfl (fun K' hK => ?_) AllReadyH.nil
  go_simp
  refine (l6Climb_spec K a0 oa n n K c4 b4 0 l h _ (ImB l K 24) _ (HT.out.ext (X0.out.trans (And.left hHeld))) HN.out hK1 hK4 HW.out.xb HW.out.cl (hh4.reads hP4.len) rfl hP4 (fun u hu => imB_lat HW.out.rt (by omega) (by omega) hu) (fun u i hi hu => imB_turn HW.out.rt hu hi)).mono ?_
  rintro e w5 ⟨h5, d5, rows5, b5, ob5, c5, v5, hO5, rfl, hr5, hP5, hG5, hl5⟩
  have Xw5 := (And.left hHeld).trans h5
  have hO5 := HO.out.symm.trans hO5
  injection hO5 with hO5
  injection hO5 with hO6 hO7
  subst hO6 hO7
  have hG6 : Hid (Grows w5 w.heap.size v5 rows.length (rI rows)) := hG5.low (by have := hb41; have := (And.left hHeld).le; omega)
  clear hG5 hP5 hr5
  dsimp only
  refine hK.out _ _ (ext2 Xw5) (fun hHeld => ?_)
  clear hK
  refine wpAnyH_take (i := 7) (v := ?v12) rfl (by kernel_rfl) (by kernel_rfl) (by kernel_rfl) (fun _ _ _ h => h) (Or.inl ⟨by rfl, ?hy12⟩) hHeld ?rest12
  case hy12 => (intro wz hSw; (try dsimp only at hSw); go_simp; (try with_reducible rfl))
  (try simp only [Act.put, List.getElem_toArray, List.getElem_cons_succ, List.getElem_cons_zero]); (try simp only [List.setIfInBounds_toArray]); (try simp only [List.set_cons_succ]); (try simp only [List.set_cons_zero])
  refine wpAnyH_take (i := 8) (v := ?v13) rfl (by kernel_rfl) (by kernel_rfl) (by kernel_rfl) (fun _ _ _ h => h) (Or.inl ⟨by rfl, ?hy13⟩) hHeld ?rest13
  case hy13 => (intro wz hSw; (try dsimp only at hSw); go_simp; (try with_reducible rfl))
  (try simp only [Act.put, List.getElem_toArray, List.getElem_cons_succ, List.getElem_cons_zero]); (try simp only [List.setIfInBounds_toArray]); (try simp only [List.set_cons_succ]); (try simp only [List.set_cons_zero])
  refine wpAnyH_take (i := 9) (v := ?v14) rfl (by kernel_rfl) (by kernel_rfl) (by kernel_rfl) (fun _ _ _ h => h) (Or.inl ⟨by rfl, ?hy14⟩) hHeld ?rest14
  case hy14 => (intro wz hSw; (try dsimp only at hSw); go_simp; (try with_reducible rfl))
  (try simp only [Act.put, List.getElem_toArray, List.getElem_cons_succ, List.getElem_cons_zero]); (try simp only [List.setIfInBounds_toArray]); (try simp only [List.set_cons_succ]); (try simp only [List.set_cons_zero])
  refine wpAnyH_take (i := 10) (v := ?v15) rfl (by kernel_rfl) (by kernel_rfl) (by kernel_rfl) (fun _ _ _ h => h) (Or.inl ⟨by rfl, ?hy15⟩) hHeld ?rest15
  case hy15 => (intro wz hSw; (try dsimp only at hSw); go_simp; (try with_reducible rfl))
  (try simp only [Act.put, List.getElem_toArray, List.getElem_cons_succ, List.getElem_cons_zero]); (try simp only [List.setIfInBounds_toArray]); (try simp only [List.set_cons_succ]); (try simp only [List.set_cons_zero])
  refine wpAnyH_take (i := 11) (v := ?v16) rfl (by kernel_rfl) (by kernel_rfl) (by kernel_rfl) (fun _ _ _ h => h) (Or.inl ⟨by rfl, ?hy16⟩) hHeld ?rest16
  case hy16 => (intro wz hSw; (try dsimp only at hSw); go_simp; (try with_reducible rfl))
  (try simp only [Act.put, List.getElem_toArray, List.getElem_cons_succ, List.getElem_cons_zero]); (try simp only [List.setIfInBounds_toArray]); (try simp only [List.set_cons_succ]); (try simp only [List.set_cons_zero])
  refine wpAnyH_done (by kernel_rfl) ?_ _
  have X9 := X0.out.trans (And.left hHeld)
  clear hHeld
  go_wp2
  go_ret
  exact ⟨_, rfl, hG6.out, hl5, X9⟩

set_option maxRecDepth 100000 in
set_option maxHeartbeats 6400000 in
theorem longestWord_spec {R : Int} {a0 oa n : Nat} {l : List Int} {w : World} {i : List Int} (hT : Reads w (some ⟨a0, oa, none⟩) n l) (hm0 : n ≤ 1048576) (hM : lwO R l = i) :
    Calls Tryz.prog 15 #[.agg #[.int .i64 R, .slice (some ⟨a0, oa, none⟩) n n]] w fun e w' => ∃ v, e = .returned v ∧ Rints5 w w' v i ∧ Ext w w' := by
  subst hM
  have HT := Lib.hid hT
  rcases hG : carG R l with _ | v
  · have HF : Hid (lwO R l = []) := by rw [Hid, lwO, hG]
    clear hT
    go_enter Tryz.func15, Tryz.ntmps15
    go_wp2_with fail
    refine (isCartan_no (HT.out.ext ((Ext.refl w).alloc _)) hm0 hG).mono ?_
    rintro e w2 ⟨rfl, hE⟩
    go_wp2
    go_ret
    exact ⟨_, rfl, ⟨_, _, _, rfl, by rw [HF.out]; exact own_nil _ _ _, by omega⟩, ((Ext.refl w).alloc _).trans hE⟩
  · obtain ⟨K, rfl, hK1, hK4, hlK, ht⟩ := carG_some hG
    have hnK : Hid (n = K * K) := by rw [Hid, ← hT.len]; exact hlK
    obtain ⟨hh, hWOK⟩ := wOk_tab hK1 hK4 ht
    have HWO := Lib.hid hWOK
    clear hWOK
    obtain ⟨d, rows, hO⟩ := climb_ones hK4 HWO.out (imB_neg hK4 HWO.out.rt)
    have HF : Hid (lwO K l = rI rows) := lwO_eq hG hO
    have HO := Lib.hid hO
    clear hT hO
    go_enter Tryz.func15, Tryz.ntmps15
    go_wp2_with fail
    refine (isCartan_yes (HT.out.ext ((Ext.refl w).alloc _)) hm0 hG).mono ?_
    rintro e w2 ⟨rfl, hE⟩
    have HE2 := Lib.hid (((Ext.refl w).alloc _).trans hE)
    have HB2 := Lib.hid ((cells_new w #[.int .i64 (K : Nat), .slice (some ⟨a0, oa, none⟩) n n] 27).ext hE)
    clear hE
    have lB := HB2.out.1
    have q0 := HB2.out.2 0 _ rfl
    have q1 := HB2.out.2 1 _ rfl
    go_wp2_with fail
    refine (l6Longest_spec (HT.out.ext HE2.out) hnK.out hK1 hK4 HWO.out HO.out).mono ?_
    rintro e w5 ⟨v5, rfl, hG5, hl5, h5⟩
    have HG5 : Hid (Grows w5 w.heap.size v5 rows.length (rI rows)) := hG5.low HE2.out.le
    clear hG5
    go_wp2
    go_ret
    exact ⟨_, rfl, by rw [HF.out]; exact grows_own6 HG5.out (by omega), HE2.out.trans h5⟩

set_option maxRecDepth 100000 in
set_option maxHeartbeats 6400000 in
theorem longestWord_impl {R : Int} {a0 oa n : Nat} {l : List Int} {w : World} {i : List Int} (hT : Reads w (some ⟨a0, oa, none⟩) n l) (hm0 : n ≤ 1048576) (hM : lwO R l = i) :
    Calls Tryz.prog 17 #[.agg #[.int .i64 R, .slice (some ⟨a0, oa, none⟩) n n]] w fun e w' => ∃ v, e = .returned v ∧ Rints5 w w' v i ∧ Ext w w' := by
  subst hM
  have HT := Lib.hid hT
  rcases hG : carG R l with _ | v
  · have HF : Hid (lwO R l = []) := by rw [Hid, lwO, hG]
    clear hT
    go_enter Tryz.func17, Tryz.ntmps17
    go_wp2_with fail
    refine (wrapCartan_no (HT.out.ext ((Ext.refl w).alloc _)) hm0 hG).mono ?_
    rintro e w2 ⟨rfl, hE⟩
    go_wp2
    go_ret
    exact ⟨_, rfl, ⟨_, _, _, rfl, by rw [HF.out]; exact own_nil _ _ _, by omega⟩, ((Ext.refl w).alloc _).trans hE⟩
  · obtain ⟨K, rfl, hK1, hK4, hlK, ht⟩ := carG_some hG
    have hnK : Hid (n = K * K) := by rw [Hid, ← hT.len]; exact hlK
    obtain ⟨hh, hWOK⟩ := wOk_tab hK1 hK4 ht
    have HWO := Lib.hid hWOK
    clear hWOK
    obtain ⟨d, rows, hO⟩ := climb_ones hK4 HWO.out (imB_neg hK4 HWO.out.rt)
    have HF : Hid (lwO K l = rI rows) := lwO_eq hG hO
    have HO := Lib.hid hO
    clear hT hO
    go_enter Tryz.func17, Tryz.ntmps17
    go_wp2_with fail
    refine (wrapCartan_yes (HT.out.ext ((Ext.refl w).alloc _)) hK1 hK4 ht hlK).mono ?_
    rintro e w2 ⟨B, LB, ns, rfl, hns, hW⟩
    have HE2 := Lib.hid (((Ext.refl w).alloc _).trans hW.ext)
    obtain ⟨xa, xn, xc, hbox, hstr⟩ := hW.box
    have HBX := Lib.hid hbox
    clear hW hns hbox hstr
    go_wp2_with fail
    refine (ones_impl B K a0 oa n n _ _ _ HBX.out hK1 hK4).mono ?_
    rintro e w3 ⟨b3, rfl, hb31, hb32, hh3, h3⟩
    have HE3 := Lib.hid (HE2.out.trans h3)
    have HBX3 := Lib.hid (HBX.out.ext h3)
    have HH3 := Lib.hid hh3
    clear h3 hh3 HBX HE2
    go_wp2_with fail
    refine (negated_impl K K (some ⟨b3, 0, none⟩) (List.replicate K 1) _ (HH3.out.reads (ones_len K)) (by omega) (ones_bnd K)).mono ?_
    rintro e w4 ⟨b4, rfl, hb41, hb42, hh4, h4⟩
    rw [negL_ones] at hh4
    have HE4 := Lib.hid (HE3.out.trans h4)
    have HBX4 := Lib.hid (HBX3.out.ext h4)
    have HH4 := Lib.hid hh4
    clear h4 hh4 HBX3 HE3 HH3
    go_wp2_with fail
    refine (normalOf_impl B K a0 oa n n K K b4 0 _ _ l hh (List.replicate K (-1)) d rows _ HBX4.out (HT.out.ext HE4.out) hnK.out hK1 hK4 HWO.out.xb HWO.out.cl (HH4.out.reads (neg_len K)) (by omega) HO.out).mono ?_
    rintro e w5 ⟨h5, v5, rfl, hG5, hl5⟩
    have HG5 : Hid (Grows w5 w.heap.size v5 rows.length (rI rows)) := hG5.low HE4.out.le
    clear hG5
    go_wp2
    go_ret
    exact ⟨_, rfl, by rw [HF.out]; exact grows_own6 HG5.out (by omega), HE4.out.trans h5⟩

set_option maxRecDepth 100000 in
set_option maxHeartbeats 6400000 in
theorem normalWord_spec {R : Int} {a0 oa n bx ox nx : Nat} {l x : List Int} {w : World} {i : List Int} (hT : Reads w (some ⟨a0, oa, none⟩) n l) (hm0 : n ≤ 1048576) (hx : Reads w (some ⟨bx, ox, none⟩) nx x) (hmx : nx ≤ 1048576) (hM : nwO R l x = i) :
    Calls Tryz.prog 30 #[.agg #[.int .i64 R, .slice (some ⟨a0, oa, none⟩) n n], .slice (some ⟨bx, ox, none⟩) nx nx] w fun e w' => ∃ v, e = .returned v ∧ Rints5 w w' v i ∧ Ext w w' := by
  subst hM
  have HT := Lib.hid hT
  have Hx := Lib.hid hx
  rcases hG : carG R l with _ | v
  · have HF : Hid (nwO R l x = []) := by rw [Hid, nwO, hG]
    have HI : wrdO R l x = false := by rw [wrdO, hG]; rfl
    clear hT hx
    go_enter Tryz.func30, Tryz.ntmps30
    go_wp2_with fail
    refine (wordOk_spec (HT.out.ext ((Ext.refl w).alloc _)) hm0 (Hx.out.ext ((Ext.refl w).alloc _)) hmx HI).mono ?_
    rintro e w2 ⟨rfl, hE⟩
    go_wp2
    go_ret
    exact ⟨_, rfl, ⟨_, _, _, rfl, by rw [HF.out]; exact own_nil _ _ _, by omega⟩, ((Ext.refl w).alloc _).trans hE⟩
  · obtain ⟨K, rfl, hK1, hK4, hlK, ht⟩ := carG_some hG
    have hnK : Hid (n = K * K) := by rw [Hid, ← hT.len]; exact hlK
    obtain ⟨hh, hWOK⟩ := wOk_tab hK1 hK4 ht
    have HWO := Lib.hid hWOK
    clear hWOK
    have HI : Hid (wrdO K l x = wordB K x) := by rw [Hid, wrdO, hG]; rfl
    clear hT hx
    rcases hw : wordB K x with _ | _
    · have HF : Hid (nwO K l x = []) := by rw [Hid, nwO, hG]; simp [hw]
      go_enter Tryz.func30, Tryz.ntmps30
      go_wp2_with fail
      refine (wordOk_spec (HT.out.ext ((Ext.refl w).alloc _)) hm0 (Hx.out.ext ((Ext.refl w).alloc _)) hmx HI.out).mono ?_
      rintro e w2 ⟨rfl, hE⟩
      rw [hw]
      go_wp2
      go_ret
      exact ⟨_, rfl, ⟨_, _, _, rfl, by rw [HF.out]; exact own_nil _ _ _, by omega⟩, ((Ext.refl w).alloc _).trans hE⟩
    · have HRx := Lib.hid (wordB_rowB hw)
      obtain ⟨d, rows, hO⟩ := climb_ones hK4 HWO.out (imB_actO hK4 HWO.out HRx.out)
      have HF : Hid (nwO K l x = rI rows) := nwO_eq hG hw hO
      have HO := Lib.hid hO
      clear hO
      go_enter Tryz.func30, Tryz.ntmps30
      go_wp2_with fail
      refine (wordOk_spec (HT.out.ext ((Ext.refl w).alloc _)) hm0 (Hx.out.ext ((Ext.refl w).alloc _)) hmx HI.out).mono ?_
      rintro e w2 ⟨rfl, hE⟩
      rw [hw]
      have HE2 := Lib.hid (((Ext.refl w).alloc _).trans hE)
      have HB2 := Lib.hid ((cells_new w #[.int .i64 (K : Nat), .slice (some ⟨a0, oa, none⟩) n n] 27).ext hE)
      clear hE
      have lB := HB2.out.1
      have q0 := HB2.out.2 0 _ rfl
      have q1 := HB2.out.2 1 _ rfl
      go_wp2_with fail
      refine (l6Normal_spec (HT.out.ext HE2.out) hnK.out hK1 hK4 HWO.out (Hx.out.ext HE2.out) hmx HRx.out HO.out).mono ?_
      rintro e w5 ⟨v5, rfl, hG5, hl5, h5⟩
      have HG5 : Hid (Grows w5 w.heap.size v5 rows.length (rI rows)) := hG5.low HE2.out.le
      clear hG5
      go_wp2
      go_ret
      exact ⟨_, rfl, by rw [HF.out]; exact grows_own6 HG5.out (by omega), HE2.out.trans h5⟩

set_option maxRecDepth 100000 in
set_option maxHeartbeats 6400000 in
theorem normalWord_impl {R : Int} {a0 oa n bx ox nx : Nat} {l x : List Int} {w : World} {i : List Int} (hT : Reads w (some ⟨a0, oa, none⟩) n l) (hm0 : n ≤ 1048576) (hx : Reads w (some ⟨bx, ox, none⟩) nx x) (hmx : nx ≤ 1048576) (hM : nwO R l x = i) :
    Calls Tryz.prog 31 #[.agg #[.int .i64 R, .slice (some ⟨a0, oa, none⟩) n n], .slice (some ⟨bx, ox, none⟩) nx nx] w fun e w' => ∃ v, e = .returned v ∧ Rints5 w w' v i ∧ Ext w w' := by
  subst hM
  have HT := Lib.hid hT
  have Hx := Lib.hid hx
  have hmf : ∀ (fn : Fn) (first cap : Array Value) (w : World), (Instr.makeFunc fn first cap).run Tryz.prog w = .ok (.func fn first cap) w := fun _ _ _ _ => rfl
  rcases hG : carG R l with _ | v
  · have HF : Hid (nwO R l x = []) := by rw [Hid, nwO, hG]
    clear hT hx
    have X0 := Lib.hid (((Ext.refl w).alloc (.cells #[.int .i64 R, .slice (some ⟨a0, oa, none⟩) n n] 27)).alloc (.cells #[.slice (some ⟨bx, ox, none⟩) nx nx] 22))
    go_enter Tryz.func31, Tryz.ntmps31
    go_wp2_with fail
    refine (wrapWords_no (HT.out.ext X0.out) hm0 hG).mono ?_
    rintro e w2 ⟨rfl, hE⟩
    go_wp2
    go_ret
    exact ⟨_, rfl, ⟨_, _, _, rfl, by rw [HF.out]; exact own_nil _ _ _, by omega⟩, X0.out.trans hE⟩
  · obtain ⟨K, rfl, hK1, hK4, hlK, ht⟩ := carG_some hG
    have hnK : Hid (n = K * K) := by rw [Hid, ← hT.len]; exact hlK
    obtain ⟨hh, hWOK⟩ := wOk_tab hK1 hK4 ht
    have HWO := Lib.hid hWOK
    clear hWOK
    clear hT hx
    rcases hw : wordB K x with _ | _
    · have HF : Hid (nwO K l x = []) := by rw [Hid, nwO, hG]; simp [hw]
      have X0 := Lib.hid (((Ext.refl w).alloc (.cells #[.int .i64 (K : Nat), .slice (some ⟨a0, oa, none⟩) n n] 27)).alloc (.cells #[.slice (some ⟨bx, ox, none⟩) nx nx] 22))
      have CB := Lib.hid (cells_new' (w.alloc (.cells #[.int .i64 (K : Nat), .slice (some ⟨a0, oa, none⟩) n n] 27)) #[.slice (some ⟨bx, ox, none⟩) nx nx] 22 (w.heap.size + 1) (by simp))
      have HCW := Lib.hid (wrapWords_yes K a0 oa n (w.heap.size + 1) 1 1 (fun _ => some ⟨bx, ox, none⟩) (fun _ => nx) (fun _ => nx) (fun _ => x) l v _ (HT.out.ext X0.out) hK1 hK4 ht hlK (by simp) (fun j hj => by have e : j = 0 := (by omega); subst e; exact CB.out.2 0 _ rfl) (fun j hj => ⟨Hx.out.ext X0.out, hmx⟩) (by omega))
      go_enter Tryz.func31, Tryz.ntmps31
      go_wp2_with fail
      refine HCW.out.mono ?_
      rintro e w2 (⟨h1, rfl, hE⟩ | ⟨h1, B, LB, ns, rfl, hns, hW⟩)
      · go_wp2
        go_ret
        exact ⟨_, rfl, ⟨_, _, _, rfl, by rw [HF.out]; exact own_nil _ _ _, by omega⟩, X0.out.trans hE⟩
      · rw [wordsB_one6, hw] at h1; cases h1
    · have HRx := Lib.hid (wordB_rowB hw)
      obtain ⟨d, rows, hO⟩ := climb_ones hK4 HWO.out (imB_actO hK4 HWO.out HRx.out)
      have HF : Hid (nwO K l x = rI rows) := nwO_eq hG hw hO
      have HO := Lib.hid hO
      clear hO
      have X0 := Lib.hid (((Ext.refl w).alloc (.cells #[.int .i64 (K : Nat), .slice (some ⟨a0, oa, none⟩) n n] 27)).alloc (.cells #[.slice (some ⟨bx, ox, none⟩) nx nx] 22))
      have CB := Lib.hid (cells_new' (w.alloc (.cells #[.int .i64 (K : Nat), .slice (some ⟨a0, oa, none⟩) n n] 27)) #[.slice (some ⟨bx, ox, none⟩) nx nx] 22 (w.heap.size + 1) (by simp))
      have HCW := Lib.hid (wrapWords_yes K a0 oa n (w.heap.size + 1) 1 1 (fun _ => some ⟨bx, ox, none⟩) (fun _ => nx) (fun _ => nx) (fun _ => x) l v _ (HT.out.ext X0.out) hK1 hK4 ht hlK (by simp) (fun j hj => by have e : j = 0 := (by omega); subst e; exact CB.out.2 0 _ rfl) (fun j hj => ⟨Hx.out.ext X0.out, hmx⟩) (by omega))
      go_enter Tryz.func31, Tryz.ntmps31
      go_wp2_with fail
      refine HCW.out.mono ?_
      rintro e w2 (⟨h1, rfl, hE⟩ | ⟨h1, B, LB, ns, rfl, hns, hW⟩)
      · rw [wordsB_one6, hw] at h1; cases h1
      · skip
        have HE2 := Lib.hid (X0.out.trans hW.ext)
        obtain ⟨xa, xn, xc, hbox, hstr⟩ := hW.box
        have HBX := Lib.hid hbox
        clear hW hns hbox hstr HCW
        go_wp2_with fail
        refine (imageOf_impl B K a0 oa n n bx ox nx nx _ _ l x (ImB l K 24) _ HBX.out (HT.out.ext HE2.out) hnK.out hK1 hK4 HWO.out.xb (Hx.out.ext HE2.out) hmx HRx.out (imB_ones hK4 HWO.out.rt) (imB_bnd6 HWO.out.rt (by omega) (by omega)) (fun u i hi hu => imB_turn HWO.out.rt hu hi)).mono ?_
        rintro e w3 ⟨b3, c3, rfl, hc3, hb31, hb32, hh3, hP3, h3⟩
        have HE3 := Lib.hid (HE2.out.trans h3)
        have HBX3 := Lib.hid (HBX.out.ext h3)
        have HH3 := Lib.hid hh3
        have HP3 := Lib.hid hP3
        clear h3 hh3 HBX HE2 hP3
        go_wp2_with fail
        refine (normalOf_impl B K a0 oa n n K c3 b3 0 _ _ l hh _ d rows _ HBX3.out (HT.out.ext HE3.out) hnK.out hK1 hK4 HWO.out.xb HWO.out.cl (HH3.out.reads HP3.out.len) (by omega) HO.out).mono ?_
        rintro e w5 ⟨h5, v5, rfl, hG5, hl5⟩
        have HG5 : Hid (Grows w5 w.heap.size v5 rows.length (rI rows)) := hG5.low HE3.out.le
        clear hG5
        go_wp2
        go_ret
        exact ⟨_, rfl, by rw [HF.out]; exact grows_own6 HG5.out (by omega), HE3.out.trans h5⟩
end Go.Proofs.YthhgodjobddenaaGreat
