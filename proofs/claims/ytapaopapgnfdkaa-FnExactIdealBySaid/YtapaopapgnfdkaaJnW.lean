/-
  Two spaces joined, with the bound on what is kept free.
-/
import Derived.Test.YtapaopapgnfdkaaCs
import Derived.RegionTactic
namespace Go.Proofs.Ytapaopapgnfdkaa
open Go.ChangeShapes Go.WideShapes Go.ChangeAt Go.RowKit
set_option linter.unusedVariables false
set_option linter.unusedSimpArgs false

set_option maxRecDepth 100000 in
set_option maxHeartbeats 6400000 in
theorem l1Join_wide (P P' C' : Int) (R R' C n n' c c' : Nat) (a a' : Addr) (xs ys : List Int) (w : World) (hr : Reads w (some a) n xs) (hr' : Reads w (some a') n' ys) (hn : n = R * C) (hn' : n' = R' * C) (hb : n + n' ≤ 1048576) (hR : R + R' ≤ 1048576) (hC : C ≤ 1048576) (hpr : isP P = true) (hx : Res xs P) (hy : Res ys P) :
    Calls Try.prog 159 #[.agg #[.int .i64 P, .int .i64 R, .int .i64 C, .slice (some a) n c], .agg #[.int .i64 P', .int .i64 R', .int .i64 C', .slice (some a') n' c']] w fun e w' => ∃ b d, e = .returned (.agg #[.int .i64 P, .int .i64 ((redM P (R + R') C (xs ++ ys)).pv.length : Nat), .int .i64 C, .slice (some ⟨b, 0, none⟩) ((redM P (R + R') C (xs ++ ys)).pv.length * C) d]) ∧ w.heap.size ≤ b ∧ b < w'.heap.size ∧ Has w' b (spanL P (R + R') C (xs ++ ys)) ∧ Ext w w' ∧ (redM P (R + R') C (xs ++ ys)).pv.length * C ≤ d := by
  obtain ⟨i0, hi, hz0, hz1, hz2⟩ := info_parts Try.infoInt
  have HR := Lib.hid hr
  have HR' := Lib.hid hr'
  have HN : Hid (n + n' = (R + R') * C) := by show n + n' = (R + R') * C; rw [hn, hn', Nat.add_mul]
  have HX : Hid (Res (xs ++ ys) P) := res_append hx hy
  have HPR := Lib.hid hpr
  have HL : Hid ((xs ++ ys).length = n + n') := by show (xs ++ ys).length = n + n'; rw [List.length_append, hr.1, hr'.1]
  clear hr hr' hn hn' hpr hx hy
  go_enter Try.func159, Try.ntmps159
  have A0_1 := Lib.hid (((cells_new' w #[.int .i64 P, .int .i64 R, .int .i64 C, .slice (some a) n c] 40 (w.heap.size) (by simp)).ext ((Ext.refl _).alloc (.cells #[.int .i64 P', .int .i64 R', .int .i64 C', .slice (some a') n' c'] 40))).ext ((Ext.refl _).alloc (.cells #[.int .i64 0, .int .i64 0, .int .i64 0, .slice none 0 0] 40)))
  have A1_2 := Lib.hid ((cells_new' (w.alloc (.cells #[.int .i64 P, .int .i64 R, .int .i64 C, .slice (some a) n c] 40)) #[.int .i64 P', .int .i64 R', .int .i64 C', .slice (some a') n' c'] 40 (w.heap.size + 1) (by simp)).ext ((Ext.refl _).alloc (.cells #[.int .i64 0, .int .i64 0, .int .i64 0, .slice none 0 0] 40)))
  have R_3 := Lib.hid (cells_new' ((w.alloc (.cells #[.int .i64 P, .int .i64 R, .int .i64 C, .slice (some a) n c] 40)).alloc (.cells #[.int .i64 P', .int .i64 R', .int .i64 C', .slice (some a') n' c'] 40)) #[.int .i64 0, .int .i64 0, .int .i64 0, .slice none 0 0] 40 (w.heap.size + 1 + 1) (by simp))
  have E_4 := Lib.hid ((((Ext.refl w).alloc (.cells #[.int .i64 P, .int .i64 R, .int .i64 C, .slice (some a) n c] 40)).alloc (.cells #[.int .i64 P', .int .i64 R', .int .i64 C', .slice (some a') n' c'] 40)).alloc (.cells #[.int .i64 0, .int .i64 0, .int .i64 0, .slice none 0 0] 40))
  have lA0 := A0_1.out.1
  have qA00 := A0_1.out.2 0 _ rfl
  have qA01 := A0_1.out.2 1 _ rfl
  have qA02 := A0_1.out.2 2 _ rfl
  have qA03 := A0_1.out.2 3 _ rfl
  have lA1 := A1_2.out.1
  have qA10 := A1_2.out.2 0 _ rfl
  have qA11 := A1_2.out.2 1 _ rfl
  have qA12 := A1_2.out.2 2 _ rfl
  have qA13 := A1_2.out.2 3 _ rfl
  have lR := R_3.out.1
  have qR0 := R_3.out.2 0 _ rfl
  have qR1 := R_3.out.2 1 _ rfl
  have qR2 := R_3.out.2 2 _ rfl
  have qR3 := R_3.out.2 3 _ rfl
  have tR := R_3.out.3
  try simp only [World.size_alloc] at lA0 lA1 lR
  have lR := R_3.out.1
  have lW0 : w.heap.size < ((((w.alloc (.cells #[.int .i64 P, .int .i64 R, .int .i64 C, .slice (some a) n c] 40)).alloc (.cells #[.int .i64 P', .int .i64 R', .int .i64 C', .slice (some a') n' c'] 40)).alloc (.cells #[.int .i64 0, .int .i64 0, .int .i64 0, .slice none 0 0] 40))).heap.size := by simp <;> omega
  have lW1 : w.heap.size + 1 < ((((w.alloc (.cells #[.int .i64 P, .int .i64 R, .int .i64 C, .slice (some a) n c] 40)).alloc (.cells #[.int .i64 P', .int .i64 R', .int .i64 C', .slice (some a') n' c'] 40)).alloc (.cells #[.int .i64 0, .int .i64 0, .int .i64 0, .slice none 0 0] 40))).heap.size := by simp <;> omega
  have lW2 : w.heap.size + 1 + 1 < ((((w.alloc (.cells #[.int .i64 P, .int .i64 R, .int .i64 C, .slice (some a) n c] 40)).alloc (.cells #[.int .i64 P', .int .i64 R', .int .i64 C', .slice (some a') n' c'] 40)).alloc (.cells #[.int .i64 0, .int .i64 0, .int .i64 0, .slice none 0 0] 40))).heap.size := by simp <;> omega
  go_wp2_with fail
  generalize hWW : (((w.alloc (.cells #[.int .i64 P, .int .i64 R, .int .i64 C, .slice (some a) n c] 40)).alloc (.cells #[.int .i64 P', .int .i64 R', .int .i64 C', .slice (some a') n' c'] 40)).alloc (.cells #[.int .i64 0, .int .i64 0, .int .i64 0, .slice none 0 0] 40)) = W at *
  clear hWW
  have v1 : IntKind.i64.wrap ((R : Int) + (R' : Int)) = (R : Int) + (R' : Int) := IntWalk.i64_in _ ⟨by omega, by omega⟩
  refine wp_region_held_drew (S := (fun w' => Ext w w' ∧ w.heap.size + 1 + 1 ≤ w'.heap.size ∧ ∀ b o, b < w.heap.size + 1 + 1 → w'.cell? ⟨b, o, none⟩ = W.cell? ⟨b, o, none⟩)) (by kernel_rfl) ⟨E_4.out.drew, Nat.le_of_lt lW2, fun _ _ _ => rfl⟩ (fun hHeld => ?_)
  have nA0 : w.heap.size < w.heap.size + 1 + 1 := by omega
  have nA1 : w.heap.size + 1 < w.heap.size + 1 + 1 := by omega
  refine wpAnyH_take (i := 0) (v := ?v1) rfl (by kernel_rfl) (by kernel_rfl) (by kernel_rfl) (fun _ _ _ h => h) (Or.inl ⟨by rfl, ?hy1⟩) hHeld ?rest1
  case hy1 => (intro wz hSw; (try dsimp only at hSw); go_simp; (try with_reducible rfl))
  (try simp only [Act.put]); (try simp only [List.setIfInBounds_toArray]); (try simp only [List.set_cons_succ]); (try simp only [List.set_cons_zero])
  refine wpAnyH_take (i := 1) (v := ?v2) rfl (by kernel_rfl) (by kernel_rfl) (by kernel_rfl) (fun _ _ _ h => h) (Or.inl ⟨by rfl, ?hy2⟩) hHeld ?rest2
  case hy2 => (intro wz hSw; (try dsimp only at hSw); go_simp; (try with_reducible rfl))
  (try simp only [Act.put]); (try simp only [List.setIfInBounds_toArray]); (try simp only [List.set_cons_succ]); (try simp only [List.set_cons_zero])
  refine wpAnyH_take (i := 2) (v := ?v3) rfl (by kernel_rfl) (by kernel_rfl) (by kernel_rfl) (fun _ _ _ h => h) (Or.inl ⟨by rfl, ?hy3⟩) hHeld ?rest3
  case hy3 => (intro wz hSw; (try dsimp only at hSw); go_simp; (try with_reducible rfl))
  (try simp only [Act.put]); (try simp only [List.setIfInBounds_toArray]); (try simp only [List.set_cons_succ]); (try simp only [List.set_cons_zero])
  refine wpAnyH_take (i := 3) (v := ?v4) rfl (by kernel_rfl) (by kernel_rfl) (by kernel_rfl) (fun _ _ _ h => h) (Or.inl ⟨by rfl, ?hy4⟩) hHeld ?rest4
  case hy4 => (intro wz hSw; (try dsimp only at hSw); go_simp; (try with_reducible rfl))
  (try simp only [Act.put]); (try simp only [List.setIfInBounds_toArray]); (try simp only [List.set_cons_succ]); (try simp only [List.set_cons_zero])
  refine wpAnyH_take (i := 4) (v := ?v5) rfl (by kernel_rfl) (by kernel_rfl) (by kernel_rfl) (fun _ _ _ h => h) (Or.inl ⟨by rfl, ?hy5⟩) hHeld ?rest5
  case hy5 => (intro wz hSw; (try dsimp only at hSw); go_simp; (try with_reducible rfl))
  (try simp only [Act.put]); (try simp only [List.setIfInBounds_toArray]); (try simp only [List.set_cons_succ]); (try simp only [List.set_cons_zero])
  refine wpAnyH_take (i := 5) (v := ?v6) rfl (by kernel_rfl) (by kernel_rfl) (by kernel_rfl) (fun _ _ _ h => h) (Or.inl ⟨by rfl, ?hy6⟩) hHeld ?rest6
  case hy6 => (intro wz hSw; (try dsimp only at hSw); go_simp; (try with_reducible rfl))
  (try simp only [Act.put]); (try simp only [List.setIfInBounds_toArray]); (try simp only [List.set_cons_succ]); (try simp only [List.set_cons_zero])
  refine wpAnyH_take (i := 6) (v := ?v7) rfl (by kernel_rfl) (by kernel_rfl) (by kernel_rfl) (fun _ _ _ h => h) (Or.inl ⟨by rfl, ?hy7⟩) hHeld ?rest7
  case hy7 => (intro wz hSw; (try dsimp only at hSw); go_simp; (try with_reducible rfl))
  (try simp only [Act.put]); (try simp only [List.setIfInBounds_toArray]); (try simp only [List.set_cons_succ]); (try simp only [List.set_cons_zero])
  refine wpAnyH_take (i := 7) (v := ?v8) rfl (by kernel_rfl) (by kernel_rfl) (by kernel_rfl) (fun _ _ _ h => h) (Or.inl ⟨by rfl, ?hy8⟩) hHeld ?rest8
  case hy8 => (intro wz hSw; (try dsimp only at hSw); go_simp; (try with_reducible rfl))
  (try simp only [Act.put]); (try simp only [List.setIfInBounds_toArray]); (try simp only [List.set_cons_succ]); (try simp only [List.set_cons_zero])
  refine wpAnyH_take (i := 8) (v := ?v9) rfl (by kernel_rfl) (by kernel_rfl) (by kernel_rfl) (fun _ _ _ h => h) (Or.inl ⟨by rfl, ?hy9⟩) hHeld ?rest9
  case hy9 => (intro wz hSw; (try dsimp only at hSw); go_simp; (try with_reducible rfl))
  (try simp only [Act.put]); (try simp only [List.setIfInBounds_toArray]); (try simp only [List.set_cons_succ]); (try simp only [List.set_cons_zero])
  refine wpAnyH_take (i := 9) (v := ?v10) rfl (by kernel_rfl) (by kernel_rfl) (by kernel_rfl) (fun _ _ _ h => h) (Or.inl ⟨by rfl, ?hy10⟩) hHeld ?rest10
  case hy10 => (intro wz hSw; (try dsimp only at hSw); go_simp; (try with_reducible rfl))
  (try simp only [Act.put]); (try simp only [List.setIfInBounds_toArray]); (try simp only [List.set_cons_succ]); (try simp only [List.set_cons_zero])
  refine wpAnyH_take (i := 10) (v := ?v11) rfl (by kernel_rfl) (by kernel_rfl) (by kernel_rfl) (fun _ _ _ h => h) (Or.inl ⟨by rfl, ?hy11⟩) hHeld ?rest11
  case hy11 => (intro wz hSw; (try dsimp only at hSw); go_simp; (try with_reducible rfl))
  (try simp only [Act.put]); (try simp only [List.setIfInBounds_toArray]); (try simp only [List.set_cons_succ]); (try simp only [List.set_cons_zero])
  refine wpAnyH_take (i := 12) (v := ?v12) rfl (by kernel_rfl) (by kernel_rfl) (by kernel_rfl) (fun _ _ _ h => h) (Or.inl ⟨by rfl, ?hy12⟩) hHeld ?rest12
  case hy12 => (intro wz hSw; (try dsimp only at hSw); go_simp; (try with_reducible rfl))
  (try simp only [Act.put]); (try simp only [List.setIfInBounds_toArray]); (try simp only [List.set_cons_succ]); (try simp only [List.set_cons_zero])
  refine wpAnyH_take (i := 13) (v := ?v13) rfl (by kernel_rfl) (by kernel_rfl) (by kernel_rfl) (fun _ _ _ h => h) (Or.inl ⟨by rfl, ?hy13⟩) hHeld ?rest13
  case hy13 => (intro wz hSw; (try dsimp only at hSw); go_simp; (try with_reducible rfl))
  (try simp only [Act.put]); (try simp only [List.setIfInBounds_toArray]); (try simp only [List.set_cons_succ]); (try simp only [List.set_cons_zero])
  refine wpAnyH_ready (rs := [11]) (by kernel_rfl) (by simp) ?_
  refine AllReadyH.cons rfl (fun K' hK => ?_) AllReadyH.nil
  go_simp
  refine (l1Ints_grow a n c xs _ (HR.out.ext E_4.out.drew) (by omega)).mono ?_
  rintro e w2 ⟨v2, rfl, hG, h2⟩
  dsimp only
  refine hK.out _ _ (KeptR.call hHeld h2) (fun hHeld => ?_)
  clear hK
  have hG2 := Lib.hid hG
  clear hG
  have hRy := Lib.hid (HR'.out.ext (E_4.out.drew.trans h2))
  refine wpAnyH_ready (rs := [14]) (by kernel_rfl) (by simp) ?_
  refine AllReadyH.cons rfl (fun K' hK => ?_) AllReadyH.nil
  refine step_appendM rfl (.tmp 16) (.tmp 18) rfl i0 hi hz0 hz1 hz2 (base := W.heap.size) v2 n xs rfl hG2.out a' n' c' ys rfl hRy.out (by omega) h2.le ?_
  intro v3 w3 ho hg hnil
  have hfar : ∀ k, v2.ownBlock = some k → W.heap.size ≤ k := fun k hk => (hG2.out.blk k hk).1
  have h3 : Ext W w3 := Ext.grown ((Ext.refl W).drew.trans h2) hg hfar
  refine hK.out _ _ ⟨E_4.out.trans h3, Nat.le_trans (Nat.le_of_lt lW2) h3.le, fun b o hb => h3.cells b o (by omega)⟩ (fun hHeld => ?_)
  clear hK
  obtain ⟨a3, cap3, rfl, hRd, hnone⟩ := Grows.reads ho
  have HRd := Lib.hid hRd
  have HNo := Lib.hid hnone
  have H3 := Lib.hid h3
  clear hRd hnone ho hg hnil hfar hG2 h2 hRy h3
  refine wpAnyH_take (i := 15) (v := ?v14) rfl (by kernel_rfl) (by kernel_rfl) (by kernel_rfl) (fun _ _ _ h => h) (Or.inl ⟨by rfl, ?hy14⟩) hHeld ?rest14
  case hy14 => (intro wz hSw; (try dsimp only at hSw); go_simp; (try with_reducible rfl))
  (try simp only [Act.put]); (try simp only [List.setIfInBounds_toArray]); (try simp only [List.set_cons_succ]); (try simp only [List.set_cons_zero])
  refine wpAnyH_ready (rs := [16]) (by kernel_rfl) (by simp) ?_
  refine AllReadyH.cons rfl (fun K' hK => ?_) AllReadyH.nil
  have hsp := l1Span_spec P (R + R') C (n + n') cap3 a3 (xs ++ ys) w3 HRd.out HN.out hb hR hC HPR.out HX.out HNo.out
  rw [Int.natCast_add] at hsp
  go_simp
  refine hsp.mono ?_
  rintro e w5 ⟨b, d, rfl, hb1, hb2, hh, h5, hcc⟩
  dsimp only
  clear hsp
  refine hK.out _ _ (KeptR.call hHeld h5) (fun hHeld => ?_)
  clear hK
  have hall := H3.out.trans h5
  have c1 : w5.cell? ⟨w.heap.size + 1 + 1, 0, none⟩ = some (.int .i64 0) := (hall.cells _ 0 lR).trans qR0
  have c2 : w5.cell? ⟨w.heap.size + 1 + 1, 1, none⟩ = some (.int .i64 0) := (hall.cells _ 1 lR).trans qR1
  have c3 : w5.cell? ⟨w.heap.size + 1 + 1, 2, none⟩ = some (.int .i64 0) := (hall.cells _ 2 lR).trans qR2
  have c4 : w5.cell? ⟨w.heap.size + 1 + 1, 3, none⟩ = some (.slice none 0 0) := (hall.cells _ 3 lR).trans qR3
  have f1 : ∀ j, w5.frozen? ⟨w.heap.size + 1 + 1, j, none⟩ = false := fun j => (hall.frees _ j lR).trans (tR j)
  have hbR : w.heap.size + 1 + 1 < b := Nat.lt_of_lt_of_le (Nat.lt_of_lt_of_le lR H3.out.le) hb1
  have gB : w.heap.size ≤ w.heap.size + 1 + 1 := by omega
  refine wpAnyH_ready (rs := [17]) (by kernel_rfl) (by simp) ?_
  refine AllReadyH.cons rfl (fun K' hK => ?_) AllReadyH.nil
  go_simp
  refine hK.out _ _ (KeptR.set4 hHeld gB _ _ _ _) (fun hHeld => ?_)
  refine wpAnyH_done (by kernel_rfl) ?_ _
  go_wp2
  refine bodyPost_ret (v := .agg #[.int .i64 P, .int .i64 ((redM P (R + R') C (xs ++ ys)).pv.length : Nat), .int .i64 C, .slice (some ⟨b, 0, none⟩) ((redM P (R + R') C (xs ++ ys)).pv.length * C) d]) (by simp [results, Try.results159, go_sem, c1, c2, c3, c4]) rfl ⟨b, d, rfl, by omega, ?_, ?_, hHeld.1, hcc⟩
  · simpa using hb2
  · repeat with_reducible (first | exact hh | refine Has.setOther ?_ (by simp <;> omega) _)
end Go.Proofs.Ytapaopapgnfdkaa
