/-
  Function values that read a table, and what is made of them for all three basis elements.
-/
import Derived.Test.YtapaopapgnfdkaaForms
import Derived.Test.YtapaopapgnfdkaaHs
import Derived.Laws.EntriesVeiled
namespace Go.Proofs.Ytapaopapgnfdkaa
open Go.ChangeShapes Go.WideShapes Go.ChangeAt Go.RowKit
set_option linter.unusedVariables false
set_option linter.unusedSimpArgs false


set_option maxRecDepth 100000 in
set_option maxHeartbeats 1600000 in
theorem reader_fn (P' R' C' : Int) (v0 v2 : Value) (D B MB LB b0 ob N ca : Nat) (xs : List Int) (i j k : Nat) (w : World) (hl : Cells w B [v0, .int .i64 D, v2]) (hm : Cells w MB [.int .i64 P', .int .i64 R', .int .i64 C', .slice (some ⟨b0, ob, none⟩) N ca]) (hL : Cells w LB [.pointer (some ⟨B, 0, none⟩)]) (hr : Reads w (some ⟨b0, ob, none⟩) N xs) (hN : N = D * D * D) (hD : D ≤ 28) (hi : i < D) (hj : j < D) (hk : k < D) :
    Calls Try.prog 216 #[.int .i64 i, .int .i64 j, .int .i64 k, .pointer (some ⟨MB, 0, none⟩), .pointer (some ⟨LB, 0, none⟩)] w fun e w' => e = .returned (.int .i64 (gi xs ((i * D + j) * D + k))) ∧ Ext w w' := by
  have hlt := tb_lt hi hj hk
  have h28 := cube28 hD
  rcases hr.2 with h0 | ⟨b, off, h0, hb, hc⟩
  · omega
  simp only [Option.some.injEq, Addr.mk.injEq, and_true] at h0
  obtain ⟨rfl, rfl⟩ := h0
  have c1 := hc ((i * D + j) * D + k) (by omega)
  have e1 : (i : Int) * (D : Int) = ((i * D : Nat) : Int) := by simp
  have e2 : ((i : Int) * (D : Int) + (j : Int)) * (D : Int) = (((i * D + j) * D : Nat) : Int) := by simp
  have hid : i * D ≤ 784 := Nat.mul_le_mul (show i ≤ 28 by omega) hD
  have w1 : IntKind.i64.wrap ((i : Int) * (D : Int)) = (i : Int) * (D : Int) := IntWalk.i64_in _ ⟨by rw [e1]; omega, by rw [e1]; omega⟩
  have w2 : IntKind.i64.wrap ((i : Int) * (D : Int) + (j : Int)) = (i : Int) * (D : Int) + (j : Int) := IntWalk.i64_in _ ⟨by rw [e1]; omega, by rw [e1]; omega⟩
  have w3 : IntKind.i64.wrap (((i : Int) * (D : Int) + (j : Int)) * (D : Int)) = ((i : Int) * (D : Int) + (j : Int)) * (D : Int) := IntWalk.i64_in _ ⟨by rw [e2]; omega, by rw [e2]; omega⟩
  have w4 : IntKind.i64.wrap (((i : Int) * (D : Int) + (j : Int)) * (D : Int) + (k : Int)) = ((i : Int) * (D : Int) + (j : Int)) * (D : Int) + (k : Int) := IntWalk.i64_in _ ⟨by rw [e2]; omega, by rw [e2]; omega⟩
  have g0 : 0 ≤ ((i : Int) * (D : Int) + (j : Int)) * (D : Int) + (k : Int) := by rw [e2]; omega
  have g1 : ((i : Int) * (D : Int) + (j : Int)) * (D : Int) + (k : Int) < (N : Int) := by rw [e2]; omega
  have t1 : (((i : Int) * (D : Int) + (j : Int)) * (D : Int) + (k : Int)).toNat = (i * D + j) * D + k := by rw [e2]; omega
  have lB := hl.1
  have q1 := hl.2 1 _ rfl
  have lM := hm.1
  have m3 := hm.2 3 _ rfl
  have lL := hL.1
  have x0 := hL.2 0 _ rfl
  clear hc hr hl hm hL e1 e2 hN h28 hlt
  go_enter Try.func216, Try.ntmps216
  go_wp2_with fail
  go_quiet (fail)
  go_wp2
  go_ret
  exact ⟨rfl, by with_reducible repeat (first | exact Ext.refl _ | refine Ext.drewN ?_ _ | refine Ext.drew ?_)⟩

set_option maxRecDepth 100000 in
set_option maxHeartbeats 1600000 in
theorem reader_impl (B : Nat) (v0 v1 v2 v3 : Value) (w : World) :
    Calls Try.prog 171 #[.pointer (some ⟨B, 0, none⟩), .agg #[v0, v1, v2, v3]] w fun e w' => ∃ MB LB, e = .returned (.func (.func 216) #[] #[.pointer (some ⟨MB, 0, none⟩), .pointer (some ⟨LB, 0, none⟩)]) ∧ w.heap.size ≤ MB ∧ w.heap.size ≤ LB ∧ Cells w' MB [v0, v1, v2, v3] ∧ Cells w' LB [.pointer (some ⟨B, 0, none⟩)] ∧ Ext w w' := by
  have hmf : ∀ (fn : Fn) (first cap : Array Value) (w : World), (Instr.makeFunc fn first cap).run Try.prog w = .ok (.func fn first cap) w := fun _ _ _ _ => rfl
  go_enter Try.func171, Try.ntmps171
  go_wp2
  go_ret
  exact ⟨w.heap.size + 1, w.heap.size, rfl, by omega, by omega, cells_new' _ #[v0, v1, v2, v3] _ _ (by simp), (cells_new w #[.pointer (some ⟨B, 0, none⟩)] _).ext ((Ext.refl _).alloc _), ((Ext.refl _).alloc _).alloc _⟩

set_option maxRecDepth 100000 in
set_option maxHeartbeats 1600000 in
theorem clo_C (F0 M0 L0 D : Nat) (x0 : Nat → Nat → Nat → Int) (i j k : Nat) (w : World) (hi : i < D) (hj : j < D) (hk : k < D) (hF0 : Cells w F0 [.func (.func 216) #[] #[.pointer (some ⟨M0, 0, none⟩), .pointer (some ⟨L0, 0, none⟩)]]) (hR0 : ∀ i j k, i < D → j < D → k < D → ∀ w1, Ext w w1 → Calls Try.prog 216 #[.int .i64 i, .int .i64 j, .int .i64 k, .pointer (some ⟨M0, 0, none⟩), .pointer (some ⟨L0, 0, none⟩)] w1 fun e w' => e = .returned (.int .i64 (x0 i j k)) ∧ Ext w1 w') (hB0 : ∀ i j k, 0 ≤ x0 i j k ∧ x0 i j k ≤ 10007) :
    Calls Try.prog 213 #[.int .i64 i, .int .i64 j, .int .i64 k, .pointer (some ⟨F0, 0, none⟩)] w fun e w' => e = .returned (.int .i64 (x0 i j k + x0 j k i + x0 k i j)) ∧ Ext w w' := by
  have H0 := Lib.hid (hR0 i j k hi hj hk)
  obtain ⟨b0, d0⟩ := hB0 i j k
  generalize x0 i j k = y0 at H0 b0 d0 ⊢
  have H1 := Lib.hid (hR0 j k i hj hk hi)
  obtain ⟨b1, d1⟩ := hB0 j k i
  generalize x0 j k i = y1 at H1 b1 d1 ⊢
  have H2 := Lib.hid (hR0 k i j hk hi hj)
  obtain ⟨b2, d2⟩ := hB0 k i j
  generalize x0 k i j = y2 at H2 b2 d2 ⊢
  have v1 : IntKind.i64.wrap (y0 + y1) = y0 + y1 := IntWalk.i64_in _ ⟨by omega, by omega⟩
  have v2 : IntKind.i64.wrap (y0 + y1 + y2) = y0 + y1 + y2 := IntWalk.i64_in _ ⟨by omega, by omega⟩
  have lF0 := hF0.1
  have q0 := hF0.2 0 _ rfl
  clear hF0 hR0 hB0
  go_enter Try.func213, Try.ntmps213
  go_wp2_with fail
  go_region_held3 (fun w' => Ext w w' ∧ (∀ b o, b < w.heap.size → w'.cell? ⟨b, o, none⟩ = w.cell? ⟨b, o, none⟩)) (first | assumption | (with_reducible exact ext2 (Ext.trans (And.left ‹Ext w _ ∧ _›) ‹Ext _ _›)) | (refine ext2 ?_; with_reducible repeat (first | exact Ext.refl _ | exact And.left ‹Ext w _ ∧ _› | refine Ext.drew ?_ | refine Ext.drewN ?_ _))) (first
    | (go_at_call 216; (with_reducible refine (H0.out _ (And.left ‹Ext w _ ∧ _›)).mono ?_); rintro e w3 ⟨rfl, h3⟩)
    | (go_at_call 216; (with_reducible refine (H1.out _ (And.left ‹Ext w _ ∧ _›)).mono ?_); rintro e w4 ⟨rfl, h4⟩)
    | (go_at_call 216; (with_reducible refine (H2.out _ (And.left ‹Ext w _ ∧ _›)).mono ?_); rintro e w5 ⟨rfl, h5⟩))
  all_goals
    have E9 := Lib.hid (And.left ‹Ext w w5 ∧ _›)
    go_wp2
    go_ret
    exact ⟨rfl, E9.out⟩

theorem make_ints0 (n : Nat) (hn : n ≤ 1048576) (w : World) :
    (Instr.makeSlice 22 (.int .i64 0) (.int .i64 (n : Int))).run Try.prog w = .ok (.slice (some ⟨w.heap.size, 0, none⟩) 0 n) (w.alloc (.cells (ints (List.replicate n 0)) 3)) := by
  obtain ⟨i0, hi, hz0, hz1, hz2⟩ := info_parts Try.infoInt
  have h := run_make (P := Try.prog) w 22 3 i0 (.int .i64 0) Try.underlying22 hi hz0 .i64 .i64 0 n (by omega) (by omega) (by rw [hz2]; omega) (by omega)
  simp only [Int.toNat_natCast, hz1, Nat.mul_one] at h
  rw [h]
  have : (Value.int IntKind.i64 0).cells = #[Value.int .i64 0] := rfl
  rw [this, madeCells_ints]
  rfl
theorem grows_made0 (w : World) (base n : Nat) (hb : base ≤ w.heap.size) (hn : n ≤ maxLen) : Grows (w.alloc (.cells (ints (List.replicate n 0)) 3)) base (.slice (some ⟨w.heap.size, 0, none⟩) 0 n) 0 [] :=
  ⟨rfl, .inr ⟨w.heap.size, n, ints (List.replicate n 0), rfl, hb, heap_alloc_new w _, by omega, hn, by rw [ints_size]; simp, by simp⟩⟩
/-- The residues of the numbers of all three, in the order of a table. -/
def tripL (P : Int) (D : Nat) (val : Nat → Nat → Nat → Int) : List Int := (List.range (D * D * D)).map fun q => val (q / (D * D)) (q / D % D) (q % D) % P
theorem tripL_length (P : Int) (D : Nat) (val : Nat → Nat → Nat → Int) : (tripL P D val).length = D * D * D := by simp [tripL]
theorem gi_tripL {P : Int} {D : Nat} {val : Nat → Nat → Nat → Int} {i j k : Nat} (hi : i < D) (hj : j < D) (hk : k < D) : gi (tripL P D val) ((i * D + j) * D + k) = val i j k % P := by
  have hlt := tb_lt hi hj hk
  have h0 : 0 < D := by omega
  rw [tripL, gi_map _ _ hlt]
  have e1 : ((i * D + j) * D + k) % D = k := by rw [Nat.mul_comm, Nat.mul_add_mod]; exact Nat.mod_eq_of_lt hk
  have e2 : ((i * D + j) * D + k) / D = i * D + j := by rw [Nat.mul_comm (i * D + j), Nat.mul_add_div h0, Nat.div_eq_of_lt hk]; omega
  have e3 : (i * D + j) % D = j := by rw [Nat.mul_comm, Nat.mul_add_mod]; exact Nat.mod_eq_of_lt hj
  have e4 : ((i * D + j) * D + k) / (D * D) = i := by rw [← Nat.div_div_eq_div_mul, e2, Nat.mul_comm, Nat.mul_add_div h0, Nat.div_eq_of_lt hj]; omega
  rw [e1, e2, e3, e4]
theorem tripL_take {P : Int} {D : Nat} {val : Nat → Nat → Nat → Int} {i j k : Nat} (hi : i < D) (hj : j < D) (hk : k < D) : (tripL P D val).take ((i * D + j) * D + k + 1) = (tripL P D val).take ((i * D + j) * D + k) ++ [val i j k % P] := by
  have hlt := tb_lt hi hj hk
  rw [List.take_succ_eq_append_getElem (by rw [tripL_length]; exact hlt)]
  have h1 := gi_tripL (P := P) (val := val) hi hj hk
  rw [gi, List.getD_eq_getElem?_getD, List.getElem?_eq_getElem (by rw [tripL_length]; exact hlt), Option.getD_some] at h1
  rw [h1]
theorem tripL_res {P : Int} {D : Nat} {val : Nat → Nat → Nat → Int} (hp : 0 < P) : Res (tripL P D val) P := fun q hq => by
  rw [tripL_length] at hq
  rw [tripL, gi_map _ _ hq]
  exact ⟨Int.emod_nonneg _ (by omega), Int.emod_lt_of_pos _ hp⟩
theorem tripL_zero {P : Int} {D : Nat} {val : Nat → Nat → Nat → Int} : (∀ q, q < D * D * D → gi (tripL P D val) q = 0) ↔ ∀ i, i < D → ∀ j, j < D → ∀ k, k < D → Eqm P (val i j k) 0 := by
  constructor
  · intro h i hi j hj k hk
    have := h _ (tb_lt hi hj hk)
    rw [gi_tripL hi hj hk] at this
    exact eqm_zero.2 this
  · intro h q hq
    have h0 : 0 < D := by
      rcases Nat.eq_zero_or_pos D with h | h
      · subst h; simp at hq
      · exact h
    rw [tripL, gi_map _ _ hq]
    exact eqm_zero.1 (h _ (Nat.div_lt_of_lt_mul hq) _ (Nat.mod_lt _ h0) _ (Nat.mod_lt _ h0))

set_option maxRecDepth 100000 in
set_option maxHeartbeats 3200000 in
theorem forTriples_C (P : Int) (D B a0 oa n d F0 : Nat) (val : Nat → Nat → Nat → Int) (w : World) (hc : Cells w B [.int .i64 P, .int .i64 D, .slice (some ⟨a0, oa, none⟩) n d]) (hn : n = D * D * D) (hD : D ≤ 28) (hp : 2 ≤ P) (hp2 : P ≤ 10007)
    (hf : ∀ i j k, i < D → j < D → k < D → ∀ w1, Ext w w1 → Calls Try.prog 213 #[.int .i64 i, .int .i64 j, .int .i64 k, .pointer (some ⟨F0, 0, none⟩)] w1 fun e w' => e = .returned (.int .i64 (val i j k)) ∧ Ext w1 w') :
    Calls Try.prog 174 #[.pointer (some ⟨B, 0, none⟩), .func (.func 213) #[] #[.pointer (some ⟨F0, 0, none⟩)]] w fun e w' => ∃ a c, e = .returned (.slice a n c) ∧ Own w' w.heap.size w'.heap.size a n (tripL P D val) ∧ Ext w w' := by
  have h28 := cube28 hD
  have hmk := make_ints0 n (by omega) w
  have HC := Lib.hid hc
  have HN := Lib.hid hn
  have HF := Lib.hid hf
  have G0 : Hid (Grows (w.alloc (.cells (ints (List.replicate n 0)) 3)) w.heap.size (.slice (some ⟨w.heap.size, 0, none⟩) 0 n) 0 ((tripL P D val).take 0)) := by
    rw [List.take_zero]; exact grows_made0 w w.heap.size n (Nat.le_refl _) (by unfold maxLen; omega)
  have E0 := Lib.hid ((Ext.refl w).alloc (.cells (ints (List.replicate n 0)) 3))
  have HL : Hid ((tripL P D val).length = n) := by rw [Hid, tripL_length, hn]
  have hnb : n ≤ 21952 := by omega
  clear hc hn hf h28
  have lB := HC.out.1
  have q0 := HC.out.2 0 _ rfl
  have q1 := HC.out.2 1 _ rfl
  have q2 := HC.out.2 2 _ rfl
  go_enter Try.func174, Try.ntmps174
  go_wp2_with fail
  clear hmk
  go_loopw [5, 21, 6, 7, 8] (fun v z _ _ _ wr => ∃ i : Nat, i ≤ D ∧ z = .int .i64 i ∧ Hid (Grows wr w.heap.size v (i * D * D) ((tripL P D val).take (i * D * D))) ∧ Hid (Ext w wr)) (fun _ z _ _ _ _ => D - (intOf z).toNat)
  case atStart => exact ⟨0, by omega, rfl, by rw [Nat.zero_mul, Nat.zero_mul]; exact G0, E0⟩
  case round =>
    clear G0 E0
    obtain ⟨i, hi, rfl, hG, hE⟩ := hrel
    obtain ⟨va, vc, rfl, hgn, hgo⟩ := hG.out.reads2
    have CX := HC.out.ext hE.out
    have lX := CX.1
    have x0 := CX.2 0 _ rfl
    have x1 := CX.2 1 _ rfl
    clear CX hgn
    by_cases hlt : i < D
    · have hG0 : Hid (Grows wr w.heap.size (.slice va (i * D * D) vc) ((i * D + 0) * D) ((tripL P D val).take ((i * D + 0) * D))) := by rw [Nat.add_zero]; exact hG.out
      clear hG hgo
      generalize hI2 : i * D * D = I2 at hG0
      have HI2 := Lib.hid hI2
      clear hI2
      go_wp2_with fail
      clear lX x0 x1
      go_loopw [5, 29, 7, 8] (fun v z _ _ wr => ∃ j : Nat, j ≤ D ∧ z = .int .i64 j ∧ Hid (Grows wr w.heap.size v ((i * D + j) * D) ((tripL P D val).take ((i * D + j) * D))) ∧ Hid (Ext w wr)) (fun _ z _ _ _ => D - (intOf z).toNat)
      case atStart =>
        have e9 : (i * D + 0) * D = I2 := by rw [Nat.add_zero]; exact HI2.out
        exact ⟨0, by omega, rfl, by rw [e9]; exact hG0, hE⟩
      case round =>
        clear hG0 hE
        obtain ⟨j, hj, rfl, hG, hE⟩ := hrel
        obtain ⟨va, vc, rfl, hgn, hgo⟩ := hG.out.reads2
        have CX := HC.out.ext hE.out
        have lX := CX.1
        have x0 := CX.2 0 _ rfl
        have x1 := CX.2 1 _ rfl
        clear CX hgn hgo
        by_cases hlt2 : j < D
        · have hG0 : Hid (Grows wr w.heap.size (.slice va ((i * D + j) * D) vc) ((i * D + j) * D + 0) ((tripL P D val).take ((i * D + j) * D + 0))) := by rw [Nat.add_zero]; exact hG.out
          clear hG
          generalize hJ2 : (i * D + j) * D = J2 at *
          have HJ2 := Lib.hid hJ2
          clear hJ2
          go_wp2_with fail
          clear lX x0 x1
          go_loopw [5, 37, 8] (fun v z _ wr => ∃ k : Nat, k ≤ D ∧ z = .int .i64 k ∧ Hid (Grows wr w.heap.size v (J2 + k) ((tripL P D val).take (J2 + k))) ∧ Hid (Ext w wr)) (fun _ z _ _ => D - (intOf z).toNat)
          case atStart => exact ⟨0, by omega, rfl, hG0, hE⟩
          case round =>
            clear hG0 hE
            obtain ⟨k, hk, rfl, hG, hE⟩ := hrel
            obtain ⟨va, vc, rfl, hgn, hgo⟩ := hG.out.reads2
            have CX := HC.out.ext hE.out
            have lX := CX.1
            have x0 := CX.2 0 _ rfl
            have x1 := CX.2 1 _ rfl
            clear CX hgn hgo
            by_cases hlt3 : k < D
            · have HF1 := Lib.hid (HF.out i j k hlt hlt2 hlt3)
              have HT1 : Hid ((tripL P D val).take (J2 + k + 1) = (tripL P D val).take (J2 + k) ++ [val i j k % P]) := by rw [Hid, ← HJ2.out]; exact tripL_take hlt hlt2 hlt3
              have hbd : J2 + k < n := by rw [← HJ2.out, HN.out]; exact tb_lt hlt hlt2 hlt3
              generalize hy : val i j k = y at HF1 HT1
              clear hy
              generalize hQ : J2 + k = Q at *
              have HQ := Lib.hid hQ
              clear hQ
              have HGD := Lib.hid (Grows.ext hG.out (Ext.refl wr).drew)
              go_wp2_with fail
              go_region_held3 (fun w' => Ext w w' ∧ (∀ b o, b < w.heap.size → w'.cell? ⟨b, o, none⟩ = w.cell? ⟨b, o, none⟩)) (first | assumption | (with_reducible exact ext2 (Ext.trans (And.left ‹Ext w _ ∧ _›) ‹Ext _ _›)) | (refine ext2 ?_; with_reducible repeat (first | exact Ext.refl _ | exact And.left ‹Ext w _ ∧ _› | exact hE.out | refine Ext.drew ?_ | refine Ext.drewN ?_ _ | refine Ext.alloc ?_ _))) (first
                | (go_at_call 213; (with_reducible refine (HF1.out _ (And.left ‹Ext w _ ∧ _›)).mono ?_); rintro e w3 ⟨rfl, h3⟩)
                | (go_at_call 154; (with_reducible refine (residue_impl _ _ _ hp hp2).mono ?_); rintro e w4 ⟨rfl, rfl⟩)
                | (have sz1 := hE.out.le; have sz2 := h3.le; rw [World.size_drew] at sz2
                   have hrd : Reads (w3.alloc (.cells #[.int .i64 (y % P)] 3)) (some ⟨w3.heap.size, 0, none⟩) 1 [y % P] := Has.reads (Has.new w3 [y % P]) rfl
                   refine step_appendG rfl (.tmp 40) (.tmp 52) rfl (base := w.heap.size) (.slice va Q vc) Q ((tripL P D val).take Q) rfl (Grows.ext (Grows.ext HGD.out h3) ((Ext.refl w3).alloc _)) (some ⟨w3.heap.size, 0, none⟩) 1 1 [y % P] rfl hrd (by omega) (by simp; omega) ?_ ⟨_, rfl⟩
                   intro v7 w7 hG7 hg7 _
                   have E7 : Ext w w7 := Ext.grown (Ext.alloc (Ext.trans (Ext.drew hE.out) h3) _) hg7 (fun z hz => (HGD.out.blk z hz).1)
                   have E72 := ext2 E7))
              all_goals
                have G7 : Hid (Grows w7 w.heap.size v7 (Q + 1) ((tripL P D val).take (Q + 1))) := by rw [HT1.out]; exact hG7
                have E8 := Lib.hid E7
                have HQ1 : Hid (J2 + (k + 1) = Q + 1) := by have := HQ.out; show _ = _; omega
                clear hG hE hG7 hg7 E7 E72 HGD h3 hrd
                go_wp2
                exact ⟨⟨k + 1, by omega, by simp, by rw [HQ1.out]; exact G7, E8⟩, by simp [intOf]; omega⟩
            · obtain rfl : D = k := by omega
              have HJ3 : Hid (J2 + D = (i * D + (j + 1)) * D) := by rw [Hid, ← HJ2.out]; simp [Nat.add_mul, Nat.add_assoc]
              have G7 : Hid (Grows wr w.heap.size (.slice va (J2 + D) vc) ((i * D + (j + 1)) * D) ((tripL P D val).take ((i * D + (j + 1)) * D))) := by rw [← HJ3.out]; exact hG.out
              clear hG
              generalize J2 + D = J3 at *
              go_wp2
              exact ⟨⟨j + 1, by omega, by simp, by rw [← HJ3.out] at G7 ⊢; exact G7, hE⟩, by simp [intOf]; omega⟩
        · obtain rfl : D = j := by omega
          have HJ3 : Hid ((i * D + D) * D = (i + 1) * D * D) := by rw [Hid, Nat.add_mul i 1 D, Nat.one_mul]
          have G7 : Hid (Grows wr w.heap.size (.slice va ((i * D + D) * D) vc) ((i + 1) * D * D) ((tripL P D val).take ((i + 1) * D * D))) := by rw [← HJ3.out]; exact hG.out
          clear hG
          generalize (i * D + D) * D = J3 at *
          go_wp2
          exact ⟨⟨i + 1, by omega, by simp, by rw [← HJ3.out] at G7 ⊢; exact G7, hE⟩, by simp [intOf]; omega⟩
    · obtain rfl : D = i := by omega
      have htk : (tripL P D val).take (D * D * D) = tripL P D val := List.take_of_length_le (by rw [tripL_length]; exact Nat.le_refl _)
      rw [htk] at hgo
      have HO : Hid (Own wr w.heap.size wr.heap.size va n (tripL P D val)) := by rw [HN.out]; exact hgo
      have hnn := HN.out
      rw [← hnn]
      clear hG hgo htk hnn HN
      go_wp2
      go_ret
      exact ⟨va, vc, rfl, HO.out, hE.out⟩
end Go.Proofs.Ytapaopapgnfdkaa
