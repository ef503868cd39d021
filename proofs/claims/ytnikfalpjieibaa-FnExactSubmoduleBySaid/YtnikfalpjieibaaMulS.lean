/-
  The product of matrices in the specification.
-/
import Derived.Test.YtnikfalpjieibaaTm
namespace Go.Proofs.Ytnikfalpjieibaa
open Go Go.RowKit
set_option linter.unusedVariables false

set_option maxRecDepth 100000 in
set_option maxHeartbeats 6400000 in
theorem l1Mul_spec (P : Int) (R K Q : Nat) (a a' : Option Addr) (n c n' c' : Nat) (xs ys : List Int) (w : World) (hr : Reads w a n xs) (hr' : Reads w a' n' ys) (hn : n = R * K) (hn' : n' = K * Q)
    (hR : R ≤ 40) (hK : K ≤ 40) (hQ : Q ≤ 40) (hp : 2 ≤ P) (hp2 : P ≤ 10007) (hx : Res xs P) (hy : Res ys P) :
    Calls Try.prog 97 #[.agg #[.int .i64 P, .int .i64 R, .int .i64 K, .slice a n c], .agg #[.int .i64 P, .int .i64 K, .int .i64 Q, .slice a' n' c']] w fun e w' => ∃ b, e = .returned (.agg #[.int .i64 P, .int .i64 R, .int .i64 Q, .slice (some ⟨b, 0, none⟩) (R * Q) (R * Q)]) ∧ w.heap.size ≤ b ∧ b < w'.heap.size ∧ Has w' b (mulTo P xs ys R K Q R) ∧ Ext w w' := by
  have HR := Lib.hid hr
  have HR' := Lib.hid hr'
  have HN := Lib.hid hn
  have HN' := Lib.hid hn'
  have g40 := mul40 hR hQ
  have g41 := mul40 hR hK
  have g42 := mul40 hK hQ
  have e1 : (R : Int) * (Q : Int) = ((R * Q : Nat) : Int) := by simp
  have g0 : 0 ≤ (R : Int) * (Q : Int) := by rw [e1]; omega
  have g1 : (R : Int) * (Q : Int) ≤ 1048576 := by rw [e1]; omega
  have E1 : Hid (((R : Int) * (Q : Int)).toNat = R * Q) := by rw [Hid, e1, Int.toNat_natCast]
  clear hr hr' hn hn' e1
  go_enter Try.func97, Try.ntmps97
  have A0_1 := Lib.hid (((cells_new' w #[.int .i64 P, .int .i64 R, .int .i64 K, .slice a n c] 37 (w.heap.size) (by simp)).ext ((Ext.refl _).alloc (.cells #[.int .i64 P, .int .i64 K, .int .i64 Q, .slice a' n' c'] 37))).ext ((Ext.refl _).alloc (.cells #[.int .i64 0, .int .i64 0, .int .i64 0, .slice none 0 0] 37)))
  have A1_2 := Lib.hid ((cells_new' (w.alloc (.cells #[.int .i64 P, .int .i64 R, .int .i64 K, .slice a n c] 37)) #[.int .i64 P, .int .i64 K, .int .i64 Q, .slice a' n' c'] 37 (w.heap.size + 1) (by simp)).ext ((Ext.refl _).alloc (.cells #[.int .i64 0, .int .i64 0, .int .i64 0, .slice none 0 0] 37)))
  have R_3 := Lib.hid (cells_new' ((w.alloc (.cells #[.int .i64 P, .int .i64 R, .int .i64 K, .slice a n c] 37)).alloc (.cells #[.int .i64 P, .int .i64 K, .int .i64 Q, .slice a' n' c'] 37)) #[.int .i64 0, .int .i64 0, .int .i64 0, .slice none 0 0] 37 (w.heap.size + 1 + 1) (by simp))
  have E_4 := Lib.hid ((((Ext.refl w).alloc (.cells #[.int .i64 P, .int .i64 R, .int .i64 K, .slice a n c] 37)).alloc (.cells #[.int .i64 P, .int .i64 K, .int .i64 Q, .slice a' n' c'] 37)).alloc (.cells #[.int .i64 0, .int .i64 0, .int .i64 0, .slice none 0 0] 37))
  have hl0 : w.heap.size + 1 + 1 + 1 ≤ (((w.alloc (.cells #[.int .i64 P, .int .i64 R, .int .i64 K, .slice a n c] 37)).alloc (.cells #[.int .i64 P, .int .i64 K, .int .i64 Q, .slice a' n' c'] 37)).alloc (.cells #[.int .i64 0, .int .i64 0, .int .i64 0, .slice none 0 0] 37)).heap.size := by simp
  have lA0 := A0_1.out.1
  have qA00 := A0_1.out.2 0 _ rfl
  have qA01 := A0_1.out.2 1 _ rfl
  have qA02 := A0_1.out.2 2 _ rfl
  have qA03 := A0_1.out.2 3 _ rfl
  have lA1 := A1_2.out.1
  have qA10 := A1_2.out.2 0 _ rfl
  have qA11 := A1_2.out.2 1 _ rfl
  have qA12 := A1_2.out.2 2 _ rfl
  have qA13 := A1_2.out.2 3 _ rfl
  try simp only [World.size_alloc] at lA0 lA1
  go_wp2_with fail
  refine (l1Zero_spec _ _ _ _ g0 g1).mono ?_
  rintro e w_5 ⟨b, rfl, hb1, hb2, hh, h_5⟩
  clear lA0 qA00 qA01 qA02 qA03 lA1 qA10 qA11 qA12 qA13
  rw [E1.out] at hh ⊢
  have hb3 := Nat.le_trans hl0 hb1
  clear hl0
  have A0_6 := Lib.hid (A0_1.out.ext h_5)
  clear A0_1
  have A1_7 := Lib.hid (A1_2.out.ext h_5)
  clear A1_2
  have R_8 := Lib.hid (R_3.out.ext h_5)
  clear R_3
  have E_9 := Lib.hid (E_4.out.trans h_5)
  clear E_4
  have L0 : Hid (Loc w (w_5.alloc (.cells #[.int .i64 P, .int .i64 R, .int .i64 Q, .slice (some ⟨b, 0, none⟩) (R * Q) (R * Q)] 37)) w_5.heap.size b [.int .i64 P, .int .i64 R, .int .i64 Q, .slice (some ⟨b, 0, none⟩) (R * Q) (R * Q)] (mulTo P xs ys R K Q 0)) :=
    ⟨cells_new _ _ _, hh.alloc _, E_9.out.alloc _, by omega, by simp; omega, by omega⟩
  have HA := Lib.hid (A0_6.out.ext ((Ext.refl _).alloc (.cells #[.int .i64 P, .int .i64 R, .int .i64 Q, .slice (some ⟨b, 0, none⟩) (R * Q) (R * Q)] 37)))
  have HB := Lib.hid (A1_7.out.ext ((Ext.refl _).alloc (.cells #[.int .i64 P, .int .i64 R, .int .i64 Q, .slice (some ⟨b, 0, none⟩) (R * Q) (R * Q)] 37)))
  have H4 := Lib.hid (R_8.out.ext ((Ext.refl _).alloc (.cells #[.int .i64 P, .int .i64 R, .int .i64 Q, .slice (some ⟨b, 0, none⟩) (R * Q) (R * Q)] 37)))
  have HS := Lib.hid hb3
  clear hb1 hb2 hb3 hh h_5
  go_wp2_with fail
  go_loopw [6, 7, 8, 9] (fun i _ _ _ wr => ∃ k : Nat, k ≤ R ∧ i = .int .i64 k ∧ Hid (Loc w wr w_5.heap.size b [.int .i64 P, .int .i64 R, .int .i64 Q, .slice (some ⟨b, 0, none⟩) (R * Q) (R * Q)] (mulTo P xs ys R K Q k)) ∧ Hid (Cells wr w.heap.size [.int .i64 P, .int .i64 R, .int .i64 K, .slice a n c]) ∧ Hid (Cells wr (w.heap.size + 1) [.int .i64 P, .int .i64 K, .int .i64 Q, .slice a' n' c']) ∧ Hid (Cells wr (w.heap.size + 1 + 1) [.int .i64 0, .int .i64 0, .int .i64 0, .slice none 0 0])) (fun i _ _ _ _ => R - (intOf i).toNat)
  case atStart => exact ⟨0, by omega, rfl, L0, HA, HB, H4⟩
  case round =>
    obtain ⟨i, hi, rfl, L, MA, MB, M4⟩ := hrel
    have lA := MA.out.1
    have q1 := MA.out.2 1 _ rfl
    by_cases hlt : i < R
    · go_wp2_with fail
      clear lA q1
      obtain ⟨wo, rfl⟩ : ∃ wo : World, wo = wr := ⟨_, rfl⟩
      go_loopw [7, 8, 9] (fun z _ _ wr => ∃ k : Nat, k ≤ K ∧ z = .int .i64 k ∧ Hid (Loc w wr w_5.heap.size b [.int .i64 P, .int .i64 R, .int .i64 Q, .slice (some ⟨b, 0, none⟩) (R * Q) (R * Q)] (kTo P xs ys K Q i (mulTo P xs ys R K Q i) k)) ∧ Hid (Cells wr w.heap.size [.int .i64 P, .int .i64 R, .int .i64 K, .slice a n c]) ∧ Hid (Cells wr (w.heap.size + 1) [.int .i64 P, .int .i64 K, .int .i64 Q, .slice a' n' c']) ∧ Hid (Cells wr (w.heap.size + 1 + 1) [.int .i64 0, .int .i64 0, .int .i64 0, .slice none 0 0])) (fun z _ _ _ => K - (intOf z).toNat)
      case atStart => exact ⟨0, by omega, rfl, L, MA, MB, M4⟩
      case round =>
        obtain ⟨k, hk, rfl, L, MA, MB, M4⟩ := hrel
        have lA := MA.out.1
        have q0 := MA.out.2 0 _ rfl
        have q1 := MA.out.2 1 _ rfl
        have q2 := MA.out.2 2 _ rfl
        have q3 := MA.out.2 3 _ rfl
        by_cases hlt2 : k < K
        · have d2 := place_lt hlt hlt2
          obtain ⟨x0, x1⟩ := hx (i * K + k) (by rw [HR.out.1, HN.out]; exact d2)
          go_wp2_with fail
          refine (l1At_spec _ _ _ _ _ _ _ _ xs _ (HR.out.ext L.out.ext) (by rw [HN.out]; exact d2) (by rw [HN.out]; omega)).mono ?_
          rintro e w1 ⟨rfl, hE⟩
          have L1 := Lib.hid (L.out.step hE)
          have MA1 := Lib.hid (MA.out.ext hE)
          have MB1 := Lib.hid (MB.out.ext hE)
          have M41 := Lib.hid (M4.out.ext hE)
          clear lA q0 q1 q2 q3 L MA MB M4 hE d2
          have hll : Hid ((kTo P xs ys K Q i (mulTo P xs ys R K Q i) k).length = R * Q) := by rw [Hid, kTo_length, mulTo_length]
          have hrs : Hid (Res (kTo P xs ys K Q i (mulTo P xs ys R K Q i) k) P) := kTo_res _ (by omega) _ _ _ _ _ _ (mulTo_res _ (by omega) _ _ _ _ _ _) _
          have hrow := Lib.hid (row_le (Q := Q) hlt)
          have hcol := Lib.hid (row_le (Q := Q) hlt2)
          have hkk : Hid (kTo P xs ys K Q i (mulTo P xs ys R K Q i) (k + 1) = axL P (gi xs (i * K + k)) ys (i * Q) (k * Q) Q (kTo P xs ys K Q i (mulTo P xs ys R K Q i) k)) := rfl
          generalize gi xs (i * K + k) = x at x0 x1 hkk ⊢
          by_cases hz : x = 0
          · subst hz
            have hk2 : Hid (kTo P xs ys K Q i (mulTo P xs ys R K Q i) (k + 1) = kTo P xs ys K Q i (mulTo P xs ys R K Q i) k) := by rw [Hid, hkk.out]; simp [axL]
            have r2 := MB1.out.2 2 _ rfl
            have lB := MB1.out.1
            go_wp2_with fail
            clear r2 lB
            go_loopw [9] (fun j wr => j = .int .i64 0 ∧ wr = w1) (fun _ _ => 0)
            case atStart => exact ⟨rfl, rfl⟩
            case round =>
              obtain ⟨rfl, rfl⟩ := hrel
              have r2 := MB1.out.2 2 _ rfl
              have lB := MB1.out.1
              by_cases hq : 0 < Q
              all_goals go_wp2
              all_goals exact ⟨⟨k + 1, by omega, by simp, by rw [hk2.out]; exact L1.out, MA1, MB1, M41⟩, by simp [intOf]; omega⟩
          · have hxb : (x != 0) = true := by simpa using hz
            have hk2 : Hid (kTo P xs ys K Q i (mulTo P xs ys R K Q i) (k + 1) = axTo P x ys (i * Q) (k * Q) (kTo P xs ys K Q i (mulTo P xs ys R K Q i) k) Q) := by rw [Hid, hkk.out]; simp [axL, hz]
            clear hz
            go_wp2_with fail
            go_loopw [9] (fun z wr => ∃ j : Nat, j ≤ Q ∧ z = .int .i64 j ∧ Hid (Loc w wr w_5.heap.size b [.int .i64 P, .int .i64 R, .int .i64 Q, .slice (some ⟨b, 0, none⟩) (R * Q) (R * Q)] (axTo P x ys (i * Q) (k * Q) (kTo P xs ys K Q i (mulTo P xs ys R K Q i) k) j)) ∧ Hid (Cells wr w.heap.size [.int .i64 P, .int .i64 R, .int .i64 K, .slice a n c]) ∧ Hid (Cells wr (w.heap.size + 1) [.int .i64 P, .int .i64 K, .int .i64 Q, .slice a' n' c']) ∧ Hid (Cells wr (w.heap.size + 1 + 1) [.int .i64 0, .int .i64 0, .int .i64 0, .slice none 0 0])) (fun z _ => Q - (intOf z).toNat)
            case atStart => exact ⟨0, by omega, rfl, L1, MA1, MB1, M41⟩
            case round =>
              obtain ⟨j, hj, rfl, L, MA, MB, M4⟩ := hrel
              have lB := MB.out.1
              have r0 := MB.out.2 0 _ rfl
              have r1 := MB.out.2 1 _ rfl
              have r2 := MB.out.2 2 _ rfl
              have r3 := MB.out.2 3 _ rfl
              by_cases hlt3 : j < Q
              · have lM := L.out.box.1
                have p0 := L.out.box.2 0 _ rfl
                have p1 := L.out.box.2 1 _ rfl
                have p2 := L.out.box.2 2 _ rfl
                have p3 := L.out.box.2 3 _ rfl
                have lA := MA.out.1
                have q0 := MA.out.2 0 _ rfl
                have nA : w.heap.size ≠ b := by have := HS.out; omega
                have nB : w.heap.size + 1 ≠ b := by have := HS.out; omega
                have nM := L.out.ne
                have hlj : i * Q + j < (axTo P x ys (i * Q) (k * Q) (kTo P xs ys K Q i (mulTo P xs ys R K Q i) k) j).length := by rw [axTo_length, hll.out]; have := hrow.out; omega
                have c1 := L.out.has.cell (i * Q + j) hlj
                rw [gi_axTo_ge _ _ _ _ _ Q _ (by rw [hll.out]; exact hrow.out) _ _ (Nat.le_refl _) hj] at c1
                obtain ⟨z0, z1⟩ := hrs.out (i * Q + j) (by rw [axTo_length] at hlj; exact hlj)
                obtain ⟨y0, y1⟩ := hy (k * Q + j) (by rw [HR'.out.1, HN'.out]; have := hcol.out; omega)
                have m0 := Int.mul_nonneg x0 y0
                have m1 := mul_hi x0 x1 y0 y1 hp2
                have e1 : (i : Int) * (Q : Int) = ((i * Q : Nat) : Int) := by simp
                have hRQ := hrow.out
                have e2 : 0 ≤ (i : Int) * (Q : Int) := by rw [e1]; omega
                have e3 : (i : Int) * (Q : Int) ≤ 1600 := by rw [e1]; omega
                have e4 : (i : Int) * (Q : Int) + (j : Int) < (R : Int) * (Q : Int) := by rw [e1, ← Int.natCast_mul]; omega
                have e5 : 0 ≤ (i : Int) * (Q : Int) + (j : Int) := by rw [e1]; omega
                have e6 : i * Q + j < R * Q := by omega
                have N : ∀ w2, Ext wr.drew w2 → Hid (Loc w (w2.setCell ⟨b, i * Q + j, none⟩ (.int .i64 ((gi (kTo P xs ys K Q i (mulTo P xs ys R K Q i) k) (i * Q + j) + x * gi ys (k * Q + j)) % P))) w_5.heap.size b [.int .i64 P, .int .i64 R, .int .i64 Q, .slice (some ⟨b, 0, none⟩) (R * Q) (R * Q)] (axTo P x ys (i * Q) (k * Q) (kTo P xs ys K Q i (mulTo P xs ys R K Q i) k) (j + 1))) := fun w2 hE =>
                  ((L.out.step (Ext.refl _).drew).step hE).set (i * Q + j) hlj _
                have ND : ∀ w2 (B : Nat) (vs : List Value) (v : Value), Ext wr.drew w2 → B ≠ b → Cells wr B vs → Cells (w2.setCell ⟨b, i * Q + j, none⟩ v) B vs := fun w2 B vs v hE hB h =>
                  ((h.ext (Ext.refl _).drew).ext hE).grown (grownBy_set (p := ⟨b, i * Q + j, none⟩) (grownBy_refl _ (some b)) rfl _) (fun z hz => by simp at hz; omega)
                have HNl := Lib.hid N
                have HND := Lib.hid ND
                clear e1 hRQ N ND
                go_wp2_with fail
                have v1 : IntKind.i64.wrap ((i : Int) * (Q : Int)) = (i : Int) * (Q : Int) := IntWalk.i64_in _ ⟨by omega, by omega⟩
                have v2 : IntKind.i64.wrap ((i : Int) * (Q : Int) + (j : Int)) = (i : Int) * (Q : Int) + (j : Int) := IntWalk.i64_in _ ⟨by omega, by omega⟩
                have v3 : ((i : Int) * (Q : Int) + (j : Int)).toNat = i * Q + j := by rw [← Int.natCast_mul, ← Int.natCast_add, Int.toNat_natCast]
                have v4 : IntKind.i64.wrap (x * gi ys (k * Q + j)) = x * gi ys (k * Q + j) := IntWalk.i64_in _ ⟨by omega, by omega⟩
                have v5 : IntKind.i64.wrap (gi (kTo P xs ys K Q i (mulTo P xs ys R K Q i) k) (i * Q + j) + x * gi ys (k * Q + j)) = gi (kTo P xs ys K Q i (mulTo P xs ys R K Q i) k) (i * Q + j) + x * gi ys (k * Q + j) := IntWalk.i64_in _ ⟨by omega, by omega⟩
                have v6 : (P = 0) = False := eq_false (by omega)
                have v7 : (gi (kTo P xs ys K Q i (mulTo P xs ys R K Q i) k) (i * Q + j) + x * gi ys (k * Q + j)).tmod P = (gi (kTo P xs ys K Q i (mulTo P xs ys R K Q i) k) (i * Q + j) + x * gi ys (k * Q + j)) % P := IntWalk.rem_in _ _ (by omega)
                refine wp_region_held_drew (S := (fun w' => wr.grownBy w' (some b) ∧ ∀ B o, B ≠ b → B < wr.heap.size → w'.cell? ⟨B, o, none⟩ = wr.cell? ⟨B, o, none⟩)) (by kernel_rfl) keptB_drew (fun hHeld => ?_)
                refine wpAnyH_take (i := 0) (v := ?v1) rfl (by kernel_rfl) (by kernel_rfl) (by kernel_rfl) (fun _ _ _ h => h) (Or.inl ⟨by rfl, ?hy1⟩) hHeld ?rest1
                case hy1 => (intro wz hSw; (try dsimp only at hSw); go_simp; (try with_reducible rfl))
                (try simp only [Act.put]); (try simp only [List.setIfInBounds_toArray]); (try simp only [List.set_cons_succ]); (try simp only [List.set_cons_zero])
                refine wpAnyH_take (i := 1) (v := ?v2) rfl (by kernel_rfl) (by kernel_rfl) (by kernel_rfl) (fun _ _ _ h => h) (Or.inl ⟨by rfl, ?hy2⟩) hHeld ?rest2
                case hy2 => (intro wz hSw; (try dsimp only at hSw); go_simp; (try with_reducible rfl))
                (try simp only [Act.put]); (try simp only [List.setIfInBounds_toArray]); (try simp only [List.set_cons_succ]); (try simp only [List.set_cons_zero])
                refine wpAnyH_take (i := 2) (v := ?v3) rfl (by kernel_rfl) (by kernel_rfl) (by kernel_rfl) (fun _ _ _ h => h) (Or.inl ⟨by rfl, ?hy3⟩) hHeld ?rest3
                case hy3 => (intro wz hSw; (try dsimp only at hSw); go_simp; (try with_reducible rfl))
                (try simp only [Act.put]); (try simp only [List.setIfInBounds_toArray]); (try simp only [List.set_cons_succ]); (try simp only [List.set_cons_zero])
                refine wpAnyH_take (i := 3) (v := ?v4) rfl (by kernel_rfl) (by kernel_rfl) (by kernel_rfl) (fun _ _ _ h => h) (Or.inl ⟨by rfl, ?hy4⟩) hHeld ?rest4
                case hy4 => (intro wz hSw; (try dsimp only at hSw); go_simp; (try with_reducible rfl))
                (try simp only [Act.put]); (try simp only [List.setIfInBounds_toArray]); (try simp only [List.set_cons_succ]); (try simp only [List.set_cons_zero])
                refine wpAnyH_take (i := 4) (v := ?v5) rfl (by kernel_rfl) (by kernel_rfl) (by kernel_rfl) (fun _ _ _ h => h) (Or.inl ⟨by rfl, ?hy5⟩) hHeld ?rest5
                case hy5 => (intro wz hSw; (try dsimp only at hSw); go_simp; (try with_reducible rfl))
                (try simp only [Act.put]); (try simp only [List.setIfInBounds_toArray]); (try simp only [List.set_cons_succ]); (try simp only [List.set_cons_zero])
                refine wpAnyH_take (i := 5) (v := ?v6) rfl (by kernel_rfl) (by kernel_rfl) (by kernel_rfl) (fun _ _ _ h => h) (Or.inl ⟨by rfl, ?hy6⟩) hHeld ?rest6
                case hy6 => (intro wz hSw; (try dsimp only at hSw); go_simp; (try with_reducible rfl))
                (try simp only [Act.put]); (try simp only [List.setIfInBounds_toArray]); (try simp only [List.set_cons_succ]); (try simp only [List.set_cons_zero])
                refine wpAnyH_take (i := 6) (v := ?v7) rfl (by kernel_rfl) (by kernel_rfl) (by kernel_rfl) (fun _ _ _ h => h) (Or.inl ⟨by rfl, ?hy7⟩) hHeld ?rest7
                case hy7 => (intro wz hSw; (try dsimp only at hSw); go_simp; (try with_reducible rfl))
                (try simp only [Act.put]); (try simp only [List.setIfInBounds_toArray]); (try simp only [List.set_cons_succ]); (try simp only [List.set_cons_zero])
                refine wpAnyH_take (i := 7) (v := ?v8) rfl (by kernel_rfl) (by kernel_rfl) (by kernel_rfl) (fun _ _ _ h => h) (Or.inl ⟨by rfl, ?hy8⟩) hHeld ?rest8
                case hy8 => (intro wz hSw; (try dsimp only at hSw); go_simp; (try with_reducible rfl))
                (try simp only [Act.put]); (try simp only [List.setIfInBounds_toArray]); (try simp only [List.set_cons_succ]); (try simp only [List.set_cons_zero])
                refine wpAnyH_take (i := 8) (v := ?v9) rfl (by kernel_rfl) (by kernel_rfl) (by kernel_rfl) (fun _ _ _ h => h) (Or.inl ⟨by rfl, ?hy9⟩) hHeld ?rest9
                case hy9 => (intro wz hSw; (try dsimp only at hSw); go_simp; (try with_reducible rfl))
                (try simp only [Act.put]); (try simp only [List.setIfInBounds_toArray]); (try simp only [List.set_cons_succ]); (try simp only [List.set_cons_zero])
                refine wpAnyH_take (i := 9) (v := ?v10) rfl (by kernel_rfl) (by kernel_rfl) (by kernel_rfl) (fun _ _ _ h => h) (Or.inl ⟨by rfl, ?hy10⟩) hHeld ?rest10
                case hy10 => (intro wz hSw; (try dsimp only at hSw); go_simp; (try with_reducible rfl))
                (try simp only [Act.put]); (try simp only [List.setIfInBounds_toArray]); (try simp only [List.set_cons_succ]); (try simp only [List.set_cons_zero])
                refine wpAnyH_take (i := 10) (v := ?v11) rfl (by kernel_rfl) (by kernel_rfl) (by kernel_rfl) (fun _ _ _ h => h) (Or.inl ⟨by rfl, ?hy11⟩) hHeld ?rest11
                case hy11 => (intro wz hSw; (try dsimp only at hSw); go_simp; (try with_reducible rfl))
                (try simp only [Act.put]); (try simp only [List.setIfInBounds_toArray]); (try simp only [List.set_cons_succ]); (try simp only [List.set_cons_zero])
                refine wpAnyH_take (i := 11) (v := ?v12) rfl (by kernel_rfl) (by kernel_rfl) (by kernel_rfl) (fun _ _ _ h => h) (Or.inl ⟨by rfl, ?hy12⟩) hHeld ?rest12
                case hy12 => (intro wz hSw; (try dsimp only at hSw); go_simp; (try with_reducible rfl))
                (try simp only [Act.put]); (try simp only [List.setIfInBounds_toArray]); (try simp only [List.set_cons_succ]); (try simp only [List.set_cons_zero])
                refine wpAnyH_take (i := 12) (v := ?v13) rfl (by kernel_rfl) (by kernel_rfl) (by kernel_rfl) (fun _ _ _ h => h) (Or.inl ⟨by rfl, ?hy13⟩) hHeld ?rest13
                case hy13 => (intro wz hSw; (try dsimp only at hSw); go_simp; (try with_reducible rfl))
                (try simp only [Act.put]); (try simp only [List.setIfInBounds_toArray]); (try simp only [List.set_cons_succ]); (try simp only [List.set_cons_zero])
                refine wpAnyH_take (i := 13) (v := ?v14) rfl (by kernel_rfl) (by kernel_rfl) (by kernel_rfl) (fun _ _ _ h => h) (Or.inl ⟨by rfl, ?hy14⟩) hHeld ?rest14
                case hy14 => (intro wz hSw; (try dsimp only at hSw); go_simp; (try with_reducible rfl))
                (try simp only [Act.put]); (try simp only [List.setIfInBounds_toArray]); (try simp only [List.set_cons_succ]); (try simp only [List.set_cons_zero])
                refine wpAnyH_take (i := 14) (v := ?v15) rfl (by kernel_rfl) (by kernel_rfl) (by kernel_rfl) (fun _ _ _ h => h) (Or.inl ⟨by rfl, ?hy15⟩) hHeld ?rest15
                case hy15 => (intro wz hSw; (try dsimp only at hSw); go_simp; (try with_reducible rfl))
                (try simp only [Act.put]); (try simp only [List.setIfInBounds_toArray]); (try simp only [List.set_cons_succ]); (try simp only [List.set_cons_zero])
                refine wpAnyH_take (i := 15) (v := ?v16) rfl (by kernel_rfl) (by kernel_rfl) (by kernel_rfl) (fun _ _ _ h => h) (Or.inl ⟨by rfl, ?hy16⟩) hHeld ?rest16
                case hy16 => (intro wz hSw; (try dsimp only at hSw); go_simp; (try with_reducible rfl))
                (try simp only [Act.put]); (try simp only [List.setIfInBounds_toArray]); (try simp only [List.set_cons_succ]); (try simp only [List.set_cons_zero])
                refine wpAnyH_take (i := 16) (v := ?v17) rfl (by kernel_rfl) (by kernel_rfl) (by kernel_rfl) (fun _ _ _ h => h) (Or.inl ⟨by rfl, ?hy17⟩) hHeld ?rest17
                case hy17 => (intro wz hSw; (try dsimp only at hSw); go_simp; (try with_reducible rfl))
                (try simp only [Act.put]); (try simp only [List.setIfInBounds_toArray]); (try simp only [List.set_cons_succ]); (try simp only [List.set_cons_zero])
                refine wpAnyH_take (i := 18) (v := ?v18) rfl (by kernel_rfl) (by kernel_rfl) (by kernel_rfl) (fun _ _ _ h => h) (Or.inl ⟨by rfl, ?hy18⟩) hHeld ?rest18
                case hy18 => (intro wz hSw; (try dsimp only at hSw); go_simp; (try with_reducible rfl))
                (try simp only [Act.put]); (try simp only [List.setIfInBounds_toArray]); (try simp only [List.set_cons_succ]); (try simp only [List.set_cons_zero])
                refine wpAnyH_take (i := 19) (v := ?v19) rfl (by kernel_rfl) (by kernel_rfl) (by kernel_rfl) (fun _ _ _ h => h) (Or.inl ⟨by rfl, ?hy19⟩) hHeld ?rest19
                case hy19 => (intro wz hSw; (try dsimp only at hSw); go_simp; (try with_reducible rfl))
                (try simp only [Act.put]); (try simp only [List.setIfInBounds_toArray]); (try simp only [List.set_cons_succ]); (try simp only [List.set_cons_zero])
                refine wpAnyH_take (i := 20) (v := ?v20) rfl (by kernel_rfl) (by kernel_rfl) (by kernel_rfl) (fun _ _ _ h => h) (Or.inl ⟨by rfl, ?hy20⟩) hHeld ?rest20
                case hy20 => (intro wz hSw; (try dsimp only at hSw); go_simp; (try with_reducible rfl))
                (try simp only [Act.put]); (try simp only [List.setIfInBounds_toArray]); (try simp only [List.set_cons_succ]); (try simp only [List.set_cons_zero])
                refine wpAnyH_take (i := 21) (v := ?v21) rfl (by kernel_rfl) (by kernel_rfl) (by kernel_rfl) (fun _ _ _ h => h) (Or.inl ⟨by rfl, ?hy21⟩) hHeld ?rest21
                case hy21 => (intro wz hSw; (try dsimp only at hSw); go_simp; (try with_reducible rfl))
                (try simp only [Act.put]); (try simp only [List.setIfInBounds_toArray]); (try simp only [List.set_cons_succ]); (try simp only [List.set_cons_zero])
                refine wpAnyH_take (i := 25) (v := ?v22) rfl (by kernel_rfl) (by kernel_rfl) (by kernel_rfl) (fun _ _ _ h => h) (Or.inl ⟨by rfl, ?hy22⟩) hHeld ?rest22
                case hy22 => (intro wz hSw; (try dsimp only at hSw); go_simp; (try with_reducible rfl))
                (try simp only [Act.put]); (try simp only [List.setIfInBounds_toArray]); (try simp only [List.set_cons_succ]); (try simp only [List.set_cons_zero])
                refine wpAnyH_take (i := 26) (v := ?v23) rfl (by kernel_rfl) (by kernel_rfl) (by kernel_rfl) (fun _ _ _ h => h) (Or.inl ⟨by rfl, ?hy23⟩) hHeld ?rest23
                case hy23 => (intro wz hSw; (try dsimp only at hSw); go_simp; (try with_reducible rfl))
                (try simp only [Act.put]); (try simp only [List.setIfInBounds_toArray]); (try simp only [List.set_cons_succ]); (try simp only [List.set_cons_zero])
                refine wpAnyH_ready (rs := [17, 22]) (by kernel_rfl) (by simp) ?_
                refine AllReadyH.cons rfl (fun K' hK => ?_) (AllReadyH.cons rfl (fun K' hK => ?_) AllReadyH.nil)
                · go_simp
                  refine hK.out _ _ hHeld (fun hHeld => ?_)
                  clear hK
                  refine wpAnyH_ready (rs := [22]) (by kernel_rfl) (by simp) ?_
                  refine AllReadyH.cons rfl (fun K' hK => ?_) AllReadyH.nil
                  go_simp
                  refine (l1At_spec _ _ _ _ _ _ _ _ ys _ ((HR'.out.ext L.out.ext).ext (Ext.refl _).drew) (by rw [HN'.out]; have := hcol.out; omega) (by rw [HN'.out]; omega)).mono ?_
                  rintro e w2 ⟨rfl, hE⟩
                  dsimp only
                  have c2 : w2.cell? ⟨b, i * Q + j, none⟩ = some (.int .i64 (gi (kTo P xs ys K Q i (mulTo P xs ys R K Q i) k) (i * Q + j))) := by
                    have := ((L.out.step (Ext.refl _).drew).step hE).has.cell (i * Q + j) hlj
                    rwa [gi_axTo_ge _ _ _ _ _ Q _ (by rw [hll.out]; exact hrow.out) _ _ (Nat.le_refl _) hj] at this
                  have f2 : w2.frozen? ⟨b, i * Q + j, none⟩ = false := ((L.out.step (Ext.refl _).drew).step hE).has.free _
                  refine hK.out _ _ (keptB_call hHeld hE) (fun hHeld => ?_)
                  clear hK
                  refine wpAnyH_take (i := 23) (v := ?v24) rfl (by kernel_rfl) (by kernel_rfl) (by kernel_rfl) (fun _ _ _ h => h) (Or.inl ⟨by rfl, ?hy24⟩) hHeld ?rest24
                  case hy24 => (intro wz hSw; (try dsimp only at hSw); go_simp; (try with_reducible rfl))
                  (try simp only [Act.put]); (try simp only [List.setIfInBounds_toArray]); (try simp only [List.set_cons_succ]); (try simp only [List.set_cons_zero])
                  refine wpAnyH_take (i := 24) (v := ?v25) rfl (by kernel_rfl) (by kernel_rfl) (by kernel_rfl) (fun _ _ _ h => h) (Or.inl ⟨by rfl, ?hy25⟩) hHeld ?rest25
                  case hy25 => (intro wz hSw; (try dsimp only at hSw); go_simp; (try with_reducible rfl))
                  (try simp only [Act.put]); (try simp only [List.setIfInBounds_toArray]); (try simp only [List.set_cons_succ]); (try simp only [List.set_cons_zero])
                  refine wpAnyH_take (i := 27) (v := ?v26) rfl (by kernel_rfl) (by kernel_rfl) (by kernel_rfl) (fun _ _ _ h => h) (Or.inl ⟨by rfl, ?hy26⟩) hHeld ?rest26
                  case hy26 => (intro wz hSw; (try dsimp only at hSw); go_simp; (try with_reducible rfl))
                  (try simp only [Act.put]); (try simp only [List.setIfInBounds_toArray]); (try simp only [List.set_cons_succ]); (try simp only [List.set_cons_zero])
                  refine wpAnyH_take (i := 28) (v := ?v27) rfl (by kernel_rfl) (by kernel_rfl) (by kernel_rfl) (fun _ _ _ h => h) (Or.inl ⟨by rfl, ?hy27⟩) hHeld ?rest27
                  case hy27 => (intro wz hSw; (try dsimp only at hSw); go_simp; (try with_reducible rfl))
                  (try simp only [Act.put]); (try simp only [List.setIfInBounds_toArray]); (try simp only [List.set_cons_succ]); (try simp only [List.set_cons_zero])
                  refine wpAnyH_ready (rs := [29]) (by kernel_rfl) (by simp) ?_
                  refine AllReadyH.cons rfl (fun K' hK => ?_) AllReadyH.nil
                  go_simp
                  refine hK.out _ _ (keptB_set hHeld _ _) (fun hHeld => ?_)
                  refine wpAnyH_done (by kernel_rfl) ?_ _
                  go_wp2
                  exact ⟨⟨j + 1, by omega, by simp, HNl.out _ hE, HND.out _ _ _ _ hE nA MA.out, HND.out _ _ _ _ hE nB MB.out, HND.out _ _ _ _ hE (by have := HS.out; omega) M4.out⟩, by simp [intOf]; omega⟩
                · go_simp
                  refine (l1At_spec _ _ _ _ _ _ _ _ ys _ ((HR'.out.ext L.out.ext).ext (Ext.refl _).drew) (by rw [HN'.out]; have := hcol.out; omega) (by rw [HN'.out]; omega)).mono ?_
                  rintro e w2 ⟨rfl, hE⟩
                  dsimp only
                  have c2 : w2.cell? ⟨b, i * Q + j, none⟩ = some (.int .i64 (gi (kTo P xs ys K Q i (mulTo P xs ys R K Q i) k) (i * Q + j))) := by
                    have := ((L.out.step (Ext.refl _).drew).step hE).has.cell (i * Q + j) hlj
                    rwa [gi_axTo_ge _ _ _ _ _ Q _ (by rw [hll.out]; exact hrow.out) _ _ (Nat.le_refl _) hj] at this
                  have f2 : w2.frozen? ⟨b, i * Q + j, none⟩ = false := ((L.out.step (Ext.refl _).drew).step hE).has.free _
                  refine hK.out _ _ (keptB_call hHeld hE) (fun hHeld => ?_)
                  clear hK
                  refine wpAnyH_take (i := 23) (v := ?v28) rfl (by kernel_rfl) (by kernel_rfl) (by kernel_rfl) (fun _ _ _ h => h) (Or.inl ⟨by rfl, ?hy28⟩) hHeld ?rest28
                  case hy28 => (intro wz hSw; (try dsimp only at hSw); go_simp; (try with_reducible rfl))
                  (try simp only [Act.put]); (try simp only [List.setIfInBounds_toArray]); (try simp only [List.set_cons_succ]); (try simp only [List.set_cons_zero])
                  refine wpAnyH_ready (rs := [17]) (by kernel_rfl) (by simp) ?_
                  refine AllReadyH.cons rfl (fun K' hK => ?_) AllReadyH.nil
                  go_simp
                  refine hK.out _ _ hHeld (fun hHeld => ?_)
                  clear hK
                  refine wpAnyH_take (i := 24) (v := ?v29) rfl (by kernel_rfl) (by kernel_rfl) (by kernel_rfl) (fun _ _ _ h => h) (Or.inl ⟨by rfl, ?hy29⟩) hHeld ?rest29
                  case hy29 => (intro wz hSw; (try dsimp only at hSw); go_simp; (try with_reducible rfl))
                  (try simp only [Act.put]); (try simp only [List.setIfInBounds_toArray]); (try simp only [List.set_cons_succ]); (try simp only [List.set_cons_zero])
                  refine wpAnyH_take (i := 27) (v := ?v30) rfl (by kernel_rfl) (by kernel_rfl) (by kernel_rfl) (fun _ _ _ h => h) (Or.inl ⟨by rfl, ?hy30⟩) hHeld ?rest30
                  case hy30 => (intro wz hSw; (try dsimp only at hSw); go_simp; (try with_reducible rfl))
                  (try simp only [Act.put]); (try simp only [List.setIfInBounds_toArray]); (try simp only [List.set_cons_succ]); (try simp only [List.set_cons_zero])
                  refine wpAnyH_take (i := 28) (v := ?v31) rfl (by kernel_rfl) (by kernel_rfl) (by kernel_rfl) (fun _ _ _ h => h) (Or.inl ⟨by rfl, ?hy31⟩) hHeld ?rest31
                  case hy31 => (intro wz hSw; (try dsimp only at hSw); go_simp; (try with_reducible rfl))
                  (try simp only [Act.put]); (try simp only [List.setIfInBounds_toArray]); (try simp only [List.set_cons_succ]); (try simp only [List.set_cons_zero])
                  refine wpAnyH_ready (rs := [29]) (by kernel_rfl) (by simp) ?_
                  refine AllReadyH.cons rfl (fun K' hK => ?_) AllReadyH.nil
                  go_simp
                  refine hK.out _ _ (keptB_set hHeld _ _) (fun hHeld => ?_)
                  refine wpAnyH_done (by kernel_rfl) ?_ _
                  go_wp2
                  exact ⟨⟨j + 1, by omega, by simp, HNl.out _ hE, HND.out _ _ _ _ hE nA MA.out, HND.out _ _ _ _ hE nB MB.out, HND.out _ _ _ _ hE (by have := HS.out; omega) M4.out⟩, by simp [intOf]; omega⟩
              · obtain rfl : j = Q := by omega
                go_wp2
                exact ⟨⟨k + 1, by omega, by simp, by rw [hk2.out]; exact L, MA, MB, M4⟩, by simp [intOf]; omega⟩
        · obtain rfl : k = K := by omega
          go_wp2
          exact ⟨⟨i + 1, by omega, by simp, L, MA, MB, M4⟩, by simp [intOf]; omega⟩
    · obtain rfl : i = R := by omega
      have f0 := M4.out.2 0 _ rfl
      have f1 := M4.out.2 1 _ rfl
      have f2 := M4.out.2 2 _ rfl
      have f3 := M4.out.2 3 _ rfl
      have t0 := M4.out.3
      have p0 := L.out.box.2 0 _ rfl
      have p1 := L.out.box.2 1 _ rfl
      have p2 := L.out.box.2 2 _ rfl
      have p3 := L.out.box.2 3 _ rfl
      go_wp2
      refine bodyPost_ret (v := .agg #[.int .i64 P, .int .i64 i, .int .i64 Q, .slice (some ⟨b, 0, none⟩) (i * Q) (i * Q)]) (by simp [results, Try.results97, go_sem, f0, f1, f2, f3]) rfl ⟨b, rfl, L.out.lo, ?_, ?_, ?_⟩
      · have := L.out.lt; simpa using this
      · have := HS.out
        repeat with_reducible (first | exact L.out.has | refine Has.setOther ?_ (by simp <;> omega) _)
      · exact ext4 L.out.ext (by omega) _ _ _ _
end Go.Proofs.Ytnikfalpjieibaa
