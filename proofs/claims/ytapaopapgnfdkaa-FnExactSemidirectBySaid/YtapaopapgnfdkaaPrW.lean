/-
  Products of matrices with many rows or columns.
-/
import Derived.Test.YtapaopapgnfdkaaHom0
namespace Go.Proofs.Ytapaopapgnfdkaa
open Go.ChangeShapes Go.WideShapes Go.ChangeAt Go.RowKit
set_option linter.unusedVariables false

set_option maxRecDepth 100000 in
set_option maxHeartbeats 6400000 in
theorem product_wide (P : Int) (R K Q a0 oa b0 ob n n' ca : Nat) (xs ys : List Int) (w : World) (hr : Reads w (some ⟨a0, oa, none⟩) n xs) (hr' : Reads w (some ⟨b0, ob, none⟩) n' ys) (hn : n = R * K) (hn' : n' = K * Q)
    (hR : R ≤ 1048576) (hK : K ≤ 1048576) (hQ : Q ≤ 1048576) (g40 : R * Q ≤ 1048576) (g41 : R * K ≤ 1048576) (g42 : K * Q ≤ 1048576) (hp : 2 ≤ P) (hp2 : P ≤ 10007) (hx : Res xs P) (hy : Res ys P) (hca : n ≤ ca) (hca2 : ca ≤ maxLen) :
    Calls Try.prog 119 #[.agg #[.int .i64 P, .int .i64 R, .int .i64 K, .slice (some ⟨a0, oa, none⟩) n ca], .agg #[.int .i64 P, .int .i64 K, .int .i64 Q, .slice (some ⟨b0, ob, none⟩) n' n']] w fun e w' => ∃ b, e = .returned (.agg #[.int .i64 P, .int .i64 R, .int .i64 Q, .slice (some ⟨b, 0, none⟩) (R * Q) (R * Q)]) ∧ w.heap.size ≤ b ∧ b < w'.heap.size ∧ Has w' b (mulTo P xs ys R K Q R) ∧ Ext w w' := by
  have HR := Lib.hid hr
  have HR' := Lib.hid hr'
  have HN := Lib.hid hn
  have HN' := Lib.hid hn'
  have e1 : (R : Int) * (Q : Int) = ((R * Q : Nat) : Int) := by simp
  have g0 : 0 ≤ (R : Int) * (Q : Int) := by rw [e1]; omega
  have g1 : (R : Int) * (Q : Int) ≤ 1048576 := by rw [e1]; omega
  have E1 : Hid (((R : Int) * (Q : Int)).toNat = R * Q) := by rw [Hid, e1, Int.toNat_natCast]
  clear hr hr' hn hn' e1
  go_enter Try.func119, Try.ntmps119
  have A0_1 := Lib.hid (((cells_new' w #[.int .i64 P, .int .i64 R, .int .i64 K, .slice (some ⟨a0, oa, none⟩) n ca] 40 (w.heap.size) (by simp)).ext ((Ext.refl _).alloc (.cells #[.int .i64 P, .int .i64 K, .int .i64 Q, .slice (some ⟨b0, ob, none⟩) n' n'] 40))).ext ((Ext.refl _).alloc (.cells #[.int .i64 0, .int .i64 0, .int .i64 0, .slice none 0 0] 40)))
  have A1_2 := Lib.hid ((cells_new' (w.alloc (.cells #[.int .i64 P, .int .i64 R, .int .i64 K, .slice (some ⟨a0, oa, none⟩) n ca] 40)) #[.int .i64 P, .int .i64 K, .int .i64 Q, .slice (some ⟨b0, ob, none⟩) n' n'] 40 (w.heap.size + 1) (by simp)).ext ((Ext.refl _).alloc (.cells #[.int .i64 0, .int .i64 0, .int .i64 0, .slice none 0 0] 40)))
  have R_3 := Lib.hid (cells_new' ((w.alloc (.cells #[.int .i64 P, .int .i64 R, .int .i64 K, .slice (some ⟨a0, oa, none⟩) n ca] 40)).alloc (.cells #[.int .i64 P, .int .i64 K, .int .i64 Q, .slice (some ⟨b0, ob, none⟩) n' n'] 40)) #[.int .i64 0, .int .i64 0, .int .i64 0, .slice none 0 0] 40 (w.heap.size + 1 + 1) (by simp))
  have E_4 := Lib.hid ((((Ext.refl w).alloc (.cells #[.int .i64 P, .int .i64 R, .int .i64 K, .slice (some ⟨a0, oa, none⟩) n ca] 40)).alloc (.cells #[.int .i64 P, .int .i64 K, .int .i64 Q, .slice (some ⟨b0, ob, none⟩) n' n'] 40)).alloc (.cells #[.int .i64 0, .int .i64 0, .int .i64 0, .slice none 0 0] 40))
  have hl0 : w.heap.size + 1 + 1 + 1 ≤ (((w.alloc (.cells #[.int .i64 P, .int .i64 R, .int .i64 K, .slice (some ⟨a0, oa, none⟩) n ca] 40)).alloc (.cells #[.int .i64 P, .int .i64 K, .int .i64 Q, .slice (some ⟨b0, ob, none⟩) n' n'] 40)).alloc (.cells #[.int .i64 0, .int .i64 0, .int .i64 0, .slice none 0 0] 40)).heap.size := by simp
  have lA0 := A0_1.out.1
  have qA00 := A0_1.out.2 0 _ rfl
  have qA01 := A0_1.out.2 1 _ rfl
  have qA02 := A0_1.out.2 2 _ rfl
  have qA03 := A0_1.out.2 3 _ rfl
  have lA1 := A1_2.out.1
  have qA10 := A1_2.out.2 0 _ rfl
  have qA11 := A1_2.out.2 1 _ rfl
  have qA12 := A1_2.out.2 2 _ rfl
  have qA13 := A1_2.out.2 3 _ rfl
  try simp only [World.size_alloc] at lA0 lA1
  go_wp2_with fail
  refine (zeros_impl _ _ _ _ g0 g1).mono ?_
  rintro e w_5 ⟨b, rfl, hb1, hb2, hh, h_5⟩
  clear lA0 qA00 qA01 qA02 qA03 lA1 qA10 qA11 qA12 qA13
  rw [E1.out] at hh ⊢
  have hb3 := Nat.le_trans hl0 hb1
  clear hl0
  have A0_6 := Lib.hid (A0_1.out.ext h_5)
  clear A0_1
  have A1_7 := Lib.hid (A1_2.out.ext h_5)
  clear A1_2
  have R_8 := Lib.hid (R_3.out.ext h_5)
  clear R_3
  have E_9 := Lib.hid (E_4.out.trans h_5)
  clear E_4
  have L0 : Hid (Loc w (w_5.alloc (.cells #[.int .i64 P, .int .i64 R, .int .i64 Q, .slice (some ⟨b, 0, none⟩) (R * Q) (R * Q)] 40)) w_5.heap.size b [.int .i64 P, .int .i64 R, .int .i64 Q, .slice (some ⟨b, 0, none⟩) (R * Q) (R * Q)] (mulTo P xs ys R K Q 0)) :=
    ⟨cells_new _ _ _, hh.alloc _, E_9.out.alloc _, by omega, by simp; omega, by omega⟩
  have HA := Lib.hid (A0_6.out.ext ((Ext.refl _).alloc (.cells #[.int .i64 P, .int .i64 R, .int .i64 Q, .slice (some ⟨b, 0, none⟩) (R * Q) (R * Q)] 40)))
  have HB := Lib.hid (A1_7.out.ext ((Ext.refl _).alloc (.cells #[.int .i64 P, .int .i64 R, .int .i64 Q, .slice (some ⟨b, 0, none⟩) (R * Q) (R * Q)] 40)))
  have H4 := Lib.hid (R_8.out.ext ((Ext.refl _).alloc (.cells #[.int .i64 P, .int .i64 R, .int .i64 Q, .slice (some ⟨b, 0, none⟩) (R * Q) (R * Q)] 40)))
  have HS := Lib.hid hb3
  clear hb1 hb2 hb3 hh h_5
  have lA := HA.out.1
  have q1 := HA.out.2 1 _ rfl
  go_wp2_with fail
  clear lA q1
  go_loopw [19] (fun i wr => ∃ k : Nat, k ≤ R ∧ i = .int .i64 k ∧ Hid (Loc w wr w_5.heap.size b [.int .i64 P, .int .i64 R, .int .i64 Q, .slice (some ⟨b, 0, none⟩) (R * Q) (R * Q)] (mulTo P xs ys R K Q k)) ∧ Hid (Cells wr w.heap.size [.int .i64 P, .int .i64 R, .int .i64 K, .slice (some ⟨a0, oa, none⟩) n ca]) ∧ Hid (Cells wr (w.heap.size + 1) [.int .i64 P, .int .i64 K, .int .i64 Q, .slice (some ⟨b0, ob, none⟩) n' n']) ∧ Hid (Cells wr (w.heap.size + 1 + 1) [.int .i64 0, .int .i64 0, .int .i64 0, .slice none 0 0])) (fun i _ => R - (intOf i).toNat)
  case atStart => exact ⟨0, by omega, rfl, L0, HA, HB, H4⟩
  case round =>
    obtain ⟨i, hi, rfl, L, MA, MB, M4⟩ := hrel
    by_cases hlt : i < R
    · have lB := L.out.box.1
      have p0 := L.out.box.2 0 _ rfl
      have p1 := L.out.box.2 1 _ rfl
      have p2 := L.out.box.2 2 _ rfl
      have p3 := L.out.box.2 3 _ rfl
      go_wp2_with fail
      refine (rowOf_impl _ _ _ _ _ _ _ _ (Nat.mul_le_mul_right Q hlt) (by omega) (by omega)).mono ?_
      rintro e w1 ⟨rfl, hE⟩
      have L1 := Lib.hid (L.out.step hE)
      have MA1 := Lib.hid (MA.out.ext hE)
      have MB1 := Lib.hid (MB.out.ext hE)
      have M41 := Lib.hid (M4.out.ext hE)
      clear lB p0 p1 p2 p3 L MA MB M4 hE
      have lA := MA1.out.1
      have q0 := MA1.out.2 0 _ rfl
      have q1 := MA1.out.2 1 _ rfl
      have q2 := MA1.out.2 2 _ rfl
      have q3 := MA1.out.2 3 _ rfl
      go_wp2_with fail
      refine (rowOf_gen _ _ _ _ _ _ n ca _ (by rw [HN.out]; exact Nat.mul_le_mul_right K hlt) (by rw [HN.out]; omega) (by omega) hca hca2).mono ?_
      rintro e w2 ⟨rfl, hE⟩
      have L2 := Lib.hid (L1.out.step hE)
      have MA2 := Lib.hid (MA1.out.ext hE)
      have MB2 := Lib.hid (MB1.out.ext hE)
      have M42 := Lib.hid (M41.out.ext hE)
      clear lA q0 q1 q2 q3 L1 MA1 MB1 M41 hE
      go_wp2_with fail
      go_loopw [29] (fun z wr => ∃ k : Nat, k ≤ K ∧ z = .int .i64 k ∧ Hid (Loc w wr w_5.heap.size b [.int .i64 P, .int .i64 R, .int .i64 Q, .slice (some ⟨b, 0, none⟩) (R * Q) (R * Q)] (kTo P xs ys K Q i (mulTo P xs ys R K Q i) k)) ∧ Hid (Cells wr w.heap.size [.int .i64 P, .int .i64 R, .int .i64 K, .slice (some ⟨a0, oa, none⟩) n ca]) ∧ Hid (Cells wr (w.heap.size + 1) [.int .i64 P, .int .i64 K, .int .i64 Q, .slice (some ⟨b0, ob, none⟩) n' n']) ∧ Hid (Cells wr (w.heap.size + 1 + 1) [.int .i64 0, .int .i64 0, .int .i64 0, .slice none 0 0])) (fun z _ => K - (intOf z).toNat)
      case atStart => exact ⟨0, by omega, rfl, L2, MA2, MB2, M42⟩
      case round =>
        obtain ⟨k, hk, rfl, L, MA, MB, M4⟩ := hrel
        by_cases hlt2 : k < K
        · have d2 := place_lt hlt hlt2
          rcases (HR.out.ext L.out.ext).2 with h | ⟨b', off', h, hb', hc'⟩
          · have := HN.out; omega
          simp only [Option.some.injEq, Addr.mk.injEq, and_true] at h
          obtain ⟨rfl, rfl⟩ := h
          have hc2 := hc' (i * K + k) (by rw [HN.out]; exact d2)
          rw [← Nat.add_assoc] at hc2
          obtain ⟨x0, x1⟩ := hx (i * K + k) (by rw [HR.out.1, HN.out]; exact d2)
          clear hc' hb' d2
          have lA := MA.out.1
          have q0 := MA.out.2 0 _ rfl
          have lB := MB.out.1
          have r0 := MB.out.2 0 _ rfl
          have r1 := MB.out.2 1 _ rfl
          have r2 := MB.out.2 2 _ rfl
          have r3 := MB.out.2 3 _ rfl
          have nA : w.heap.size ≠ b := by have := HS.out; omega
          have nB : w.heap.size + 1 ≠ b := by have := HS.out; omega
          have hll : Hid ((kTo P xs ys K Q i (mulTo P xs ys R K Q i) k).length = R * Q) := by rw [Hid, kTo_length, mulTo_length]
          have hrs : Hid (Res (kTo P xs ys K Q i (mulTo P xs ys R K Q i) k) P) := kTo_res _ (by omega) _ _ _ _ _ _ (mulTo_res _ (by omega) _ _ _ _ _ _) _
          have hrow := Lib.hid (row_le (Q := Q) hlt)
          have hcol := Lib.hid (row_le (Q := Q) hlt2)
          have HX0 := Lib.hid x0
          have HX1 := Lib.hid x1
          clear x0 x1
          go_wp2_with fail
          go_region_held3 (fun w' => wr.grownBy w' (some b) ∧ ∀ B o, B ≠ b → B < wr.heap.size → w'.cell? ⟨B, o, none⟩ = wr.cell? ⟨B, o, none⟩) (first | exact keptB_refl _ _ | exact keptB_drew | (with_reducible exact keptB_call ‹wr.grownBy _ (some b) ∧ _› ‹Ext _ _›) | (with_reducible exact keptB_grown ‹wr.grownBy _ (some b) ∧ _› ‹World.grownBy _ _ (some b)›)) (first
            | (go_at_call 78; refine (rowOf_impl _ _ _ _ _ _ _ _ (by rw [HN'.out]; exact Nat.mul_le_mul_right Q hlt2) (by rw [HN'.out]; omega) (by omega)).mono ?_; rintro e w3 ⟨rfl, hE⟩)
            | (go_at_call 187; refine (addToRow_impl b (i * Q) Q _ (gi xs (i * K + k)) b0 (ob + k * Q) _ ys (k * Q) P (kTo P xs ys K Q i (mulTo P xs ys R K Q i) k) w3 ((L.out.step (Ext.refl _).drew).step hE).has (by omega) (by rw [hll.out]; exact hrow.out) (fun wz l' hg hz ho hl j hj => by
                rcases (HR'.out.ext (((L.out.step (Ext.refl _).drew).step hE).ext)).2 with h | ⟨b'', off'', h, hb'', hc''⟩
                · have := HN'.out; have := hcol.out; omega
                · simp only [Option.some.injEq, Addr.mk.injEq, and_true] at h
                  obtain ⟨rfl, rfl⟩ := h
                  have hlt0 : b0 < w.heap.size := by
                    rcases HR'.out.2 with h | ⟨b3, o3, h, hb3, _⟩
                    · have := HN'.out; have := hcol.out; omega
                    · simp only [Option.some.injEq, Addr.mk.injEq, and_true] at h
                      omega
                  rw [World.cell?_of_block (w := w3) (hg.block _ hb'' (by have := HS.out; simp; omega)), Nat.add_assoc]
                  exact hc'' (k * Q + j) (by have := HN'.out; have := hcol.out; omega)) hp hp2 HX0.out HX1.out (fun j hj => hrs.out _ (by rw [hll.out]; have := hrow.out; omega)) (fun j hj => hy _ (by rw [HR'.out.1, HN'.out]; have := hcol.out; omega))).mono ?_; rintro e w4 ⟨rfl, hh4, hg4⟩))
          have N : Hid (Loc w w4 w_5.heap.size b [.int .i64 P, .int .i64 R, .int .i64 Q, .slice (some ⟨b, 0, none⟩) (R * Q) (R * Q)] (kTo P xs ys K Q i (mulTo P xs ys R K Q i) (k + 1))) := (((L.out.step (Ext.refl _).drew).step hE).row hh4 hg4)
          have hd : ∀ {B : Nat} {vs : List Value}, B ≠ b → Cells wr B vs → Cells w4 B vs := fun hB h => ((h.ext (Ext.refl _).drew).ext hE).grown hg4 (fun z hz => by simp at hz; omega)
          have N1 : Hid (Cells w4 w.heap.size [.int .i64 P, .int .i64 R, .int .i64 K, .slice (some ⟨a0, oa, none⟩) n ca]) := hd nA MA.out
          have N2 : Hid (Cells w4 (w.heap.size + 1) [.int .i64 P, .int .i64 K, .int .i64 Q, .slice (some ⟨b0, ob, none⟩) n' n']) := hd nB MB.out
          have N3 : Hid (Cells w4 (w.heap.size + 1 + 1) [.int .i64 0, .int .i64 0, .int .i64 0, .slice none 0 0]) := hd (by have := HS.out; omega) M4.out
          clear hd L MA MB M4 hE hh4 hg4 lA q0 lB r0 r1 r2 r3
          go_wp2
          exact ⟨⟨k + 1, by omega, by simp, N, N1, N2, N3⟩, by simp [intOf]; omega⟩
        · obtain rfl : k = K := by omega
          go_wp2
          exact ⟨⟨i + 1, by omega, by simp, L, MA, MB, M4⟩, by simp [intOf]; omega⟩
    · obtain rfl : i = R := by omega
      have f0 := M4.out.2 0 _ rfl
      have f1 := M4.out.2 1 _ rfl
      have f2 := M4.out.2 2 _ rfl
      have f3 := M4.out.2 3 _ rfl
      have t0 := M4.out.3
      have p0 := L.out.box.2 0 _ rfl
      have p1 := L.out.box.2 1 _ rfl
      have p2 := L.out.box.2 2 _ rfl
      have p3 := L.out.box.2 3 _ rfl
      go_wp2
      refine bodyPost_ret (v := .agg #[.int .i64 P, .int .i64 i, .int .i64 Q, .slice (some ⟨b, 0, none⟩) (i * Q) (i * Q)]) (by simp [results, Try.results119, go_sem, f0, f1, f2, f3]) rfl ⟨b, rfl, L.out.lo, ?_, ?_, ?_⟩
      · have := L.out.lt; simpa using this
      · have := HS.out
        repeat with_reducible (first | exact L.out.has | refine Has.setOther ?_ (by simp <;> omega) _)
      · exact ext4 L.out.ext (by omega) _ _ _ _

end Go.Proofs.Ytapaopapgnfdkaa
