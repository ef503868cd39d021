/-
  Products of subspaces, whatever the capacities.
-/
import Derived.Test.YtapaopapgnfdkaaPrS
namespace Go.Proofs.Ytapaopapgnfdkaa
open Go.ChangeShapes Go.WideShapes Go.ChangeAt Go.RowKit
set_option linter.unusedVariables false
set_option linter.unusedSimpArgs false

set_option maxHeartbeats 800000 in
theorem l1RowQ_spec (P R : Int) (C i b0 o0 n d : Nat) (w : World) (hlt : (i + 1) * C ≤ n) (hn : n ≤ 1048576) (hi : i ≤ 1048576) (hd : n ≤ d) :
    Calls Try.prog 165 #[.agg #[.int .i64 P, .int .i64 R, .int .i64 C, .slice (some ⟨b0, o0, none⟩) n d], .int .i64 i] w fun e w' => e = .returned (.slice (some ⟨b0, o0 + i * C, none⟩) C (d - i * C)) ∧ Ext w w' := by
  have e0 : (i + 1) * C = i * C + C := by rw [Nat.add_mul]; omega
  have e1 : (i : Int) * (C : Int) = ((i * C : Nat) : Int) := by simp
  have e2 : ((i : Int) + 1) * (C : Int) = ((i * C + C : Nat) : Int) := by rw [← e0]; simp
  have g1 : 0 ≤ (i : Int) * (C : Int) := by rw [e1]; omega
  have g2 : (i : Int) * (C : Int) ≤ 1048576 := by rw [e1]; omega
  have g3 : 0 ≤ ((i : Int) + 1) * (C : Int) := by rw [e2]; omega
  have g4 : ((i : Int) + 1) * (C : Int) ≤ (d : Int) := by rw [e2]; omega
  have g7 : ((i : Int) + 1) * (C : Int) ≤ 1048576 := by rw [e2]; omega
  have g5 : (i : Int) * (C : Int) ≤ ((i : Int) + 1) * (C : Int) := by rw [e1, e2]; omega
  have g6 : (i : Int) ≤ 1048576 := by omega
  have E0 := Lib.hid e0
  clear e0 e1 e2
  have HLT := Lib.hid hlt
  go_enter Try.func165, Try.ntmps165
  go_wp2
  case inl =>
    have e3 : C = 0 := by have := E0.out; omega
    subst e3
    simp only [Nat.mul_zero] at h
    subst h
    go_ret
    exact ⟨by simp, (Ext.refl _).alloc _⟩
  case inr =>
    have e3 : (i + 1) * C - i * C = C := by have := E0.out; omega
    go_ret
    exact ⟨by simp [e3], (Ext.refl _).alloc _⟩
set_option maxRecDepth 100000 in
set_option maxHeartbeats 6400000 in
theorem l2Product_wide (P : Int) (D a0 oa n d R1 R2 s0 so n1 d1 t0 tq n2 d2 : Nat) (l ss ts : List Int) (w : World) (hT : Reads w (some ⟨a0, oa, none⟩) n l) (hSr : Reads w (some ⟨s0, so, none⟩) n1 ss) (hTr : Reads w (some ⟨t0, tq, none⟩) n2 ts) (hD : D ≤ 28) (hR1 : R1 ≤ 28) (hR2 : R2 ≤ 28) (hn : n = D * D * D) (hn1 : n1 = R1 * D) (hn2 : n2 = R2 * D) (hd1 : n1 ≤ d1) (hd2 : n2 ≤ d2) (hpr : isP P = true) (hl : Res l P) (hs : Res ss P) (ht : Res ts P) :
    Calls Try.prog 137 #[.agg #[.int .i64 P, .int .i64 D, .slice (some ⟨a0, oa, none⟩) n d], .agg #[.int .i64 P, .int .i64 R1, .int .i64 D, .slice (some ⟨s0, so, none⟩) n1 d1], .agg #[.int .i64 P, .int .i64 R2, .int .i64 D, .slice (some ⟨t0, tq, none⟩) n2 d2]] w (PrPost w P D R1 R2 l ss ts) := by
  have hp := isP_lo hpr
  have hp2 := isP_hi hpr
  have HPR := Lib.hid hpr
  have HT := Lib.hid hT
  have HSR := Lib.hid hSr
  have HTR := Lib.hid hTr
  have HN := Lib.hid hn
  have HN1 := Lib.hid hn1
  have HN2 := Lib.hid hn2
  have HL1 : Hid (ss.length = R1 * D) := by rw [Hid, hSr.1, hn1]
  have HL2 : Hid (ts.length = R2 * D) := by rw [Hid, hTr.1, hn2]
  have HRL := Lib.hid hl
  have HRS := Lib.hid hs
  have HRT := Lib.hid ht
  have HD1 : Hid (n1 ≤ d1) := hd1
  have HD2 : Hid (n2 ≤ d2) := hd2
  have hk1 : n1 ≤ 784 := by rw [hn1]; exact Nat.mul_le_mul hR1 hD
  have hk2 : n2 ≤ 784 := by rw [hn2]; exact Nat.mul_le_mul hR2 hD
  have hk3 : R1 * R2 ≤ 784 := Nat.mul_le_mul hR1 hR2
  have hk4 : R1 * R2 * D ≤ 21952 := Nat.mul_le_mul hk3 hD
  have A0 := Lib.hid ((((cells_new' w #[.int .i64 P, .int .i64 D, .slice (some ⟨a0, oa, none⟩) n d] 28 w.heap.size rfl).ext ((Ext.refl _).alloc (.cells #[.int .i64 P, .int .i64 R1, .int .i64 D, .slice (some ⟨s0, so, none⟩) n1 d1] 40))).ext ((Ext.refl _).alloc (.cells #[.int .i64 P, .int .i64 R2, .int .i64 D, .slice (some ⟨t0, tq, none⟩) n2 d2] 40))).ext ((Ext.refl _).alloc (.cells #[.int .i64 0, .int .i64 0, .int .i64 0, .slice none 0 0] 40)))
  have S0 := Lib.hid (((cells_new' (w.alloc (.cells #[.int .i64 P, .int .i64 D, .slice (some ⟨a0, oa, none⟩) n d] 28)) #[.int .i64 P, .int .i64 R1, .int .i64 D, .slice (some ⟨s0, so, none⟩) n1 d1] 40 (w.heap.size + 1) (by simp)).ext ((Ext.refl _).alloc (.cells #[.int .i64 P, .int .i64 R2, .int .i64 D, .slice (some ⟨t0, tq, none⟩) n2 d2] 40))).ext ((Ext.refl _).alloc (.cells #[.int .i64 0, .int .i64 0, .int .i64 0, .slice none 0 0] 40)))
  have T0 := Lib.hid ((cells_new' ((w.alloc (.cells #[.int .i64 P, .int .i64 D, .slice (some ⟨a0, oa, none⟩) n d] 28)).alloc (.cells #[.int .i64 P, .int .i64 R1, .int .i64 D, .slice (some ⟨s0, so, none⟩) n1 d1] 40)) #[.int .i64 P, .int .i64 R2, .int .i64 D, .slice (some ⟨t0, tq, none⟩) n2 d2] 40 (w.heap.size + 1 + 1) (by simp)).ext ((Ext.refl _).alloc (.cells #[.int .i64 0, .int .i64 0, .int .i64 0, .slice none 0 0] 40)))
  have R0 := Lib.hid (cells_new' (((w.alloc (.cells #[.int .i64 P, .int .i64 D, .slice (some ⟨a0, oa, none⟩) n d] 28)).alloc (.cells #[.int .i64 P, .int .i64 R1, .int .i64 D, .slice (some ⟨s0, so, none⟩) n1 d1] 40)).alloc (.cells #[.int .i64 P, .int .i64 R2, .int .i64 D, .slice (some ⟨t0, tq, none⟩) n2 d2] 40)) #[.int .i64 0, .int .i64 0, .int .i64 0, .slice none 0 0] 40 (w.heap.size + 1 + 1 + 1) (by simp))
  have E0 := Lib.hid (((((Ext.refl w).alloc (.cells #[.int .i64 P, .int .i64 D, .slice (some ⟨a0, oa, none⟩) n d] 28)).alloc (.cells #[.int .i64 P, .int .i64 R1, .int .i64 D, .slice (some ⟨s0, so, none⟩) n1 d1] 40)).alloc (.cells #[.int .i64 P, .int .i64 R2, .int .i64 D, .slice (some ⟨t0, tq, none⟩) n2 d2] 40)).alloc (.cells #[.int .i64 0, .int .i64 0, .int .i64 0, .slice none 0 0] 40))
  have G0 := Lib.hid (rows_lit ((((w.alloc (.cells #[.int .i64 P, .int .i64 D, .slice (some ⟨a0, oa, none⟩) n d] 28)).alloc (.cells #[.int .i64 P, .int .i64 R1, .int .i64 D, .slice (some ⟨s0, so, none⟩) n1 d1] 40)).alloc (.cells #[.int .i64 P, .int .i64 R2, .int .i64 D, .slice (some ⟨t0, tq, none⟩) n2 d2] 40)).alloc (.cells #[.int .i64 0, .int .i64 0, .int .i64 0, .slice none 0 0] 40)) (w.heap.size + 1 + 1 + 1 + 1) (by simp))
  have E00 := Lib.hid ((Ext.refl ((((w.alloc (.cells #[.int .i64 P, .int .i64 D, .slice (some ⟨a0, oa, none⟩) n d] 28)).alloc (.cells #[.int .i64 P, .int .i64 R1, .int .i64 D, .slice (some ⟨s0, so, none⟩) n1 d1] 40)).alloc (.cells #[.int .i64 P, .int .i64 R2, .int .i64 D, .slice (some ⟨t0, tq, none⟩) n2 d2] 40)).alloc (.cells #[.int .i64 0, .int .i64 0, .int .i64 0, .slice none 0 0] 40))).alloc (.cells #[] 22))
  have hW2 : ((((w.alloc (.cells #[.int .i64 P, .int .i64 D, .slice (some ⟨a0, oa, none⟩) n d] 28)).alloc (.cells #[.int .i64 P, .int .i64 R1, .int .i64 D, .slice (some ⟨s0, so, none⟩) n1 d1] 40)).alloc (.cells #[.int .i64 P, .int .i64 R2, .int .i64 D, .slice (some ⟨t0, tq, none⟩) n2 d2] 40)).alloc (.cells #[.int .i64 0, .int .i64 0, .int .i64 0, .slice none 0 0] 40)).heap.size = w.heap.size + 1 + 1 + 1 + 1 := by simp
  rw [hW2] at G0
  have HW2 := Lib.hid hW2
  clear hT hSr hTr hn hn1 hn2 hl hs ht hW2 hd1 hd2
  go_enter Try.func137, Try.ntmps137
  go_wp2_with fail
  try simp only [World.size_alloc]
  generalize ((((w.alloc (.cells #[.int .i64 P, .int .i64 D, .slice (some ⟨a0, oa, none⟩) n d] 28)).alloc (.cells #[.int .i64 P, .int .i64 R1, .int .i64 D, .slice (some ⟨s0, so, none⟩) n1 d1] 40)).alloc (.cells #[.int .i64 P, .int .i64 R2, .int .i64 D, .slice (some ⟨t0, tq, none⟩) n2 d2] 40)).alloc (.cells #[.int .i64 0, .int .i64 0, .int .i64 0, .slice none 0 0] 40)) = W2 at *
  go_loopw [7, 8, 9] (fun v z _ wr => ∃ i : Nat, i ≤ R1 ∧ z = .int .i64 i ∧ Hid (RowsG wr (w.heap.size + 1 + 1 + 1 + 1) v (pRows P D l ss ts R2 i)) ∧ Hid (Ext W2 wr)) (fun _ z _ _ => R1 - (intOf z).toNat)
  case atStart => exact ⟨0, by omega, rfl, G0, E00⟩
  case round =>
    clear G0 E00
    obtain ⟨i, hi, rfl, hG, hE⟩ := hrel
    by_cases hlt : i < R1
    · have SX := S0.out.ext hE.out
      have lS := SX.1
      have s1 := SX.2 1 _ rfl
      clear SX
      go_wp2_with fail
      clear lS s1
      have e0 : pRows P D l ss ts R2 i = pRows P D l ss ts R2 i ++ bRows P D l (rowL D ss i) ts 0 := by simp [bRows]
      rw [e0] at hG
      clear e0
      go_loopw [7, 9] (fun v z wr => ∃ j : Nat, j ≤ R2 ∧ z = .int .i64 j ∧ Hid (RowsG wr (w.heap.size + 1 + 1 + 1 + 1) v (pRows P D l ss ts R2 i ++ bRows P D l (rowL D ss i) ts j)) ∧ Hid (Ext W2 wr)) (fun _ z _ => R2 - (intOf z).toNat)
      case atStart => exact ⟨0, by omega, rfl, hG, hE⟩
      case round =>
        clear hG hE
        obtain ⟨j, hj, rfl, hG, hE⟩ := hrel
        generalize hRS : pRows P D l ss ts R2 i ++ bRows P D l (rowL D ss i) ts j = RS at hG
        have HRO := Lib.hid hRS
        clear hRS
        have lW : w.heap.size < W2.heap.size := by have := HW2.out; omega
        have lW1 : w.heap.size + 1 < W2.heap.size := by have := HW2.out; omega
        have lW2 : w.heap.size + 1 + 1 < W2.heap.size := by have := HW2.out; omega
        have AX := A0.out.ext hE.out
        have SX := S0.out.ext hE.out
        have TX := T0.out.ext hE.out
        have lA := AX.1
        have lS := SX.1
        have lT := TX.1
        have x0 := AX.2 0 _ rfl
        have x1 := AX.2 1 _ rfl
        have x2 := AX.2 2 _ rfl
        have y0 := SX.2 0 _ rfl
        have y1 := SX.2 1 _ rfl
        have y2 := SX.2 2 _ rfl
        have y3 := SX.2 3 _ rfl
        have z0 := TX.2 0 _ rfl
        have z1 := TX.2 1 _ rfl
        have z2 := TX.2 2 _ rfl
        have z3 := TX.2 3 _ rfl
        clear AX SX TX
        obtain ⟨va, vc, rfl, _⟩ := hG.out.shape
        by_cases hlt2 : j < R2
        · have u0 := A0.out.2 0 _ rfl
          have u1 := A0.out.2 1 _ rfl
          have u2 := A0.out.2 2 _ rfl
          have u3 := S0.out.2 0 _ rfl
          have u4 := S0.out.2 1 _ rfl
          have u5 := S0.out.2 2 _ rfl
          have u6 := S0.out.2 3 _ rfl
          have u7 := T0.out.2 0 _ rfl
          have u8 := T0.out.2 1 _ rfl
          have u9 := T0.out.2 2 _ rfl
          have u10 := T0.out.2 3 _ rfl
          have r1 : (i + 1) * D ≤ n1 := by rw [HN1.out]; exact Nat.mul_le_mul_right D hlt
          have r2 : (j + 1) * D ≤ n2 := by rw [HN2.out]; exact Nat.mul_le_mul_right D hlt2
          have HKL : Hid (RS.length ≤ 1000) := by
            rw [Hid, ← HRO.out, List.length_append, pRows_length, bRows_length]
            have := Nat.mul_le_mul_right R2 (show i + 1 ≤ R1 by omega)
            rw [Nat.add_mul, Nat.one_mul] at this
            omega
          have HGD := Lib.hid (RowsG.ext hG.out (Ext.refl _).drew)
          have HC1 : Hid (∀ wx, Calls Try.prog 165 #[.agg #[.int .i64 P, .int .i64 R1, .int .i64 D, .slice (some ⟨s0, so, none⟩) n1 d1], .int .i64 i] wx fun e w' => e = .returned (.slice (some ⟨s0, so + i * D, none⟩) D (d1 - i * D)) ∧ Ext wx w') := fun wx => l1RowQ_spec P R1 D i s0 so n1 d1 wx r1 (by omega) (by omega) HD1.out
          have HC2 : Hid (∀ wx, Calls Try.prog 165 #[.agg #[.int .i64 P, .int .i64 R2, .int .i64 D, .slice (some ⟨t0, tq, none⟩) n2 d2], .int .i64 j] wx fun e w' => e = .returned (.slice (some ⟨t0, tq + j * D, none⟩) D (d2 - j * D)) ∧ Ext wx w') := fun wx => l1RowQ_spec P R2 D j t0 tq n2 d2 wx r2 (by omega) (by omega) HD2.out
          have HBR : Hid (∀ w1, Ext W2 w1 → Calls Try.prog 181 #[.agg #[.int .i64 P, .int .i64 D, .slice (some ⟨a0, oa, none⟩) n d], .slice (some ⟨s0, so + i * D, none⟩) D (d1 - i * D), .slice (some ⟨t0, tq + j * D, none⟩) D (d2 - j * D)] w1 (BrPost w1 P D l (rowL D ss i) (rowL D ts j))) := fun w1 h => l2Bracket_spec P D a0 oa n d _ _ _ _ l (rowL D ss i) (rowL D ts j) w1 (HT.out.ext (E0.out.trans h)) (reads_row (HSR.out.ext (E0.out.trans h)) HN1.out hlt) (reads_row (HTR.out.ext (E0.out.trans h)) HN2.out hlt2) hD HN.out hp hp2 HRL.out (rowL_res2 HRS.out HL1.out hlt) (rowL_res2 HRT.out HL2.out hlt2)
          clear r1 r2
          go_wp2_with fail
          go_region_held3 (fun w' => Ext W2 w' ∧ (∀ b o, b < W2.heap.size → w'.cell? ⟨b, o, none⟩ = W2.cell? ⟨b, o, none⟩)) (first | assumption | (with_reducible exact ext2 (Ext.trans (And.left ‹Ext W2 _ ∧ _›) ‹Ext _ _›)) | (refine ext2 ?_; with_reducible repeat (first | exact Ext.refl _ | exact And.left ‹Ext W2 _ ∧ _› | exact hE.out | refine Ext.drew ?_ | refine Ext.drewN ?_ _ | refine Ext.alloc ?_ _))) (first
            | (go_at_call_of 165 (Value.agg #[.int .i64 P, .int .i64 R1, .int .i64 D, .slice (some ⟨s0, so, none⟩) n1 d1]); (with_reducible refine (HC1.out _).mono ?_); rintro e w3 ⟨rfl, h3⟩)
            | (go_at_call_of 165 (Value.agg #[.int .i64 P, .int .i64 R2, .int .i64 D, .slice (some ⟨t0, tq, none⟩) n2 d2]); (with_reducible refine (HC2.out _).mono ?_); rintro e w5 ⟨rfl, h5⟩)
            | (go_at_call 181; (with_reducible refine (HBR.out _ (And.left ‹Ext W2 _ ∧ _›)).mono ?_); rintro e w4 ⟨b4, rfl, hb4, kr, h4⟩)
            | (have e34 : Ext wr w4 := by first | exact Ext.trans (Ext.trans (Ext.trans (Ext.drew (Ext.refl _)) h3) h5) h4 | exact Ext.trans (Ext.trans (Ext.trans (Ext.drew (Ext.refl _)) h5) h3) h4
               have e35 : wr.heap.size ≤ b4 := by first | exact Nat.le_trans (Ext.trans (Ext.trans (Ext.drew (Ext.refl wr)) h3) h5).le hb4 | exact Nat.le_trans (Ext.trans (Ext.trans (Ext.drew (Ext.refl wr)) h5) h3).le hb4
               have sz1 := hE.out.le
               have sz2 := e34.le
               have sz4 := HW2.out
               have sz5 : w.heap.size + 1 + 1 + 1 + 1 ≤ w4.heap.size := by omega
               have sz6 : w.heap.size + 1 + 1 + 1 + 1 ≤ b4 := by omega
               have sz7 : (w4.alloc (.cells #[.slice (some ⟨b4, 0, none⟩) D D] 22)).heap.size = w4.heap.size + 1 := by simp
               have sz8 := kr.lt
               have sz9 := HKL.out
               have HRow : Own (w4.alloc (.cells #[.slice (some ⟨b4, 0, none⟩) D D] 22)) (w.heap.size + 1 + 1 + 1 + 1) (w4.alloc (.cells #[.slice (some ⟨b4, 0, none⟩) D D] 22)).heap.size (some ⟨b4, 0, none⟩) D (brL P D l (rowL D ss i) (rowL D ts j)) := (kr.alloc _).own sz6 (by omega) brL_len
               have hcl : (w4.alloc (.cells #[.slice (some ⟨b4, 0, none⟩) D D] 22)).cell? ⟨w4.heap.size, 0, none⟩ = some (.slice (some ⟨b4, 0, none⟩) D D) := by rw [World.cell?_alloc_at _ _ _ _ rfl]; rfl
               refine step_appendRow rfl (.tmp 23) (.tmp 32) rfl (base := w.heap.size + 1 + 1 + 1 + 1) (.slice va RS.length vc) RS rfl (RowsG.ext (RowsG.ext hG.out e34) ((Ext.refl _).alloc _)) w4.heap.size b4 D D 1 (brL P D l (rowL D ss i) (rowL D ts j)) rfl hcl HRow (by omega) (by omega) ?_
               intro v6 w6 hG6 hg6
               have E6 : Ext W2 w6 := Ext.grown (Ext.alloc (Ext.trans hE.out e34) _) hg6 (fun z hz => by have := hG.out.blk z hz; omega)
               have E62 := ext2 E6))
          all_goals
            have G6 : Hid (RowsG w6 (w.heap.size + 1 + 1 + 1 + 1) v6 (pRows P D l ss ts R2 i ++ bRows P D l (rowL D ss i) ts (j + 1))) := by rw [Hid, bRows_succ, ← List.append_assoc, HRO.out]; exact hG6
            have E7 := Lib.hid E6
            clear hG hE hG6 hg6 E6 E62 HGD HRow kr h3 h4 h5 e34 e35
            go_wp2
            exact ⟨⟨j + 1, by omega, by simp, G6, E7⟩, by simp [intOf]; omega⟩
        · obtain rfl : R2 = j := by omega
          have G6 : Hid (RowsG wr (w.heap.size + 1 + 1 + 1 + 1) (.slice va RS.length vc) (pRows P D l ss ts R2 (i + 1))) := by
            have := hG.out
            rw [Hid, pRows, HRO.out]; exact this
          clear hG
          go_wp2
          exact ⟨⟨i + 1, by omega, by simp, G6, hE⟩, by simp [intOf]; omega⟩
    · obtain rfl : R1 = i := by omega
      have SX := S0.out.ext hE.out
      have lS := SX.1
      have y1 := SX.2 1 _ rfl
      have AX := A0.out.ext hE.out
      have lA := AX.1
      have x0 := AX.2 0 _ rfl
      have x1 := AX.2 1 _ rfl
      clear AX SX
      obtain ⟨va, vc, rfl, _⟩ := hG.out.shape
      have hall : (pRows P D l ss ts R2 R1).length = R1 * R2 := pRows_length _ _ _ _
      have hpl : (pL P D l ss ts R2 R1).length = R1 * R2 * D := by rw [pL_length, Nat.mul_assoc]
      have HPL := Lib.hid hpl
      have HPRS : Hid (Res (pL P D l ss ts R2 R1) P) := pL_res (by omega) _ _ _ _
      rw [hall] at hG ⊢
      have HRW : Hid (Calls Try.prog 120 #[.int .i64 P, .int .i64 D, .slice va (R1 * R2) vc] wr (RowsPost wr P D (R1 * R2) (pL P D l ss ts R2 R1))) := l1Rows_spec P D (R1 * R2) (w.heap.size + 1 + 1 + 1 + 1) vc va (pRows P D l ss ts R2 R1) wr hG.out (by omega) (by show (pL P D l ss ts R2 R1).length ≤ _; rw [hpl]; omega)
      have EQ := Lib.hid (E0.out.trans hE.out)
      have R2' := Lib.hid (R0.out.ext hE.out)
      have hle := hE.out.le
      have hW := HW2.out
      clear hall hpl hG
      have HPP : Hid (∀ b c' w1, (∃ K m, K = (redM P (R1 * R2) D (pL P D l ss ts R2 R1)).pv.length ∧ m = spanL P (R1 * R2) D (pL P D l ss ts R2 R1) ∧ w.heap.size ≤ b ∧ b < w1.heap.size ∧ Has w1 b m ∧ Ext w w1 ∧ K * D ≤ c') → PrPost w P D R1 R2 l ss ts (.returned (.agg #[.int .i64 P, .int .i64 ((redM P (R1 * R2) D (pL P D l ss ts R2 R1)).pv.length : Nat), .int .i64 D, .slice (some ⟨b, 0, none⟩) ((redM P (R1 * R2) D (pL P D l ss ts R2 R1)).pv.length * D) c'])) w1) := fun b c' w1 h => by
        obtain ⟨_, _, rfl, rfl, h1, h2, h3, h4, h5⟩ := h
        exact ⟨b, c', rfl, h1, h2, h3, h4, h5⟩
      generalize hLL : pL P D l ss ts R2 R1 = L at *
      clear hLL
      go_wp2_with fail
      refine HRW.out.mono ?_
      rintro e w5 ⟨ra, rc, rfl, hnil, ho, h5⟩
      rw [HPL.out] at ho hnil ⊢
      have HO := Lib.hid ho.reads
      have HNIL := Lib.hid hnil
      have R3 := Lib.hid (R2'.out.ext h5)
      have EQ3 := Lib.hid (EQ.out.trans h5)
      have hw5 := h5.le
      have hrlt0 := R2'.out.1
      clear ho hnil R2' EQ h5 hE
      go_wp2_with fail
      refine (l1Span_spec P (R1 * R2) D (R1 * R2 * D) rc ra L w5 HO.out rfl (by omega) (by omega) (by omega) HPR.out HPRS.out HNIL.out).mono ?_
      rintro e w6 ⟨sb, sc, rfl, hs1, hs2, hh, h6, hsc⟩
      generalize hKN : (redM P (R1 * R2) D L).pv.length = KN at *
      generalize hSP : spanL P (R1 * R2) D L = SL at *
      have HKN := Lib.hid hKN
      have HSP := Lib.hid hSP
      have HS6 := Lib.hid hh
      have R4 := Lib.hid (R3.out.ext h6)
      have EQ4 := Lib.hid (EQ3.out.trans h6)
      have HSC := Lib.hid hsc
      have hrlt := R3.out.1
      clear hh h6 R3 EQ3 hsc hKN hSP
      have r0 := R4.out.2 0 _ rfl
      have r1 := R4.out.2 1 _ rfl
      have r2 := R4.out.2 2 _ rfl
      have r3 := R4.out.2 3 _ rfl
      have tR := R4.out.3
      have lR := R4.out.1
      go_wp2
      refine bodyPost_ret (v := .agg #[.int .i64 P, .int .i64 (KN : Nat), .int .i64 D, .slice (some ⟨sb, 0, none⟩) (KN * D) sc]) (by simp [results, Try.results137, go_sem, r0, r1, r2, r3]) rfl ?_
      have HFIN := HPP.out sb sc
      refine HFIN _ ⟨_, _, rfl, rfl, by omega, ?_, ?_, ?_, HSC.out⟩
      · simpa using hs2
      · repeat with_reducible (first | exact HS6.out | refine Has.setOther ?_ (by simp <;> omega) _)
      · exact ext4 EQ4.out (by omega) _ _ _ _
end Go.Proofs.Ytapaopapgnfdkaa
