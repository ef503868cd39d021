/-
  Brackets of rows, in the specification.
-/
import Derived.Test.YtapaopapgnfdkaaPrQ
namespace Go.Proofs.Ytapaopapgnfdkaa
open Go.ChangeShapes Go.WideShapes Go.ChangeAt Go.RowKit
set_option linter.unusedVariables false
set_option linter.unusedSimpArgs false

set_option maxRecDepth 100000 in
set_option maxHeartbeats 6400000 in
theorem l2Brackets_spec (P : Int) (D a0 oa n d R1 s0 so n1 d1 : Nat) (l ss : List Int) (w : World) (hT : Reads w (some ⟨a0, oa, none⟩) n l) (hSr : Reads w (some ⟨s0, so, none⟩) n1 ss) (hD : D ≤ 28) (hR1 : R1 ≤ 28) (hn : n = D * D * D) (hn1 : n1 = R1 * D) (hd1 : n1 ≤ d1) (hpr : isP P = true) (hl : Res l P) (hs : Res ss P) :
    Calls Try.prog 99 #[.agg #[.int .i64 P, .int .i64 D, .slice (some ⟨a0, oa, none⟩) n d], .agg #[.int .i64 P, .int .i64 (R1 : Nat), .int .i64 D, .slice (some ⟨s0, so, none⟩) n1 d1]] w fun e w' => ∃ v, e = .returned v ∧ RowsG w' (w.heap.size + 1 + 1) v (pRows P D l ss ss R1 R1) ∧ Ext w w' := by
  have hp := isP_lo hpr
  have hp2 := isP_hi hpr
  have HT := Lib.hid hT
  have HSR := Lib.hid hSr
  have HN := Lib.hid hn
  have HN1 := Lib.hid hn1
  have HL1 : Hid (ss.length = R1 * D) := by rw [Hid, hSr.1, hn1]
  have HRL := Lib.hid hl
  have HRS := Lib.hid hs
  have HD1 : Hid (n1 ≤ d1) := hd1
  have hk1 : n1 ≤ 784 := by rw [hn1]; exact Nat.mul_le_mul hR1 hD
  have hk3 : R1 * R1 ≤ 784 := Nat.mul_le_mul hR1 hR1
  have A0 := Lib.hid ((cells_new' w #[.int .i64 P, .int .i64 D, .slice (some ⟨a0, oa, none⟩) n d] 28 w.heap.size rfl).ext ((Ext.refl _).alloc (.cells #[.int .i64 P, .int .i64 (R1 : Nat), .int .i64 D, .slice (some ⟨s0, so, none⟩) n1 d1] 40)))
  have S0 := Lib.hid (cells_new' (w.alloc (.cells #[.int .i64 P, .int .i64 D, .slice (some ⟨a0, oa, none⟩) n d] 28)) #[.int .i64 P, .int .i64 (R1 : Nat), .int .i64 D, .slice (some ⟨s0, so, none⟩) n1 d1] 40 (w.heap.size + 1) (by simp))
  have E0 := Lib.hid (((Ext.refl w).alloc (.cells #[.int .i64 P, .int .i64 D, .slice (some ⟨a0, oa, none⟩) n d] 28)).alloc (.cells #[.int .i64 P, .int .i64 (R1 : Nat), .int .i64 D, .slice (some ⟨s0, so, none⟩) n1 d1] 40))
  have G0 := Lib.hid (rows_lit ((w.alloc (.cells #[.int .i64 P, .int .i64 D, .slice (some ⟨a0, oa, none⟩) n d] 28)).alloc (.cells #[.int .i64 P, .int .i64 (R1 : Nat), .int .i64 D, .slice (some ⟨s0, so, none⟩) n1 d1] 40)) (w.heap.size + 1 + 1) (by simp))
  have E00 := Lib.hid ((Ext.refl ((w.alloc (.cells #[.int .i64 P, .int .i64 D, .slice (some ⟨a0, oa, none⟩) n d] 28)).alloc (.cells #[.int .i64 P, .int .i64 (R1 : Nat), .int .i64 D, .slice (some ⟨s0, so, none⟩) n1 d1] 40))).alloc (.cells #[] 22))
  have hW2 : ((w.alloc (.cells #[.int .i64 P, .int .i64 D, .slice (some ⟨a0, oa, none⟩) n d] 28)).alloc (.cells #[.int .i64 P, .int .i64 (R1 : Nat), .int .i64 D, .slice (some ⟨s0, so, none⟩) n1 d1] 40)).heap.size = w.heap.size + 1 + 1 := by simp
  rw [hW2] at G0
  have HW2 := Lib.hid hW2
  clear hT hSr hn hn1 hl hs hW2 hd1
  go_enter Try.func99, Try.ntmps99
  go_wp2_with fail
  try simp only [World.size_alloc]
  generalize ((w.alloc (.cells #[.int .i64 P, .int .i64 D, .slice (some ⟨a0, oa, none⟩) n d] 28)).alloc (.cells #[.int .i64 P, .int .i64 (R1 : Nat), .int .i64 D, .slice (some ⟨s0, so, none⟩) n1 d1] 40)) = W2 at *
  go_loopw [5, 6, 7] (fun v z _ wr => ∃ i : Nat, i ≤ R1 ∧ z = .int .i64 i ∧ Hid (RowsG wr (w.heap.size + 1 + 1) v (pRows P D l ss ss R1 i)) ∧ Hid (Ext W2 wr)) (fun _ z _ _ => R1 - (intOf z).toNat)
  case atStart => exact ⟨0, by omega, rfl, G0, E00⟩
  case round =>
    clear G0 E00
    obtain ⟨i, hi, rfl, hG, hE⟩ := hrel
    by_cases hlt : i < R1
    · have SX := S0.out.ext hE.out
      have lS := SX.1
      have s1 := SX.2 1 _ rfl
      clear SX
      go_wp2_with fail
      clear lS s1
      have e0 : pRows P D l ss ss R1 i = pRows P D l ss ss R1 i ++ bRows P D l (rowL D ss i) ss 0 := by simp [bRows]
      rw [e0] at hG
      clear e0
      go_loopw [5, 7] (fun v z wr => ∃ j : Nat, j ≤ R1 ∧ z = .int .i64 j ∧ Hid (RowsG wr (w.heap.size + 1 + 1) v (pRows P D l ss ss R1 i ++ bRows P D l (rowL D ss i) ss j)) ∧ Hid (Ext W2 wr)) (fun _ z _ => R1 - (intOf z).toNat)
      case atStart => exact ⟨0, by omega, rfl, hG, hE⟩
      case round =>
        clear hG hE
        obtain ⟨j, hj, rfl, hG, hE⟩ := hrel
        generalize hRS : pRows P D l ss ss R1 i ++ bRows P D l (rowL D ss i) ss j = RS at hG
        have HRO := Lib.hid hRS
        clear hRS
        have lW : w.heap.size < W2.heap.size := by have := HW2.out; omega
        have lW1 : w.heap.size + 1 < W2.heap.size := by have := HW2.out; omega
        have AX := A0.out.ext hE.out
        have SX := S0.out.ext hE.out
        have lA := AX.1
        have lS := SX.1
        have x0 := AX.2 0 _ rfl
        have x1 := AX.2 1 _ rfl
        have x2 := AX.2 2 _ rfl
        have y0 := SX.2 0 _ rfl
        have y1 := SX.2 1 _ rfl
        have y2 := SX.2 2 _ rfl
        have y3 := SX.2 3 _ rfl
        clear AX SX
        obtain ⟨va, vc, rfl, _⟩ := hG.out.shape
        by_cases hlt2 : j < R1
        · have u0 := A0.out.2 0 _ rfl
          have u1 := A0.out.2 1 _ rfl
          have u2 := A0.out.2 2 _ rfl
          have u3 := S0.out.2 0 _ rfl
          have u4 := S0.out.2 1 _ rfl
          have u5 := S0.out.2 2 _ rfl
          have u6 := S0.out.2 3 _ rfl
          have r1 : (i + 1) * D ≤ n1 := by rw [HN1.out]; exact Nat.mul_le_mul_right D hlt
          have r2 : (j + 1) * D ≤ n1 := by rw [HN1.out]; exact Nat.mul_le_mul_right D hlt2
          have HKL : Hid (RS.length ≤ 1000) := by
            rw [Hid, ← HRO.out, List.length_append, pRows_length, bRows_length]
            have := Nat.mul_le_mul_right R1 (show i + 1 ≤ R1 by omega)
            rw [Nat.add_mul, Nat.one_mul] at this
            omega
          have HGD := Lib.hid (RowsG.ext hG.out (Ext.refl _).drew)
          have HC1 : Hid (∀ wx, Calls Try.prog 165 #[.agg #[.int .i64 P, .int .i64 (R1 : Nat), .int .i64 D, .slice (some ⟨s0, so, none⟩) n1 d1], .int .i64 i] wx fun e w' => e = .returned (.slice (some ⟨s0, so + i * D, none⟩) D (d1 - i * D)) ∧ Ext wx w') := fun wx => l1RowQ_spec P R1 D i s0 so n1 d1 wx r1 (by omega) (by omega) HD1.out
          have HC2 : Hid (∀ wx, Calls Try.prog 165 #[.agg #[.int .i64 P, .int .i64 (R1 : Nat), .int .i64 D, .slice (some ⟨s0, so, none⟩) n1 d1], .int .i64 j] wx fun e w' => e = .returned (.slice (some ⟨s0, so + j * D, none⟩) D (d1 - j * D)) ∧ Ext wx w') := fun wx => l1RowQ_spec P R1 D j s0 so n1 d1 wx r2 (by omega) (by omega) HD1.out
          have HBR : Hid (∀ w1, Ext W2 w1 → Calls Try.prog 181 #[.agg #[.int .i64 P, .int .i64 D, .slice (some ⟨a0, oa, none⟩) n d], .slice (some ⟨s0, so + i * D, none⟩) D (d1 - i * D), .slice (some ⟨s0, so + j * D, none⟩) D (d1 - j * D)] w1 (BrPost w1 P D l (rowL D ss i) (rowL D ss j))) := fun w1 h => l2Bracket_spec P D a0 oa n d _ _ _ _ l (rowL D ss i) (rowL D ss j) w1 (HT.out.ext (E0.out.trans h)) (reads_row (HSR.out.ext (E0.out.trans h)) HN1.out hlt) (reads_row (HSR.out.ext (E0.out.trans h)) HN1.out hlt2) hD HN.out hp hp2 HRL.out (rowL_res2 HRS.out HL1.out hlt) (rowL_res2 HRS.out HL1.out hlt2)
          clear r1 r2
          go_wp2_with fail
          go_region_held3 (fun w' => Ext W2 w' ∧ (∀ b o, b < W2.heap.size → w'.cell? ⟨b, o, none⟩ = W2.cell? ⟨b, o, none⟩)) (first | assumption | (with_reducible exact ext2 (Ext.trans (And.left ‹Ext W2 _ ∧ _›) ‹Ext _ _›)) | (refine ext2 ?_; with_reducible repeat (first | exact Ext.refl _ | exact And.left ‹Ext W2 _ ∧ _› | exact hE.out | refine Ext.drew ?_ | refine Ext.drewN ?_ _ | refine Ext.alloc ?_ _))) (first
            | (go_at_call_of 165 (Value.int .i64 (i : Int)); (with_reducible refine (HC1.out _).mono ?_); rintro e w3 ⟨rfl, h3⟩)
            | (go_at_call_of 165 (Value.int .i64 (j : Int)); (with_reducible refine (HC2.out _).mono ?_); rintro e w5 ⟨rfl, h5⟩)
            | (go_at_call 181; (with_reducible refine (HBR.out _ (And.left ‹Ext W2 _ ∧ _›)).mono ?_); rintro e w4 ⟨b4, rfl, hb4, kr, h4⟩)
            | (have e34 : Ext wr w4 := by first | exact Ext.trans (Ext.trans (Ext.trans (Ext.drew (Ext.refl _)) h3) h5) h4 | exact Ext.trans (Ext.trans (Ext.trans (Ext.drew (Ext.refl _)) h5) h3) h4
               have e35 : wr.heap.size ≤ b4 := by first | exact Nat.le_trans (Ext.trans (Ext.trans (Ext.drew (Ext.refl wr)) h3) h5).le hb4 | exact Nat.le_trans (Ext.trans (Ext.trans (Ext.drew (Ext.refl wr)) h5) h3).le hb4
               have sz1 := hE.out.le
               have sz2 := e34.le
               have sz4 := HW2.out
               have sz5 : w.heap.size + 1 + 1 ≤ w4.heap.size := by omega
               have sz6 : w.heap.size + 1 + 1 ≤ b4 := by omega
               have sz7 : (w4.alloc (.cells #[.slice (some ⟨b4, 0, none⟩) D D] 22)).heap.size = w4.heap.size + 1 := by simp
               have sz8 := kr.lt
               have sz9 := HKL.out
               have HRow : Own (w4.alloc (.cells #[.slice (some ⟨b4, 0, none⟩) D D] 22)) (w.heap.size + 1 + 1) (w4.alloc (.cells #[.slice (some ⟨b4, 0, none⟩) D D] 22)).heap.size (some ⟨b4, 0, none⟩) D (brL P D l (rowL D ss i) (rowL D ss j)) := (kr.alloc _).own sz6 (by omega) brL_len
               have hcl : (w4.alloc (.cells #[.slice (some ⟨b4, 0, none⟩) D D] 22)).cell? ⟨w4.heap.size, 0, none⟩ = some (.slice (some ⟨b4, 0, none⟩) D D) := by rw [World.cell?_alloc_at _ _ _ _ rfl]; rfl
               refine step_appendRow rfl (.tmp 21) (.tmp 30) rfl (base := (w.heap.size + 1 + 1)) (.slice va RS.length vc) RS rfl (RowsG.ext (RowsG.ext hG.out e34) ((Ext.refl _).alloc _)) w4.heap.size b4 D D 1 (brL P D l (rowL D ss i) (rowL D ss j)) rfl hcl HRow (by omega) (by omega) ?_
               intro v6 w6 hG6 hg6
               have E6 : Ext W2 w6 := Ext.grown (Ext.alloc (Ext.trans hE.out e34) _) hg6 (fun z hz => by have := hG.out.blk z hz; omega)
               have E62 := ext2 E6))
          all_goals
            have G6 : Hid (RowsG w6 (w.heap.size + 1 + 1) v6 (pRows P D l ss ss R1 i ++ bRows P D l (rowL D ss i) ss (j + 1))) := by rw [Hid, bRows_succ, ← List.append_assoc, HRO.out]; exact hG6
            have E7 := Lib.hid E6
            clear hG hE hG6 hg6 E6 E62 HGD HRow kr h3 h4 h5 e34 e35
            go_wp2
            exact ⟨⟨j + 1, by omega, by simp, G6, E7⟩, by simp [intOf]; omega⟩
        · obtain rfl : R1 = j := by omega
          have G6 : Hid (RowsG wr (w.heap.size + 1 + 1) (.slice va RS.length vc) (pRows P D l ss ss R1 (i + 1))) := by
            have := hG.out
            rw [Hid, pRows, HRO.out]; exact this
          clear hG
          go_wp2
          exact ⟨⟨i + 1, by omega, by simp, G6, hE⟩, by simp [intOf]; omega⟩
    · obtain rfl : R1 = i := by omega
      have SX := S0.out.ext hE.out
      have lS := SX.1
      have y1 := SX.2 1 _ rfl
      clear SX
      have EQ := Lib.hid (E0.out.trans hE.out)
      clear hE
      go_wp2
      go_ret
      exact ⟨_, rfl, hG.out, EQ.out⟩
end Go.Proofs.Ytapaopapgnfdkaa
