/-
  Tables of coordinates, in the specification.
-/
import Derived.Test.YtapaopapgnfdkaaLbr
import Derived.Test.YtapaopapgnfdkaaQtS
import Derived.Test.YtapaopapgnfdkaaCs
namespace Go.Proofs.Ytapaopapgnfdkaa
open Go.ChangeShapes Go.WideShapes Go.ChangeAt Go.RowKit
set_option linter.unusedVariables false
set_option linter.unusedSimpArgs false

set_option maxRecDepth 100000 in
set_option maxHeartbeats 6400000 in
theorem l2Table_spec (P : Int) (R C n1 d1 s0 so lo cb : Nat) (ab : Option Addr) (ms QT : List Int) (brs : List (List Int)) (w : World) (hpr : isP P = true) (hS : Reads w (some ⟨s0, so, none⟩) n1 ms) (hn1 : n1 = R * C) (hR : R ≤ 28) (hC : C ≤ 40) (hx : Res ms P) (hB : RowsG w lo (.slice ab (R * R) cb) brs) (hbl : ∀ q, q < R * R → (row brs q).length = C) (hbx : ∀ q, q < R * R → Res (row brs q) P) (hok : ∀ q, q < R * R → solOk P C R (transTo ms R C R) (row brs q) = true) (hsl : ∀ q, q < R * R → (solL P C R (transTo ms R C R) (row brs (q))).length = R) (hQ : ∀ q, q < R * R → QT.take ((q + 1) * R) = QT.take (q * R) ++ solL P C R (transTo ms R C R) (row brs (q))) (hQL : QT.length = R * R * R) :
    Calls Try.prog 98 #[.agg #[.int .i64 P, .int .i64 (R : Nat), .int .i64 (C : Nat), .slice (some ⟨s0, so, none⟩) n1 d1], .slice ab (R * R) cb] w fun e w' => ∃ a c, e = .returned (.tuple #[.agg #[.int .i64 P, .int .i64 (R : Nat), .slice a (R * R * R) c], .bool true]) ∧ Own w' w.heap.size w'.heap.size a (R * R * R) QT ∧ Ext w w' := by
  obtain ⟨i0, hi0, hz0, hz1, hz2⟩ := info_parts Try.infoInt
  have hp := isP_lo hpr
  have HTR : Hid (∀ w1, Ext w w1 → Calls Try.prog 179 #[.agg #[.int .i64 P, .int .i64 (R : Nat), .int .i64 (C : Nat), .slice (some ⟨s0, so, none⟩) n1 d1]] w1 fun e w' => ∃ b, e = .returned (.agg #[.int .i64 P, .int .i64 (C : Nat), .int .i64 (R : Nat), .slice (some ⟨b, 0, none⟩) (C * R) (C * R)]) ∧ w1.heap.size ≤ b ∧ b < w'.heap.size ∧ Has w' b (transTo ms R C R) ∧ Ext w1 w') := fun w1 h => l1Transpose_spec P R C _ _ _ ms w1 (hS.ext h) hn1 (by omega) hC
  have HSO : Hid (∀ w1 b q n' c' b', Ext w w1 → Has w1 b (transTo ms R C R) → q < R * R → Reads w1 (some ⟨b', 0, none⟩) n' (row brs q) → Calls Try.prog 180 #[.agg #[.int .i64 P, .int .i64 (C : Nat), .int .i64 (R : Nat), .slice (some ⟨b, 0, none⟩) (C * R) (C * R)], .slice (some ⟨b', 0, none⟩) n' c'] w1 fun e w' => ∃ s c, e = .returned (.tuple #[.slice s R c, .bool true]) ∧ Own w' w1.heap.size w'.heap.size s R (solL P C R (transTo ms R C R) (row brs (q))) ∧ Ext w1 w') := fun w1 b q n' c' b' h hb hq hr => by
    have hn' : n' = C := by rw [← hr.1]; exact hbl q hq
    subst hn'
    refine (l1Solve_spec P n' R (n' * R) _ _ _ _ (transTo ms R n' R) (row brs q) w1 hpr (hb.reads (transTo_length _ _ _ _)) hr rfl (by omega) (by omega) (transTo_res hp hx _) (hbx q hq)).mono ?_
    rintro e w' ⟨s, m, cc, he, ho, hE⟩
    rw [hok q hq] at he ho
    simp only [if_true] at ho
    obtain rfl : m = R := by rw [← ho.len]; exact hsl q hq
    exact ⟨s, cc, he, ho, hE⟩
  have HB := Lib.hid hB
  have HQ := Lib.hid hQ
  have HQL := Lib.hid hQL
  have HSL := Lib.hid hsl
  have hRR : R * R ≤ 784 := Nat.mul_le_mul hR hR
  have hK3 : R * R * R ≤ 21952 := cube28 hR
  clear hS hn1 hx hB hbl hbx hok hsl hQ hQL hpr
  go_enter Try.func98, Try.ntmps98
  have A0_1 := Lib.hid ((cells_new' w #[.int .i64 P, .int .i64 (R : Nat), .int .i64 (C : Nat), .slice (some ⟨s0, so, none⟩) n1 d1] 40 (w.heap.size) (by simp)).ext ((Ext.refl _).alloc (.cells #[.int .i64 0, .int .i64 0, .slice none 0 0] 28)))
  have R_2 := Lib.hid (cells_new' (w.alloc (.cells #[.int .i64 P, .int .i64 (R : Nat), .int .i64 (C : Nat), .slice (some ⟨s0, so, none⟩) n1 d1] 40)) #[.int .i64 0, .int .i64 0, .slice none 0 0] 28 (w.heap.size + 1) (by simp))
  have E_3 := Lib.hid (((Ext.refl w).alloc (.cells #[.int .i64 P, .int .i64 (R : Nat), .int .i64 (C : Nat), .slice (some ⟨s0, so, none⟩) n1 d1] 40)).alloc (.cells #[.int .i64 0, .int .i64 0, .slice none 0 0] 28))
  go_upto_region 1 with fail
  have hEw := E_3.out.le
  have lRx := R_2.out.1
  generalize ((w.alloc (.cells #[.int .i64 P, .int .i64 (R : Nat), .int .i64 (C : Nat), .slice (some ⟨s0, so, none⟩) n1 d1] 40)).alloc (.cells #[.int .i64 0, .int .i64 0, .slice none 0 0] 28)) = WX at *
  have G0 : Hid (Grows ((WX.alloc (.cells #[] 3)).alloc (.cells #[.int .i64 P, .int .i64 (R : Nat), .slice (some ⟨WX.heap.size, 0, none⟩) (0) 0] 28)) WX.heap.size (.slice (some ⟨WX.heap.size, 0, none⟩) 0 0) 0 []) := (grows_lit WX WX.heap.size (Nat.le_refl _)).ext ((Ext.refl _).alloc _)
  have C0 : Hid (Cells ((WX.alloc (.cells #[] 3)).alloc (.cells #[.int .i64 P, .int .i64 (R : Nat), .slice (some ⟨WX.heap.size, 0, none⟩) (0) 0] 28)) (WX.heap.size + 1) [.int .i64 P, .int .i64 (R : Nat), .slice (some ⟨WX.heap.size, 0, none⟩) (0) 0]) := cells_new' (WX.alloc (.cells #[] 3)) #[.int .i64 P, .int .i64 (R : Nat), .slice (some ⟨WX.heap.size, 0, none⟩) (0) 0] 28 (WX.heap.size + 1) (by simp)
  have E0 : Hid (Ext WX ((WX.alloc (.cells #[] 3)).alloc (.cells #[.int .i64 P, .int .i64 (R : Nat), .slice (some ⟨WX.heap.size, 0, none⟩) (0) 0] 28))) := ((Ext.refl _).alloc _).alloc _
  have sY : ((WX.alloc (.cells #[] 3)).alloc (.cells #[.int .i64 P, .int .i64 (R : Nat), .slice (some ⟨WX.heap.size, 0, none⟩) (0) 0] 28)).heap.size = WX.heap.size + 1 + 1 := by simp
  have lA := A0_1.out.1
  have x0 := A0_1.out.2 0 _ rfl
  have x1 := A0_1.out.2 1 _ rfl
  have AY := Lib.hid (A0_1.out.ext E0.out)
  have y0 := AY.out.2 0 _ rfl
  have y1 := AY.out.2 1 _ rfl
  have y2 := AY.out.2 2 _ rfl
  have y3 := AY.out.2 3 _ rfl
  have lY := AY.out.1
  go_wp2_with fail
  refine (HTR.out _ (E_3.out.trans E0.out)).mono ?_
  rintro e w3 ⟨b, rfl, hb1, hb2, hh, h3⟩
  clear lA x0 x1 y0 y1 y2 y3 lY AY
  have X4 := (Ext.refl w3).alloc (.cells #[.int .i64 P, .int .i64 (C : Nat), .int .i64 (R : Nat), .slice (some ⟨b, 0, none⟩) (C * R) (C * R)] 40)
  have G4 : Hid (Grows (w3.alloc (.cells #[.int .i64 P, .int .i64 (C : Nat), .int .i64 (R : Nat), .slice (some ⟨b, 0, none⟩) (C * R) (C * R)] 40)) WX.heap.size (.slice (some ⟨WX.heap.size, 0, none⟩) (0 * R * R) 0) (0 * R * R) (QT.take (0 * R * R))) := by
    rw [Nat.zero_mul, Nat.zero_mul, List.take_zero]; exact (G0.out.ext h3).ext X4
  have C4 : Hid (Cells (w3.alloc (.cells #[.int .i64 P, .int .i64 (C : Nat), .int .i64 (R : Nat), .slice (some ⟨b, 0, none⟩) (C * R) (C * R)] 40)) (WX.heap.size + 1) [.int .i64 P, .int .i64 (R : Nat), .slice (some ⟨WX.heap.size, 0, none⟩) (0 * R * R) 0]) := by
    rw [Nat.zero_mul, Nat.zero_mul]; exact (C0.out.ext h3).ext X4
  have E4 := Lib.hid ((E0.out.trans h3).trans X4)
  have T4 := Lib.hid (cells_new w3 #[.int .i64 P, .int .i64 (C : Nat), .int .i64 (R : Nat), .slice (some ⟨b, 0, none⟩) (C * R) (C * R)] 40)
  have H4 := Lib.hid (hh.alloc (.cells #[.int .i64 P, .int .i64 (C : Nat), .int .i64 (R : Nat), .slice (some ⟨b, 0, none⟩) (C * R) (C * R)] 40))
  have hsz3 := h3.le
  rw [sY] at hsz3 hb1
  have hTX : w3.heap.size ≠ WX.heap.size + 1 := by omega
  have hbc : b ≠ WX.heap.size + 1 := by omega
  have hTb : w3.heap.size ≠ b := by omega
  have hTl : WX.heap.size ≤ w3.heap.size := by omega
  have N4 : Hid (∀ z, (Value.slice (some ⟨WX.heap.size, 0, none⟩) (0 * R * R) 0).ownBlock = some z → z ≠ WX.heap.size + 1 ∧ z ≠ b ∧ z ≠ w3.heap.size) := fun z hz => by simp [Value.ownBlock] at hz; omega
  clear G0 C0 E0 sY hb1 hb2 hh h3 X4 hsz3
  go_wp2_with fail
  generalize (w3.alloc (.cells #[.int .i64 P, .int .i64 (C : Nat), .int .i64 (R : Nat), .slice (some ⟨b, 0, none⟩) (C * R) (C * R)] 40)) = W4 at *
  generalize w3.heap.size = TX at *
  go_loopw [9, 10, 11, 12] (fun z _ _ _ wr => ∃ (i : Nat) (va : Option Addr) (vc : Nat), i ≤ R ∧ z = .int .i64 i ∧ Hid (Cells wr (WX.heap.size + 1) [.int .i64 P, .int .i64 (R : Nat), .slice va (i * R * R) vc]) ∧ Hid (Grows wr WX.heap.size (.slice va (i * R * R) vc) (i * R * R) (QT.take (i * R * R))) ∧ Hid (∀ z, (Value.slice va (i * R * R) vc).ownBlock = some z → z ≠ WX.heap.size + 1 ∧ z ≠ b ∧ z ≠ TX) ∧ Hid (Cells wr TX [.int .i64 P, .int .i64 (C : Nat), .int .i64 (R : Nat), .slice (some ⟨b, 0, none⟩) (C * R) (C * R)]) ∧ Hid (Has wr b (transTo ms R C R)) ∧ Hid (Ext WX wr)) (fun z _ _ _ _ => R - (intOf z).toNat)
  case atStart => exact ⟨0, some ⟨WX.heap.size, 0, none⟩, 0, by omega, rfl, C4, G4, N4, T4, H4, E4⟩
  case round =>
    clear G4 C4 N4 T4 H4 E4
    obtain ⟨i, va, vc, hi, rfl, hC, hG, hN, hT, hH, hE⟩ := hrel
    by_cases hlt : i < R
    · go_wp2_with fail
      go_loopw [10, 11, 12] (fun z _ _ wr => ∃ (j : Nat) (va : Option Addr) (vc : Nat), j ≤ R ∧ z = .int .i64 j ∧ Hid (Cells wr (WX.heap.size + 1) [.int .i64 P, .int .i64 (R : Nat), .slice va ((i * R + j) * R) vc]) ∧ Hid (Grows wr WX.heap.size (.slice va ((i * R + j) * R) vc) ((i * R + j) * R) (QT.take ((i * R + j) * R))) ∧ Hid (∀ z, (Value.slice va ((i * R + j) * R) vc).ownBlock = some z → z ≠ WX.heap.size + 1 ∧ z ≠ b ∧ z ≠ TX) ∧ Hid (Cells wr TX [.int .i64 P, .int .i64 (C : Nat), .int .i64 (R : Nat), .slice (some ⟨b, 0, none⟩) (C * R) (C * R)]) ∧ Hid (Has wr b (transTo ms R C R)) ∧ Hid (Ext WX wr)) (fun z _ _ _ => R - (intOf z).toNat)
      case atStart => exact ⟨0, va, vc, by omega, rfl, hC, hG, hN, hT, hH, hE⟩
      case round =>
        clear hC hG hN hT hH hE
        obtain ⟨j, va, vc, hj, rfl, hC, hG, hN, hT, hH, hE⟩ := hrel
        by_cases hlt2 : j < R
        · have hq : i * R + j < R * R := place_lt hlt hlt2
          have EW := Lib.hid (E_3.out.trans hE.out)
          obtain ⟨g, rfl, hg, b', n', c', hc, ho⟩ := HB.out.get.2 (i * R + j) hq
          have HRow := Lib.hid (ho.reads.ext EW.out)
          have x1 := (EW.out.cells g (i * R + j) hg).trans hc
          have hg2 : g < wr.heap.size := Nat.lt_of_lt_of_le hg EW.out.le
          have HQ1 := Lib.hid (HQ.out _ hq)
          have HXL := Lib.hid (HSL.out _ hq)
          have HS1 := Lib.hid (fun w1 h1 h2 h3 => HSO.out w1 b (i * R + j) n' c' b' h1 h2 hq h3)
          generalize solL P C R (transTo ms R C R) (row brs (i * R + j)) = x at *
          have e1 : (i : Int) * (R : Int) = ((i * R : Nat) : Int) := by simp
          have e4 : (i : Int) * (R : Int) + (j : Int) < ((R * R : Nat) : Int) := by rw [e1]; omega
          have e5 : 0 ≤ (i : Int) * (R : Int) + (j : Int) := by rw [e1]; omega
          have e6 : (i : Int) * (R : Int) + (j : Int) < (R : Int) * (R : Int) := by rw [e1, ← Int.natCast_mul]; omega
          have v1 : IntKind.i64.wrap ((i : Int) * (R : Int)) = (i : Int) * (R : Int) := IntWalk.i64_in _ ⟨by rw [e1]; omega, by rw [e1]; omega⟩
          have v2 : IntKind.i64.wrap ((i : Int) * (R : Int) + (j : Int)) = (i : Int) * (R : Int) + (j : Int) := IntWalk.i64_in _ ⟨by omega, by omega⟩
          have v3 : ((i : Int) * (R : Int) + (j : Int)).toNat = i * R + j := by rw [← Int.natCast_mul, ← Int.natCast_add, Int.toNat_natCast]
          have hlt2' : (j : Int) < (R : Int) := by omega
          have lT := hT.out.1
          have t0 := hT.out.2 0 _ rfl
          have t1 := hT.out.2 1 _ rfl
          have t2 := hT.out.2 2 _ rfl
          have t3 := hT.out.2 3 _ rfl
          have hbl := hH.out.lt
          have hgb := Lib.hid hG.out.blk
          have hT2 : Hid ((i * R + j) * R + R ≤ 21952) := by
            have := Nat.mul_le_mul_right R (show i * R + j + 1 ≤ R * R from hq)
            rw [Nat.add_mul, Nat.one_mul] at this
            exact Nat.le_trans this hK3
          clear e1 hc ho
          go_wp2_with fail
          go_region_held3 (fun w' => Ext wr w' ∧ (∀ b o, b < wr.heap.size → w'.cell? ⟨b, o, none⟩ = wr.cell? ⟨b, o, none⟩)) (first | assumption | (with_reducible exact ext2 (Ext.trans (And.left ‹Ext wr _ ∧ _›) ‹Ext _ _›)) | (refine ext2 ?_; with_reducible repeat (first | exact Ext.refl _ | exact And.left ‹Ext wr _ ∧ _› | refine Ext.drew ?_ | refine Ext.drewN ?_ _))) (first
            | (go_at_call 180; (with_reducible refine (HS1.out _ (EW.out.trans (And.left ‹Ext wr _ ∧ _›)) (hH.out.ext (And.left ‹Ext wr _ ∧ _›)) (HRow.out.ext (And.left ‹Ext wr _ ∧ _›))).mono ?_); rintro e w4 ⟨s, cs, rfl, hos, h4⟩))
          all_goals
            have E4 := Lib.hid (And.left ‹Ext wr w4 ∧ _›)
            have C5 := Lib.hid (hC.out.ext E4.out)
            have G5 := Lib.hid (hG.out.ext E4.out)
            have X5 := Lib.hid (hE.out.trans E4.out)
            have H5 := Lib.hid (hH.out.ext E4.out)
            have T5 := Lib.hid (hT.out.ext E4.out)
            rcases hos.2 with h | ⟨sb, rfl, hsb1, hsb2, hsh⟩
            · exact absurd h.2 (by omega)
            have hnews : ∀ (j : Nat) (u : Value), (x.map (Value.int .i64))[j]? = some u → w4.cell? ((⟨sb, 0, none⟩ : Addr).add j) = some u := fun j u hu => by
              rw [List.getElem?_map, Option.map_eq_some_iff] at hu
              obtain ⟨z, hz, rfl⟩ := hu
              have hj' := (List.getElem?_eq_some_iff.1 hz).1
              have := hsh.cell j hj'
              simp only [gi, List.getD_eq_getElem?_getD, hz, Option.getD_some] at this
              rw [add_plain]; simpa using this
            have hlx : (x.map (Value.int .i64)).length = R * 1 := by rw [List.length_map, HXL.out, Nat.mul_one]
            have lC := C5.out.1
            have q0 := C5.out.2 0 _ rfl
            have q1 := C5.out.2 1 _ rfl
            have q2 := C5.out.2 2 _ rfl
            have tC := C5.out.3
            have hle := X5.out.le
            have hgb5 := Lib.hid G5.out.blk
            clear hos h4 E4 hC hG hE hH hT lT t0 t1 t2 t3 x1 HS1 HRow v1 v2 v3 e4 e5 e6 hgb hsh hsb1 hsb2 EW
            try clear ‹Ext wr w4 ∧ _›
            generalize hL : QT.take ((i * R + j) * R) = L at *
            obtain ⟨T, hTT⟩ : ∃ T, (i * R + j) * R = T := ⟨_, rfl⟩
            rw [hTT] at C5 G5 hN q2 hT2 hgb5
            have HTT := Lib.hid hTT
            have HLL := Lib.hid hL
            clear hTT hL
            go_wp2_with (at_builtin; refine wpList_append_own_at _ rfl (.tmp 49) (.tmp 50) 22 rfl WX.heap.size 3 i0 (.int .i64 0) 1 8 Try.underlying22 hi0 hz0 hz1 hz2 rfl (by decide) (.slice va T vc) T (L.map (Value.int .i64)) rfl G5.out ⟨sb, 0, none⟩ R cs (x.map (Value.int .i64)) rfl hlx hnews (fun u hu => by obtain ⟨z, _, rfl⟩ := List.mem_map.1 hu; rfl) (by have := hT2.out; unfold maxLen; omega) (by have := hT2.out; omega) hle ?_; intro v5 w5 ho5 hg5 hn5 ha5; have HG6 : Hid (Grows w5 WX.heap.size v5 (T + R) (L ++ x)) := (by rw [Hid, Grows, List.map_append]; exact ho5); clear ho5 hn5; obtain ⟨a2, cap2, rfl, ho2⟩ := HG6.out.shape; clear ho2; have B2 := C5.out.grown hg5 (fun z hz => (hN.out z hz).1); have l2 := B2.1; have y2 := B2.2 2 _ rfl; have f2 := B2.3)
            have N2 : Hid (∀ z, (Value.slice a2 (T + R) cap2).ownBlock = some z → z ≠ WX.heap.size + 1 ∧ z ≠ b ∧ z ≠ TX) := fun z hz => by
              rcases ha5 with e | e
              · exact hN.out z (e.symm.trans hz)
              · rw [e] at hz
                injection hz with hz
                have := H5.out.lt
                have := T5.out.1
                omega
            have eT : T + R = (i * R + (j + 1)) * R := by
              rw [← HTT.out, show i * R + (j + 1) = (i * R + j) + 1 from rfl, Nat.add_mul (i * R + j) 1 R, Nat.one_mul]
            have eL : L ++ x = QT.take (T + R) := by rw [eT]; exact HQ1.out.symm
            have hset := grownBy_set (p := ⟨WX.heap.size + 1, 2, none⟩) (grownBy_refl w5 (some (WX.heap.size + 1))) rfl (.slice a2 (T + R) cap2)
            have C6 := B2.put 2 (by simp) (.slice a2 (T + R) cap2)
            have G6 := HG6.out.keepNe hset (fun z hz => (N2.out z hz).1)
            have T6 := (T5.out.grown hg5 (fun z hz => (hN.out z hz).2.2)).grown hset (fun z hz => by injection hz with hz; omega)
            have H6 := (H5.out.grNe hg5 (fun e => (hN.out b e).2.1 rfl)).setOther (p := ⟨WX.heap.size + 1, 2, none⟩) (fun e => hbc e.symm) (.slice a2 (T + R) cap2)
            have E6 := (X5.out.grown hg5 (fun z hz => (hgb5.out z hz).1)).setCell (p := ⟨WX.heap.size + 1, 2, none⟩) (Nat.le_succ _) (.slice a2 (T + R) cap2)
            refine ⟨⟨j + 1, a2, cap2, by omega, by simp, ?_, ?_, ?_, T6, H6, E6⟩, by simp [intOf]; omega⟩
            · rw [← eT]; exact C6
            · rw [← eT, ← eL]; exact G6
            · rw [← eT]; exact N2
        · obtain rfl : R = j := by omega
          have e : (i * R + R) * R = (i + 1) * R * R := by rw [Nat.add_mul i 1 R, Nat.one_mul]
          rw [e] at hC hG hN
          clear e
          go_wp2
          exact ⟨⟨i + 1, va, vc, by omega, by simp, hC, hG, hN, hT, hH, hE⟩, by simp [intOf]; omega⟩
    · obtain rfl : R = i := by omega
      obtain ⟨av, cv, hav, ho⟩ := hG.out.shape
      obtain ⟨rfl, rfl⟩ : va = av ∧ vc = cv := by simpa using hav
      rw [List.take_of_length_le (by rw [HQL.out]; exact Nat.le_refl _)] at ho
      have HO2 := Lib.hid ho
      have R6 := Lib.hid (R_2.out.ext hE.out)
      have E6 := Lib.hid (E_3.out.trans hE.out)
      have lC := hC.out.1
      have q0 := hC.out.2 0 _ rfl
      have q1 := hC.out.2 1 _ rfl
      have q2 := hC.out.2 2 _ rfl
      have r0 := R6.out.2 0 _ rfl
      have r1 := R6.out.2 1 _ rfl
      have r2 := R6.out.2 2 _ rfl
      have tR := R6.out.3
      have lR := R6.out.1
      clear ho hav hC hG hN hT hH
      obtain ⟨M, hM⟩ : ∃ M, R * R * R = M := ⟨_, rfl⟩
      rw [hM] at q2 HO2
      have HM := Lib.hid hM
      clear hM
      go_wp2
      have hM := HM.out
      subst hM
      refine bodyPost_ret (v := .tuple #[.agg #[.int .i64 P, .int .i64 (R : Nat), .slice va (R * R * R) vc], .bool true]) (by simp [results, Try.results98, go_sem, r0, r1, r2]) rfl ⟨va, vc, rfl, ?_, ext3 E6.out (by omega) _ _ _⟩
      exact Own.mono (own3 HO2.out (by omega) _ _ _) (by omega) (by simp)
end Go.Proofs.Ytapaopapgnfdkaa
