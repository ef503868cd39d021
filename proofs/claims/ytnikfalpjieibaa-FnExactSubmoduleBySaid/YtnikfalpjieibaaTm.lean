/-
  The transpose, both texts.
-/
import Derived.Test.YtnikfalpjieibaaAd
import Derived.Deep.RegionHeld3
namespace Go.Proofs.Ytnikfalpjieibaa
open Go.RowKit
set_option linter.unusedVariables false

/-- Row i of an R x C matrix xs, laid into column i of l: its first j numbers. -/
def colTo (xs : List Int) (R C i : Nat) (l : List Int) : Nat → List Int
  | 0 => l
  | j + 1 => (colTo xs R C i l j).set (j * R + i) (gi xs (i * C + j))
/-- The first i rows laid as columns. -/
def transTo (xs : List Int) (R C : Nat) : Nat → List Int
  | 0 => List.replicate (C * R) 0
  | i + 1 => colTo xs R C i (transTo xs R C i) C
theorem colTo_length (xs : List Int) (R C i : Nat) (l : List Int) (j : Nat) : (colTo xs R C i l j).length = l.length := by
  induction j with
  | zero => rfl
  | succ j ih => simp [colTo, ih]
theorem transTo_length (xs : List Int) (R C i : Nat) : (transTo xs R C i).length = C * R := by
  induction i with
  | zero => simp [transTo]
  | succ i ih => simp [transTo, colTo_length, ih]
noncomputable def transM (P R C : Int) (xs : List Int) : Mat := if mok P R C xs then ⟨P, C, R, transTo xs R.toNat C.toNat R.toNat⟩ else noMat
theorem place_lt {R C i j : Nat} (hi : i < R) (hj : j < C) : i * C + j < R * C := by
  have : (i + 1) * C ≤ R * C := Nat.mul_le_mul_right C hi
  rw [Nat.add_mul] at this
  omega
theorem mul40 {R C : Nat} (h : R ≤ 40) (h' : C ≤ 40) : R * C ≤ 1600 := Nat.mul_le_mul h h'

/-- What a region keeps that writes into block b alone, at its end. -/
theorem keptB_refl (w : World) (b : Nat) : w.grownBy w (some b) ∧ ∀ B o, B ≠ b → B < w.heap.size → w.cell? ⟨B, o, none⟩ = w.cell? ⟨B, o, none⟩ := ⟨grownBy_refl _ _, fun _ _ _ _ => rfl⟩
theorem keptB_call {w w1 w2 : World} {b : Nat} (h : w.grownBy w1 (some b) ∧ ∀ B o, B ≠ b → B < w.heap.size → w1.cell? ⟨B, o, none⟩ = w.cell? ⟨B, o, none⟩) (hE : Ext w1 w2) : w.grownBy w2 (some b) ∧ ∀ B o, B ≠ b → B < w.heap.size → w2.cell? ⟨B, o, none⟩ = w.cell? ⟨B, o, none⟩ :=
  ⟨⟨hE.os.trans h.1.os, hE.tape.trans h.1.tape, hE.output.trans h.1.output, Nat.le_trans h.1.size hE.le, fun k hk hne => (hE.block k (Nat.lt_of_lt_of_le hk h.1.size)).trans (h.1.block k hk hne)⟩, fun B o hB hl => (hE.cells B o (Nat.lt_of_lt_of_le hl h.1.size)).trans (h.2 B o hB hl)⟩
theorem keptB_set {w w1 : World} {b : Nat} (h : w.grownBy w1 (some b) ∧ ∀ B o, B ≠ b → B < w.heap.size → w1.cell? ⟨B, o, none⟩ = w.cell? ⟨B, o, none⟩) (j : Nat) (v : Value) : w.grownBy (w1.setCell ⟨b, j, none⟩ v) (some b) ∧ ∀ B o, B ≠ b → B < w.heap.size → (w1.setCell ⟨b, j, none⟩ v).cell? ⟨B, o, none⟩ = w.cell? ⟨B, o, none⟩ :=
  ⟨grownBy_set (p := ⟨b, j, none⟩) h.1 rfl v, fun B o hB hl => (World.cell?_setCell_other _ _ _ _ (by intro e; injection e with e1; exact hB e1.symm)).trans (h.2 B o hB hl)⟩
theorem keptB_drew {w : World} {b : Nat} : w.grownBy w.drew (some b) ∧ ∀ B o, B ≠ b → B < w.heap.size → w.drew.cell? ⟨B, o, none⟩ = w.cell? ⟨B, o, none⟩ := ⟨⟨rfl, rfl, rfl, Nat.le_refl _, fun _ _ _ => rfl⟩, fun _ _ _ _ => rfl⟩

set_option maxRecDepth 100000 in
set_option maxHeartbeats 3200000 in
theorem l1Transpose_spec (P : Int) (R C : Nat) (a : Option Addr) (n c : Nat) (xs : List Int) (w : World) (hr : Reads w a n xs) (hn : n = R * C) (hR : R ≤ 40) (hC : C ≤ 40) :
    Calls Try.prog 71 #[.agg #[.int .i64 P, .int .i64 R, .int .i64 C, .slice a n c]] w fun e w' => ∃ b, e = .returned (.agg #[.int .i64 P, .int .i64 C, .int .i64 R, .slice (some ⟨b, 0, none⟩) (C * R) (C * R)]) ∧ w.heap.size ≤ b ∧ b < w'.heap.size ∧ Has w' b (transTo xs R C R) ∧ Ext w w' := by
  have HR := Lib.hid hr
  have HN := Lib.hid hn
  have g40 := mul40 hC hR
  have e1 : (C : Int) * (R : Int) = ((C * R : Nat) : Int) := by simp
  have g0 : 0 ≤ (C : Int) * (R : Int) := by rw [e1]; omega
  have g1 : (C : Int) * (R : Int) ≤ 1048576 := by rw [e1]; omega
  have E1 : Hid (((C : Int) * (R : Int)).toNat = C * R) := by rw [Hid, e1, Int.toNat_natCast]
  clear hr hn e1
  go_enter Try.func71, Try.ntmps71
  have A0_1 := Lib.hid ((cells_new' w #[.int .i64 P, .int .i64 R, .int .i64 C, .slice a n c] 37 (w.heap.size) (by simp)).ext ((Ext.refl _).alloc (.cells #[.int .i64 0, .int .i64 0, .int .i64 0, .slice none 0 0] 37)))
  have R_2 := Lib.hid (cells_new' (w.alloc (.cells #[.int .i64 P, .int .i64 R, .int .i64 C, .slice a n c] 37)) #[.int .i64 0, .int .i64 0, .int .i64 0, .slice none 0 0] 37 (w.heap.size + 1) (by simp))
  have E_3 := Lib.hid (((Ext.refl w).alloc (.cells #[.int .i64 P, .int .i64 R, .int .i64 C, .slice a n c] 37)).alloc (.cells #[.int .i64 0, .int .i64 0, .int .i64 0, .slice none 0 0] 37))
  have lA0 := A0_1.out.1
  have qA00 := A0_1.out.2 0 _ rfl
  have qA01 := A0_1.out.2 1 _ rfl
  have qA02 := A0_1.out.2 2 _ rfl
  have qA03 := A0_1.out.2 3 _ rfl
  try simp only [World.size_alloc] at lA0
  go_wp2_with fail
  refine (l1Zero_spec _ _ _ _ g0 g1).mono ?_
  rintro e w_4 ⟨b, rfl, hb1, hb2, hh, h_4⟩
  clear lA0 qA00 qA01 qA02 qA03
  rw [E1.out] at hh ⊢
  simp at hb1
  have A0_5 := Lib.hid (A0_1.out.ext h_4)
  clear A0_1
  have R_6 := Lib.hid (R_2.out.ext h_4)
  clear R_2
  have E_7 := Lib.hid (E_3.out.trans h_4)
  clear E_3
  have L0 : Hid (Loc w (w_4.alloc (.cells #[.int .i64 P, .int .i64 C, .int .i64 R, .slice (some ⟨b, 0, none⟩) (C * R) (C * R)] 37)) w_4.heap.size b [.int .i64 P, .int .i64 C, .int .i64 R, .slice (some ⟨b, 0, none⟩) (C * R) (C * R)] (transTo xs R C 0)) :=
    ⟨cells_new _ _ _, hh.alloc _, E_7.out.alloc _, by omega, by simp; omega, by omega⟩
  have HA := Lib.hid (A0_5.out.ext ((Ext.refl _).alloc (.cells #[.int .i64 P, .int .i64 C, .int .i64 R, .slice (some ⟨b, 0, none⟩) (C * R) (C * R)] 37)))
  have H4 := Lib.hid (R_6.out.ext ((Ext.refl _).alloc (.cells #[.int .i64 P, .int .i64 C, .int .i64 R, .slice (some ⟨b, 0, none⟩) (C * R) (C * R)] 37)))
  have HS := Lib.hid hb1
  clear hb1 hb2 hh h_4
  go_wp2_with fail
  go_loopw [4, 5] (fun i z wr => ∃ k : Nat, k ≤ R ∧ i = .int .i64 k ∧ Hid (Loc w wr w_4.heap.size b [.int .i64 P, .int .i64 C, .int .i64 R, .slice (some ⟨b, 0, none⟩) (C * R) (C * R)] (transTo xs R C k)) ∧ Hid (Cells wr w.heap.size [.int .i64 P, .int .i64 R, .int .i64 C, .slice a n c]) ∧ Hid (Cells wr (w.heap.size + 1) [.int .i64 0, .int .i64 0, .int .i64 0, .slice none 0 0])) (fun i _ _ => R - (intOf i).toNat)
  case atStart => exact ⟨0, by omega, rfl, L0, HA, H4⟩
  case round =>
    obtain ⟨k, hk, rfl, L, MA, M4⟩ := hrel
    have lA := MA.out.1
    have q0 := MA.out.2 0 _ rfl
    have q1 := MA.out.2 1 _ rfl
    have q2 := MA.out.2 2 _ rfl
    have q3 := MA.out.2 3 _ rfl
    by_cases hlt : k < R
    · go_wp2_with fail
      clear lA q0 q1 q2 q3
      obtain ⟨wo, rfl⟩ : ∃ wo : World, wo = wr := ⟨_, rfl⟩
      go_loopw [5] (fun j wr => ∃ q : Nat, q ≤ C ∧ j = .int .i64 q ∧ Hid (Loc w wr w_4.heap.size b [.int .i64 P, .int .i64 C, .int .i64 R, .slice (some ⟨b, 0, none⟩) (C * R) (C * R)] (colTo xs R C k (transTo xs R C k) q)) ∧ Hid (Cells wr w.heap.size [.int .i64 P, .int .i64 R, .int .i64 C, .slice a n c]) ∧ Hid (Cells wr (w.heap.size + 1) [.int .i64 0, .int .i64 0, .int .i64 0, .slice none 0 0])) (fun j _ => C - (intOf j).toNat)
      case atStart => exact ⟨0, by omega, rfl, L, MA, M4⟩
      case round =>
        obtain ⟨q, hq, rfl, L, MA, M4⟩ := hrel
        have lA := MA.out.1
        have q0 := MA.out.2 0 _ rfl
        have q1 := MA.out.2 1 _ rfl
        have q2 := MA.out.2 2 _ rfl
        have q3 := MA.out.2 3 _ rfl
        by_cases hlt2 : q < C
        · have lB := L.out.box.1
          have p0 := L.out.box.2 0 _ rfl
          have p1 := L.out.box.2 1 _ rfl
          have p2 := L.out.box.2 2 _ rfl
          have p3 := L.out.box.2 3 _ rfl
          have nB := L.out.ne
          have nA : w.heap.size ≠ b := by have := HS.out; omega
          have d1 := place_lt hlt2 hlt
          have e1 : (q : Int) * (R : Int) = ((q * R : Nat) : Int) := by simp
          have e2 : 0 ≤ (q : Int) * (R : Int) := by rw [e1]; omega
          have e3 : (q : Int) * (R : Int) ≤ 1600 := by rw [e1]; omega
          have e4 : (q : Int) * (R : Int) + (k : Int) < ((C * R : Nat) : Int) := by rw [e1]; omega
          have e5 : 0 ≤ (q : Int) * (R : Int) + (k : Int) := by rw [e1]; omega
          have e6 : (q : Int) * (R : Int) + (k : Int) < (C : Int) * (R : Int) := by rw [e1, ← Int.natCast_mul]; omega
          have hq0 : (0 : Int) ≤ (q : Int) := by omega
          have hk0 : (0 : Int) ≤ (k : Int) := by omega
          have hl : (colTo xs R C k (transTo xs R C k) q).length = C * R := by rw [colTo_length, transTo_length]
          have HL := Lib.hid hl
          have ew : wr.drew.heap.size = wr.heap.size := rfl
          clear e1 hl
          go_wp2_with fail
          have v1 : IntKind.i64.wrap ((q : Int) * (R : Int)) = (q : Int) * (R : Int) := IntWalk.i64_in _ ⟨by omega, by omega⟩
          have v2 : IntKind.i64.wrap ((q : Int) * (R : Int) + (k : Int)) = (q : Int) * (R : Int) + (k : Int) := IntWalk.i64_in _ ⟨by omega, by omega⟩
          have v3 : ((q : Int) * (R : Int) + (k : Int)).toNat = q * R + k := by rw [← Int.natCast_mul, ← Int.natCast_add, Int.toNat_natCast]
          go_region_held3 (fun w' => wr.grownBy w' (some b) ∧ ∀ B o, B ≠ b → B < wr.heap.size → w'.cell? ⟨B, o, none⟩ = wr.cell? ⟨B, o, none⟩) (first | exact keptB_refl _ _ | exact keptB_drew | (with_reducible exact keptB_call ‹wr.grownBy _ (some b) ∧ _› ‹Ext _ _›) | (with_reducible exact keptB_set ‹wr.grownBy _ (some b) ∧ _› _ _)) (first
            | (go_at_call 76; refine (l1At_spec _ _ _ _ _ _ _ _ xs _ ((HR.out.ext L.out.ext).ext (Ext.refl _).drew) (by rw [HN.out]; exact place_lt hlt hlt2) (by rw [HN.out, Nat.mul_comm]; omega)).mono ?_; rintro e w2 ⟨rfl, hE⟩; have c1 : w2.cell? ⟨b, q * R + k, none⟩ = _ := ((L.out.step (Ext.refl _).drew).step hE).has.cell (q * R + k) (by rw [HL.out]; exact d1); have f1 : w2.frozen? ⟨b, q * R + k, none⟩ = false := ((L.out.step (Ext.refl _).drew).step hE).has.free _))
          have N : Hid (Loc w (w2.setCell ⟨b, q * R + k, none⟩ (.int .i64 (gi xs (k * C + q)))) w_4.heap.size b [.int .i64 P, .int .i64 C, .int .i64 R, .slice (some ⟨b, 0, none⟩) (C * R) (C * R)] (colTo xs R C k (transTo xs R C k) (q + 1))) :=
            ((L.out.step (Ext.refl _).drew).step hE).set (q * R + k) (by rw [HL.out]; exact d1) _
          have N1 : Hid (Cells (w2.setCell ⟨b, q * R + k, none⟩ (.int .i64 (gi xs (k * C + q)))) w.heap.size [.int .i64 P, .int .i64 R, .int .i64 C, .slice a n c]) :=
            ((MA.out.ext (Ext.refl _).drew).ext hE).grown (grownBy_set (p := ⟨b, q * R + k, none⟩) (grownBy_refl _ (some b)) rfl _) (fun z hz => by simp at hz; omega)
          have N2 : Hid (Cells (w2.setCell ⟨b, q * R + k, none⟩ (.int .i64 (gi xs (k * C + q)))) (w.heap.size + 1) [.int .i64 0, .int .i64 0, .int .i64 0, .slice none 0 0]) :=
            ((M4.out.ext (Ext.refl _).drew).ext hE).grown (grownBy_set (p := ⟨b, q * R + k, none⟩) (grownBy_refl _ (some b)) rfl _) (fun z hz => by simp at hz; have := HS.out; omega)
          clear v1 v2 v3 L MA M4 c1 f1 hE lA q0 q1 q2 q3 lB p0 p1 p2 p3
          go_wp2
          exact ⟨⟨q + 1, by omega, by simp, N, N1, N2⟩, by simp [intOf]; omega⟩
        · obtain rfl : q = C := by omega
          go_wp2
          exact ⟨⟨k + 1, by omega, by simp, L, MA, M4⟩, by simp [intOf]; omega⟩
    · obtain rfl : k = R := by omega
      have f0 := M4.out.2 0 _ rfl
      have f1 := M4.out.2 1 _ rfl
      have f2 := M4.out.2 2 _ rfl
      have f3 := M4.out.2 3 _ rfl
      have t0 := M4.out.3
      have p0 := L.out.box.2 0 _ rfl
      have p1 := L.out.box.2 1 _ rfl
      have p2 := L.out.box.2 2 _ rfl
      have p3 := L.out.box.2 3 _ rfl
      go_wp2
      refine bodyPost_ret (v := .agg #[.int .i64 P, .int .i64 C, .int .i64 k, .slice (some ⟨b, 0, none⟩) (C * k) (C * k)]) (by simp [results, Try.results71, go_sem, f0, f1, f2, f3]) rfl ⟨b, rfl, L.out.lo, ?_, ?_, ?_⟩
      · have := L.out.lt; simpa using this
      · have := HS.out
        repeat with_reducible (first | exact L.out.has | refine Has.setOther ?_ (by simp <;> omega) _)
      · exact ext4 L.out.ext (by omega) _ _ _ _

set_option maxHeartbeats 800000 in
theorem rowOf_gen (P R : Int) (C i b0 o0 n d : Nat) (w : World) (hlt : (i + 1) * C ≤ n) (hn : n ≤ 1048576) (hi : i ≤ 1048576) (hd : n ≤ d) (hd2 : d ≤ maxLen) :
    Calls Try.prog 111 #[.agg #[.int .i64 P, .int .i64 R, .int .i64 C, .slice (some ⟨b0, o0, none⟩) n d], .int .i64 i] w fun e w' => e = .returned (.slice (some ⟨b0, o0 + i * C, none⟩) C (d - i * C)) ∧ Ext w w' := by
  unfold maxLen at hd2
  have e0 : (i + 1) * C = i * C + C := by rw [Nat.add_mul]; omega
  have e1 : (i : Int) * (C : Int) = ((i * C : Nat) : Int) := by simp
  have e2 : ((i : Int) + 1) * (C : Int) = ((i * C + C : Nat) : Int) := by rw [← e0]; simp
  have g1 : 0 ≤ (i : Int) * (C : Int) := by rw [e1]; omega
  have g2 : (i : Int) * (C : Int) ≤ 1048576 := by rw [e1]; omega
  have g3 : 0 ≤ ((i : Int) + 1) * (C : Int) := by rw [e2]; omega
  have g4 : ((i : Int) + 1) * (C : Int) ≤ (d : Int) := by rw [e2]; omega
  have g7 : ((i : Int) + 1) * (C : Int) ≤ 1048576 := by rw [e2]; omega
  have g5 : (i : Int) * (C : Int) ≤ ((i : Int) + 1) * (C : Int) := by rw [e1, e2]; omega
  have g6 : (i : Int) ≤ 1048576 := by omega
  have E0 := Lib.hid e0
  clear e0 e1 e2
  have HLT := Lib.hid hlt
  go_enter Try.func111, Try.ntmps111
  go_wp2
  case inl =>
    have e3 : C = 0 := by have := E0.out; omega
    subst e3
    simp only [Nat.mul_zero] at h
    subst h
    go_ret
    exact ⟨by simp, (Ext.refl _).alloc _⟩
  case inr =>
    have e3 : (i + 1) * C - i * C = C := by have := E0.out; omega
    go_ret
    exact ⟨by simp [e3], (Ext.refl _).alloc _⟩
theorem rowOf_impl (P R : Int) (C i b0 o0 n : Nat) (w : World) (hlt : (i + 1) * C ≤ n) (hn : n ≤ 1048576) (hi : i ≤ 1048576) :
    Calls Try.prog 111 #[.agg #[.int .i64 P, .int .i64 R, .int .i64 C, .slice (some ⟨b0, o0, none⟩) n n], .int .i64 i] w fun e w' => e = .returned (.slice (some ⟨b0, o0 + i * C, none⟩) C (n - i * C)) ∧ Ext w w' :=
  rowOf_gen P R C i b0 o0 n n w hlt hn hi (Nat.le_refl _) (by unfold maxLen; omega)

set_option maxRecDepth 100000 in
set_option maxHeartbeats 3200000 in
theorem transpose_impl (P : Int) (R C b0 o0 n d : Nat) (xs : List Int) (w : World) (hr : Reads w (some ⟨b0, o0, none⟩) n xs) (hn : n = R * C) (hm : n ≤ 1048576) (hR : R ≤ 1048576) (hC : C ≤ 1048576) (hd : n ≤ d) (hd2 : d ≤ maxLen) :
    Calls Try.prog 74 #[.agg #[.int .i64 P, .int .i64 R, .int .i64 C, .slice (some ⟨b0, o0, none⟩) n d]] w fun e w' => ∃ b, e = .returned (.agg #[.int .i64 P, .int .i64 C, .int .i64 R, .slice (some ⟨b, 0, none⟩) (C * R) (C * R)]) ∧ w.heap.size ≤ b ∧ b < w'.heap.size ∧ Has w' b (transTo xs R C R) ∧ Ext w w' := by
  have HR := Lib.hid hr
  have HN := Lib.hid hn
  have hcr : C * R = n := by rw [hn, Nat.mul_comm]
  have hcb : C * R ≤ 1048576 := by omega
  have HCB := Lib.hid hcb
  have HD := Lib.hid hd2
  have e1 : (C : Int) * (R : Int) = ((C * R : Nat) : Int) := by simp
  have g0 : 0 ≤ (C : Int) * (R : Int) := by rw [e1]; omega
  have g1 : (C : Int) * (R : Int) ≤ 1048576 := by rw [e1]; omega
  have E1 : Hid (((C : Int) * (R : Int)).toNat = C * R) := by rw [Hid, e1, Int.toNat_natCast]
  clear hr hn e1 hcr hcb hd2
  go_enter Try.func74, Try.ntmps74
  have A0_1 := Lib.hid ((cells_new' w #[.int .i64 P, .int .i64 R, .int .i64 C, .slice (some ⟨b0, o0, none⟩) n d] 37 (w.heap.size) (by simp)).ext ((Ext.refl _).alloc (.cells #[.int .i64 0, .int .i64 0, .int .i64 0, .slice none 0 0] 37)))
  have R_2 := Lib.hid (cells_new' (w.alloc (.cells #[.int .i64 P, .int .i64 R, .int .i64 C, .slice (some ⟨b0, o0, none⟩) n d] 37)) #[.int .i64 0, .int .i64 0, .int .i64 0, .slice none 0 0] 37 (w.heap.size + 1) (by simp))
  have E_3 := Lib.hid (((Ext.refl w).alloc (.cells #[.int .i64 P, .int .i64 R, .int .i64 C, .slice (some ⟨b0, o0, none⟩) n d] 37)).alloc (.cells #[.int .i64 0, .int .i64 0, .int .i64 0, .slice none 0 0] 37))
  have hl0 := R_2.out.1
  have lA0 := A0_1.out.1
  have qA00 := A0_1.out.2 0 _ rfl
  have qA01 := A0_1.out.2 1 _ rfl
  have qA02 := A0_1.out.2 2 _ rfl
  have qA03 := A0_1.out.2 3 _ rfl
  try simp only [World.size_alloc] at lA0
  go_wp2_with fail
  refine (zeros_impl _ _ _ _ g0 g1).mono ?_
  rintro e w_4 ⟨b, rfl, hb1, hb2, hh, h_4⟩
  clear lA0 qA00 qA01 qA02 qA03
  rw [E1.out] at hh ⊢
  have hb3 := Nat.lt_of_lt_of_le hl0 hb1
  clear hl0
  have A0_5 := Lib.hid (A0_1.out.ext h_4)
  clear A0_1
  have R_6 := Lib.hid (R_2.out.ext h_4)
  clear R_2
  have E_7 := Lib.hid (E_3.out.trans h_4)
  clear E_3
  have L0 : Hid (Loc w (w_4.alloc (.cells #[.int .i64 P, .int .i64 C, .int .i64 R, .slice (some ⟨b, 0, none⟩) (C * R) (C * R)] 37)) w_4.heap.size b [.int .i64 P, .int .i64 C, .int .i64 R, .slice (some ⟨b, 0, none⟩) (C * R) (C * R)] (transTo xs R C 0)) :=
    ⟨cells_new _ _ _, hh.alloc _, E_7.out.alloc _, by omega, by simp; omega, by omega⟩
  have HA := Lib.hid (A0_5.out.ext ((Ext.refl _).alloc (.cells #[.int .i64 P, .int .i64 C, .int .i64 R, .slice (some ⟨b, 0, none⟩) (C * R) (C * R)] 37)))
  have H4 := Lib.hid (R_6.out.ext ((Ext.refl _).alloc (.cells #[.int .i64 P, .int .i64 C, .int .i64 R, .slice (some ⟨b, 0, none⟩) (C * R) (C * R)] 37)))
  have HS := Lib.hid hb3
  clear hb1 hb2 hb3 hh h_4 g0 g1
  have lA := HA.out.1
  have q0 := HA.out.2 0 _ rfl
  have q1 := HA.out.2 1 _ rfl
  have q2 := HA.out.2 2 _ rfl
  have q3 := HA.out.2 3 _ rfl
  go_wp2_with fail
  clear lA q0 q1 q2 q3
  go_loopw [16] (fun i wr => ∃ k : Nat, k ≤ R ∧ i = .int .i64 k ∧ Hid (Loc w wr w_4.heap.size b [.int .i64 P, .int .i64 C, .int .i64 R, .slice (some ⟨b, 0, none⟩) (C * R) (C * R)] (transTo xs R C k)) ∧ Hid (Cells wr w.heap.size [.int .i64 P, .int .i64 R, .int .i64 C, .slice (some ⟨b0, o0, none⟩) n d]) ∧ Hid (Cells wr (w.heap.size + 1) [.int .i64 0, .int .i64 0, .int .i64 0, .slice none 0 0])) (fun i _ => R - (intOf i).toNat)
  case atStart => exact ⟨0, by omega, rfl, L0, HA, H4⟩
  case round =>
    obtain ⟨k, hk, rfl, L, MA, M4⟩ := hrel
    have lA := MA.out.1
    have q0 := MA.out.2 0 _ rfl
    have q1 := MA.out.2 1 _ rfl
    have q2 := MA.out.2 2 _ rfl
    have q3 := MA.out.2 3 _ rfl
    by_cases hlt : k < R
    · go_wp2_with fail
      refine (rowOf_gen _ _ _ _ _ _ _ _ _ (by rw [HN.out]; exact Nat.mul_le_mul_right C hlt) hm (by omega) hd HD.out).mono ?_
      rintro e wo ⟨rfl, hE⟩
      have L1 := Lib.hid (L.out.step hE)
      have N1 := Lib.hid (MA.out.ext hE)
      have N4 := Lib.hid (M4.out.ext hE)
      clear lA q0 q1 q2 q3 L MA M4 hE
      go_wp2_with fail
      go_loopw [23] (fun j wr => ∃ q : Nat, q ≤ C ∧ j = .int .i64 q ∧ Hid (Loc w wr w_4.heap.size b [.int .i64 P, .int .i64 C, .int .i64 R, .slice (some ⟨b, 0, none⟩) (C * R) (C * R)] (colTo xs R C k (transTo xs R C k) q)) ∧ Hid (Cells wr w.heap.size [.int .i64 P, .int .i64 R, .int .i64 C, .slice (some ⟨b0, o0, none⟩) n d]) ∧ Hid (Cells wr (w.heap.size + 1) [.int .i64 0, .int .i64 0, .int .i64 0, .slice none 0 0])) (fun j _ => C - (intOf j).toNat)
      case atStart => exact ⟨0, by omega, rfl, L1, N1, N4⟩
      case round =>
        obtain ⟨q, hq, rfl, L, MA, M4⟩ := hrel
        by_cases hlt2 : q < C
        · have lB := L.out.box.1
          have p0 := L.out.box.2 0 _ rfl
          have p1 := L.out.box.2 1 _ rfl
          have p2 := L.out.box.2 2 _ rfl
          have p3 := L.out.box.2 3 _ rfl
          have d1 := place_lt hlt2 hlt
          have d2 := place_lt hlt hlt2
          rcases (HR.out.ext L.out.ext).2 with h | ⟨b', off', h, hb', hc'⟩
          · have := HN.out; omega
          simp only [Option.some.injEq, Addr.mk.injEq, and_true] at h
          obtain ⟨rfl, rfl⟩ := h
          have hc2 := hc' (k * C + q) (by rw [HN.out]; exact d2)
          rw [← Nat.add_assoc] at hc2
          clear hc'
          have e1 : (q : Int) * (R : Int) = ((q * R : Nat) : Int) := by simp
          have e2 : 0 ≤ (q : Int) * (R : Int) := by rw [e1]; omega
          have e3 : (q : Int) * (R : Int) ≤ 1048576 := by rw [e1]; have := HCB.out; omega
          have e4 : (q : Int) * (R : Int) + (k : Int) < ((C * R : Nat) : Int) := by rw [e1]; omega
          have e5 : 0 ≤ (q : Int) * (R : Int) + (k : Int) := by rw [e1]; omega
          have hl : (colTo xs R C k (transTo xs R C k) q).length = C * R := by rw [colTo_length, transTo_length]
          have HL := Lib.hid hl
          have c1 := L.out.has.cell (q * R + k) (by rw [HL.out]; exact d1)
          have f1 := L.out.has.free (q * R + k)
          have N : Hid (Loc w (wr.setCell ⟨b, q * R + k, none⟩ (.int .i64 (gi xs (k * C + q)))) w_4.heap.size b [.int .i64 P, .int .i64 C, .int .i64 R, .slice (some ⟨b, 0, none⟩) (C * R) (C * R)] (colTo xs R C k (transTo xs R C k) (q + 1))) :=
            L.out.set (q * R + k) (by rw [HL.out]; exact d1) _
          have N1 : Hid (Cells (wr.setCell ⟨b, q * R + k, none⟩ (.int .i64 (gi xs (k * C + q)))) w.heap.size [.int .i64 P, .int .i64 R, .int .i64 C, .slice (some ⟨b0, o0, none⟩) n d]) :=
            MA.out.grown (grownBy_set (p := ⟨b, q * R + k, none⟩) (grownBy_refl _ (some b)) rfl _) (fun z hz => by simp at hz; have := HS.out; omega)
          have N2 : Hid (Cells (wr.setCell ⟨b, q * R + k, none⟩ (.int .i64 (gi xs (k * C + q)))) (w.heap.size + 1) [.int .i64 0, .int .i64 0, .int .i64 0, .slice none 0 0]) :=
            M4.out.grown (grownBy_set (p := ⟨b, q * R + k, none⟩) (grownBy_refl _ (some b)) rfl _) (fun z hz => by simp at hz; have := HS.out; omega)
          clear e1 hl L MA M4
          go_wp2
          exact ⟨⟨q + 1, by omega, by simp, N, N1, N2⟩, by simp [intOf]; omega⟩
        · obtain rfl : q = C := by omega
          go_wp2
          exact ⟨⟨k + 1, by omega, by simp, L, MA, M4⟩, by simp [intOf]; omega⟩
    · obtain rfl : k = R := by omega
      have f0 := M4.out.2 0 _ rfl
      have f1 := M4.out.2 1 _ rfl
      have f2 := M4.out.2 2 _ rfl
      have f3 := M4.out.2 3 _ rfl
      have t0 := M4.out.3
      have p0 := L.out.box.2 0 _ rfl
      have p1 := L.out.box.2 1 _ rfl
      have p2 := L.out.box.2 2 _ rfl
      have p3 := L.out.box.2 3 _ rfl
      go_wp2
      refine bodyPost_ret (v := .agg #[.int .i64 P, .int .i64 C, .int .i64 k, .slice (some ⟨b, 0, none⟩) (C * k) (C * k)]) (by simp [results, Try.results74, go_sem, f0, f1, f2, f3]) rfl ⟨b, rfl, L.out.lo, ?_, ?_, ?_⟩
      · have := L.out.lt; simpa using this
      · have := HS.out
        repeat with_reducible (first | exact L.out.has | refine Has.setOther ?_ (by simp <;> omega) _)
      · exact ext4 L.out.ext (by omega) _ _ _ _

end Go.Proofs.Ytnikfalpjieibaa

/-
  Rows added to rows in place, and the product of matrices in the program.
-/
namespace Go.Proofs.Ytnikfalpjieibaa
open Go.RowKit
set_option linter.unusedVariables false
set_option linter.unusedSimpArgs false

theorem gi_set (l : List Int) (i q : Nat) (v : Int) (h : i < l.length) : gi (l.set i v) q = if q = i then v else gi l q := by
  simp only [gi, List.getD_eq_getElem?_getD, List.getElem?_set]
  by_cases e : i = q
  · subst e; simp [h]
  · rw [if_neg e, if_neg (Ne.symm e)]
/-- k times the numbers of ys from o2 on, added to those of l from o on: the first j of them. -/
def axTo (p k : Int) (ys : List Int) (o o2 : Nat) (l : List Int) : Nat → List Int
  | 0 => l
  | j + 1 => (axTo p k ys o o2 l j).set (o + j) ((gi l (o + j) + k * gi ys (o2 + j)) % p)
/-- .. all n of them; nothing where k is 0. -/
def axL (p k : Int) (ys : List Int) (o o2 n : Nat) (l : List Int) : List Int := if k = 0 then l else axTo p k ys o o2 l n
section
variable (p k : Int) (ys : List Int) (o o2 n : Nat) (l : List Int)
theorem axTo_length (j : Nat) : (axTo p k ys o o2 l j).length = l.length := by
  induction j with
  | zero => rfl
  | succ j ih => simp [axTo, ih]
theorem axL_length : (axL p k ys o o2 n l).length = l.length := by
  unfold axL; split
  · rfl
  · exact axTo_length ..
theorem gi_axTo_out (hl : o + n ≤ l.length) (q : Nat) (hq : q < o ∨ o + n ≤ q) (j : Nat) (hj : j ≤ n) : gi (axTo p k ys o o2 l j) q = gi l q := by
  induction j with
  | zero => rfl
  | succ j ih =>
    rw [axTo, gi_set _ _ _ _ (by rw [axTo_length]; omega), if_neg (by omega)]
    exact ih (by omega)
theorem gi_axTo_ge (hl : o + n ≤ l.length) (q j : Nat) (hq : o + j ≤ q) (hj : j ≤ n) : gi (axTo p k ys o o2 l j) q = gi l q := by
  induction j with
  | zero => rfl
  | succ j ih =>
    rw [axTo, gi_set _ _ _ _ (by rw [axTo_length]; omega), if_neg (by omega)]
    exact ih (by omega) (by omega)
theorem res_set (i : Nat) (v : Int) (h : Res l p) (h0 : 0 ≤ v) (h1 : v < p) : Res (l.set i v) p := by
  intro j hj
  rw [List.length_set] at hj
  by_cases hi : i < l.length
  · rw [gi_set _ _ _ _ hi]
    split
    · exact ⟨h0, h1⟩
    · exact h j hj
  · rw [List.set_eq_of_length_le (by omega)]
    exact h j hj
theorem axTo_res (hp : 0 < p) (h : Res l p) (j : Nat) : Res (axTo p k ys o o2 l j) p := by
  induction j with
  | zero => exact h
  | succ j ih => exact res_set _ _ _ _ ih (Int.emod_nonneg _ (by omega)) (Int.emod_lt_of_pos _ hp)
theorem axL_res (hp : 0 < p) (h : Res l p) : Res (axL p k ys o o2 n l) p := by
  unfold axL; split
  · exact h
  · exact axTo_res _ _ _ _ _ _ hp h _
end

set_option maxRecDepth 100000 in
set_option maxHeartbeats 1600000 in
theorem addToRow_impl (b o n c : Nat) (k : Int) (b' off' c' : Nat) (ys : List Int) (o2 : Nat) (p : Int) (l : List Int) (w : World)
    (hh : Has w b l) (hn : n ≤ 1048576) (hl : o + n ≤ l.length)
    (hoth : ∀ (wr : World) (l' : List Int), w.grownBy wr (some b) → Has wr b l' → (∀ q, q < o ∨ o + n ≤ q → gi l' q = gi l q) → l'.length = l.length → ∀ j, j < n → wr.cell? ⟨b', off' + j, none⟩ = some (.int .i64 (gi ys (o2 + j))))
    (hp : 2 ≤ p) (hp2 : p ≤ 10007) (hk0 : 0 ≤ k) (hk1 : k < p) (hx : ∀ j, j < n → 0 ≤ gi l (o + j) ∧ gi l (o + j) < p) (hy : ∀ j, j < n → 0 ≤ gi ys (o2 + j) ∧ gi ys (o2 + j) < p) :
    Calls Try.prog 101 #[.slice (some ⟨b, o, none⟩) n c, .int .i64 k, .slice (some ⟨b', off', none⟩) n c', .int .i64 p] w fun e w' => e = .returned (.tuple #[]) ∧ Has w' b (axL p k ys o o2 n l) ∧ w.grownBy w' (some b) := by
  by_cases hz : k = 0
  · subst hz
    have H1 : Hid (axL p 0 ys o o2 n l = l) := by simp [Hid, axL]
    go_enter Try.func101, Try.ntmps101
    go_wp2
    (try simp only [Exit.inBlock, Exit.then])
    refine bodyPost_ret (results_none rfl _ _ _) rfl ?_
    exact ⟨rfl, by rw [H1.out]; exact hh, grownBy_refl _ _⟩
  · have hb : (k == 0) = false := by simpa using hz
    have H1 : Hid (axL p k ys o o2 n l = axTo p k ys o o2 l n) := by rw [Hid, axL, if_neg hz]
    have HH := Lib.hid hh
    have HO := Lib.hid hoth
    have HX := Lib.hid hx
    have HY := Lib.hid hy
    clear hz hh hoth hx hy
    go_enter Try.func101, Try.ntmps101
    go_wp2
    go_loopw [14] (fun i wr => ∃ j : Nat, j ≤ n ∧ i = .int .i64 j ∧ Hid (Has wr b (axTo p k ys o o2 l j)) ∧ Hid (w.grownBy wr (some b))) (fun i _ => n - (intOf i).toNat)
    case atStart => exact ⟨0, by omega, rfl, HH.out, grownBy_refl _ _⟩
    case round =>
      obtain ⟨j, hj, rfl, h1, h2⟩ := hrel
      by_cases hlt : j < n
      · have c0 := HO.out wr _ h2.out h1.out (fun q hq => gi_axTo_out _ _ _ _ _ _ _ hl q hq j hj) (axTo_length ..) j hlt
        have c1 := h1.out.cell (o + j) (by rw [axTo_length]; omega)
        rw [gi_axTo_ge _ _ _ _ _ n _ hl _ _ (Nat.le_refl _) hj] at c1
        have f1 := h1.out.free (o + j)
        obtain ⟨x0, x1⟩ := HX.out j hlt
        obtain ⟨y0, y1⟩ := HY.out j hlt
        have m0 := Int.mul_nonneg hk0 y0
        have m1 := mul_hi hk0 hk1 y0 y1 hp2
        have N1 : Hid (Has (wr.setCell ⟨b, o + j, none⟩ (.int .i64 ((gi l (o + j) + k * gi ys (o2 + j)) % p))) b (axTo p k ys o o2 l (j + 1))) := h1.out.set (o + j) (by rw [axTo_length]; omega) _
        have N2 : Hid (w.grownBy (wr.setCell ⟨b, o + j, none⟩ (.int .i64 ((gi l (o + j) + k * gi ys (o2 + j)) % p))) (some b)) := grownBy_set (p := ⟨b, o + j, none⟩) h2.out rfl _
        clear h1 h2
        go_wp2
        exact ⟨⟨j + 1, by omega, by simp, N1, N2⟩, by simp [intOf]; omega⟩
      · obtain rfl : j = n := by omega
        go_wp2
        go_end0
        exact ⟨rfl, by rw [H1.out]; exact h1.out, h2.out⟩

theorem Loc.row {w wr wr' : World} {B b : Nat} {vs : List Value} {l l' : List Int} (h : Loc w wr B b vs l) (hh : Has wr' b l') (hg : wr.grownBy wr' (some b)) : Loc w wr' B b vs l' :=
  ⟨h.box.grown hg (fun k hk => by simp at hk; have := h.ne; omega), hh, h.ext.grown hg (fun k hk => by simp at hk; have := h.lo; omega), h.lo, Nat.lt_of_lt_of_le h.lt hg.size, h.ne⟩
theorem grownBy_trans {w w1 w2 : World} {r : Option Nat} (h : w.grownBy w1 r) (h' : w1.grownBy w2 r) : w.grownBy w2 r :=
  ⟨h'.os.trans h.os, h'.tape.trans h.tape, h'.output.trans h.output, Nat.le_trans h.size h'.size, fun k hk hne => (h'.block k (Nat.lt_of_lt_of_le hk h.size) hne).trans (h.block k hk hne)⟩
theorem grownBy_ext {w w1 w2 : World} {r : Option Nat} (h : w.grownBy w1 r) (hE : Ext w1 w2) : w.grownBy w2 r :=
  ⟨hE.os.trans h.os, hE.tape.trans h.tape, hE.output.trans h.output, Nat.le_trans h.size hE.le, fun k hk hne => (hE.block k (Nat.lt_of_lt_of_le hk h.size)).trans (h.block k hk hne)⟩
theorem ext_grownBy {w w1 : World} (h : Ext w w1) (r : Option Nat) : w.grownBy w1 r := ⟨h.os, h.tape, h.output, h.le, fun k hk _ => h.block k hk⟩
theorem keptB_grown {w w1 w2 : World} {b : Nat} (h : w.grownBy w1 (some b) ∧ ∀ B o, B ≠ b → B < w.heap.size → w1.cell? ⟨B, o, none⟩ = w.cell? ⟨B, o, none⟩) (hg : w1.grownBy w2 (some b)) : w.grownBy w2 (some b) ∧ ∀ B o, B ≠ b → B < w.heap.size → w2.cell? ⟨B, o, none⟩ = w.cell? ⟨B, o, none⟩ :=
  ⟨grownBy_trans h.1 hg, fun B o hB hl => (World.cell?_of_block (w := w1) (hg.block B (Nat.lt_of_lt_of_le hl h.1.size) (by simpa using hB))).trans (h.2 B o hB hl)⟩

/-- Row i of the product, its first k terms added. -/
def kTo (p : Int) (xs ys : List Int) (K Q i : Nat) (l : List Int) : Nat → List Int
  | 0 => l
  | k + 1 => axL p (gi xs (i * K + k)) ys (i * Q) (k * Q) Q (kTo p xs ys K Q i l k)
/-- The first i rows of the product. -/
def mulTo (p : Int) (xs ys : List Int) (R K Q : Nat) : Nat → List Int
  | 0 => List.replicate (R * Q) 0
  | i + 1 => kTo p xs ys K Q i (mulTo p xs ys R K Q i) K
theorem kTo_length (p : Int) (xs ys : List Int) (K Q i : Nat) (l : List Int) (k : Nat) : (kTo p xs ys K Q i l k).length = l.length := by
  induction k with
  | zero => rfl
  | succ k ih => rw [kTo, axL_length, ih]
theorem mulTo_length (p : Int) (xs ys : List Int) (R K Q i : Nat) : (mulTo p xs ys R K Q i).length = R * Q := by
  induction i with
  | zero => simp [mulTo]
  | succ i ih => rw [mulTo, kTo_length, ih]
theorem kTo_res (p : Int) (hp : 0 < p) (xs ys : List Int) (K Q i : Nat) (l : List Int) (h : Res l p) (k : Nat) : Res (kTo p xs ys K Q i l k) p := by
  induction k with
  | zero => exact h
  | succ k ih => exact axL_res _ _ _ _ _ _ _ hp ih
theorem gi_replicate (n i : Nat) : gi (List.replicate n 0) i = 0 := by
  simp only [gi, List.getD_eq_getElem?_getD, List.getElem?_replicate]
  split <;> rfl
theorem mulTo_res (p : Int) (hp : 0 < p) (xs ys : List Int) (R K Q i : Nat) : Res (mulTo p xs ys R K Q i) p := by
  induction i with
  | zero => intro j _; rw [mulTo, gi_replicate]; omega
  | succ i ih => exact kTo_res _ hp _ _ _ _ _ _ ih _
theorem row_le {R Q i : Nat} (h : i < R) : i * Q + Q ≤ R * Q := by
  have : (i + 1) * Q ≤ R * Q := Nat.mul_le_mul_right Q h
  rw [Nat.add_mul] at this
  omega

theorem gi_ext {a b : List Int} (hl : a.length = b.length) (h : ∀ k, k < a.length → gi a k = gi b k) : a = b := by
  apply List.ext_getElem hl
  intro k h1 h2
  have := h k h1
  simpa [gi, List.getD_eq_getElem?_getD, h1, h2] using this
/-- A row of l without residues stands in m: behind j of its places at most C, the others at most B. -/
structure RawI (P : Int) (o Q j : Nat) (B C : Int) (l m : List Int) : Prop where
  len : m.length = l.length
  out : ∀ q, q < o ∨ o + Q ≤ q → gi m q = gi l q
  row : ∀ t, t < Q → gi l (o + t) = gi m (o + t) % P ∧ 0 ≤ gi m (o + t) ∧ gi m (o + t) ≤ C
  rest : ∀ t, j ≤ t → t < Q → gi m (o + t) ≤ B
theorem RawI.start {P : Int} {o Q : Nat} {l : List Int} (h : ∀ t, t < Q → 0 ≤ gi l (o + t) ∧ gi l (o + t) < P) (h0 : ∀ t, t < Q → gi l (o + t) ≤ 0) : RawI P o Q 0 0 0 l l :=
  ⟨rfl, fun _ _ => rfl, fun t ht => ⟨(Int.emod_eq_of_lt (h t ht).1 (h t ht).2).symm, (h t ht).1, h0 t ht⟩, fun t _ ht => h0 t ht⟩
theorem RawI.more {P : Int} {o Q : Nat} {B C C' : Int} {l m : List Int} (h : RawI P o Q Q B C l m) (hC : C ≤ C') : RawI P o Q 0 C C' l m :=
  ⟨h.len, h.out, fun t ht => ⟨(h.row t ht).1, (h.row t ht).2.1, Int.le_trans (h.row t ht).2.2 hC⟩, fun t _ ht => (h.row t ht).2.2⟩
theorem RawI.wide {P : Int} {o Q : Nat} {B C B' C' : Int} {l m : List Int} (h : RawI P o Q 0 B C l m) (hB : B ≤ B') (hC : C ≤ C') : RawI P o Q Q B' C' l m :=
  ⟨h.len, h.out, fun t ht => ⟨(h.row t ht).1, (h.row t ht).2.1, Int.le_trans (h.row t ht).2.2 hC⟩, fun t h1 h2 => by omega⟩
theorem RawI.step {P : Int} {o Q j o2 : Nat} {B C x : Int} {l m ys : List Int} (h : RawI P o Q j B C (axTo P x ys o o2 l j) m) (hl : o + Q ≤ l.length) (hj : j < Q) (h0 : 0 ≤ x * gi ys (o2 + j)) (h1 : B + x * gi ys (o2 + j) ≤ C) :
    RawI P o Q (j + 1) B C (axTo P x ys o o2 l (j + 1)) (m.set (o + j) (gi m (o + j) + x * gi ys (o2 + j))) := by
  have hlen := h.len
  rw [axTo_length] at hlen
  have hi : o + j < m.length := by omega
  have hi2 : o + j < (axTo P x ys o o2 l j).length := by rw [axTo_length]; omega
  have hr := h.row j hj
  have hb := h.rest j (Nat.le_refl _) hj
  refine ⟨by rw [List.length_set, axTo_length, hlen], fun q hq => ?_, fun t ht => ?_, fun t h2 h3 => ?_⟩
  · rw [gi_set _ _ _ _ hi, if_neg (by omega), axTo, gi_set _ _ _ _ hi2, if_neg (by omega)]
    exact h.out q hq
  · rw [gi_set _ _ _ _ hi, axTo, gi_set _ _ _ _ hi2]
    by_cases e : o + t = o + j
    · rw [gi_axTo_ge _ _ _ _ _ Q _ hl _ _ (Nat.le_refl _) (Nat.le_of_lt hj)] at hr
      rw [if_pos e, if_pos e, hr.1]
      refine ⟨Int.emod_add_emod _ _ _, by omega, by omega⟩
    · rw [if_neg e, if_neg e]
      exact h.row t ht
  · rw [gi_set _ _ _ _ hi, if_neg (by omega)]
    exact h.rest t (by omega) h3
/-- The residues are taken from left to right: j of them have been. -/
structure RedI (P : Int) (o Q j : Nat) (C : Int) (l m : List Int) : Prop where
  len : m.length = l.length
  out : ∀ q, q < o + j ∨ o + Q ≤ q → gi m q = gi l q
  row : ∀ t, j ≤ t → t < Q → gi l (o + t) = gi m (o + t) % P ∧ 0 ≤ gi m (o + t) ∧ gi m (o + t) ≤ C
theorem RawI.red {P : Int} {o Q : Nat} {B C : Int} {l m : List Int} (h : RawI P o Q Q B C l m) : RedI P o Q 0 C l m :=
  ⟨h.len, fun q hq => h.out q (by omega), fun t _ ht => h.row t ht⟩
theorem RedI.step {P : Int} {o Q j : Nat} {C : Int} {l m : List Int} (h : RedI P o Q j C l m) (hl : o + Q ≤ l.length) (hj : j < Q) : RedI P o Q (j + 1) C l (m.set (o + j) (gi m (o + j) % P)) := by
  have hlen := h.len
  have hi : o + j < m.length := by omega
  refine ⟨by rw [List.length_set, hlen], fun q hq => ?_, fun t h1 h2 => ?_⟩
  · rw [gi_set _ _ _ _ hi]
    by_cases e : q = o + j
    · subst e; rw [if_pos rfl]; exact ((h.row j (Nat.le_refl _) hj).1).symm
    · rw [if_neg e]; exact h.out q (by omega)
  · rw [gi_set _ _ _ _ hi, if_neg (by omega)]
    exact h.row t (by omega) h2
theorem RedI.done {P : Int} {o Q : Nat} {C : Int} {l m : List Int} (h : RedI P o Q Q C l m) : m = l :=
  gi_ext h.len (fun q _ => h.out q (by omega))
theorem gi_kTo_out0 {p : Int} {xs ys : List Int} {K Q : Nat} (i : Nat) (l : List Int) (hl : i * Q + Q ≤ l.length) (k q : Nat) (hq : q < i * Q ∨ i * Q + Q ≤ q) : gi (kTo p xs ys K Q i l k) q = gi l q := by
  induction k with
  | zero => rfl
  | succ k ih =>
    rw [kTo, axL]
    split
    · exact ih
    · rw [gi_axTo_out (n := Q) _ _ _ _ _ _ (by rw [kTo_length]; exact hl) q hq Q (Nat.le_refl _)]; exact ih
/-- The rows that are not made yet are zeros. -/
theorem mulTo_rest {p : Int} {xs ys : List Int} {R K Q : Nat} (i : Nat) (hi : i ≤ R) (q : Nat) (hq : i * Q ≤ q) : gi (mulTo p xs ys R K Q i) q = 0 := by
  induction i with
  | zero => rw [mulTo, gi_replicate]
  | succ i ih =>
    have hb := row_le (Q := Q) (show i < R by omega)
    rw [Nat.add_mul, Nat.one_mul] at hq
    rw [mulTo, gi_kTo_out0 i _ (by rw [mulTo_length]; exact hb) K q (by omega)]
    exact ih (by omega) (by omega)

set_option maxRecDepth 100000 in
set_option maxHeartbeats 6400000 in
theorem product_any (P : Int) (R K Q a0 oa b0 ob n n' ca cb : Nat) (xs ys : List Int) (w : World) (hr : Reads w (some ⟨a0, oa, none⟩) n xs) (hr' : Reads w (some ⟨b0, ob, none⟩) n' ys) (hn : n = R * K) (hn' : n' = K * Q)
    (hR : R ≤ 1048576) (hK : K ≤ 1048576) (hQ : Q ≤ 1048576) (g40 : R * Q ≤ 1048576) (g41 : R * K ≤ 1048576) (g42 : K * Q ≤ 1048576) (hp : 2 ≤ P) (hp2 : P ≤ 10007) (hx : Res xs P) (hy : Res ys P) (hca : n ≤ ca) (hca2 : ca ≤ maxLen) (hcb : n' ≤ cb) (hcb2 : cb ≤ maxLen) :
    Calls Try.prog 117 #[.agg #[.int .i64 P, .int .i64 R, .int .i64 K, .slice (some ⟨a0, oa, none⟩) n ca], .agg #[.int .i64 P, .int .i64 K, .int .i64 Q, .slice (some ⟨b0, ob, none⟩) n' cb]] w fun e w' => ∃ b, e = .returned (.agg #[.int .i64 P, .int .i64 R, .int .i64 Q, .slice (some ⟨b, 0, none⟩) (R * Q) (R * Q)]) ∧ w.heap.size ≤ b ∧ b < w'.heap.size ∧ Has w' b (mulTo P xs ys R K Q R) ∧ Ext w w' := by
  have HR := Lib.hid hr
  have HR' := Lib.hid hr'
  have HN := Lib.hid hn
  have HN' := Lib.hid hn'
  have HCA := Lib.hid (And.intro hca hca2)
  have HCB := Lib.hid (And.intro hcb hcb2)
  have e1 : (R : Int) * (Q : Int) = ((R * Q : Nat) : Int) := by simp
  have g0 : 0 ≤ (R : Int) * (Q : Int) := by rw [e1]; omega
  have g1 : (R : Int) * (Q : Int) ≤ 1048576 := by rw [e1]; omega
  have E1 : Hid (((R : Int) * (Q : Int)).toNat = R * Q) := by rw [Hid, e1, Int.toNat_natCast]
  clear hr hr' hn hn' e1 hca hca2 hcb hcb2
  go_enter Try.func117, Try.ntmps117
  have A0_1 := Lib.hid (((cells_new' w #[.int .i64 P, .int .i64 R, .int .i64 K, .slice (some ⟨a0, oa, none⟩) n ca] 37 (w.heap.size) (by simp)).ext ((Ext.refl _).alloc (.cells #[.int .i64 P, .int .i64 K, .int .i64 Q, .slice (some ⟨b0, ob, none⟩) n' cb] 37))).ext ((Ext.refl _).alloc (.cells #[.int .i64 0, .int .i64 0, .int .i64 0, .slice none 0 0] 37)))
  have A1_2 := Lib.hid ((cells_new' (w.alloc (.cells #[.int .i64 P, .int .i64 R, .int .i64 K, .slice (some ⟨a0, oa, none⟩) n ca] 37)) #[.int .i64 P, .int .i64 K, .int .i64 Q, .slice (some ⟨b0, ob, none⟩) n' cb] 37 (w.heap.size + 1) (by simp)).ext ((Ext.refl _).alloc (.cells #[.int .i64 0, .int .i64 0, .int .i64 0, .slice none 0 0] 37)))
  have R_3 := Lib.hid (cells_new' ((w.alloc (.cells #[.int .i64 P, .int .i64 R, .int .i64 K, .slice (some ⟨a0, oa, none⟩) n ca] 37)).alloc (.cells #[.int .i64 P, .int .i64 K, .int .i64 Q, .slice (some ⟨b0, ob, none⟩) n' cb] 37)) #[.int .i64 0, .int .i64 0, .int .i64 0, .slice none 0 0] 37 (w.heap.size + 1 + 1) (by simp))
  have E_4 := Lib.hid ((((Ext.refl w).alloc (.cells #[.int .i64 P, .int .i64 R, .int .i64 K, .slice (some ⟨a0, oa, none⟩) n ca] 37)).alloc (.cells #[.int .i64 P, .int .i64 K, .int .i64 Q, .slice (some ⟨b0, ob, none⟩) n' cb] 37)).alloc (.cells #[.int .i64 0, .int .i64 0, .int .i64 0, .slice none 0 0] 37))
  have hl0 : w.heap.size + 1 + 1 + 1 ≤ (((w.alloc (.cells #[.int .i64 P, .int .i64 R, .int .i64 K, .slice (some ⟨a0, oa, none⟩) n ca] 37)).alloc (.cells #[.int .i64 P, .int .i64 K, .int .i64 Q, .slice (some ⟨b0, ob, none⟩) n' cb] 37)).alloc (.cells #[.int .i64 0, .int .i64 0, .int .i64 0, .slice none 0 0] 37)).heap.size := by simp
  have lA0 := A0_1.out.1
  have qA00 := A0_1.out.2 0 _ rfl
  have qA01 := A0_1.out.2 1 _ rfl
  have qA02 := A0_1.out.2 2 _ rfl
  have qA03 := A0_1.out.2 3 _ rfl
  have lA1 := A1_2.out.1
  have qA10 := A1_2.out.2 0 _ rfl
  have qA11 := A1_2.out.2 1 _ rfl
  have qA12 := A1_2.out.2 2 _ rfl
  have qA13 := A1_2.out.2 3 _ rfl
  try simp only [World.size_alloc] at lA0 lA1
  go_wp2_with fail
  refine (zeros_impl _ _ _ _ g0 g1).mono ?_
  rintro e w_5 ⟨b, rfl, hb1, hb2, hh, h_5⟩
  clear lA0 qA00 qA01 qA02 qA03 lA1 qA10 qA11 qA12 qA13
  rw [E1.out] at hh ⊢
  have hb3 := Nat.le_trans hl0 hb1
  clear hl0
  have A0_6 := Lib.hid (A0_1.out.ext h_5)
  clear A0_1
  have A1_7 := Lib.hid (A1_2.out.ext h_5)
  clear A1_2
  have R_8 := Lib.hid (R_3.out.ext h_5)
  clear R_3
  have E_9 := Lib.hid (E_4.out.trans h_5)
  clear E_4
  have L0 : Hid (Loc w (w_5.alloc (.cells #[.int .i64 P, .int .i64 R, .int .i64 Q, .slice (some ⟨b, 0, none⟩) (R * Q) (R * Q)] 37)) w_5.heap.size b [.int .i64 P, .int .i64 R, .int .i64 Q, .slice (some ⟨b, 0, none⟩) (R * Q) (R * Q)] (mulTo P xs ys R K Q 0)) :=
    ⟨cells_new _ _ _, hh.alloc _, E_9.out.alloc _, by omega, by simp; omega, by omega⟩
  have HA := Lib.hid (A0_6.out.ext ((Ext.refl _).alloc (.cells #[.int .i64 P, .int .i64 R, .int .i64 Q, .slice (some ⟨b, 0, none⟩) (R * Q) (R * Q)] 37)))
  have HB := Lib.hid (A1_7.out.ext ((Ext.refl _).alloc (.cells #[.int .i64 P, .int .i64 R, .int .i64 Q, .slice (some ⟨b, 0, none⟩) (R * Q) (R * Q)] 37)))
  have H4 := Lib.hid (R_8.out.ext ((Ext.refl _).alloc (.cells #[.int .i64 P, .int .i64 R, .int .i64 Q, .slice (some ⟨b, 0, none⟩) (R * Q) (R * Q)] 37)))
  have HS := Lib.hid hb3
  clear hb1 hb2 hb3 hh h_5
  have lA := HA.out.1
  have q1 := HA.out.2 1 _ rfl
  go_wp2_with fail
  clear lA q1
  go_loopw [22] (fun i wr => ∃ k : Nat, k ≤ R ∧ i = .int .i64 k ∧ Hid (Loc w wr w_5.heap.size b [.int .i64 P, .int .i64 R, .int .i64 Q, .slice (some ⟨b, 0, none⟩) (R * Q) (R * Q)] (mulTo P xs ys R K Q k)) ∧ Hid (Cells wr w.heap.size [.int .i64 P, .int .i64 R, .int .i64 K, .slice (some ⟨a0, oa, none⟩) n ca]) ∧ Hid (Cells wr (w.heap.size + 1) [.int .i64 P, .int .i64 K, .int .i64 Q, .slice (some ⟨b0, ob, none⟩) n' cb]) ∧ Hid (Cells wr (w.heap.size + 1 + 1) [.int .i64 0, .int .i64 0, .int .i64 0, .slice none 0 0])) (fun i _ => R - (intOf i).toNat)
  case atStart => exact ⟨0, by omega, rfl, L0, HA, HB, H4⟩
  case round =>
    obtain ⟨i, hi, rfl, L, MA, MB, M4⟩ := hrel
    by_cases hlt : i < R
    · have nA : w.heap.size ≠ b := by have := HS.out; omega
      have nB : w.heap.size + 1 ≠ b := by have := HS.out; omega
      have n4 : w.heap.size + 1 + 1 ≠ b := by have := HS.out; omega
      have hrow := Lib.hid (row_le (Q := Q) hlt)
      have lB := L.out.box.1
      have p0 := L.out.box.2 0 _ rfl
      have p1 := L.out.box.2 1 _ rfl
      have p2 := L.out.box.2 2 _ rfl
      have p3 := L.out.box.2 3 _ rfl
      go_wp2_with fail
      refine (rowOf_impl _ _ _ _ _ _ _ _ (Nat.mul_le_mul_right Q hlt) (by omega) (by omega)).mono ?_
      rintro e w1 ⟨rfl, hE⟩
      have L1 := Lib.hid (L.out.step hE)
      have MA1 := Lib.hid (MA.out.ext hE)
      have MB1 := Lib.hid (MB.out.ext hE)
      have M41 := Lib.hid (M4.out.ext hE)
      clear lB p0 p1 p2 p3 L MA MB M4 hE
      have lA := MA1.out.1
      have q0 := MA1.out.2 0 _ rfl
      have q1 := MA1.out.2 1 _ rfl
      have q2 := MA1.out.2 2 _ rfl
      have q3 := MA1.out.2 3 _ rfl
      go_wp2_with fail
      refine (rowOf_gen _ _ _ _ _ _ n ca _ (by rw [HN.out]; exact Nat.mul_le_mul_right K hlt) (by rw [HN.out]; omega) (by omega) HCA.out.1 HCA.out.2).mono ?_
      rintro e w2 ⟨rfl, hE⟩
      have L2 := Lib.hid (L1.out.step hE)
      have MA2 := Lib.hid (MA1.out.ext hE)
      have MB2 := Lib.hid (MB1.out.ext hE)
      have M42 := Lib.hid (M41.out.ext hE)
      clear lA q0 q1 q2 q3 L1 MA1 MB1 M41 hE
      have I2 : Hid (RawI P (i * Q) Q Q 0 0 (mulTo P xs ys R K Q i) (mulTo P xs ys R K Q i)) := (RawI.start (fun t ht => mulTo_res P (by omega) _ _ _ _ _ _ (i * Q + t) (by rw [mulTo_length]; have := hrow.out; omega)) (fun t ht => by rw [mulTo_rest i hi _ (by omega)]; exact Int.le_refl _)).wide (Int.le_refl _) (Int.le_refl _)
      go_wp2_with fail
      go_loopw [32] (fun z wr => ∃ (k : Nat) (m : List Int), k ≤ K ∧ z = .int .i64 k ∧ Hid (RawI P (i * Q) Q Q ((k : Int) * 100140049) ((k : Int) * 100140049) (kTo P xs ys K Q i (mulTo P xs ys R K Q i) k) m) ∧ Hid (Loc w wr w_5.heap.size b [.int .i64 P, .int .i64 R, .int .i64 Q, .slice (some ⟨b, 0, none⟩) (R * Q) (R * Q)] m) ∧ Hid (Cells wr w.heap.size [.int .i64 P, .int .i64 R, .int .i64 K, .slice (some ⟨a0, oa, none⟩) n ca]) ∧ Hid (Cells wr (w.heap.size + 1) [.int .i64 P, .int .i64 K, .int .i64 Q, .slice (some ⟨b0, ob, none⟩) n' cb]) ∧ Hid (Cells wr (w.heap.size + 1 + 1) [.int .i64 0, .int .i64 0, .int .i64 0, .slice none 0 0])) (fun z _ => K - (intOf z).toNat)
      case atStart => exact ⟨0, _, by omega, rfl, by simp only [kTo]; simpa using I2, L2, MA2, MB2, M42⟩
      case round =>
        clear I2 L2 MA2 MB2 M42
        obtain ⟨k, m, hk, rfl, I, L, MA, MB, M4⟩ := hrel
        have hml : Hid (m.length = R * Q) := by rw [Hid, I.out.len, kTo_length, mulTo_length]
        by_cases hlt2 : k < K
        · have d2 := place_lt hlt hlt2
          obtain ⟨hc2, hblt⟩ : wr.cell? ⟨a0, oa + i * K + k, none⟩ = some (.int .i64 (gi xs (i * K + k))) ∧ a0 < wr.heap.size := by
            rcases (HR.out.ext L.out.ext).2 with h | ⟨b', off', h, hb', hc'⟩
            · have := HN.out; omega
            simp only [Option.some.injEq, Addr.mk.injEq, and_true] at h
            obtain ⟨rfl, rfl⟩ := h
            exact ⟨by rw [Nat.add_assoc]; exact hc' (i * K + k) (by rw [HN.out]; exact d2), hb'⟩
          obtain ⟨x0, x1⟩ := hx (i * K + k) (by rw [HR.out.1, HN.out]; exact d2)
          have hkk : Hid ((kTo P xs ys K Q i (mulTo P xs ys R K Q i) (k + 1)) = axL P (gi xs (i * K + k)) ys (i * Q) (k * Q) Q (kTo P xs ys K Q i (mulTo P xs ys R K Q i) k)) := rfl
          clear d2
          generalize gi xs (i * K + k) = x at x0 x1 hkk hc2
          by_cases hz : x = 0
          · subst hz
            have I3 : Hid (RawI P (i * Q) Q Q ((((k + 1 : Nat) : Nat) : Int) * 100140049) ((((k + 1 : Nat) : Nat) : Int) * 100140049) (kTo P xs ys K Q i (mulTo P xs ys R K Q i) (k + 1)) m) := by
              rw [Hid, hkk.out]
              simp only [axL, if_true]
              exact (I.out.more (Int.le_refl _)).wide (by omega) (by omega)
            clear I hkk x0 x1
            go_wp2
            exact ⟨⟨k + 1, m, by omega, by simp, I3, L, MA, MB, M4⟩, by simp [intOf]; omega⟩
          · have hxb : (x == 0) = false := by simpa using hz
            have hk2 : Hid ((kTo P xs ys K Q i (mulTo P xs ys R K Q i) (k + 1)) = axTo P x ys (i * Q) (k * Q) (kTo P xs ys K Q i (mulTo P xs ys R K Q i) k) Q) := by rw [Hid, hkk.out]; simp [axL, hz]
            have hcol := Lib.hid (row_le (Q := Q) hlt2)
            have lB := MB.out.1
            have r0 := MB.out.2 0 _ rfl
            have r1 := MB.out.2 1 _ rfl
            have r2 := MB.out.2 2 _ rfl
            have r3 := MB.out.2 3 _ rfl
            clear hkk hz
            go_wp2_with fail
            refine (rowOf_gen _ _ _ _ _ _ n' cb _ (by rw [HN'.out]; exact Nat.mul_le_mul_right Q hlt2) (by rw [HN'.out]; omega) (by omega) HCB.out.1 HCB.out.2).mono ?_
            rintro e w3 ⟨rfl, hE⟩
            have L3 := Lib.hid (L.out.step hE)
            have MA3 := Lib.hid (MA.out.ext hE)
            have MB3 := Lib.hid (MB.out.ext hE)
            have M43 := Lib.hid (M4.out.ext hE)
            have I3 : Hid (RawI P (i * Q) Q 0 ((k : Int) * 100140049) ((k : Int) * 100140049 + 100140049) (axTo P x ys (i * Q) (k * Q) (kTo P xs ys K Q i (mulTo P xs ys R K Q i) k) 0) m) := I.out.more (by omega)
            clear lB r0 r1 r2 r3 L MA MB M4 hE I hc2 hblt
            go_wp2_with fail
            go_loopw [43] (fun z wr => ∃ (j : Nat) (m : List Int), j ≤ Q ∧ z = .int .i64 j ∧ Hid (RawI P (i * Q) Q j ((k : Int) * 100140049) ((k : Int) * 100140049 + 100140049) (axTo P x ys (i * Q) (k * Q) (kTo P xs ys K Q i (mulTo P xs ys R K Q i) k) j) m) ∧ Hid (Loc w wr w_5.heap.size b [.int .i64 P, .int .i64 R, .int .i64 Q, .slice (some ⟨b, 0, none⟩) (R * Q) (R * Q)] m) ∧ Hid (Cells wr w.heap.size [.int .i64 P, .int .i64 R, .int .i64 K, .slice (some ⟨a0, oa, none⟩) n ca]) ∧ Hid (Cells wr (w.heap.size + 1) [.int .i64 P, .int .i64 K, .int .i64 Q, .slice (some ⟨b0, ob, none⟩) n' cb]) ∧ Hid (Cells wr (w.heap.size + 1 + 1) [.int .i64 0, .int .i64 0, .int .i64 0, .slice none 0 0])) (fun z _ => Q - (intOf z).toNat)
            case atStart => exact ⟨0, m, by omega, rfl, I3, L3, MA3, MB3, M43⟩
            case round =>
              clear I3 L3 MA3 MB3 M43 hml
              obtain ⟨j, m, hj, rfl, I, L, MA, MB, M4⟩ := hrel
              have hll : Hid ((kTo P xs ys K Q i (mulTo P xs ys R K Q i) k).length = R * Q) := by rw [Hid, kTo_length, mulTo_length]
              have hml : Hid (m.length = R * Q) := by rw [Hid, I.out.len, axTo_length, kTo_length, mulTo_length]
              by_cases hlt3 : j < Q
              · obtain ⟨hc3, hblt⟩ : wr.cell? ⟨b0, ob + k * Q + j, none⟩ = some (.int .i64 (gi ys (k * Q + j))) ∧ b0 < wr.heap.size := by
                  rcases (HR'.out.ext L.out.ext).2 with h | ⟨b', off', h, hb', hc'⟩
                  · have := HN'.out; have := hcol.out; omega
                  simp only [Option.some.injEq, Addr.mk.injEq, and_true] at h
                  obtain ⟨rfl, rfl⟩ := h
                  exact ⟨by rw [Nat.add_assoc]; exact hc' (k * Q + j) (by rw [HN'.out]; have := hcol.out; omega), hb'⟩
                obtain ⟨y0, y1⟩ := hy (k * Q + j) (by rw [HR'.out.1, HN'.out]; have := hcol.out; omega)
                have m0 := Int.mul_nonneg x0 y0
                have m1 := mul_hi x0 x1 y0 y1 hp2
                have I4 := Lib.hid (I.out.step (by rw [hll.out]; exact hrow.out) hlt3 m0 (by omega))
                obtain ⟨u1, u0, u2⟩ := I.out.row j hlt3
                have hlj : i * Q + j < m.length := by rw [hml.out]; have := hrow.out; omega
                have c1 := L.out.has.cell (i * Q + j) hlj
                have f1 := L.out.has.free (i * Q + j)
                have hbl := L.out.lt
                have N : Hid (Loc w (wr.setCell ⟨b, i * Q + j, none⟩ (.int .i64 (gi m (i * Q + j) + x * gi ys (k * Q + j)))) w_5.heap.size b [.int .i64 P, .int .i64 R, .int .i64 Q, .slice (some ⟨b, 0, none⟩) (R * Q) (R * Q)] (m.set (i * Q + j) (gi m (i * Q + j) + x * gi ys (k * Q + j)))) := L.out.set (i * Q + j) hlj _
                have ND : ∀ (B : Nat) (vs : List Value) (v : Value), B ≠ b → Cells wr B vs → Cells (wr.setCell ⟨b, i * Q + j, none⟩ v) B vs := fun B vs v hB h =>
                  h.grown (grownBy_set (p := ⟨b, i * Q + j, none⟩) (grownBy_refl _ (some b)) rfl _) (fun z hz => by simp at hz; omega)
                have N1 := Lib.hid (ND _ _ (.int .i64 (gi m (i * Q + j) + x * gi ys (k * Q + j))) nA MA.out)
                have N2 := Lib.hid (ND _ _ (.int .i64 (gi m (i * Q + j) + x * gi ys (k * Q + j))) nB MB.out)
                have N3 := Lib.hid (ND _ _ (.int .i64 (gi m (i * Q + j) + x * gi ys (k * Q + j))) n4 M4.out)
                clear ND MA MB M4 L I u1 hll hml
                generalize gi ys (k * Q + j) = y at *
                generalize gi m (i * Q + j) = u at *
                go_wp2
                exact ⟨⟨j + 1, _, by omega, by simp, I4, N, N1, N2, N3⟩, by simp [intOf]; omega⟩
              · obtain rfl : j = Q := by omega
                have I4 : Hid (RawI P (i * j) j j ((((k + 1 : Nat) : Nat) : Int) * 100140049) ((((k + 1 : Nat) : Nat) : Int) * 100140049) (kTo P xs ys K j i (mulTo P xs ys R K j i) (k + 1)) m) := by
                  rw [Hid, hk2.out]
                  exact (I.out.more (Int.le_refl _)).wide (by omega) (by omega)
                clear I
                go_wp2
                exact ⟨⟨k + 1, m, by omega, by simp, I4, L, MA, MB, M4⟩, by simp [intOf]; omega⟩
        · obtain rfl : k = K := by omega
          have hmm : Hid (mulTo P xs ys R k Q (i + 1) = kTo P xs ys k Q i (mulTo P xs ys R k Q i) k) := rfl
          have I3 := Lib.hid I.out.red
          clear I
          go_wp2_with fail
          go_loopw [61] (fun z wr => ∃ (j : Nat) (m : List Int), j ≤ Q ∧ z = .int .i64 j ∧ Hid (RedI P (i * Q) Q j ((k : Int) * 100140049) (kTo P xs ys k Q i (mulTo P xs ys R k Q i) k) m) ∧ Hid (Loc w wr w_5.heap.size b [.int .i64 P, .int .i64 R, .int .i64 Q, .slice (some ⟨b, 0, none⟩) (R * Q) (R * Q)] m) ∧ Hid (Cells wr w.heap.size [.int .i64 P, .int .i64 R, .int .i64 k, .slice (some ⟨a0, oa, none⟩) n ca]) ∧ Hid (Cells wr (w.heap.size + 1) [.int .i64 P, .int .i64 k, .int .i64 Q, .slice (some ⟨b0, ob, none⟩) n' cb]) ∧ Hid (Cells wr (w.heap.size + 1 + 1) [.int .i64 0, .int .i64 0, .int .i64 0, .slice none 0 0])) (fun z _ => Q - (intOf z).toNat)
          case atStart => exact ⟨0, m, by omega, rfl, I3, L, MA, MB, M4⟩
          case round =>
            clear I3 L MA MB M4 hml
            obtain ⟨j, m, hj, rfl, I, L, MA, MB, M4⟩ := hrel
            have hll : Hid ((kTo P xs ys k Q i (mulTo P xs ys R k Q i) k).length = R * Q) := by rw [Hid, kTo_length, mulTo_length]
            have hml : Hid (m.length = R * Q) := by rw [Hid, I.out.len, hll.out]
            by_cases hlt3 : j < Q
            · have I4 := Lib.hid (I.out.step (by rw [hll.out]; exact hrow.out) hlt3)
              obtain ⟨u1, u0, u2⟩ := I.out.row j (Nat.le_refl _) hlt3
              have hlj : i * Q + j < m.length := by rw [hml.out]; have := hrow.out; omega
              have c1 := L.out.has.cell (i * Q + j) hlj
              have f1 := L.out.has.free (i * Q + j)
              have hbl := L.out.lt
              have lA := MA.out.1
              have q0 := MA.out.2 0 _ rfl
              have N : Hid (Loc w (wr.drew.setCell ⟨b, i * Q + j, none⟩ (.int .i64 (gi m (i * Q + j) % P))) w_5.heap.size b [.int .i64 P, .int .i64 R, .int .i64 Q, .slice (some ⟨b, 0, none⟩) (R * Q) (R * Q)] (m.set (i * Q + j) (gi m (i * Q + j) % P))) := (L.out.step (Ext.refl _).drew).set (i * Q + j) hlj _
              have ND : ∀ (B : Nat) (vs : List Value) (v : Value), B ≠ b → Cells wr B vs → Cells (wr.drew.setCell ⟨b, i * Q + j, none⟩ v) B vs := fun B vs v hB h =>
                (h.ext (Ext.refl _).drew).grown (grownBy_set (p := ⟨b, i * Q + j, none⟩) (grownBy_refl _ (some b)) rfl _) (fun z hz => by simp at hz; omega)
              have N1 := Lib.hid (ND _ _ (.int .i64 (gi m (i * Q + j) % P)) nA MA.out)
              have N2 := Lib.hid (ND _ _ (.int .i64 (gi m (i * Q + j) % P)) nB MB.out)
              have N3 := Lib.hid (ND _ _ (.int .i64 (gi m (i * Q + j) % P)) n4 M4.out)
              have v6 : (P = 0) = False := eq_false (by omega)
              have v7 : (gi m (i * Q + j)).tmod P = gi m (i * Q + j) % P := IntWalk.rem_in _ _ (by omega)
              clear ND MA MB M4 L I u1 hll hml
              generalize gi m (i * Q + j) = u at *
              go_wp2_with fail
              refine wp_region_held_drew (S := (fun w' => wr.grownBy w' (some b) ∧ ∀ B o, B ≠ b → B < wr.heap.size → w'.cell? ⟨B, o, none⟩ = wr.cell? ⟨B, o, none⟩)) (by kernel_rfl) keptB_drew (fun hHeld => ?_)
              refine wpAnyH_take (i := 0) (v := ?v1) rfl (by kernel_rfl) (by kernel_rfl) (by kernel_rfl) (fun _ _ _ h => h) (Or.inl ⟨by rfl, ?hy1⟩) hHeld ?rest1
              case hy1 => (intro wz hSw; (try dsimp only at hSw); go_simp; (try with_reducible rfl))
              (try simp only [Act.put, List.getElem_toArray, List.getElem_cons_succ, List.getElem_cons_zero]); (try simp only [List.setIfInBounds_toArray]); (try simp only [List.set_cons_succ]); (try simp only [List.set_cons_zero])
              refine wpAnyH_take (i := 1) (v := ?v2) rfl (by kernel_rfl) (by kernel_rfl) (by kernel_rfl) (fun _ _ _ h => h) (Or.inl ⟨by rfl, ?hy2⟩) hHeld ?rest2
              case hy2 => (intro wz hSw; (try dsimp only at hSw); go_simp; (try with_reducible rfl))
              (try simp only [Act.put, List.getElem_toArray, List.getElem_cons_succ, List.getElem_cons_zero]); (try simp only [List.setIfInBounds_toArray]); (try simp only [List.set_cons_succ]); (try simp only [List.set_cons_zero])
              refine wpAnyH_take (i := 2) (v := ?v3) rfl (by kernel_rfl) (by kernel_rfl) (by kernel_rfl) (fun _ _ _ h => h) (Or.inl ⟨by rfl, ?hy3⟩) hHeld ?rest3
              case hy3 => (intro wz hSw; (try dsimp only at hSw); go_simp; (try with_reducible rfl))
              (try simp only [Act.put, List.getElem_toArray, List.getElem_cons_succ, List.getElem_cons_zero]); (try simp only [List.setIfInBounds_toArray]); (try simp only [List.set_cons_succ]); (try simp only [List.set_cons_zero])
              refine wpAnyH_take (i := 4) (v := ?v4) rfl (by kernel_rfl) (by kernel_rfl) (by kernel_rfl) (fun _ _ _ h => h) (Or.inl ⟨by rfl, ?hy4⟩) hHeld ?rest4
              case hy4 => (intro wz hSw; (try dsimp only at hSw); go_simp; (try with_reducible rfl))
              (try simp only [Act.put, List.getElem_toArray, List.getElem_cons_succ, List.getElem_cons_zero]); (try simp only [List.setIfInBounds_toArray]); (try simp only [List.set_cons_succ]); (try simp only [List.set_cons_zero])
              refine wpAnyH_take (i := 5) (v := ?v5) rfl (by kernel_rfl) (by kernel_rfl) (by kernel_rfl) (fun _ _ _ h => h) (Or.inl ⟨by rfl, ?hy5⟩) hHeld ?rest5
              case hy5 => (intro wz hSw; (try dsimp only at hSw); go_simp; (try with_reducible rfl))
              (try simp only [Act.put, List.getElem_toArray, List.getElem_cons_succ, List.getElem_cons_zero]); (try simp only [List.setIfInBounds_toArray]); (try simp only [List.set_cons_succ]); (try simp only [List.set_cons_zero])
              refine wpAnyH_ready (rs := [3]) (by kernel_rfl) (by simp) ?_
              refine AllReadyH.cons rfl (fun K' hK => ?_) AllReadyH.nil
              go_simp
              refine hK.out _ _ hHeld (fun hHeld => ?_)
              clear hK
              refine wpAnyH_take (i := 6) (v := ?v6) rfl (by kernel_rfl) (by kernel_rfl) (by kernel_rfl) (fun _ _ _ h => h) (Or.inl ⟨by rfl, ?hy6⟩) hHeld ?rest6
              case hy6 => (intro wz hSw; (try dsimp only at hSw); go_simp; (try with_reducible rfl))
              (try simp only [Act.put, List.getElem_toArray, List.getElem_cons_succ, List.getElem_cons_zero]); (try simp only [List.setIfInBounds_toArray]); (try simp only [List.set_cons_succ]); (try simp only [List.set_cons_zero])
              refine wpAnyH_take (i := 7) (v := ?v7) rfl (by kernel_rfl) (by kernel_rfl) (by kernel_rfl) (fun _ _ _ h => h) (Or.inl ⟨by rfl, ?hy7⟩) hHeld ?rest7
              case hy7 => (intro wz hSw; (try dsimp only at hSw); go_simp; (try with_reducible rfl))
              (try simp only [Act.put, List.getElem_toArray, List.getElem_cons_succ, List.getElem_cons_zero]); (try simp only [List.setIfInBounds_toArray]); (try simp only [List.set_cons_succ]); (try simp only [List.set_cons_zero])
              refine wpAnyH_ready (rs := [8]) (by kernel_rfl) (by simp) ?_
              refine AllReadyH.cons rfl (fun K' hK => ?_) AllReadyH.nil
              go_simp
              refine hK.out _ _ (keptB_set hHeld _ _) (fun hHeld => ?_)
              refine wpAnyH_done (by kernel_rfl) ?_ _
              go_wp2
              exact ⟨⟨j + 1, _, by omega, by simp, I4, N, N1, N2, N3⟩, by simp [intOf]; omega⟩
            · obtain rfl : j = Q := by omega
              obtain rfl := I.out.done
              clear I
              go_wp2
              exact ⟨⟨i + 1, by omega, by simp, by rw [hmm.out]; exact L, MA, MB, M4⟩, by simp [intOf]; omega⟩
    · obtain rfl : i = R := by omega
      have f0 := M4.out.2 0 _ rfl
      have f1 := M4.out.2 1 _ rfl
      have f2 := M4.out.2 2 _ rfl
      have f3 := M4.out.2 3 _ rfl
      have t0 := M4.out.3
      have p0 := L.out.box.2 0 _ rfl
      have p1 := L.out.box.2 1 _ rfl
      have p2 := L.out.box.2 2 _ rfl
      have p3 := L.out.box.2 3 _ rfl
      go_wp2
      refine bodyPost_ret (v := .agg #[.int .i64 P, .int .i64 i, .int .i64 Q, .slice (some ⟨b, 0, none⟩) (i * Q) (i * Q)]) (by simp [results, Try.results117, go_sem, f0, f1, f2, f3]) rfl ⟨b, rfl, L.out.lo, ?_, ?_, ?_⟩
      · have := L.out.lt; simpa using this
      · have := HS.out
        repeat with_reducible (first | exact L.out.has | refine Has.setOther ?_ (by simp <;> omega) _)
      · exact ext4 L.out.ext (by omega) _ _ _ _

/-- .. for matrices that fit. -/
theorem product_impl (P : Int) (R K Q a0 oa b0 ob n n' : Nat) (xs ys : List Int) (w : World) (hr : Reads w (some ⟨a0, oa, none⟩) n xs) (hr' : Reads w (some ⟨b0, ob, none⟩) n' ys) (hn : n = R * K) (hn' : n' = K * Q)
    (hR : R ≤ 40) (hK : K ≤ 40) (hQ : Q ≤ 40) (hp : 2 ≤ P) (hp2 : P ≤ 10007) (hx : Res xs P) (hy : Res ys P) :
    Calls Try.prog 117 #[.agg #[.int .i64 P, .int .i64 R, .int .i64 K, .slice (some ⟨a0, oa, none⟩) n n], .agg #[.int .i64 P, .int .i64 K, .int .i64 Q, .slice (some ⟨b0, ob, none⟩) n' n']] w fun e w' => ∃ b, e = .returned (.agg #[.int .i64 P, .int .i64 R, .int .i64 Q, .slice (some ⟨b, 0, none⟩) (R * Q) (R * Q)]) ∧ w.heap.size ≤ b ∧ b < w'.heap.size ∧ Has w' b (mulTo P xs ys R K Q R) ∧ Ext w w' := by
  have g40 := mul40 hR hQ
  have g41 := mul40 hR hK
  have g42 := mul40 hK hQ
  exact product_any P R K Q a0 oa b0 ob n n' n n' xs ys w hr hr' hn hn' (by omega) (by omega) (by omega) (by omega) (by omega) (by omega) hp hp2 hx hy (Nat.le_refl _) (by unfold maxLen; omega) (Nat.le_refl _) (by unfold maxLen; omega)
end Go.Proofs.Ytnikfalpjieibaa
