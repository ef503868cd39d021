/-
  The transpose, both texts.
-/
import Derived.Test.YtgmipolgnpjmnaaTrace
import Derived.Deep.RegionHeld3
namespace Go.Proofs.Ytgmipolgnpjmnaa
open Go.RowKit
set_option linter.unusedVariables false

/-- Row i of an R x C matrix xs, laid into column i of l: its first j numbers. -/
def colTo (xs : List Int) (R C i : Nat) (l : List Int) : Nat → List Int
  | 0 => l
  | j + 1 => (colTo xs R C i l j).set (j * R + i) (gi xs (i * C + j))
/-- The first i rows laid as columns. -/
def transTo (xs : List Int) (R C : Nat) : Nat → List Int
  | 0 => List.replicate (C * R) 0
  | i + 1 => colTo xs R C i (transTo xs R C i) C
theorem colTo_length (xs : List Int) (R C i : Nat) (l : List Int) (j : Nat) : (colTo xs R C i l j).length = l.length := by
  induction j with
  | zero => rfl
  | succ j ih => simp [colTo, ih]
theorem transTo_length (xs : List Int) (R C i : Nat) : (transTo xs R C i).length = C * R := by
  induction i with
  | zero => simp [transTo]
  | succ i ih => simp [transTo, colTo_length, ih]
noncomputable def transM (P R C : Int) (xs : List Int) : Mat := if mok P R C xs then ⟨P, C, R, transTo xs R.toNat C.toNat R.toNat⟩ else noMat
theorem place_lt {R C i j : Nat} (hi : i < R) (hj : j < C) : i * C + j < R * C := by
  have : (i + 1) * C ≤ R * C := Nat.mul_le_mul_right C hi
  rw [Nat.add_mul] at this
  omega
theorem mul40 {R C : Nat} (h : R ≤ 40) (h' : C ≤ 40) : R * C ≤ 1600 := Nat.mul_le_mul h h'

/-- What a region keeps that writes into block b alone, at its end. -/
theorem keptB_refl (w : World) (b : Nat) : w.grownBy w (some b) ∧ ∀ B o, B ≠ b → B < w.heap.size → w.cell? ⟨B, o, none⟩ = w.cell? ⟨B, o, none⟩ := ⟨grownBy_refl _ _, fun _ _ _ _ => rfl⟩
theorem keptB_call {w w1 w2 : World} {b : Nat} (h : w.grownBy w1 (some b) ∧ ∀ B o, B ≠ b → B < w.heap.size → w1.cell? ⟨B, o, none⟩ = w.cell? ⟨B, o, none⟩) (hE : Ext w1 w2) : w.grownBy w2 (some b) ∧ ∀ B o, B ≠ b → B < w.heap.size → w2.cell? ⟨B, o, none⟩ = w.cell? ⟨B, o, none⟩ :=
  ⟨⟨hE.os.trans h.1.os, hE.tape.trans h.1.tape, hE.output.trans h.1.output, Nat.le_trans h.1.size hE.le, fun k hk hne => (hE.block k (Nat.lt_of_lt_of_le hk h.1.size)).trans (h.1.block k hk hne)⟩, fun B o hB hl => (hE.cells B o (Nat.lt_of_lt_of_le hl h.1.size)).trans (h.2 B o hB hl)⟩
theorem keptB_set {w w1 : World} {b : Nat} (h : w.grownBy w1 (some b) ∧ ∀ B o, B ≠ b → B < w.heap.size → w1.cell? ⟨B, o, none⟩ = w.cell? ⟨B, o, none⟩) (j : Nat) (v : Value) : w.grownBy (w1.setCell ⟨b, j, none⟩ v) (some b) ∧ ∀ B o, B ≠ b → B < w.heap.size → (w1.setCell ⟨b, j, none⟩ v).cell? ⟨B, o, none⟩ = w.cell? ⟨B, o, none⟩ :=
  ⟨grownBy_set (p := ⟨b, j, none⟩) h.1 rfl v, fun B o hB hl => (World.cell?_setCell_other _ _ _ _ (by intro e; injection e with e1; exact hB e1.symm)).trans (h.2 B o hB hl)⟩
theorem keptB_drew {w : World} {b : Nat} : w.grownBy w.drew (some b) ∧ ∀ B o, B ≠ b → B < w.heap.size → w.drew.cell? ⟨B, o, none⟩ = w.cell? ⟨B, o, none⟩ := ⟨⟨rfl, rfl, rfl, Nat.le_refl _, fun _ _ _ => rfl⟩, fun _ _ _ _ => rfl⟩

set_option maxRecDepth 100000 in
set_option maxHeartbeats 3200000 in
theorem l1Transpose_spec (P : Int) (R C : Nat) (a : Option Addr) (n c : Nat) (xs : List Int) (w : World) (hr : Reads w a n xs) (hn : n = R * C) (hR : R ≤ 40) (hC : C ≤ 40) :
    Calls Try.prog 68 #[.agg #[.int .i64 P, .int .i64 R, .int .i64 C, .slice a n c]] w fun e w' => ∃ b, e = .returned (.agg #[.int .i64 P, .int .i64 C, .int .i64 R, .slice (some ⟨b, 0, none⟩) (C * R) (C * R)]) ∧ w.heap.size ≤ b ∧ b < w'.heap.size ∧ Has w' b (transTo xs R C R) ∧ Ext w w' := by
  have HR := Lib.hid hr
  have HN := Lib.hid hn
  have g40 := mul40 hC hR
  have e1 : (C : Int) * (R : Int) = ((C * R : Nat) : Int) := by simp
  have g0 : 0 ≤ (C : Int) * (R : Int) := by rw [e1]; omega
  have g1 : (C : Int) * (R : Int) ≤ 1048576 := by rw [e1]; omega
  have E1 : Hid (((C : Int) * (R : Int)).toNat = C * R) := by rw [Hid, e1, Int.toNat_natCast]
  clear hr hn e1
  go_enter Try.func68, Try.ntmps68
  have A0_1 := Lib.hid ((cells_new' w #[.int .i64 P, .int .i64 R, .int .i64 C, .slice a n c] 36 (w.heap.size) (by simp)).ext ((Ext.refl _).alloc (.cells #[.int .i64 0, .int .i64 0, .int .i64 0, .slice none 0 0] 36)))
  have R_2 := Lib.hid (cells_new' (w.alloc (.cells #[.int .i64 P, .int .i64 R, .int .i64 C, .slice a n c] 36)) #[.int .i64 0, .int .i64 0, .int .i64 0, .slice none 0 0] 36 (w.heap.size + 1) (by simp))
  have E_3 := Lib.hid (((Ext.refl w).alloc (.cells #[.int .i64 P, .int .i64 R, .int .i64 C, .slice a n c] 36)).alloc (.cells #[.int .i64 0, .int .i64 0, .int .i64 0, .slice none 0 0] 36))
  have lA0 := A0_1.out.1
  have qA00 := A0_1.out.2 0 _ rfl
  have qA01 := A0_1.out.2 1 _ rfl
  have qA02 := A0_1.out.2 2 _ rfl
  have qA03 := A0_1.out.2 3 _ rfl
  try simp only [World.size_alloc] at lA0
  go_wp2_with fail
  refine (l1Zero_spec _ _ _ _ g0 g1).mono ?_
  rintro e w_4 ⟨b, rfl, hb1, hb2, hh, h_4⟩
  clear lA0 qA00 qA01 qA02 qA03
  rw [E1.out] at hh ⊢
  simp at hb1
  have A0_5 := Lib.hid (A0_1.out.ext h_4)
  clear A0_1
  have R_6 := Lib.hid (R_2.out.ext h_4)
  clear R_2
  have E_7 := Lib.hid (E_3.out.trans h_4)
  clear E_3
  have L0 : Hid (Loc w (w_4.alloc (.cells #[.int .i64 P, .int .i64 C, .int .i64 R, .slice (some ⟨b, 0, none⟩) (C * R) (C * R)] 36)) w_4.heap.size b [.int .i64 P, .int .i64 C, .int .i64 R, .slice (some ⟨b, 0, none⟩) (C * R) (C * R)] (transTo xs R C 0)) :=
    ⟨cells_new _ _ _, hh.alloc _, E_7.out.alloc _, by omega, by simp; omega, by omega⟩
  have HA := Lib.hid (A0_5.out.ext ((Ext.refl _).alloc (.cells #[.int .i64 P, .int .i64 C, .int .i64 R, .slice (some ⟨b, 0, none⟩) (C * R) (C * R)] 36)))
  have H4 := Lib.hid (R_6.out.ext ((Ext.refl _).alloc (.cells #[.int .i64 P, .int .i64 C, .int .i64 R, .slice (some ⟨b, 0, none⟩) (C * R) (C * R)] 36)))
  have HS := Lib.hid hb1
  clear hb1 hb2 hh h_4
  go_wp2_with fail
  go_loopw [4, 5] (fun i z wr => ∃ k : Nat, k ≤ R ∧ i = .int .i64 k ∧ Hid (Loc w wr w_4.heap.size b [.int .i64 P, .int .i64 C, .int .i64 R, .slice (some ⟨b, 0, none⟩) (C * R) (C * R)] (transTo xs R C k)) ∧ Hid (Cells wr w.heap.size [.int .i64 P, .int .i64 R, .int .i64 C, .slice a n c]) ∧ Hid (Cells wr (w.heap.size + 1) [.int .i64 0, .int .i64 0, .int .i64 0, .slice none 0 0])) (fun i _ _ => R - (intOf i).toNat)
  case atStart => exact ⟨0, by omega, rfl, L0, HA, H4⟩
  case round =>
    obtain ⟨k, hk, rfl, L, MA, M4⟩ := hrel
    have lA := MA.out.1
    have q0 := MA.out.2 0 _ rfl
    have q1 := MA.out.2 1 _ rfl
    have q2 := MA.out.2 2 _ rfl
    have q3 := MA.out.2 3 _ rfl
    by_cases hlt : k < R
    · go_wp2_with fail
      clear lA q0 q1 q2 q3
      obtain ⟨wo, rfl⟩ : ∃ wo : World, wo = wr := ⟨_, rfl⟩
      go_loopw [5] (fun j wr => ∃ q : Nat, q ≤ C ∧ j = .int .i64 q ∧ Hid (Loc w wr w_4.heap.size b [.int .i64 P, .int .i64 C, .int .i64 R, .slice (some ⟨b, 0, none⟩) (C * R) (C * R)] (colTo xs R C k (transTo xs R C k) q)) ∧ Hid (Cells wr w.heap.size [.int .i64 P, .int .i64 R, .int .i64 C, .slice a n c]) ∧ Hid (Cells wr (w.heap.size + 1) [.int .i64 0, .int .i64 0, .int .i64 0, .slice none 0 0])) (fun j _ => C - (intOf j).toNat)
      case atStart => exact ⟨0, by omega, rfl, L, MA, M4⟩
      case round =>
        obtain ⟨q, hq, rfl, L, MA, M4⟩ := hrel
        have lA := MA.out.1
        have q0 := MA.out.2 0 _ rfl
        have q1 := MA.out.2 1 _ rfl
        have q2 := MA.out.2 2 _ rfl
        have q3 := MA.out.2 3 _ rfl
        by_cases hlt2 : q < C
        · have lB := L.out.box.1
          have p0 := L.out.box.2 0 _ rfl
          have p1 := L.out.box.2 1 _ rfl
          have p2 := L.out.box.2 2 _ rfl
          have p3 := L.out.box.2 3 _ rfl
          have nB := L.out.ne
          have nA : w.heap.size ≠ b := by have := HS.out; omega
          have d1 := place_lt hlt2 hlt
          have e1 : (q : Int) * (R : Int) = ((q * R : Nat) : Int) := by simp
          have e2 : 0 ≤ (q : Int) * (R : Int) := by rw [e1]; omega
          have e3 : (q : Int) * (R : Int) ≤ 1600 := by rw [e1]; omega
          have e4 : (q : Int) * (R : Int) + (k : Int) < ((C * R : Nat) : Int) := by rw [e1]; omega
          have e5 : 0 ≤ (q : Int) * (R : Int) + (k : Int) := by rw [e1]; omega
          have e6 : (q : Int) * (R : Int) + (k : Int) < (C : Int) * (R : Int) := by rw [e1, ← Int.natCast_mul]; omega
          have hq0 : (0 : Int) ≤ (q : Int) := by omega
          have hk0 : (0 : Int) ≤ (k : Int) := by omega
          have hl : (colTo xs R C k (transTo xs R C k) q).length = C * R := by rw [colTo_length, transTo_length]
          have HL := Lib.hid hl
          have ew : wr.drew.heap.size = wr.heap.size := rfl
          clear e1 hl
          go_wp2_with fail
          have v1 : IntKind.i64.wrap ((q : Int) * (R : Int)) = (q : Int) * (R : Int) := IntWalk.i64_in _ ⟨by omega, by omega⟩
          have v2 : IntKind.i64.wrap ((q : Int) * (R : Int) + (k : Int)) = (q : Int) * (R : Int) + (k : Int) := IntWalk.i64_in _ ⟨by omega, by omega⟩
          have v3 : ((q : Int) * (R : Int) + (k : Int)).toNat = q * R + k := by rw [← Int.natCast_mul, ← Int.natCast_add, Int.toNat_natCast]
          go_region_held3 (fun w' => wr.grownBy w' (some b) ∧ ∀ B o, B ≠ b → B < wr.heap.size → w'.cell? ⟨B, o, none⟩ = wr.cell? ⟨B, o, none⟩) (first | exact keptB_refl _ _ | exact keptB_drew | (with_reducible exact keptB_call ‹wr.grownBy _ (some b) ∧ _› ‹Ext _ _›) | (with_reducible exact keptB_set ‹wr.grownBy _ (some b) ∧ _› _ _)) (first
            | (go_at_call 123; refine (l1At_spec _ _ _ _ _ _ _ _ xs _ ((HR.out.ext L.out.ext).ext (Ext.refl _).drew) (by rw [HN.out]; exact place_lt hlt hlt2) (by rw [HN.out, Nat.mul_comm]; omega)).mono ?_; rintro e w2 ⟨rfl, hE⟩; have c1 : w2.cell? ⟨b, q * R + k, none⟩ = _ := ((L.out.step (Ext.refl _).drew).step hE).has.cell (q * R + k) (by rw [HL.out]; exact d1); have f1 : w2.frozen? ⟨b, q * R + k, none⟩ = false := ((L.out.step (Ext.refl _).drew).step hE).has.free _))
          have N : Hid (Loc w (w2.setCell ⟨b, q * R + k, none⟩ (.int .i64 (gi xs (k * C + q)))) w_4.heap.size b [.int .i64 P, .int .i64 C, .int .i64 R, .slice (some ⟨b, 0, none⟩) (C * R) (C * R)] (colTo xs R C k (transTo xs R C k) (q + 1))) :=
            ((L.out.step (Ext.refl _).drew).step hE).set (q * R + k) (by rw [HL.out]; exact d1) _
          have N1 : Hid (Cells (w2.setCell ⟨b, q * R + k, none⟩ (.int .i64 (gi xs (k * C + q)))) w.heap.size [.int .i64 P, .int .i64 R, .int .i64 C, .slice a n c]) :=
            ((MA.out.ext (Ext.refl _).drew).ext hE).grown (grownBy_set (p := ⟨b, q * R + k, none⟩) (grownBy_refl _ (some b)) rfl _) (fun z hz => by simp at hz; omega)
          have N2 : Hid (Cells (w2.setCell ⟨b, q * R + k, none⟩ (.int .i64 (gi xs (k * C + q)))) (w.heap.size + 1) [.int .i64 0, .int .i64 0, .int .i64 0, .slice none 0 0]) :=
            ((M4.out.ext (Ext.refl _).drew).ext hE).grown (grownBy_set (p := ⟨b, q * R + k, none⟩) (grownBy_refl _ (some b)) rfl _) (fun z hz => by simp at hz; have := HS.out; omega)
          clear v1 v2 v3 L MA M4 c1 f1 hE lA q0 q1 q2 q3 lB p0 p1 p2 p3
          go_wp2
          exact ⟨⟨q + 1, by omega, by simp, N, N1, N2⟩, by simp [intOf]; omega⟩
        · obtain rfl : q = C := by omega
          go_wp2
          exact ⟨⟨k + 1, by omega, by simp, L, MA, M4⟩, by simp [intOf]; omega⟩
    · obtain rfl : k = R := by omega
      have f0 := M4.out.2 0 _ rfl
      have f1 := M4.out.2 1 _ rfl
      have f2 := M4.out.2 2 _ rfl
      have f3 := M4.out.2 3 _ rfl
      have t0 := M4.out.3
      have p0 := L.out.box.2 0 _ rfl
      have p1 := L.out.box.2 1 _ rfl
      have p2 := L.out.box.2 2 _ rfl
      have p3 := L.out.box.2 3 _ rfl
      go_wp2
      refine bodyPost_ret (v := .agg #[.int .i64 P, .int .i64 C, .int .i64 k, .slice (some ⟨b, 0, none⟩) (C * k) (C * k)]) (by simp [results, Try.results68, go_sem, f0, f1, f2, f3]) rfl ⟨b, rfl, L.out.lo, ?_, ?_, ?_⟩
      · have := L.out.lt; simpa using this
      · have := HS.out
        repeat with_reducible (first | exact L.out.has | refine Has.setOther ?_ (by simp <;> omega) _)
      · exact ext4 L.out.ext (by omega) _ _ _ _

set_option maxHeartbeats 800000 in
theorem rowOf_gen (P R : Int) (C i b0 o0 n d : Nat) (w : World) (hlt : (i + 1) * C ≤ n) (hn : n ≤ 1048576) (hi : i ≤ 1048576) (hd : n ≤ d) (hd2 : d ≤ maxLen) :
    Calls Try.prog 101 #[.agg #[.int .i64 P, .int .i64 R, .int .i64 C, .slice (some ⟨b0, o0, none⟩) n d], .int .i64 i] w fun e w' => e = .returned (.slice (some ⟨b0, o0 + i * C, none⟩) C (d - i * C)) ∧ Ext w w' := by
  unfold maxLen at hd2
  have e0 : (i + 1) * C = i * C + C := by rw [Nat.add_mul]; omega
  have e1 : (i : Int) * (C : Int) = ((i * C : Nat) : Int) := by simp
  have e2 : ((i : Int) + 1) * (C : Int) = ((i * C + C : Nat) : Int) := by rw [← e0]; simp
  have g1 : 0 ≤ (i : Int) * (C : Int) := by rw [e1]; omega
  have g2 : (i : Int) * (C : Int) ≤ 1048576 := by rw [e1]; omega
  have g3 : 0 ≤ ((i : Int) + 1) * (C : Int) := by rw [e2]; omega
  have g4 : ((i : Int) + 1) * (C : Int) ≤ (d : Int) := by rw [e2]; omega
  have g7 : ((i : Int) + 1) * (C : Int) ≤ 1048576 := by rw [e2]; omega
  have g5 : (i : Int) * (C : Int) ≤ ((i : Int) + 1) * (C : Int) := by rw [e1, e2]; omega
  have g6 : (i : Int) ≤ 1048576 := by omega
  have E0 := Lib.hid e0
  clear e0 e1 e2
  have HLT := Lib.hid hlt
  go_enter Try.func101, Try.ntmps101
  go_wp2
  case inl =>
    have e3 : C = 0 := by have := E0.out; omega
    subst e3
    simp only [Nat.mul_zero] at h
    subst h
    go_ret
    exact ⟨by simp, (Ext.refl _).alloc _⟩
  case inr =>
    have e3 : (i + 1) * C - i * C = C := by have := E0.out; omega
    go_ret
    exact ⟨by simp [e3], (Ext.refl _).alloc _⟩
theorem rowOf_impl (P R : Int) (C i b0 o0 n : Nat) (w : World) (hlt : (i + 1) * C ≤ n) (hn : n ≤ 1048576) (hi : i ≤ 1048576) :
    Calls Try.prog 101 #[.agg #[.int .i64 P, .int .i64 R, .int .i64 C, .slice (some ⟨b0, o0, none⟩) n n], .int .i64 i] w fun e w' => e = .returned (.slice (some ⟨b0, o0 + i * C, none⟩) C (n - i * C)) ∧ Ext w w' :=
  rowOf_gen P R C i b0 o0 n n w hlt hn hi (Nat.le_refl _) (by unfold maxLen; omega)

set_option maxRecDepth 100000 in
set_option maxHeartbeats 3200000 in
theorem transpose_impl (P : Int) (R C b0 o0 n d : Nat) (xs : List Int) (w : World) (hr : Reads w (some ⟨b0, o0, none⟩) n xs) (hn : n = R * C) (hm : n ≤ 1048576) (hR : R ≤ 1048576) (hC : C ≤ 1048576) (hd : n ≤ d) (hd2 : d ≤ maxLen) :
    Calls Try.prog 73 #[.agg #[.int .i64 P, .int .i64 R, .int .i64 C, .slice (some ⟨b0, o0, none⟩) n d]] w fun e w' => ∃ b, e = .returned (.agg #[.int .i64 P, .int .i64 C, .int .i64 R, .slice (some ⟨b, 0, none⟩) (C * R) (C * R)]) ∧ w.heap.size ≤ b ∧ b < w'.heap.size ∧ Has w' b (transTo xs R C R) ∧ Ext w w' := by
  have HR := Lib.hid hr
  have HN := Lib.hid hn
  have hcr : C * R = n := by rw [hn, Nat.mul_comm]
  have hcb : C * R ≤ 1048576 := by omega
  have HCB := Lib.hid hcb
  have HD := Lib.hid hd2
  have e1 : (C : Int) * (R : Int) = ((C * R : Nat) : Int) := by simp
  have g0 : 0 ≤ (C : Int) * (R : Int) := by rw [e1]; omega
  have g1 : (C : Int) * (R : Int) ≤ 1048576 := by rw [e1]; omega
  have E1 : Hid (((C : Int) * (R : Int)).toNat = C * R) := by rw [Hid, e1, Int.toNat_natCast]
  clear hr hn e1 hcr hcb hd2
  go_enter Try.func73, Try.ntmps73
  have A0_1 := Lib.hid ((cells_new' w #[.int .i64 P, .int .i64 R, .int .i64 C, .slice (some ⟨b0, o0, none⟩) n d] 36 (w.heap.size) (by simp)).ext ((Ext.refl _).alloc (.cells #[.int .i64 0, .int .i64 0, .int .i64 0, .slice none 0 0] 36)))
  have R_2 := Lib.hid (cells_new' (w.alloc (.cells #[.int .i64 P, .int .i64 R, .int .i64 C, .slice (some ⟨b0, o0, none⟩) n d] 36)) #[.int .i64 0, .int .i64 0, .int .i64 0, .slice none 0 0] 36 (w.heap.size + 1) (by simp))
  have E_3 := Lib.hid (((Ext.refl w).alloc (.cells #[.int .i64 P, .int .i64 R, .int .i64 C, .slice (some ⟨b0, o0, none⟩) n d] 36)).alloc (.cells #[.int .i64 0, .int .i64 0, .int .i64 0, .slice none 0 0] 36))
  have hl0 := R_2.out.1
  have lA0 := A0_1.out.1
  have qA00 := A0_1.out.2 0 _ rfl
  have qA01 := A0_1.out.2 1 _ rfl
  have qA02 := A0_1.out.2 2 _ rfl
  have qA03 := A0_1.out.2 3 _ rfl
  try simp only [World.size_alloc] at lA0
  go_wp2_with fail
  refine (zeros_impl _ _ _ _ g0 g1).mono ?_
  rintro e w_4 ⟨b, rfl, hb1, hb2, hh, h_4⟩
  clear lA0 qA00 qA01 qA02 qA03
  rw [E1.out] at hh ⊢
  have hb3 := Nat.lt_of_lt_of_le hl0 hb1
  clear hl0
  have A0_5 := Lib.hid (A0_1.out.ext h_4)
  clear A0_1
  have R_6 := Lib.hid (R_2.out.ext h_4)
  clear R_2
  have E_7 := Lib.hid (E_3.out.trans h_4)
  clear E_3
  have L0 : Hid (Loc w (w_4.alloc (.cells #[.int .i64 P, .int .i64 C, .int .i64 R, .slice (some ⟨b, 0, none⟩) (C * R) (C * R)] 36)) w_4.heap.size b [.int .i64 P, .int .i64 C, .int .i64 R, .slice (some ⟨b, 0, none⟩) (C * R) (C * R)] (transTo xs R C 0)) :=
    ⟨cells_new _ _ _, hh.alloc _, E_7.out.alloc _, by omega, by simp; omega, by omega⟩
  have HA := Lib.hid (A0_5.out.ext ((Ext.refl _).alloc (.cells #[.int .i64 P, .int .i64 C, .int .i64 R, .slice (some ⟨b, 0, none⟩) (C * R) (C * R)] 36)))
  have H4 := Lib.hid (R_6.out.ext ((Ext.refl _).alloc (.cells #[.int .i64 P, .int .i64 C, .int .i64 R, .slice (some ⟨b, 0, none⟩) (C * R) (C * R)] 36)))
  have HS := Lib.hid hb3
  clear hb1 hb2 hb3 hh h_4 g0 g1
  have lA := HA.out.1
  have q0 := HA.out.2 0 _ rfl
  have q1 := HA.out.2 1 _ rfl
  have q2 := HA.out.2 2 _ rfl
  have q3 := HA.out.2 3 _ rfl
  go_wp2_with fail
  clear lA q0 q1 q2 q3
  go_loopw [16] (fun i wr => ∃ k : Nat, k ≤ R ∧ i = .int .i64 k ∧ Hid (Loc w wr w_4.heap.size b [.int .i64 P, .int .i64 C, .int .i64 R, .slice (some ⟨b, 0, none⟩) (C * R) (C * R)] (transTo xs R C k)) ∧ Hid (Cells wr w.heap.size [.int .i64 P, .int .i64 R, .int .i64 C, .slice (some ⟨b0, o0, none⟩) n d]) ∧ Hid (Cells wr (w.heap.size + 1) [.int .i64 0, .int .i64 0, .int .i64 0, .slice none 0 0])) (fun i _ => R - (intOf i).toNat)
  case atStart => exact ⟨0, by omega, rfl, L0, HA, H4⟩
  case round =>
    obtain ⟨k, hk, rfl, L, MA, M4⟩ := hrel
    have lA := MA.out.1
    have q0 := MA.out.2 0 _ rfl
    have q1 := MA.out.2 1 _ rfl
    have q2 := MA.out.2 2 _ rfl
    have q3 := MA.out.2 3 _ rfl
    by_cases hlt : k < R
    · go_wp2_with fail
      refine (rowOf_gen _ _ _ _ _ _ _ _ _ (by rw [HN.out]; exact Nat.mul_le_mul_right C hlt) hm (by omega) hd HD.out).mono ?_
      rintro e wo ⟨rfl, hE⟩
      have L1 := Lib.hid (L.out.step hE)
      have N1 := Lib.hid (MA.out.ext hE)
      have N4 := Lib.hid (M4.out.ext hE)
      clear lA q0 q1 q2 q3 L MA M4 hE
      go_wp2_with fail
      go_loopw [23] (fun j wr => ∃ q : Nat, q ≤ C ∧ j = .int .i64 q ∧ Hid (Loc w wr w_4.heap.size b [.int .i64 P, .int .i64 C, .int .i64 R, .slice (some ⟨b, 0, none⟩) (C * R) (C * R)] (colTo xs R C k (transTo xs R C k) q)) ∧ Hid (Cells wr w.heap.size [.int .i64 P, .int .i64 R, .int .i64 C, .slice (some ⟨b0, o0, none⟩) n d]) ∧ Hid (Cells wr (w.heap.size + 1) [.int .i64 0, .int .i64 0, .int .i64 0, .slice none 0 0])) (fun j _ => C - (intOf j).toNat)
      case atStart => exact ⟨0, by omega, rfl, L1, N1, N4⟩
      case round =>
        obtain ⟨q, hq, rfl, L, MA, M4⟩ := hrel
        by_cases hlt2 : q < C
        · have lB := L.out.box.1
          have p0 := L.out.box.2 0 _ rfl
          have p1 := L.out.box.2 1 _ rfl
          have p2 := L.out.box.2 2 _ rfl
          have p3 := L.out.box.2 3 _ rfl
          have d1 := place_lt hlt2 hlt
          have d2 := place_lt hlt hlt2
          rcases (HR.out.ext L.out.ext).2 with h | ⟨b', off', h, hb', hc'⟩
          · have := HN.out; omega
          simp only [Option.some.injEq, Addr.mk.injEq, and_true] at h
          obtain ⟨rfl, rfl⟩ := h
          have hc2 := hc' (k * C + q) (by rw [HN.out]; exact d2)
          rw [← Nat.add_assoc] at hc2
          clear hc'
          have e1 : (q : Int) * (R : Int) = ((q * R : Nat) : Int) := by simp
          have e2 : 0 ≤ (q : Int) * (R : Int) := by rw [e1]; omega
          have e3 : (q : Int) * (R : Int) ≤ 1048576 := by rw [e1]; have := HCB.out; omega
          have e4 : (q : Int) * (R : Int) + (k : Int) < ((C * R : Nat) : Int) := by rw [e1]; omega
          have e5 : 0 ≤ (q : Int) * (R : Int) + (k : Int) := by rw [e1]; omega
          have hl : (colTo xs R C k (transTo xs R C k) q).length = C * R := by rw [colTo_length, transTo_length]
          have HL := Lib.hid hl
          have c1 := L.out.has.cell (q * R + k) (by rw [HL.out]; exact d1)
          have f1 := L.out.has.free (q * R + k)
          have N : Hid (Loc w (wr.setCell ⟨b, q * R + k, none⟩ (.int .i64 (gi xs (k * C + q)))) w_4.heap.size b [.int .i64 P, .int .i64 C, .int .i64 R, .slice (some ⟨b, 0, none⟩) (C * R) (C * R)] (colTo xs R C k (transTo xs R C k) (q + 1))) :=
            L.out.set (q * R + k) (by rw [HL.out]; exact d1) _
          have N1 : Hid (Cells (wr.setCell ⟨b, q * R + k, none⟩ (.int .i64 (gi xs (k * C + q)))) w.heap.size [.int .i64 P, .int .i64 R, .int .i64 C, .slice (some ⟨b0, o0, none⟩) n d]) :=
            MA.out.grown (grownBy_set (p := ⟨b, q * R + k, none⟩) (grownBy_refl _ (some b)) rfl _) (fun z hz => by simp at hz; have := HS.out; omega)
          have N2 : Hid (Cells (wr.setCell ⟨b, q * R + k, none⟩ (.int .i64 (gi xs (k * C + q)))) (w.heap.size + 1) [.int .i64 0, .int .i64 0, .int .i64 0, .slice none 0 0]) :=
            M4.out.grown (grownBy_set (p := ⟨b, q * R + k, none⟩) (grownBy_refl _ (some b)) rfl _) (fun z hz => by simp at hz; have := HS.out; omega)
          clear e1 hl L MA M4
          go_wp2
          exact ⟨⟨q + 1, by omega, by simp, N, N1, N2⟩, by simp [intOf]; omega⟩
        · obtain rfl : q = C := by omega
          go_wp2
          exact ⟨⟨k + 1, by omega, by simp, L, MA, M4⟩, by simp [intOf]; omega⟩
    · obtain rfl : k = R := by omega
      have f0 := M4.out.2 0 _ rfl
      have f1 := M4.out.2 1 _ rfl
      have f2 := M4.out.2 2 _ rfl
      have f3 := M4.out.2 3 _ rfl
      have t0 := M4.out.3
      have p0 := L.out.box.2 0 _ rfl
      have p1 := L.out.box.2 1 _ rfl
      have p2 := L.out.box.2 2 _ rfl
      have p3 := L.out.box.2 3 _ rfl
      go_wp2
      refine bodyPost_ret (v := .agg #[.int .i64 P, .int .i64 C, .int .i64 k, .slice (some ⟨b, 0, none⟩) (C * k) (C * k)]) (by simp [results, Try.results73, go_sem, f0, f1, f2, f3]) rfl ⟨b, rfl, L.out.lo, ?_, ?_, ?_⟩
      · have := L.out.lt; simpa using this
      · have := HS.out
        repeat with_reducible (first | exact L.out.has | refine Has.setOther ?_ (by simp <;> omega) _)
      · exact ext4 L.out.ext (by omega) _ _ _ _

end Go.Proofs.Ytgmipolgnpjmnaa
