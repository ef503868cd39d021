/-
  A column cleared: the program's.
-/
import Derived.Test.YtgmipolgnpjmnaaEx
import Derived.Test.YtgmipolgnpjmnaaNz
namespace Go.Proofs.Ytgmipolgnpjmnaa
open Go.RowKit
set_option linter.unusedVariables false

/-- In a call that began in w: a box of the call's own, and a block that was there and that is written. -/
structure InP (w wr : World) (B b : Nat) (vs : List Value) (l : List Int) : Prop where
  box : Cells wr B vs
  has : Has wr b l
  gr : w.grownBy wr (some b)
  ne : B ≠ b
theorem InP.set {w wr : World} {B b : Nat} {vs : List Value} {l : List Int} (h : InP w wr B b vs l) (j : Nat) (hj : j < l.length) (v : Int) : InP w (wr.setCell ⟨b, j, none⟩ (.int .i64 v)) B b vs (l.set j v) :=
  ⟨h.box.grown (grownBy_set (p := ⟨b, j, none⟩) (grownBy_refl wr (some b)) rfl _) (fun k hk => by simp at hk; have := h.ne; omega), h.has.set j hj v, grownBy_set (p := ⟨b, j, none⟩) h.gr rfl _, h.ne⟩
theorem InP.step {w wr wr' : World} {B b : Nat} {vs : List Value} {l : List Int} (h : InP w wr B b vs l) (hE : Ext wr wr') : InP w wr' B b vs l :=
  ⟨h.box.ext hE, h.has.ext hE, grownBy_ext h.gr hE, h.ne⟩
theorem InP.drew {w wr : World} {B b : Nat} {vs : List Value} {l : List Int} (h : InP w wr B b vs l) : InP w wr.drew B b vs l := h.step (Ext.refl _).drew
theorem InP.row {w wr wr' : World} {B b : Nat} {vs : List Value} {l l' : List Int} (h : InP w wr B b vs l) (hh : Has wr' b l') (hg : wr.grownBy wr' (some b)) : InP w wr' B b vs l' :=
  ⟨h.box.grown hg (fun k hk => by simp at hk; have := h.ne; omega), hh, grownBy_trans h.gr hg, h.ne⟩

theorem clOne_skip {P : Int} {C r c i : Nat} {m : List Int} (h : i = r ∨ gi m (i * C + c) = 0) : clOne P C r c i m = m := if_pos h
theorem clOne_ax {P : Int} {C r c i : Nat} {m : List Int} (h1 : i ≠ r) (h2 : gi m (i * C + c) ≠ 0) (hP : gi m (i * C + c) < P) : clOne P C r c i m = axL P (P - gi m (i * C + c)) m (i * C) (r * C) C m := by
  rw [clOne, if_neg (fun h => h.elim h1 h2), axL, if_neg (by omega)]

set_option maxRecDepth 100000 in
set_option maxHeartbeats 3200000 in
theorem clearColumn_impl (P : Int) (R C r c b n : Nat) (l : List Int) (w : World) (hh : Has w b l) (hl : l.length = n) (hn : n = R * C) (hb : n ≤ 1048576) (hr : r < R) (hc : c < C) (hR : R ≤ 1048576) (hp : 2 ≤ P) (hp2 : P ≤ 10007) (hx : Res l P) :
    Calls Try.prog 151 #[.agg #[.int .i64 P, .int .i64 R, .int .i64 C, .slice (some ⟨b, 0, none⟩) n n], .int .i64 r, .int .i64 c] w fun e w' => e = .returned (.tuple #[]) ∧ Has w' b (clTo P C r c (scTo P (inv (gi l (r * C + c)) P) (r * C) l C) R) ∧ w.grownBy w' (some b) := by
  have HL := Lib.hid hl
  have HX := Lib.hid hx
  have hr1 := row_lt (C := C) hr
  rw [← hn] at hr1
  have HP1 := Lib.hid hr1
  have hC : C ≤ 1048576 := by omega
  have HN := Lib.hid hn
  have L0 : Hid (InP w (w.alloc (.cells #[.int .i64 P, .int .i64 R, .int .i64 C, .slice (some ⟨b, 0, none⟩) n n] 36)) w.heap.size b [.int .i64 P, .int .i64 R, .int .i64 C, .slice (some ⟨b, 0, none⟩) n n] l) :=
    ⟨cells_new _ _ _, hh.alloc _, ext_grownBy ((Ext.refl w).alloc _) _, by have := hh.lt; omega⟩
  clear hl hx hr1 hn hh
  go_enter Try.func151, Try.ntmps151
  go_wp2_with fail
  generalize hW : w.alloc (.cells #[.int .i64 P, .int .i64 R, .int .i64 C, .slice (some ⟨b, 0, none⟩) n n] 36) = W at L0 ⊢
  clear hW
  have lA := L0.out.box.1
  have q0 := L0.out.box.2 0 _ rfl
  have q1 := L0.out.box.2 1 _ rfl
  have q2 := L0.out.box.2 2 _ rfl
  have q3 := L0.out.box.2 3 _ rfl
  go_wp2_with fail
  refine (rowOf_impl P R C r b 0 n _ (row_n hr HN.out) hb (by omega)).mono ?_
  rintro e w1 ⟨rfl, h1⟩
  clear lA q0 q1 q2 q3
  have L1 := Lib.hid (L0.out.step h1)
  clear L0 h1
  have lA := L1.out.box.1
  have q0 := L1.out.box.2 0 _ rfl
  have lB := L1.out.has.lt
  have hx0 := L1.out.has.cell (r * C + c) (by have := HL.out; have := HP1.out; omega)
  obtain ⟨x0, x1⟩ := HX.out (r * C + c) (by have := HL.out; have := HP1.out; omega)
  simp only [Nat.zero_add]
  go_wp2_with fail
  go_region_held3 (fun w' => Ext w1 w' ∧ (∀ b o, b < w1.heap.size → w'.cell? ⟨b, o, none⟩ = w1.cell? ⟨b, o, none⟩)) (first | (with_reducible exact ext2 (Ext.trans (And.left ‹Ext w1 _ ∧ _›) ‹Ext _ _›)) | (refine ext2 ?_; with_reducible repeat (first | exact Ext.refl _ | refine Ext.drew ?_)) | assumption) (first
    | (go_at_call 82; with_reducible refine (inverse_impl _ _ _ hp hp2 x0 x1).mono ?_; rintro e w2 ⟨rfl, rfl⟩))
  have L2 := Lib.hid L1.out.drew
  have hi0 : 0 ≤ inv (gi l (r * C + c)) P ∧ inv (gi l (r * C + c)) P < P := by
    unfold inv; split
    · omega
    · exact ⟨powm_lo _ _ _ (by omega), powm_hi _ _ _ (by omega)⟩
  obtain ⟨i0, i1⟩ := hi0
  generalize hk : inv (gi l (r * C + c)) P = k at i0 i1 ⊢
  have HK := Lib.hid hk
  clear hk
  clear lA lB q0 hx0 x0 x1 L1
  obtain ⟨W1, rfl⟩ : ∃ W1 : World, W1 = w1.drew := ⟨_, rfl⟩
  go_wp2_with fail
  go_loopw [23, 8] (fun z _ wr => ∃ j : Nat, j ≤ C ∧ z = .int .i64 j ∧ Hid (InP w wr w.heap.size b [.int .i64 P, .int .i64 R, .int .i64 C, .slice (some ⟨b, 0, none⟩) n n] (scTo P k (r * C) l j))) (fun z _ _ => C - (intOf z).toNat)
  case atStart => exact ⟨0, by omega, rfl, L2⟩
  case round =>
    obtain ⟨j, hj, rfl, L⟩ := hrel
    by_cases hlt2 : j < C
    · have lA := L.out.box.1
      have q0 := L.out.box.2 0 _ rfl
      have x1 := L.out.has.cell (r * C + j) (by rw [scTo_length, HL.out]; have := HP1.out; omega)
      rw [gi_scTo_out _ _ _ C _ (by rw [HL.out]; exact HP1.out) _ _ hj (by omega)] at x1
      have f1 := L.out.has.free (r * C + j)
      obtain ⟨y0, y1⟩ := HX.out (r * C + j) (by have := HL.out; have := HP1.out; omega)
      have m0 := Int.mul_nonneg y0 i0
      have m1 := mul_hi y0 y1 i0 i1 hp2
      have N : Hid (InP w (wr.setCell ⟨b, r * C + j, none⟩ (.int .i64 (gi l (r * C + j) * k % P))) w.heap.size b [.int .i64 P, .int .i64 R, .int .i64 C, .slice (some ⟨b, 0, none⟩) n n] (scTo P k (r * C) l (j + 1))) := L.out.set (r * C + j) (by rw [scTo_length, HL.out]; have := HP1.out; omega) _
      clear L
      go_wp2_with fail
      go_region
      go_wp2
      exact ⟨⟨j + 1, by omega, by simp, N.out.drew⟩, by simp [intOf]; omega⟩
    · obtain rfl : C = j := by omega
      have L1 : Hid (InP w wr w.heap.size b [.int .i64 P, .int .i64 R, .int .i64 C, .slice (some ⟨b, 0, none⟩) n n] (clTo P C r c (scTo P k (r * C) l C) 0)) := L
      have HL1 : Hid ((scTo P k (r * C) l C).length = n) := by rw [Hid, scTo_length]; exact HL.out
      have HX1 : Hid (Res (scTo P k (r * C) l C) P) := scTo_res _ _ _ _ (by omega) HX.out _
      generalize hl1 : scTo P k (r * C) l C = l1 at L1 HL1 HX1 ⊢
      have HLE := Lib.hid hl1
      clear hl1
      clear L L2 hlt2
      have lA := L1.out.box.1
      have q1 := L1.out.box.2 1 _ rfl
      go_wp2_with fail
      clear lA q1
      obtain ⟨W2, rfl⟩ : ∃ W2 : World, W2 = wr := ⟨_, rfl⟩
      go_loopw [41, 9, 10] (fun z _ _ wr => ∃ i : Nat, i ≤ R ∧ z = .int .i64 i ∧ Hid (InP w wr w.heap.size b [.int .i64 P, .int .i64 R, .int .i64 C, .slice (some ⟨b, 0, none⟩) n n] (clTo P C r c l1 i))) (fun z _ _ _ => R - (intOf z).toNat)
      case atStart => exact ⟨0, by omega, rfl, L1⟩
      case round =>
        obtain ⟨i, hi, rfl, L⟩ := hrel
        by_cases hlt2 : i < R
        · have HLm : Hid ((clTo P C r c l1 i).length = n) := by rw [Hid, clTo_length]; exact HL1.out
          have HXm : Hid (Res (clTo P C r c l1 i) P) := clTo_res _ _ _ _ _ _ (by omega) HX1.out
          have HS : Hid (clTo P C r c l1 (i + 1) = clOne P C r c i (clTo P C r c l1 i)) := rfl
          generalize clTo P C r c l1 i = lm at L HLm HXm HS ⊢
          have hpl := place_lt hlt2 hc
          have hri := Lib.hid (row_lt (C := C) hlt2)
          have lA := L.out.box.1
          have q0 := L.out.box.2 0 _ rfl
          have q2 := L.out.box.2 2 _ rfl
          have q3 := L.out.box.2 3 _ rfl
          have x1 := L.out.has.cell (i * C + c) (by rw [HLm.out, HN.out]; exact hpl)
          obtain ⟨y0, y1⟩ := HXm.out (i * C + c) (by rw [HLm.out, HN.out]; exact hpl)
          have e1 : (i : Int) * (C : Int) = ((i * C : Nat) : Int) := by simp
          have g1 : 0 ≤ (i : Int) * (C : Int) := by rw [e1]; omega
          have g2 : (i : Int) * (C : Int) + (c : Int) < (n : Int) := by rw [e1, HN.out]; omega
          have g3 : 0 ≤ (i : Int) * (C : Int) + (c : Int) := by omega
          clear e1 hpl
          by_cases hir : i = r
          · have N : Hid (InP w wr w.heap.size b [.int .i64 P, .int .i64 R, .int .i64 C, .slice (some ⟨b, 0, none⟩) n n] (clTo P C r c l1 (i + 1))) := by rw [HS.out, clOne_skip (.inl hir)]; exact L
            have hb1 : ((i : Int) != (r : Int)) = false := by subst hir; simp
            clear hir
            go_wp2
            exact ⟨⟨i + 1, by omega, by simp, N⟩, by simp [intOf]; omega⟩
          · have hb1 : ((i : Int) != (r : Int)) = true := by simp; omega
            by_cases hz : gi lm (i * C + c) = 0
            · have N : Hid (InP w wr w.heap.size b [.int .i64 P, .int .i64 R, .int .i64 C, .slice (some ⟨b, 0, none⟩) n n] (clTo P C r c l1 (i + 1))) := by rw [HS.out, clOne_skip (.inr hz)]; exact L
              have hb2 : (gi lm (i * C + c) != 0) = false := by simpa using hz
              clear hz
              go_wp2
              exact ⟨⟨i + 1, by omega, by simp, N⟩, by simp [intOf]; omega⟩
            · have hb2 : (gi lm (i * C + c) != 0) = true := by simpa using hz
              have HS2 : Hid (clTo P C r c l1 (i + 1) = axL P (P - gi lm (i * C + c)) lm (i * C) (r * C) C lm) := by rw [Hid, HS.out, clOne_ax hir hz y1]
              have z0 : 0 ≤ P - gi lm (i * C + c) := by omega
              have z1 : P - gi lm (i * C + c) < P := by omega
              have hap := Lib.hid (rows_apart (C := C) hir)
              have nA := L.out.ne
              have q1 := L.out.box.2 1 _ rfl
              have HC1 : Hid (∀ w3, Calls Try.prog 101 #[.agg #[.int .i64 P, .int .i64 R, .int .i64 C, .slice (some ⟨b, 0, none⟩) n n], .int .i64 i] w3 fun e w' => e = .returned (.slice (some ⟨b, i * C, none⟩) C (n - i * C)) ∧ Ext w3 w') := fun w3 => by
                have := rowOf_impl P R C i b 0 n w3 (row_n hlt2 HN.out) hb (by omega)
                rwa [Nat.zero_add] at this
              have HC2 : Hid (∀ w3, Ext wr.drew w3 → Calls Try.prog 126 #[.slice (some ⟨b, i * C, none⟩) C (n - i * C), .int .i64 (P - gi lm (i * C + c)), .slice (some ⟨b, r * C, none⟩) C (n - r * C), .int .i64 P] w3 fun e w' => e = .returned (.tuple #[]) ∧ Has w' b (axL P (P - gi lm (i * C + c)) lm (i * C) (r * C) C lm) ∧ w3.grownBy w' (some b)) := fun w3 hE =>
                addToRow_impl b (i * C) C _ (P - gi lm (i * C + c)) b (r * C) _ lm (r * C) P lm w3 (L.out.drew.step hE).has (by omega) (by rw [HLm.out, HN.out]; exact hri.out) (fun wz l' hg hz ho hl' j hj => by
                    have hq := hz.cell (r * C + j) (by rw [hl', HLm.out]; have := HP1.out; omega)
                    rw [ho _ (by rcases hap.out with h | h <;> omega)] at hq
                    exact hq) hp hp2 z0 z1 (fun j hj => HXm.out _ (by rw [HLm.out, HN.out]; have := hri.out; omega)) (fun j hj => HXm.out _ (by rw [HLm.out]; have := HP1.out; omega))
              clear hz hir
              go_wp2_with fail
              have v1 : IntKind.i64.wrap (P - gi lm (i * C + c)) = P - gi lm (i * C + c) := IntWalk.i64_in _ ⟨by omega, by omega⟩
              go_region_held3 (fun w' => wr.grownBy w' (some b) ∧ ∀ B o, B ≠ b → B < wr.heap.size → w'.cell? ⟨B, o, none⟩ = wr.cell? ⟨B, o, none⟩) (first | exact keptB_refl _ _ | exact keptB_drew | (with_reducible exact keptB_call ‹wr.grownBy _ (some b) ∧ _› ‹Ext _ _›) | (with_reducible exact keptB_grown ‹wr.grownBy _ (some b) ∧ _› ‹World.grownBy _ _ (some b)›)) (first
                | (go_at_call 101; with_reducible refine (HC1.out _).mono ?_; rintro e w3 ⟨rfl, hE⟩)
                | (go_at_call 126; with_reducible refine (HC2.out _ hE).mono ?_; rintro e w4 ⟨rfl, hh4, hg4⟩))
              clear v1
              have N : Hid (InP w w4 w.heap.size b [.int .i64 P, .int .i64 R, .int .i64 C, .slice (some ⟨b, 0, none⟩) n n] (clTo P C r c l1 (i + 1))) := by
                rw [HS2.out]; exact ((L.out.drew.step hE).row hh4 hg4)
              clear L hE hh4 hg4
              go_wp2
              exact ⟨⟨i + 1, by omega, by simp, N⟩, by simp [intOf]; omega⟩
        · obtain rfl : i = R := by omega
          go_wp2
          go_end0
          exact ⟨rfl, by have := L.out.has; rw [← HLE.out, ← HK.out] at this; exact this, L.out.gr⟩
end Go.Proofs.Ytgmipolgnpjmnaa
