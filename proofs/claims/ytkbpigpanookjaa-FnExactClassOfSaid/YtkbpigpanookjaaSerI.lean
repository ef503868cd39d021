/-
  Series of the program: a step is repeated.
-/
import Derived.Test.YtkbpigpanookjaaMatS
import Derived.Test.YtkbpigpanookjaaPrI0
import Derived.Test.YtkbpigpanookjaaPerf
namespace Go.Proofs.Ytkbpigpanookjaa
open Go.ChangeShapes Go.WideShapes Go.ChangeAt Go.RowKit
set_option linter.unusedVariables false
set_option linter.unusedSimpArgs false

def lenOf : Value → Nat | .slice _ n _ => n | _ => 0
/-- A box of a matrix, whole. -/
theorem BoxM.typed {w : World} {B : Nat} {vs : List Value} (h : BoxM w B vs) : w.heap[B]? = some (.cells vs.toArray 41 (0, 0)) := h

theorem ser_step {w w5 : World} {base hi LB b2 : Nat} {v : Value} {P : Int} {D k : Nat} {s : Nat → Nat × List Int} {x0 x1 x2 x3 : Value} {vs : List Value} {xs : List Int} (hL : BoxM w5 LB vs) (hv : vs.length = 4) (hM : MatS w5 base hi v P D s k) (hne : ∀ z, v.ownBlock = some z → w.heap.size ≤ z ∧ z ≠ LB) (hE : Ext w w5) (hlb : w.heap.size ≤ LB) (hH : Has w5 b2 xs) (hb : b2 ≠ LB) (hhi : hi ≤ w5.heap.size) :
    BoxM (((((w5.setCell ⟨LB, 0, none⟩ x0).setCell ⟨LB, 1, none⟩ x1).setCell ⟨LB, 2, none⟩ x2).setCell ⟨LB, 3, none⟩ x3).alloc (.cells #[x0, x1, x2, x3] 41)) w5.heap.size [x0, x1, x2, x3] ∧
    Has (((((w5.setCell ⟨LB, 0, none⟩ x0).setCell ⟨LB, 1, none⟩ x1).setCell ⟨LB, 2, none⟩ x2).setCell ⟨LB, 3, none⟩ x3).alloc (.cells #[x0, x1, x2, x3] 41)) b2 xs ∧
    MatS (((((w5.setCell ⟨LB, 0, none⟩ x0).setCell ⟨LB, 1, none⟩ x1).setCell ⟨LB, 2, none⟩ x2).setCell ⟨LB, 3, none⟩ x3).alloc (.cells #[x0, x1, x2, x3] 41)) base (((((w5.setCell ⟨LB, 0, none⟩ x0).setCell ⟨LB, 1, none⟩ x1).setCell ⟨LB, 2, none⟩ x2).setCell ⟨LB, 3, none⟩ x3).alloc (.cells #[x0, x1, x2, x3] 41)).heap.size v P D s k ∧
    (∀ z, v.ownBlock = some z → w.heap.size ≤ z ∧ z ≠ w5.heap.size) ∧
    Ext w (((((w5.setCell ⟨LB, 0, none⟩ x0).setCell ⟨LB, 1, none⟩ x1).setCell ⟨LB, 2, none⟩ x2).setCell ⟨LB, 3, none⟩ x3).alloc (.cells #[x0, x1, x2, x3] 41)) ∧ w.heap.size ≤ w5.heap.size := by
  have hn : v.ownBlock ≠ some LB := fun e => (hne LB e).2 rfl
  have b0 := hL.put 0 x0
  have b1 := b0.put 1 x1
  have b2' := b1.put 2 x2
  have m0 := hM.put hL hn 0 x0
  have m1 := m0.put b0 hn 1 x1
  have m2 := m1.put b1 hn 2 x2
  have m3 := m2.put b2' hn 3 x3
  have hnew := boxM_new ((((w5.setCell ⟨LB, 0, none⟩ x0).setCell ⟨LB, 1, none⟩ x1).setCell ⟨LB, 2, none⟩ x2).setCell ⟨LB, 3, none⟩ x3) [x0, x1, x2, x3]
  refine ⟨by simpa using hnew, ?_, (m3.ext ((Ext.refl _).alloc _)).mono (by simp; omega), fun z hz => ⟨(hne z hz).1, fun e => by have := (hM.blk z hz).2; omega⟩, (ext4 hE hlb _ _ _ _).alloc _, hE.le⟩
  exact ((((hH.setOther (p := ⟨LB, 0, none⟩) (Ne.symm hb) x0).setOther (p := ⟨LB, 1, none⟩) (Ne.symm hb) x1).setOther (p := ⟨LB, 2, none⟩) (Ne.symm hb) x2).setOther (p := ⟨LB, 3, none⟩) (Ne.symm hb) x3).alloc _
theorem Has.grownNe {w w' : World} {b : Nat} {xs : List Int} {row : Option Nat} (h : Has w b xs) (hg : w.grownBy w' row) (hne : row ≠ some b) : Has w' b xs := by
  obtain ⟨r, h1, h2⟩ := h
  exact ⟨r, by rw [hg.block b (Array.getElem?_eq_some_iff.1 h1).1 (fun e => hne e.symm)]; exact h1, h2⟩

set_option maxRecDepth 100000 in
set_option maxHeartbeats 6400000 in
theorem series_A (P : Int) (D b0 base N F0 : Nat) (s : Nat → Nat × List Int) (w : World) (hD : D ≤ 28) (hN : N ≤ 28) (hE : Ends (fun i => (s i).1) N) (hle : ∀ i, (s i).1 ≤ D) (hb : Has w b0 (s 0).2) (hlen : ∀ i, (s i).2.length = (s i).1 * D) (hba : base ≤ b0)
    (hnx : ∀ i, i ≤ N → ∀ w1 b, Ext w w1 → Has w1 b (s i).2 → Calls Try.prog 66 #[.agg #[.int .i64 P, .int .i64 ((s i).1 : Nat), .int .i64 D, .slice (some ⟨b, 0, none⟩) ((s i).1 * D) ((s i).1 * D)], .pointer (some ⟨F0, 0, none⟩)] w1 fun e w' => ∃ b', e = .returned (.agg #[.int .i64 P, .int .i64 ((s (i + 1)).1 : Nat), .int .i64 D, .slice (some ⟨b', 0, none⟩) ((s (i + 1)).1 * D) ((s (i + 1)).1 * D)]) ∧ w1.heap.size ≤ b' ∧ b' < w'.heap.size ∧ Has w' b' (s (i + 1)).2 ∧ Ext w1 w') :
    Calls Try.prog 64 #[.agg #[.int .i64 P, .int .i64 ((s 0).1 : Nat), .int .i64 D, .slice (some ⟨b0, 0, none⟩) ((s 0).1 * D) ((s 0).1 * D)], .func (.func 66) #[] #[.pointer (some ⟨F0, 0, none⟩)]] w fun e w' => ∃ v, e = .returned v ∧ MatS w' base w'.heap.size v P D s (N + 1) ∧ Ext w w' := by
  have HNX := Lib.hid hnx
  have HEN := Lib.hid hE
  have HLE := Lib.hid hle
  have HLN := Lib.hid hlen
  have hbl := hb.lt
  have M0 : Hid (MatS ((w.alloc (.cells #[.int .i64 P, .int .i64 ((s 0).1 : Nat), .int .i64 D, .slice (some ⟨b0, 0, none⟩) ((s 0).1 * D) ((s 0).1 * D)] 41)).alloc (.cells #[.int .i64 P, .int .i64 ((s 0).1 : Nat), .int .i64 D, .slice (some ⟨b0, 0, none⟩) ((s 0).1 * D) ((s 0).1 * D)] 41)) base (w.heap.size + 1) (.slice (some ⟨w.heap.size + 1, 0, none⟩) 1 1) P D s 1) := by
    have := matS_one (w.alloc (.cells #[.int .i64 P, .int .i64 ((s 0).1 : Nat), .int .i64 D, .slice (some ⟨b0, 0, none⟩) ((s 0).1 * D) ((s 0).1 * D)] 41)) base b0 ((s 0).1 * D) P D s (by simp; omega) hba (hb.alloc _) (hlen 0)
    rw [Hid]; simpa using this
  have M1 := Lib.hid (M0.out.ext ((Ext.refl _).alloc (.cells #[.int .i64 P, .int .i64 ((s 0).1 : Nat), .int .i64 D, .slice (some ⟨b0, 0, none⟩) ((s 0).1 * D) ((s 0).1 * D)] 41)))
  have BX : Hid (BoxM (((w.alloc (.cells #[.int .i64 P, .int .i64 ((s 0).1 : Nat), .int .i64 D, .slice (some ⟨b0, 0, none⟩) ((s 0).1 * D) ((s 0).1 * D)] 41)).alloc (.cells #[.int .i64 P, .int .i64 ((s 0).1 : Nat), .int .i64 D, .slice (some ⟨b0, 0, none⟩) ((s 0).1 * D) ((s 0).1 * D)] 41)).alloc (.cells #[.int .i64 P, .int .i64 ((s 0).1 : Nat), .int .i64 D, .slice (some ⟨b0, 0, none⟩) ((s 0).1 * D) ((s 0).1 * D)] 41)) (w.heap.size + 1 + 1) [.int .i64 P, .int .i64 ((s 0).1 : Nat), .int .i64 D, .slice (some ⟨b0, 0, none⟩) ((s 0).1 * D) ((s 0).1 * D)]) := by
    have := boxM_new ((w.alloc (.cells #[.int .i64 P, .int .i64 ((s 0).1 : Nat), .int .i64 D, .slice (some ⟨b0, 0, none⟩) ((s 0).1 * D) ((s 0).1 * D)] 41)).alloc (.cells #[.int .i64 P, .int .i64 ((s 0).1 : Nat), .int .i64 D, .slice (some ⟨b0, 0, none⟩) ((s 0).1 * D) ((s 0).1 * D)] 41)) [.int .i64 P, .int .i64 ((s 0).1 : Nat), .int .i64 D, .slice (some ⟨b0, 0, none⟩) ((s 0).1 * D) ((s 0).1 * D)]
    rw [Hid]; simpa using this
  have H0 := Lib.hid (((hb.alloc (.cells #[.int .i64 P, .int .i64 ((s 0).1 : Nat), .int .i64 D, .slice (some ⟨b0, 0, none⟩) ((s 0).1 * D) ((s 0).1 * D)] 41)).alloc (.cells #[.int .i64 P, .int .i64 ((s 0).1 : Nat), .int .i64 D, .slice (some ⟨b0, 0, none⟩) ((s 0).1 * D) ((s 0).1 * D)] 41)).alloc (.cells #[.int .i64 P, .int .i64 ((s 0).1 : Nat), .int .i64 D, .slice (some ⟨b0, 0, none⟩) ((s 0).1 * D) ((s 0).1 * D)] 41))
  have E0 := Lib.hid ((((Ext.refl w).alloc (.cells #[.int .i64 P, .int .i64 ((s 0).1 : Nat), .int .i64 D, .slice (some ⟨b0, 0, none⟩) ((s 0).1 * D) ((s 0).1 * D)] 41)).alloc (.cells #[.int .i64 P, .int .i64 ((s 0).1 : Nat), .int .i64 D, .slice (some ⟨b0, 0, none⟩) ((s 0).1 * D) ((s 0).1 * D)] 41)).alloc (.cells #[.int .i64 P, .int .i64 ((s 0).1 : Nat), .int .i64 D, .slice (some ⟨b0, 0, none⟩) ((s 0).1 * D) ((s 0).1 * D)] 41))
  clear hnx hE hle hb hlen M0
  go_enter Try.func64, Try.ntmps64
  go_wp2_with fail
  generalize hW1 : (((w.alloc (.cells #[.int .i64 P, .int .i64 ((s 0).1 : Nat), .int .i64 D, .slice (some ⟨b0, 0, none⟩) ((s 0).1 * D) ((s 0).1 * D)] 41)).alloc (.cells #[.int .i64 P, .int .i64 ((s 0).1 : Nat), .int .i64 D, .slice (some ⟨b0, 0, none⟩) ((s 0).1 * D) ((s 0).1 * D)] 41)).alloc (.cells #[.int .i64 P, .int .i64 ((s 0).1 : Nat), .int .i64 D, .slice (some ⟨b0, 0, none⟩) ((s 0).1 * D) ((s 0).1 * D)] 41)) = W1 at *
  have hs1 : w.heap.size + 1 + 1 < W1.heap.size := by rw [← hW1]; simp
  clear hW1
  go_loopw [5, 6, 7] (fun z p _ wr => ∃ (i LB b cv : Nat) (va : Option Addr), i ≤ N ∧ p = .pointer (some ⟨LB, 0, none⟩) ∧ z = .slice va (i + 1) cv ∧ Hid (BoxM wr LB [.int .i64 P, .int .i64 ((s i).1 : Nat), .int .i64 D, .slice (some ⟨b, 0, none⟩) ((s i).1 * D) ((s i).1 * D)]) ∧ Hid (Has wr b (s i).2) ∧ Hid (MatS wr base wr.heap.size (.slice va (i + 1) cv) P D s (i + 1)) ∧ Hid (∀ z, (Value.slice va (i + 1) cv).ownBlock = some z → w.heap.size ≤ z ∧ z ≠ LB) ∧ Hid (Ext w wr) ∧ Hid (w.heap.size ≤ LB)) (fun v _ _ _ => N + 1 - lenOf v)
  case atStart => exact ⟨0, w.heap.size + 1 + 1, b0, 1, _, by omega, rfl, rfl, BX, H0, M1.out.mono (by omega), Lib.hid (fun z hz => by simp [Value.ownBlock] at hz; omega), E0, Lib.hid (by omega)⟩
  case round =>
    clear M1 BX H0 E0 hs1
    obtain ⟨i, LB, b, cv, va, hi, rfl, rfl, hB, hH, hM, hne, hE, hlb⟩ := hrel
    have HX1 := Lib.hid (HNX.out i hi)
    have hle1 := HLE.out (i + 1)
    have hvw := fun z hz => (hM.out.blk z hz).2
    have hsw : Hid (base ≤ wr.heap.size) := by have := hE.out.le; show _ ≤ _; omega
    have BC := hB.out.cells
    have lB := BC.1
    have q0 := BC.2 0 _ rfl
    have q1 := BC.2 1 _ rfl
    have q2 := BC.2 2 _ rfl
    have q3 := BC.2 3 _ rfl
    clear BC
    go_wp2_with fail
    refine (HX1.out _ b hE.out hH.out).mono ?_
    rintro e w2 ⟨b2, rfl, hb1, hb2, hh2, h2⟩
    have hB2 := Lib.hid (BoxM.ext hB.out h2)
    have hM2 := Lib.hid (hM.out.ext h2)
    have hE2 := Lib.hid (hE.out.trans h2)
    have hLH := Lib.hid lB
    have hsz := Lib.hid h2.le
    clear lB q0 q1 q2 q3 HX1 hB hH hM hE h2
    have BX2 : Hid (BoxM (w2.alloc (.cells #[.int .i64 P, .int .i64 ((s (i + 1)).1 : Nat), .int .i64 D, .slice (some ⟨b2, 0, none⟩) ((s (i + 1)).1 * D) ((s (i + 1)).1 * D)] 41)) w2.heap.size [.int .i64 P, .int .i64 ((s (i + 1)).1 : Nat), .int .i64 D, .slice (some ⟨b2, 0, none⟩) ((s (i + 1)).1 * D) ((s (i + 1)).1 * D)]) := boxM_new w2 _
    have hB3 := Lib.hid (BoxM.ext hB2.out ((Ext.refl w2).alloc (.cells #[.int .i64 P, .int .i64 ((s (i + 1)).1 : Nat), .int .i64 D, .slice (some ⟨b2, 0, none⟩) ((s (i + 1)).1 * D) ((s (i + 1)).1 * D)] 41)))
    have hM3 := Lib.hid (hM2.out.ext ((Ext.refl w2).alloc (.cells #[.int .i64 P, .int .i64 ((s (i + 1)).1 : Nat), .int .i64 D, .slice (some ⟨b2, 0, none⟩) ((s (i + 1)).1 * D) ((s (i + 1)).1 * D)] 41)))
    have hE3 := Lib.hid (hE2.out.alloc (.cells #[.int .i64 P, .int .i64 ((s (i + 1)).1 : Nat), .int .i64 D, .slice (some ⟨b2, 0, none⟩) ((s (i + 1)).1 * D) ((s (i + 1)).1 * D)] 41))
    have hH3 := Lib.hid (hh2.alloc (.cells #[.int .i64 P, .int .i64 ((s (i + 1)).1 : Nat), .int .i64 D, .slice (some ⟨b2, 0, none⟩) ((s (i + 1)).1 * D) ((s (i + 1)).1 * D)] 41))
    have hsz3 : w2.heap.size < (w2.alloc (.cells #[.int .i64 P, .int .i64 ((s (i + 1)).1 : Nat), .int .i64 D, .slice (some ⟨b2, 0, none⟩) ((s (i + 1)).1 * D) ((s (i + 1)).1 * D)] 41)).heap.size := by simp
    clear hB2 hM2 hE2 hh2
    have hnl : w2.heap.size ≠ LB := by have := hLH.out; have := hsz.out; omega
    have BC := hB3.out.cells
    have lL := BC.1
    have r0 := BC.2 0 _ rfl
    have r1 := BC.2 1 _ rfl
    clear BC
    by_cases e : i = N
    · subst e
      have he : (s (i + 1)).1 = (s i).1 := HEN.out.2
      have heq : (((s (i + 1)).1 : Int) == ((s i).1 : Int)) = true := by rw [he]; simp
      clear he
      go_wp2
      go_ret
      exact ⟨_, rfl, hM3.out.mono (by have := hsz.out; omega), hE3.out⟩
    · have hne2 : (s (i + 1)).1 ≠ (s i).1 := HEN.out.1 i (by omega)
      have hne3 : (((s (i + 1)).1 : Int) == ((s i).1 : Int)) = false := by simp only [beq_eq_false_iff_ne, ne_eq]; omega
      clear hne2
      have hvb := hM3.out
      have HVB : Hid (∀ z, (Value.slice va (i + 1) cv).ownBlock = some z → z < wr.heap.size) := hvw
      have hrow : Own (w2.alloc (.cells #[.int .i64 P, .int .i64 ((s (i + 1)).1 : Nat), .int .i64 D, .slice (some ⟨b2, 0, none⟩) ((s (i + 1)).1 * D) ((s (i + 1)).1 * D)] 41)) base (w2.alloc (.cells #[.int .i64 P, .int .i64 ((s (i + 1)).1 : Nat), .int .i64 D, .slice (some ⟨b2, 0, none⟩) ((s (i + 1)).1 * D) ((s (i + 1)).1 * D)] 41)).heap.size (some ⟨b2, 0, none⟩) ((s (i + 1)).1 * D) (s (i + 1)).2 := hH3.out.own (by have := hsw.out; omega) hH3.out.lt (HLN.out (i + 1))
      have HROW := Lib.hid hrow
      clear hrow hvb hvw
      have hbW : base ≤ (w2.alloc (.cells #[.int .i64 P, .int .i64 ((s (i + 1)).1 : Nat), .int .i64 D, .slice (some ⟨b2, 0, none⟩) ((s (i + 1)).1 * D) ((s (i + 1)).1 * D)] 41)).heap.size := by have := hsw.out; have := hsz.out; simp; omega
      go_wp2_with (at_builtin; refine wpList_appendMatS rfl (.tmp 20) (.tmp 22) rfl base wr.heap.size (.slice va (i + 1) cv) P D (i + 1) s b2 ((s (i + 1)).1 * D) 1 (w2.heap.size + 1) (by simp) rfl rfl hM3.out HROW.out hb1 (by omega) hbW ?_; intro v5 w5 hM5 hg5 hat5; obtain ⟨a5, c5, hv5, _⟩ := hM5.shape; subst hv5; have hS5 := Lib.hid (BoxM.grown BX2.out hg5 (fun e9 => by have := HVB.out _ e9; have := hsz.out; omega)); have hL5 := Lib.hid (BoxM.grown hB3.out hg5 (fun e9 => (hne.out LB e9).2 rfl)); have BC5 := hS5.out.cells; have s0 := BC5.2 0 _ rfl; have s1 := BC5.2 1 _ rfl; have s2 := BC5.2 2 _ rfl; have s3 := BC5.2 3 _ rfl; have lS5 := BC5.1; have BL5 := hL5.out.cells; have lL5 := BL5.1; have t0 := BL5.2 0 _ rfl; have t1 := BL5.2 1 _ rfl; have t2 := BL5.2 2 _ rfl; have t3 := BL5.2 3 _ rfl; have f0 := BL5.3 0; have f1 := BL5.3 1; have f2 := BL5.3 2; have f3 := BL5.3 3; have HM5 := Lib.hid hM5; have HG5 := Lib.hid hg5; have HAT5 := Lib.hid hat5; clear hM5 hg5 hat5 BC5 BL5)
      have E5 := hE3.out.grown HG5.out (fun z hz => (hne.out z hz).1)
      have H5 := Has.grownNe hH3.out HG5.out (fun e9 => by have := HVB.out _ e9; omega)
      have hgs := HG5.out.size
      have NE5 : ∀ z, (Value.slice a5 (i + 1 + 1) c5).ownBlock = some z → w.heap.size ≤ z ∧ z ≠ LB := fun z hz => by
        rcases HAT5.out with h9 | h9
        · rw [h9] at hz; exact hne.out z hz
        · rw [h9] at hz
          simp only [Option.some.injEq] at hz
          have q1 := hlb.out
          have q2 := hLH.out
          have q3 := hsz.out
          have q4 := hsz3
          omega
      obtain ⟨z1, z2, z3, z4, z5, z6⟩ := ser_step (x0 := .int .i64 P) (x1 := .int .i64 ((s (i + 1)).1 : Nat)) (x2 := .int .i64 D) (x3 := .slice (some ⟨b2, 0, none⟩) ((s (i + 1)).1 * D) ((s (i + 1)).1 * D)) hL5.out rfl HM5.out NE5 E5 hlb.out H5 (by have := hLH.out; omega) hgs
      exact ⟨⟨i + 1, _, b2, c5, a5, by omega, rfl, rfl, z1, z2, z3, z4, z5, z6⟩, by simp [lenOf]; omega⟩

set_option maxRecDepth 100000 in
set_option maxHeartbeats 6400000 in
theorem series_B (P : Int) (D b0 base N F0 F1 : Nat) (s : Nat → Nat × List Int) (w : World) (hD : D ≤ 28) (hN : N ≤ 28) (hE : Ends (fun i => (s i).1) N) (hle : ∀ i, (s i).1 ≤ D) (hb : Has w b0 (s 0).2) (hlen : ∀ i, (s i).2.length = (s i).1 * D) (hba : base ≤ b0)
    (hnx : ∀ i, i ≤ N → ∀ w1 b, Ext w w1 → Has w1 b (s i).2 → Calls Try.prog 71 #[.agg #[.int .i64 P, .int .i64 ((s i).1 : Nat), .int .i64 D, .slice (some ⟨b, 0, none⟩) ((s i).1 * D) ((s i).1 * D)], .pointer (some ⟨F0, 0, none⟩), .pointer (some ⟨F1, 0, none⟩)] w1 fun e w' => ∃ b', e = .returned (.agg #[.int .i64 P, .int .i64 ((s (i + 1)).1 : Nat), .int .i64 D, .slice (some ⟨b', 0, none⟩) ((s (i + 1)).1 * D) ((s (i + 1)).1 * D)]) ∧ w1.heap.size ≤ b' ∧ b' < w'.heap.size ∧ Has w' b' (s (i + 1)).2 ∧ Ext w1 w') :
    Calls Try.prog 64 #[.agg #[.int .i64 P, .int .i64 ((s 0).1 : Nat), .int .i64 D, .slice (some ⟨b0, 0, none⟩) ((s 0).1 * D) ((s 0).1 * D)], .func (.func 71) #[] #[.pointer (some ⟨F0, 0, none⟩), .pointer (some ⟨F1, 0, none⟩)]] w fun e w' => ∃ v, e = .returned v ∧ MatS w' base w'.heap.size v P D s (N + 1) ∧ Ext w w' := by
  have HNX := Lib.hid hnx
  have HEN := Lib.hid hE
  have HLE := Lib.hid hle
  have HLN := Lib.hid hlen
  have hbl := hb.lt
  have M0 : Hid (MatS ((w.alloc (.cells #[.int .i64 P, .int .i64 ((s 0).1 : Nat), .int .i64 D, .slice (some ⟨b0, 0, none⟩) ((s 0).1 * D) ((s 0).1 * D)] 41)).alloc (.cells #[.int .i64 P, .int .i64 ((s 0).1 : Nat), .int .i64 D, .slice (some ⟨b0, 0, none⟩) ((s 0).1 * D) ((s 0).1 * D)] 41)) base (w.heap.size + 1) (.slice (some ⟨w.heap.size + 1, 0, none⟩) 1 1) P D s 1) := by
    have := matS_one (w.alloc (.cells #[.int .i64 P, .int .i64 ((s 0).1 : Nat), .int .i64 D, .slice (some ⟨b0, 0, none⟩) ((s 0).1 * D) ((s 0).1 * D)] 41)) base b0 ((s 0).1 * D) P D s (by simp; omega) hba (hb.alloc _) (hlen 0)
    rw [Hid]; simpa using this
  have M1 := Lib.hid (M0.out.ext ((Ext.refl _).alloc (.cells #[.int .i64 P, .int .i64 ((s 0).1 : Nat), .int .i64 D, .slice (some ⟨b0, 0, none⟩) ((s 0).1 * D) ((s 0).1 * D)] 41)))
  have BX : Hid (BoxM (((w.alloc (.cells #[.int .i64 P, .int .i64 ((s 0).1 : Nat), .int .i64 D, .slice (some ⟨b0, 0, none⟩) ((s 0).1 * D) ((s 0).1 * D)] 41)).alloc (.cells #[.int .i64 P, .int .i64 ((s 0).1 : Nat), .int .i64 D, .slice (some ⟨b0, 0, none⟩) ((s 0).1 * D) ((s 0).1 * D)] 41)).alloc (.cells #[.int .i64 P, .int .i64 ((s 0).1 : Nat), .int .i64 D, .slice (some ⟨b0, 0, none⟩) ((s 0).1 * D) ((s 0).1 * D)] 41)) (w.heap.size + 1 + 1) [.int .i64 P, .int .i64 ((s 0).1 : Nat), .int .i64 D, .slice (some ⟨b0, 0, none⟩) ((s 0).1 * D) ((s 0).1 * D)]) := by
    have := boxM_new ((w.alloc (.cells #[.int .i64 P, .int .i64 ((s 0).1 : Nat), .int .i64 D, .slice (some ⟨b0, 0, none⟩) ((s 0).1 * D) ((s 0).1 * D)] 41)).alloc (.cells #[.int .i64 P, .int .i64 ((s 0).1 : Nat), .int .i64 D, .slice (some ⟨b0, 0, none⟩) ((s 0).1 * D) ((s 0).1 * D)] 41)) [.int .i64 P, .int .i64 ((s 0).1 : Nat), .int .i64 D, .slice (some ⟨b0, 0, none⟩) ((s 0).1 * D) ((s 0).1 * D)]
    rw [Hid]; simpa using this
  have H0 := Lib.hid (((hb.alloc (.cells #[.int .i64 P, .int .i64 ((s 0).1 : Nat), .int .i64 D, .slice (some ⟨b0, 0, none⟩) ((s 0).1 * D) ((s 0).1 * D)] 41)).alloc (.cells #[.int .i64 P, .int .i64 ((s 0).1 : Nat), .int .i64 D, .slice (some ⟨b0, 0, none⟩) ((s 0).1 * D) ((s 0).1 * D)] 41)).alloc (.cells #[.int .i64 P, .int .i64 ((s 0).1 : Nat), .int .i64 D, .slice (some ⟨b0, 0, none⟩) ((s 0).1 * D) ((s 0).1 * D)] 41))
  have E0 := Lib.hid ((((Ext.refl w).alloc (.cells #[.int .i64 P, .int .i64 ((s 0).1 : Nat), .int .i64 D, .slice (some ⟨b0, 0, none⟩) ((s 0).1 * D) ((s 0).1 * D)] 41)).alloc (.cells #[.int .i64 P, .int .i64 ((s 0).1 : Nat), .int .i64 D, .slice (some ⟨b0, 0, none⟩) ((s 0).1 * D) ((s 0).1 * D)] 41)).alloc (.cells #[.int .i64 P, .int .i64 ((s 0).1 : Nat), .int .i64 D, .slice (some ⟨b0, 0, none⟩) ((s 0).1 * D) ((s 0).1 * D)] 41))
  clear hnx hE hle hb hlen M0
  go_enter Try.func64, Try.ntmps64
  go_wp2_with fail
  generalize hW1 : (((w.alloc (.cells #[.int .i64 P, .int .i64 ((s 0).1 : Nat), .int .i64 D, .slice (some ⟨b0, 0, none⟩) ((s 0).1 * D) ((s 0).1 * D)] 41)).alloc (.cells #[.int .i64 P, .int .i64 ((s 0).1 : Nat), .int .i64 D, .slice (some ⟨b0, 0, none⟩) ((s 0).1 * D) ((s 0).1 * D)] 41)).alloc (.cells #[.int .i64 P, .int .i64 ((s 0).1 : Nat), .int .i64 D, .slice (some ⟨b0, 0, none⟩) ((s 0).1 * D) ((s 0).1 * D)] 41)) = W1 at *
  have hs1 : w.heap.size + 1 + 1 < W1.heap.size := by rw [← hW1]; simp
  clear hW1
  go_loopw [5, 6, 7] (fun z p _ wr => ∃ (i LB b cv : Nat) (va : Option Addr), i ≤ N ∧ p = .pointer (some ⟨LB, 0, none⟩) ∧ z = .slice va (i + 1) cv ∧ Hid (BoxM wr LB [.int .i64 P, .int .i64 ((s i).1 : Nat), .int .i64 D, .slice (some ⟨b, 0, none⟩) ((s i).1 * D) ((s i).1 * D)]) ∧ Hid (Has wr b (s i).2) ∧ Hid (MatS wr base wr.heap.size (.slice va (i + 1) cv) P D s (i + 1)) ∧ Hid (∀ z, (Value.slice va (i + 1) cv).ownBlock = some z → w.heap.size ≤ z ∧ z ≠ LB) ∧ Hid (Ext w wr) ∧ Hid (w.heap.size ≤ LB)) (fun v _ _ _ => N + 1 - lenOf v)
  case atStart => exact ⟨0, w.heap.size + 1 + 1, b0, 1, _, by omega, rfl, rfl, BX, H0, M1.out.mono (by omega), Lib.hid (fun z hz => by simp [Value.ownBlock] at hz; omega), E0, Lib.hid (by omega)⟩
  case round =>
    clear M1 BX H0 E0 hs1
    obtain ⟨i, LB, b, cv, va, hi, rfl, rfl, hB, hH, hM, hne, hE, hlb⟩ := hrel
    have HX1 := Lib.hid (HNX.out i hi)
    have hle1 := HLE.out (i + 1)
    have hvw := fun z hz => (hM.out.blk z hz).2
    have hsw : Hid (base ≤ wr.heap.size) := by have := hE.out.le; show _ ≤ _; omega
    have BC := hB.out.cells
    have lB := BC.1
    have q0 := BC.2 0 _ rfl
    have q1 := BC.2 1 _ rfl
    have q2 := BC.2 2 _ rfl
    have q3 := BC.2 3 _ rfl
    clear BC
    go_wp2_with fail
    refine (HX1.out _ b hE.out hH.out).mono ?_
    rintro e w2 ⟨b2, rfl, hb1, hb2, hh2, h2⟩
    have hB2 := Lib.hid (BoxM.ext hB.out h2)
    have hM2 := Lib.hid (hM.out.ext h2)
    have hE2 := Lib.hid (hE.out.trans h2)
    have hLH := Lib.hid lB
    have hsz := Lib.hid h2.le
    clear lB q0 q1 q2 q3 HX1 hB hH hM hE h2
    have BX2 : Hid (BoxM (w2.alloc (.cells #[.int .i64 P, .int .i64 ((s (i + 1)).1 : Nat), .int .i64 D, .slice (some ⟨b2, 0, none⟩) ((s (i + 1)).1 * D) ((s (i + 1)).1 * D)] 41)) w2.heap.size [.int .i64 P, .int .i64 ((s (i + 1)).1 : Nat), .int .i64 D, .slice (some ⟨b2, 0, none⟩) ((s (i + 1)).1 * D) ((s (i + 1)).1 * D)]) := boxM_new w2 _
    have hB3 := Lib.hid (BoxM.ext hB2.out ((Ext.refl w2).alloc (.cells #[.int .i64 P, .int .i64 ((s (i + 1)).1 : Nat), .int .i64 D, .slice (some ⟨b2, 0, none⟩) ((s (i + 1)).1 * D) ((s (i + 1)).1 * D)] 41)))
    have hM3 := Lib.hid (hM2.out.ext ((Ext.refl w2).alloc (.cells #[.int .i64 P, .int .i64 ((s (i + 1)).1 : Nat), .int .i64 D, .slice (some ⟨b2, 0, none⟩) ((s (i + 1)).1 * D) ((s (i + 1)).1 * D)] 41)))
    have hE3 := Lib.hid (hE2.out.alloc (.cells #[.int .i64 P, .int .i64 ((s (i + 1)).1 : Nat), .int .i64 D, .slice (some ⟨b2, 0, none⟩) ((s (i + 1)).1 * D) ((s (i + 1)).1 * D)] 41))
    have hH3 := Lib.hid (hh2.alloc (.cells #[.int .i64 P, .int .i64 ((s (i + 1)).1 : Nat), .int .i64 D, .slice (some ⟨b2, 0, none⟩) ((s (i + 1)).1 * D) ((s (i + 1)).1 * D)] 41))
    have hsz3 : w2.heap.size < (w2.alloc (.cells #[.int .i64 P, .int .i64 ((s (i + 1)).1 : Nat), .int .i64 D, .slice (some ⟨b2, 0, none⟩) ((s (i + 1)).1 * D) ((s (i + 1)).1 * D)] 41)).heap.size := by simp
    clear hB2 hM2 hE2 hh2
    have hnl : w2.heap.size ≠ LB := by have := hLH.out; have := hsz.out; omega
    have BC := hB3.out.cells
    have lL := BC.1
    have r0 := BC.2 0 _ rfl
    have r1 := BC.2 1 _ rfl
    clear BC
    by_cases e : i = N
    · subst e
      have he : (s (i + 1)).1 = (s i).1 := HEN.out.2
      have heq : (((s (i + 1)).1 : Int) == ((s i).1 : Int)) = true := by rw [he]; simp
      clear he
      go_wp2
      go_ret
      exact ⟨_, rfl, hM3.out.mono (by have := hsz.out; omega), hE3.out⟩
    · have hne2 : (s (i + 1)).1 ≠ (s i).1 := HEN.out.1 i (by omega)
      have hne3 : (((s (i + 1)).1 : Int) == ((s i).1 : Int)) = false := by simp only [beq_eq_false_iff_ne, ne_eq]; omega
      clear hne2
      have hvb := hM3.out
      have HVB : Hid (∀ z, (Value.slice va (i + 1) cv).ownBlock = some z → z < wr.heap.size) := hvw
      have hrow : Own (w2.alloc (.cells #[.int .i64 P, .int .i64 ((s (i + 1)).1 : Nat), .int .i64 D, .slice (some ⟨b2, 0, none⟩) ((s (i + 1)).1 * D) ((s (i + 1)).1 * D)] 41)) base (w2.alloc (.cells #[.int .i64 P, .int .i64 ((s (i + 1)).1 : Nat), .int .i64 D, .slice (some ⟨b2, 0, none⟩) ((s (i + 1)).1 * D) ((s (i + 1)).1 * D)] 41)).heap.size (some ⟨b2, 0, none⟩) ((s (i + 1)).1 * D) (s (i + 1)).2 := hH3.out.own (by have := hsw.out; omega) hH3.out.lt (HLN.out (i + 1))
      have HROW := Lib.hid hrow
      clear hrow hvb hvw
      have hbW : base ≤ (w2.alloc (.cells #[.int .i64 P, .int .i64 ((s (i + 1)).1 : Nat), .int .i64 D, .slice (some ⟨b2, 0, none⟩) ((s (i + 1)).1 * D) ((s (i + 1)).1 * D)] 41)).heap.size := by have := hsw.out; have := hsz.out; simp; omega
      go_wp2_with (at_builtin; refine wpList_appendMatS rfl (.tmp 20) (.tmp 22) rfl base wr.heap.size (.slice va (i + 1) cv) P D (i + 1) s b2 ((s (i + 1)).1 * D) 1 (w2.heap.size + 1) (by simp) rfl rfl hM3.out HROW.out hb1 (by omega) hbW ?_; intro v5 w5 hM5 hg5 hat5; obtain ⟨a5, c5, hv5, _⟩ := hM5.shape; subst hv5; have hS5 := Lib.hid (BoxM.grown BX2.out hg5 (fun e9 => by have := HVB.out _ e9; have := hsz.out; omega)); have hL5 := Lib.hid (BoxM.grown hB3.out hg5 (fun e9 => (hne.out LB e9).2 rfl)); have BC5 := hS5.out.cells; have s0 := BC5.2 0 _ rfl; have s1 := BC5.2 1 _ rfl; have s2 := BC5.2 2 _ rfl; have s3 := BC5.2 3 _ rfl; have lS5 := BC5.1; have BL5 := hL5.out.cells; have lL5 := BL5.1; have t0 := BL5.2 0 _ rfl; have t1 := BL5.2 1 _ rfl; have t2 := BL5.2 2 _ rfl; have t3 := BL5.2 3 _ rfl; have f0 := BL5.3 0; have f1 := BL5.3 1; have f2 := BL5.3 2; have f3 := BL5.3 3; have HM5 := Lib.hid hM5; have HG5 := Lib.hid hg5; have HAT5 := Lib.hid hat5; clear hM5 hg5 hat5 BC5 BL5)
      have E5 := hE3.out.grown HG5.out (fun z hz => (hne.out z hz).1)
      have H5 := Has.grownNe hH3.out HG5.out (fun e9 => by have := HVB.out _ e9; omega)
      have hgs := HG5.out.size
      have NE5 : ∀ z, (Value.slice a5 (i + 1 + 1) c5).ownBlock = some z → w.heap.size ≤ z ∧ z ≠ LB := fun z hz => by
        rcases HAT5.out with h9 | h9
        · rw [h9] at hz; exact hne.out z hz
        · rw [h9] at hz
          simp only [Option.some.injEq] at hz
          have q1 := hlb.out
          have q2 := hLH.out
          have q3 := hsz.out
          have q4 := hsz3
          omega
      obtain ⟨z1, z2, z3, z4, z5, z6⟩ := ser_step (x0 := .int .i64 P) (x1 := .int .i64 ((s (i + 1)).1 : Nat)) (x2 := .int .i64 D) (x3 := .slice (some ⟨b2, 0, none⟩) ((s (i + 1)).1 * D) ((s (i + 1)).1 * D)) hL5.out rfl HM5.out NE5 E5 hlb.out H5 (by have := hLH.out; omega) hgs
      exact ⟨⟨i + 1, _, b2, c5, a5, by omega, rfl, rfl, z1, z2, z3, z4, z5, z6⟩, by simp [lenOf]; omega⟩

set_option maxRecDepth 100000 in
set_option maxHeartbeats 3200000 in
theorem next_A (P : Int) (D B F0 a0 oa n b : Nat) (l : List Int) (t : Nat × List Int) (w : World) (hF0 : Cells w F0 [.pointer (some ⟨B, 0, none⟩)]) (hc : Cells w B [.int .i64 P, .int .i64 D, .slice (some ⟨a0, oa, none⟩) n n]) (hT : Reads w (some ⟨a0, oa, none⟩) n l) (hA : AlgP P D n l) (ht : Spc P D t) (hb : Has w b t.2) :
    Calls Try.prog 66 #[.agg #[.int .i64 P, .int .i64 (t.1 : Nat), .int .i64 D, .slice (some ⟨b, 0, none⟩) (t.1 * D) (t.1 * D)], .pointer (some ⟨F0, 0, none⟩)] w fun e w' => ∃ b', e = .returned (.agg #[.int .i64 P, .int .i64 ((prS P D l t t).1 : Nat), .int .i64 D, .slice (some ⟨b', 0, none⟩) ((prS P D l t t).1 * D) ((prS P D l t t).1 * D)]) ∧ w.heap.size ≤ b' ∧ b' < w'.heap.size ∧ Has w' b' (prS P D l t t).2 ∧ Ext w w' := by
  have hp := isP_lo hA.pr
  have hp2 := isP_hi hA.pr
  have hD := hA.dim
  have h27 : D * D ≤ 784 := Nat.mul_le_mul hD hD
  have h28 := cube28 hD
  have hle := ht.le
  have htD : t.1 * D ≤ 784 := Nat.mul_le_mul (Nat.le_trans hle hD) hD
  have hRR : t.1 * t.1 ≤ 784 := Nat.mul_le_mul (Nat.le_trans hle hD) (Nat.le_trans hle hD)
  have hRD : t.1 * (t.1 * D) ≤ 21952 := Nat.mul_le_mul (Nat.le_trans hle hD) htD
  have HPI : Hid (∀ w1, Ext w w1 → Calls Try.prog 68 #[.pointer (some ⟨B, 0, none⟩), .agg #[.int .i64 P, .int .i64 (t.1 : Nat), .int .i64 D, .slice (some ⟨b, 0, none⟩) (t.1 * D) (t.1 * D)], .agg #[.int .i64 P, .int .i64 (t.1 : Nat), .int .i64 D, .slice (some ⟨b, 0, none⟩) (t.1 * D) (t.1 * D)]] w1 fun e w' => ∃ b', e = .returned (.agg #[.int .i64 P, .int .i64 ((t.1 : Int) * (t.1 : Int)), .int .i64 D, .slice (some ⟨b', 0, none⟩) (t.1 * (t.1 * D)) (t.1 * (t.1 * D))]) ∧ w1.heap.size ≤ b' ∧ b' < w'.heap.size ∧ Has w' b' (pL P D l t.2 t.2 t.1 t.1) ∧ Ext w1 w') := fun w1 h => products_impl P D t.1 t.1 (t.1 * D) (t.1 * D) (t.1 * (t.1 * D)) B a0 oa n n b 0 b 0 l t.2 t.2 w1 (hc.ext h) hD (by omega) (by omega) hA.len rfl rfl rfl (Nat.le_refl _) (by unfold maxLen; have := hA.len; omega) (hT.ext h) ((hb.ext h).reads ht.len) ((hb.ext h).reads ht.len) hp hp2 hA.res ht.res ht.res
  have HSP : Hid (∀ w1 b', Has w1 b' (pL P D l t.2 t.2 t.1 t.1) → Calls Try.prog 67 #[.agg #[.int .i64 P, .int .i64 ((t.1 : Int) * (t.1 : Int)), .int .i64 D, .slice (some ⟨b', 0, none⟩) (t.1 * (t.1 * D)) (t.1 * (t.1 * D))]] w1 fun e w' => ∃ b', e = .returned (.agg #[.int .i64 P, .int .i64 ((prS P D l t t).1 : Nat), .int .i64 D, .slice (some ⟨b', 0, none⟩) ((prS P D l t t).1 * D) ((prS P D l t t).1 * D)]) ∧ w1.heap.size ≤ b' ∧ b' < w'.heap.size ∧ Has w' b' (prS P D l t t).2 ∧ Ext w1 w') := fun w1 b' h => by
    rw [← Int.natCast_mul]
    exact span_impl P (t.1 * t.1) D (t.1 * (t.1 * D)) (t.1 * (t.1 * D)) (some ⟨b', 0, none⟩) (pL P D l t.2 t.2 t.1 t.1) w1 (h.reads (pL_length _ _ _ _)) (by rw [Nat.mul_assoc]) (by omega) (by omega) (by omega) hp hp2 (pL_res (by omega) _ _ _ _)
  have HF0 := Lib.hid hF0
  clear hF0 hc hT hA ht hb hle
  generalize prS P D l t t = u at HSP ⊢
  obtain ⟨ur, ud⟩ := u
  obtain ⟨tr, td⟩ := t
  dsimp only at *
  go_enter Try.func66, Try.ntmps66
  have A0_1 := Lib.hid ((cells_new' w #[.int .i64 P, .int .i64 (tr : Nat), .int .i64 D, .slice (some ⟨b, 0, none⟩) (tr * D) (tr * D)] 41 (w.heap.size) (by simp)).ext ((Ext.refl _).alloc (.cells #[.int .i64 0, .int .i64 0, .int .i64 0, .slice none 0 0] 41)))
  have R_2 := Lib.hid (cells_new' (w.alloc (.cells #[.int .i64 P, .int .i64 (tr : Nat), .int .i64 D, .slice (some ⟨b, 0, none⟩) (tr * D) (tr * D)] 41)) #[.int .i64 0, .int .i64 0, .int .i64 0, .slice none 0 0] 41 (w.heap.size + 1) (by simp))
  have E_3 := Lib.hid (((Ext.refl w).alloc (.cells #[.int .i64 P, .int .i64 (tr : Nat), .int .i64 D, .slice (some ⟨b, 0, none⟩) (tr * D) (tr * D)] 41)).alloc (.cells #[.int .i64 0, .int .i64 0, .int .i64 0, .slice none 0 0] 41))
  have F0_4 := Lib.hid (HF0.out.ext E_3.out)
  have lA0 := A0_1.out.1
  have qA00 := A0_1.out.2 0 _ rfl
  have qA01 := A0_1.out.2 1 _ rfl
  have qA02 := A0_1.out.2 2 _ rfl
  have qA03 := A0_1.out.2 3 _ rfl
  have lF0 := F0_4.out.1
  have qF00 := F0_4.out.2 0 _ rfl
  try simp only [World.size_alloc] at lA0 lF0
  go_wp2_with fail
  refine (HPI.out _ E_3.out).mono ?_
  rintro e w_5 ⟨b1, rfl, hq1, hq2, hh, h_5⟩
  clear lA0 qA00 qA01 qA02 qA03 lF0 qF00
  have A0_6 := Lib.hid (A0_1.out.ext h_5)
  clear A0_1
  have R_7 := Lib.hid (R_2.out.ext h_5)
  clear R_2
  have F0_8 := Lib.hid (F0_4.out.ext h_5)
  clear F0_4
  have E_9 := Lib.hid (E_3.out.trans h_5)
  clear E_3
  have lR0 := Lib.hid R_7.out.1
  go_wp2_with fail
  refine (HSP.out _ b1 hh).mono ?_
  rintro e w_10 ⟨b2, rfl, hq3, hq4, hh2, h_10⟩
  have A0_11 := Lib.hid (A0_6.out.ext h_10)
  clear A0_6
  have R_12 := Lib.hid (R_7.out.ext h_10)
  clear R_7
  have F0_13 := Lib.hid (F0_8.out.ext h_10)
  clear F0_8
  have E_14 := Lib.hid (E_9.out.trans h_10)
  clear E_9
  have lR1 := lR0.out
  try simp only [World.size_alloc] at hq1 hq3
  have r0 := R_12.out.2 0 _ rfl
  have r1 := R_12.out.2 1 _ rfl
  have r2 := R_12.out.2 2 _ rfl
  have r3 := R_12.out.2 3 _ rfl
  have tR := R_12.out.3
  have lR := R_12.out.1
  go_wp2
  refine bodyPost_ret (v := .agg #[.int .i64 P, .int .i64 (ur : Nat), .int .i64 D, .slice (some ⟨b2, 0, none⟩) (ur * D) (ur * D)]) (by simp [results, Try.results66, go_sem, r0, r1, r2, r3]) rfl ⟨b2, rfl, by omega, by simp; omega, ?_, ext4 E_14.out (by omega) _ _ _ _⟩
  repeat with_reducible (first | exact hh2 | refine Has.setOther ?_ (by simp <;> omega) _)

set_option maxRecDepth 100000 in
set_option maxHeartbeats 3200000 in
theorem next_B (P : Int) (D B F0 F1 a0 oa n b bu : Nat) (l : List Int) (t : Nat × List Int) (w : World) (hF0 : Cells w F0 [.pointer (some ⟨B, 0, none⟩)]) (hF1 : Cells w F1 [.int .i64 P, .int .i64 D, .int .i64 D, .slice (some ⟨bu, 0, none⟩) (D * D) (D * D)]) (hU : Has w bu (unitTo D D)) (hc : Cells w B [.int .i64 P, .int .i64 D, .slice (some ⟨a0, oa, none⟩) n n]) (hT : Reads w (some ⟨a0, oa, none⟩) n l) (hA : AlgP P D n l) (ht : Spc P D t) (hb : Has w b t.2) :
    Calls Try.prog 71 #[.agg #[.int .i64 P, .int .i64 (t.1 : Nat), .int .i64 D, .slice (some ⟨b, 0, none⟩) (t.1 * D) (t.1 * D)], .pointer (some ⟨F0, 0, none⟩), .pointer (some ⟨F1, 0, none⟩)] w fun e w' => ∃ b', e = .returned (.agg #[.int .i64 P, .int .i64 ((prS P D l (allS D) t).1 : Nat), .int .i64 D, .slice (some ⟨b', 0, none⟩) ((prS P D l (allS D) t).1 * D) ((prS P D l (allS D) t).1 * D)]) ∧ w.heap.size ≤ b' ∧ b' < w'.heap.size ∧ Has w' b' (prS P D l (allS D) t).2 ∧ Ext w w' := by
  have hp := isP_lo hA.pr
  have hp2 := isP_hi hA.pr
  have hD := hA.dim
  have h27 : D * D ≤ 784 := Nat.mul_le_mul hD hD
  have h28 := cube28 hD
  have hle := ht.le
  have htD : t.1 * D ≤ 784 := Nat.mul_le_mul (Nat.le_trans hle hD) hD
  have hRR : D * t.1 ≤ 784 := Nat.mul_le_mul hD (Nat.le_trans hle hD)
  have hRD : D * (t.1 * D) ≤ 21952 := Nat.mul_le_mul hD htD
  have HPI : Hid (∀ w1, Ext w w1 → Calls Try.prog 68 #[.pointer (some ⟨B, 0, none⟩), .agg #[.int .i64 P, .int .i64 D, .int .i64 D, .slice (some ⟨bu, 0, none⟩) (D * D) (D * D)], .agg #[.int .i64 P, .int .i64 (t.1 : Nat), .int .i64 D, .slice (some ⟨b, 0, none⟩) (t.1 * D) (t.1 * D)]] w1 fun e w' => ∃ b', e = .returned (.agg #[.int .i64 P, .int .i64 ((D : Int) * (t.1 : Int)), .int .i64 D, .slice (some ⟨b', 0, none⟩) (D * (t.1 * D)) (D * (t.1 * D))]) ∧ w1.heap.size ≤ b' ∧ b' < w'.heap.size ∧ Has w' b' (pL P D l (unitTo D D) t.2 t.1 D) ∧ Ext w1 w') := fun w1 h => products_impl P D D t.1 (D * D) (t.1 * D) (D * (t.1 * D)) B a0 oa n n bu 0 b 0 l (unitTo D D) t.2 w1 (hc.ext h) hD (by omega) (by omega) hA.len rfl rfl rfl (Nat.le_refl _) (by unfold maxLen; have := hA.len; omega) (hT.ext h) ((hU.ext h).reads (unitTo_length D D)) ((hb.ext h).reads ht.len) hp hp2 hA.res (unitTo_res2 P hp D D) ht.res
  have HSP : Hid (∀ w1 b', Has w1 b' (pL P D l (unitTo D D) t.2 t.1 D) → Calls Try.prog 67 #[.agg #[.int .i64 P, .int .i64 ((D : Int) * (t.1 : Int)), .int .i64 D, .slice (some ⟨b', 0, none⟩) (D * (t.1 * D)) (D * (t.1 * D))]] w1 fun e w' => ∃ b', e = .returned (.agg #[.int .i64 P, .int .i64 ((prS P D l (allS D) t).1 : Nat), .int .i64 D, .slice (some ⟨b', 0, none⟩) ((prS P D l (allS D) t).1 * D) ((prS P D l (allS D) t).1 * D)]) ∧ w1.heap.size ≤ b' ∧ b' < w'.heap.size ∧ Has w' b' (prS P D l (allS D) t).2 ∧ Ext w1 w') := fun w1 b' h => by
    rw [← Int.natCast_mul]
    exact span_impl P (D * t.1) D (D * (t.1 * D)) (D * (t.1 * D)) (some ⟨b', 0, none⟩) (pL P D l (unitTo D D) t.2 t.1 D) w1 (h.reads (pL_length _ _ _ _)) (by rw [Nat.mul_assoc]) (by omega) (by omega) (by omega) hp hp2 (pL_res (by omega) _ _ _ _)
  have HF0 := Lib.hid hF0
  have HF1 := Lib.hid hF1
  clear hF0 hc hT hA ht hb hle hF1 hU
  generalize prS P D l (allS D) t = u at HSP ⊢
  obtain ⟨ur, ud⟩ := u
  obtain ⟨tr, td⟩ := t
  dsimp only at *
  go_enter Try.func71, Try.ntmps71
  have A0_1 := Lib.hid ((cells_new' w #[.int .i64 P, .int .i64 (tr : Nat), .int .i64 D, .slice (some ⟨b, 0, none⟩) (tr * D) (tr * D)] 41 (w.heap.size) (by simp)).ext ((Ext.refl _).alloc (.cells #[.int .i64 0, .int .i64 0, .int .i64 0, .slice none 0 0] 41)))
  have R_2 := Lib.hid (cells_new' (w.alloc (.cells #[.int .i64 P, .int .i64 (tr : Nat), .int .i64 D, .slice (some ⟨b, 0, none⟩) (tr * D) (tr * D)] 41)) #[.int .i64 0, .int .i64 0, .int .i64 0, .slice none 0 0] 41 (w.heap.size + 1) (by simp))
  have E_3 := Lib.hid (((Ext.refl w).alloc (.cells #[.int .i64 P, .int .i64 (tr : Nat), .int .i64 D, .slice (some ⟨b, 0, none⟩) (tr * D) (tr * D)] 41)).alloc (.cells #[.int .i64 0, .int .i64 0, .int .i64 0, .slice none 0 0] 41))
  have F0_4 := Lib.hid (HF0.out.ext E_3.out)
  have F1_5 := Lib.hid (HF1.out.ext E_3.out)
  have lA0 := A0_1.out.1
  have qA00 := A0_1.out.2 0 _ rfl
  have qA01 := A0_1.out.2 1 _ rfl
  have qA02 := A0_1.out.2 2 _ rfl
  have qA03 := A0_1.out.2 3 _ rfl
  have lF0 := F0_4.out.1
  have qF00 := F0_4.out.2 0 _ rfl
  have lF1 := F1_5.out.1
  have qF10 := F1_5.out.2 0 _ rfl
  have qF11 := F1_5.out.2 1 _ rfl
  have qF12 := F1_5.out.2 2 _ rfl
  have qF13 := F1_5.out.2 3 _ rfl
  try simp only [World.size_alloc] at lA0 lF0 lF1
  go_wp2_with fail
  refine (HPI.out _ E_3.out).mono ?_
  rintro e w_6 ⟨b1, rfl, hq1, hq2, hh, h_6⟩
  clear lA0 qA00 qA01 qA02 qA03 lF0 qF00 lF1 qF10 qF11 qF12 qF13
  have A0_7 := Lib.hid (A0_1.out.ext h_6)
  clear A0_1
  have R_8 := Lib.hid (R_2.out.ext h_6)
  clear R_2
  have F0_9 := Lib.hid (F0_4.out.ext h_6)
  clear F0_4
  have F1_10 := Lib.hid (F1_5.out.ext h_6)
  clear F1_5
  have E_11 := Lib.hid (E_3.out.trans h_6)
  clear E_3
  have lR0 := Lib.hid R_8.out.1
  go_wp2_with fail
  refine (HSP.out _ b1 hh).mono ?_
  rintro e w_12 ⟨b2, rfl, hq3, hq4, hh2, h_12⟩
  have A0_13 := Lib.hid (A0_7.out.ext h_12)
  clear A0_7
  have R_14 := Lib.hid (R_8.out.ext h_12)
  clear R_8
  have F0_15 := Lib.hid (F0_9.out.ext h_12)
  clear F0_9
  have F1_16 := Lib.hid (F1_10.out.ext h_12)
  clear F1_10
  have E_17 := Lib.hid (E_11.out.trans h_12)
  clear E_11
  have lR1 := lR0.out
  try simp only [World.size_alloc] at hq1 hq3
  have r0 := R_14.out.2 0 _ rfl
  have r1 := R_14.out.2 1 _ rfl
  have r2 := R_14.out.2 2 _ rfl
  have r3 := R_14.out.2 3 _ rfl
  have tR := R_14.out.3
  have lR := R_14.out.1
  go_wp2
  refine bodyPost_ret (v := .agg #[.int .i64 P, .int .i64 (ur : Nat), .int .i64 D, .slice (some ⟨b2, 0, none⟩) (ur * D) (ur * D)]) (by simp [results, Try.results71, go_sem, r0, r1, r2, r3]) rfl ⟨b2, rfl, by omega, by simp; omega, ?_, ext4 E_17.out (by omega) _ _ _ _⟩
  repeat with_reducible (first | exact hh2 | refine Has.setOther ?_ (by simp <;> omega) _)

noncomputable def derM (P D : Int) (l : List Int) : List Mat := if algB P D l then serL P D.toNat (derS P D.toNat l) (derN P D.toNat l + 1) else []
noncomputable def lowM (P D : Int) (l : List Int) : List Mat := if algB P D l then serL P D.toNat (lowS P D.toNat l) (lowN P D.toNat l + 1) else []
end Go.Proofs.Ytkbpigpanookjaa
