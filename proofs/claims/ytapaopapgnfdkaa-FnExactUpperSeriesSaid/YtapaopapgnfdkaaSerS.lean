/-
  The derived and the lower series of the specification, and what is asked of them.
-/
import Derived.Test.YtapaopapgnfdkaaSerT
import Derived.Test.YtapaopapgnfdkaaPrQ
import Derived.Test.YtapaopapgnfdkaaAo
namespace Go.Proofs.Ytapaopapgnfdkaa
open Go.ChangeShapes Go.WideShapes Go.ChangeAt Go.RowKit
set_option linter.unusedVariables false
set_option linter.unusedSimpArgs false

theorem Cells.putOther {w : World} {B : Nat} {vs : List Value} (h : Cells w B vs) {p : Addr} (hp : p.block ≠ B) (v : Value) : Cells (w.setCell p v) B vs :=
  h.grown (grownBy_set (p := p) (grownBy_refl w (some p.block)) rfl v) (fun k hk => by simp at hk; omega)
theorem BoxM.setOther {w : World} {B : Nat} {vs : List Value} (h : BoxM w B vs) {p : Addr} (hp : p.block ≠ B) (v : Value) : BoxM (w.setCell p v) B vs :=
  h.grown (grownBy_set (p := p) (grownBy_refl w (some p.block)) rfl v) (fun e => hp (by simpa using e))
theorem put4 {w : World} {base hi LB : Nat} {v : Value} {P : Int} {D k : Nat} {s : Nat → Nat × List Int} {vs : List Value} (hL : BoxM w LB vs) (hv : vs.length = 4) (hM : MatS w base hi v P D s k) (hn : v.ownBlock ≠ some LB) (x0 x1 x2 x3 : Value) :
    BoxM ((((w.setCell ⟨LB, 0, none⟩ x0).setCell ⟨LB, 1, none⟩ x1).setCell ⟨LB, 2, none⟩ x2).setCell ⟨LB, 3, none⟩ x3) LB [x0, x1, x2, x3] ∧ MatS ((((w.setCell ⟨LB, 0, none⟩ x0).setCell ⟨LB, 1, none⟩ x1).setCell ⟨LB, 2, none⟩ x2).setCell ⟨LB, 3, none⟩ x3) base hi v P D s k := by
  have b0 := hL.put 0 x0
  have b1 := b0.put 1 x1
  have b2 := b1.put 2 x2
  have b3 := b2.put 3 x3
  refine ⟨?_, (((hM.put hL hn 0 x0).put b0 hn 1 x1).put b1 hn 2 x2).put b2 hn 3 x3⟩
  match vs, hv, b3 with
  | [y0, y1, y2, y3], _, b3 => simpa using b3

set_option maxRecDepth 100000 in
set_option maxHeartbeats 6400000 in
theorem l3Series_0 (P : Int) (D a0 oa n b0 c0 base N : Nat) (s : Nat → Nat × List Int) (w : World) (hD : D ≤ 28) (hN : N ≤ 28) (hE : Ends (fun i => (s i).1) N) (hle : ∀ i, (s i).1 ≤ D) (hb : Has w b0 (s 0).2) (hc0 : (s 0).1 * D ≤ c0) (hlen : ∀ i, (s i).2.length = (s i).1 * D) (hba : base ≤ b0)
    (hnx : ∀ i, i ≤ N → ∀ w1 b c, Ext w w1 → Has w1 b (s i).2 → (s i).1 * D ≤ c → Calls Try.prog 137 #[.agg #[.int .i64 P, .int .i64 D, .slice (some ⟨a0, oa, none⟩) n n], .agg #[.int .i64 P, .int .i64 ((s i).1 : Nat), .int .i64 D, .slice (some ⟨b, 0, none⟩) ((s i).1 * D) c], .agg #[.int .i64 P, .int .i64 ((s i).1 : Nat), .int .i64 D, .slice (some ⟨b, 0, none⟩) ((s i).1 * D) c]] w1 fun e w' => ∃ b' c', e = .returned (.agg #[.int .i64 P, .int .i64 ((s (i + 1)).1 : Nat), .int .i64 D, .slice (some ⟨b', 0, none⟩) ((s (i + 1)).1 * D) c']) ∧ w1.heap.size ≤ b' ∧ b' < w'.heap.size ∧ Has w' b' (s (i + 1)).2 ∧ Ext w1 w' ∧ (s (i + 1)).1 * D ≤ c') :
    Calls Try.prog 61 #[.agg #[.int .i64 P, .int .i64 D, .slice (some ⟨a0, oa, none⟩) n n], .agg #[.int .i64 P, .int .i64 ((s 0).1 : Nat), .int .i64 D, .slice (some ⟨b0, 0, none⟩) ((s 0).1 * D) c0], .int .i64 0] w fun e w' => ∃ v, e = .returned v ∧ MatS w' base w'.heap.size v P D s (N + 1) ∧ Ext w w' := by
  have HNX := Lib.hid hnx
  have HEN := Lib.hid hE
  have HLE := Lib.hid hle
  have HLN := Lib.hid hlen
  have hbl := hb.lt
  have AX0 : Hid (Cells (((w.alloc (.cells #[.int .i64 P, .int .i64 D, .slice (some ⟨a0, oa, none⟩) n n] 28)).alloc (.cells #[.int .i64 P, .int .i64 ((s 0).1 : Nat), .int .i64 D, .slice (some ⟨b0, 0, none⟩) ((s 0).1 * D) c0] 40)).alloc (.cells #[.int .i64 P, .int .i64 ((s 0).1 : Nat), .int .i64 D, .slice (some ⟨b0, 0, none⟩) ((s 0).1 * D) c0] 40)) w.heap.size [.int .i64 P, .int .i64 D, .slice (some ⟨a0, oa, none⟩) n n]) := (cells_new w #[.int .i64 P, .int .i64 D, .slice (some ⟨a0, oa, none⟩) n n] 28).ext (((Ext.refl _).alloc _).alloc _)
  have BX0 : Hid (BoxM (((w.alloc (.cells #[.int .i64 P, .int .i64 D, .slice (some ⟨a0, oa, none⟩) n n] 28)).alloc (.cells #[.int .i64 P, .int .i64 ((s 0).1 : Nat), .int .i64 D, .slice (some ⟨b0, 0, none⟩) ((s 0).1 * D) c0] 40)).alloc (.cells #[.int .i64 P, .int .i64 ((s 0).1 : Nat), .int .i64 D, .slice (some ⟨b0, 0, none⟩) ((s 0).1 * D) c0] 40)) (w.heap.size + 1) [.int .i64 P, .int .i64 ((s 0).1 : Nat), .int .i64 D, .slice (some ⟨b0, 0, none⟩) ((s 0).1 * D) c0]) := by
    have := BoxM.ext (boxM_new (w.alloc (.cells #[.int .i64 P, .int .i64 D, .slice (some ⟨a0, oa, none⟩) n n] 28)) [.int .i64 P, .int .i64 ((s 0).1 : Nat), .int .i64 D, .slice (some ⟨b0, 0, none⟩) ((s 0).1 * D) c0]) ((Ext.refl _).alloc (.cells #[.int .i64 P, .int .i64 ((s 0).1 : Nat), .int .i64 D, .slice (some ⟨b0, 0, none⟩) ((s 0).1 * D) c0] 40))
    rw [Hid]; simpa using this
  have M1 : Hid (MatS (((w.alloc (.cells #[.int .i64 P, .int .i64 D, .slice (some ⟨a0, oa, none⟩) n n] 28)).alloc (.cells #[.int .i64 P, .int .i64 ((s 0).1 : Nat), .int .i64 D, .slice (some ⟨b0, 0, none⟩) ((s 0).1 * D) c0] 40)).alloc (.cells #[.int .i64 P, .int .i64 ((s 0).1 : Nat), .int .i64 D, .slice (some ⟨b0, 0, none⟩) ((s 0).1 * D) c0] 40)) base (w.heap.size + 1 + 1) (.slice (some ⟨w.heap.size + 1 + 1, 0, none⟩) 1 1) P D s 1) := by
    have := matS_one ((w.alloc (.cells #[.int .i64 P, .int .i64 D, .slice (some ⟨a0, oa, none⟩) n n] 28)).alloc (.cells #[.int .i64 P, .int .i64 ((s 0).1 : Nat), .int .i64 D, .slice (some ⟨b0, 0, none⟩) ((s 0).1 * D) c0] 40)) base b0 c0 P D s (by simp; omega) hba ((hb.alloc _).alloc _) (hlen 0)
    rw [Hid]; simpa using this
  have H0 : Hid (Has (((w.alloc (.cells #[.int .i64 P, .int .i64 D, .slice (some ⟨a0, oa, none⟩) n n] 28)).alloc (.cells #[.int .i64 P, .int .i64 ((s 0).1 : Nat), .int .i64 D, .slice (some ⟨b0, 0, none⟩) ((s 0).1 * D) c0] 40)).alloc (.cells #[.int .i64 P, .int .i64 ((s 0).1 : Nat), .int .i64 D, .slice (some ⟨b0, 0, none⟩) ((s 0).1 * D) c0] 40)) b0 (s 0).2) := ((hb.alloc _).alloc _).alloc _
  have E0 : Hid (Ext w (((w.alloc (.cells #[.int .i64 P, .int .i64 D, .slice (some ⟨a0, oa, none⟩) n n] 28)).alloc (.cells #[.int .i64 P, .int .i64 ((s 0).1 : Nat), .int .i64 D, .slice (some ⟨b0, 0, none⟩) ((s 0).1 * D) c0] 40)).alloc (.cells #[.int .i64 P, .int .i64 ((s 0).1 : Nat), .int .i64 D, .slice (some ⟨b0, 0, none⟩) ((s 0).1 * D) c0] 40))) := (((Ext.refl w).alloc _).alloc _).alloc _
  clear hnx hE hle hb hlen
  go_enter Try.func61, Try.ntmps61
  go_wp2_with fail
  generalize hW1 : (((w.alloc (.cells #[.int .i64 P, .int .i64 D, .slice (some ⟨a0, oa, none⟩) n n] 28)).alloc (.cells #[.int .i64 P, .int .i64 ((s 0).1 : Nat), .int .i64 D, .slice (some ⟨b0, 0, none⟩) ((s 0).1 * D) c0] 40)).alloc (.cells #[.int .i64 P, .int .i64 ((s 0).1 : Nat), .int .i64 D, .slice (some ⟨b0, 0, none⟩) ((s 0).1 * D) c0] 40)) = W1 at *
  have hs1 : w.heap.size + 1 + 1 < W1.heap.size := by rw [← hW1]; simp
  clear hW1
  go_loopw [7, 8, 18, 24] (fun z _ _ _ wr => ∃ (i b cb cv : Nat) (va : Option Addr), i ≤ N ∧ z = .slice va (i + 1) cv ∧ Hid (Cells wr w.heap.size [.int .i64 P, .int .i64 D, .slice (some ⟨a0, oa, none⟩) n n]) ∧ Hid (BoxM wr (w.heap.size + 1) [.int .i64 P, .int .i64 ((s i).1 : Nat), .int .i64 D, .slice (some ⟨b, 0, none⟩) ((s i).1 * D) cb]) ∧ Hid (Has wr b (s i).2 ∧ (s i).1 * D ≤ cb) ∧ Hid (MatS wr base wr.heap.size (.slice va (i + 1) cv) P D s (i + 1)) ∧ Hid (∀ z, (Value.slice va (i + 1) cv).ownBlock = some z → w.heap.size ≤ z ∧ z ≠ w.heap.size + 1 ∧ z ≠ w.heap.size) ∧ Hid (Ext w wr)) (fun z _ _ _ _ => N + 1 - lenOf z)
  case atStart => exact ⟨0, b0, c0, 1, _, by omega, rfl, AX0, BX0, ⟨H0.out, hc0⟩, M1.out.mono (by omega), Lib.hid (fun z hz => by simp [Value.ownBlock] at hz; omega), E0⟩
  case round =>
    clear M1 BX0 H0 E0 hs1 AX0
    obtain ⟨i, b, cb, cv, va, hi, rfl, hA, hB, hH, hM, hne, hE⟩ := hrel
    have HX1 := Lib.hid (HNX.out i hi)
    have hvw : Hid (∀ z, (Value.slice va (i + 1) cv).ownBlock = some z → z < wr.heap.size) := fun z hz => (hM.out.blk z hz).2
    have hsw : Hid (base ≤ wr.heap.size) := by have := hE.out.le; show _ ≤ _; omega
    have hX1 := (Ext.refl wr).alloc (.cells #[.int .i64 P, .int .i64 ((s i).1 : Nat), .int .i64 D, .slice (some ⟨b, 0, none⟩) ((s i).1 * D) cb] 40)
    have T8 : Hid (BoxM (wr.alloc (.cells #[.int .i64 P, .int .i64 ((s i).1 : Nat), .int .i64 D, .slice (some ⟨b, 0, none⟩) ((s i).1 * D) cb] 40)) wr.heap.size [.int .i64 P, .int .i64 ((s i).1 : Nat), .int .i64 D, .slice (some ⟨b, 0, none⟩) ((s i).1 * D) cb]) := boxM_new wr _
    have hA1 := Lib.hid (hA.out.ext hX1)
    have hB1 := Lib.hid (BoxM.ext hB.out hX1)
    have hH1 := Lib.hid (hH.out.1.ext hX1)
    have hM1 := Lib.hid (hM.out.ext hX1)
    have hE1 := Lib.hid (hE.out.trans hX1)
    have HCB := Lib.hid hH.out.2
    have HSB : Hid (w.heap.size + 1 < wr.heap.size) := hB.out.cells.1
    have HH0 := Lib.hid hH.out.1
    have HEW := Lib.hid hE.out
    have HEX := Lib.hid hX1
    have BC := hB.out.cells
    have lB := BC.1
    have q0 := BC.2 0 _ rfl
    have q1 := BC.2 1 _ rfl
    have q2 := BC.2 2 _ rfl
    have q3 := BC.2 3 _ rfl
    have lA := hA.out.1
    have a0' := hA.out.2 0 _ rfl
    have a1' := hA.out.2 1 _ rfl
    have a2' := hA.out.2 2 _ rfl
    clear BC hX1 hA hB hH hM hE
    go_wp2_with fail
    refine (HX1.out _ b cb hE1.out hH1.out HCB.out).mono ?_
    rintro e w2 ⟨b2, c2, rfl, hb1, hb2, hh2, h2, hcc⟩
    have T82 := Lib.hid (BoxM.ext T8.out h2)
    have hA2 := Lib.hid (hA1.out.ext h2)
    have hB2 := Lib.hid (BoxM.ext hB1.out h2)
    have hM2 := Lib.hid (hM1.out.ext h2)
    have hE2 := Lib.hid (hE1.out.trans h2)
    have hsz2 := h2.le
    try simp only [World.size_alloc] at hb1 hsz2
    clear HH0 HEW HEX
    clear h2 T8 hA1 hB1 hM1 hE1 hH1 lB q0 q1 q2 q3 lA a0' a1' a2'
    have TC := T82.out.cells
    have lT := TC.1
    have y0 := TC.2 0 _ rfl
    have y1 := TC.2 1 _ rfl
    have y2 := TC.2 2 _ rfl
    have y3 := TC.2 3 _ rfl
    have tf := TC.3
    clear TC
    obtain ⟨T83, hM3⟩ := put4 T82.out rfl hM2.out (fun e => by have := hvw.out _ e; omega) (.int .i64 P) (.int .i64 ((s (i + 1)).1 : Nat)) (.int .i64 D) (.slice (some ⟨b2, 0, none⟩) ((s (i + 1)).1 * D) c2)
    have hT3 := Lib.hid T83
    have HM3 := Lib.hid hM3
    have nSB : wr.heap.size ≠ w.heap.size + 1 := by have := HSB.out; omega
    have nSA : wr.heap.size ≠ w.heap.size := by have := HSB.out; omega
    have hB3 := Lib.hid ((((hB2.out.setOther (p := ⟨wr.heap.size, 0, none⟩) nSB (.int .i64 P)).setOther (p := ⟨wr.heap.size, 1, none⟩) nSB (.int .i64 ((s (i + 1)).1 : Nat))).setOther (p := ⟨wr.heap.size, 2, none⟩) nSB (.int .i64 D)).setOther (p := ⟨wr.heap.size, 3, none⟩) nSB (.slice (some ⟨b2, 0, none⟩) ((s (i + 1)).1 * D) c2))
    have hA3 := Lib.hid ((((hA2.out.putOther (p := ⟨wr.heap.size, 0, none⟩) nSA (.int .i64 P)).putOther (p := ⟨wr.heap.size, 1, none⟩) nSA (.int .i64 ((s (i + 1)).1 : Nat))).putOther (p := ⟨wr.heap.size, 2, none⟩) nSA (.int .i64 D)).putOther (p := ⟨wr.heap.size, 3, none⟩) nSA (.slice (some ⟨b2, 0, none⟩) ((s (i + 1)).1 * D) c2))
    have hH3 := Lib.hid ((((hh2.setOther (p := ⟨wr.heap.size, 0, none⟩) (by simp; omega) (.int .i64 P)).setOther (p := ⟨wr.heap.size, 1, none⟩) (by simp; omega) (.int .i64 ((s (i + 1)).1 : Nat))).setOther (p := ⟨wr.heap.size, 2, none⟩) (by simp; omega) (.int .i64 D)).setOther (p := ⟨wr.heap.size, 3, none⟩) (by simp; omega) (.slice (some ⟨b2, 0, none⟩) ((s (i + 1)).1 * D) c2))
    have hE3 := Lib.hid (ext4 (B := wr.heap.size) hE2.out (by have := HSB.out; omega) (.int .i64 P) (.int .i64 ((s (i + 1)).1 : Nat)) (.int .i64 D) (.slice (some ⟨b2, 0, none⟩) ((s (i + 1)).1 * D) c2) : Ext w _)
    have hz3 : ((((w2.setCell ⟨wr.heap.size, 0, none⟩ (.int .i64 P)).setCell ⟨wr.heap.size, 1, none⟩ (.int .i64 ((s (i + 1)).1 : Nat))).setCell ⟨wr.heap.size, 2, none⟩ (.int .i64 D)).setCell ⟨wr.heap.size, 3, none⟩ (.slice (some ⟨b2, 0, none⟩) ((s (i + 1)).1 * D) c2)).heap.size = w2.heap.size := by simp
    have HZ3 := Lib.hid hz3
    clear T83 hM3 hz3 T82 hM2 hB2 hA2 hE2 hh2
    go_upto_region 9 with fail
    generalize ((((w2.setCell ⟨wr.heap.size, 0, none⟩ (.int .i64 P)).setCell ⟨wr.heap.size, 1, none⟩ (.int .i64 ((s (i + 1)).1 : Nat))).setCell ⟨wr.heap.size, 2, none⟩ (.int .i64 D)).setCell ⟨wr.heap.size, 3, none⟩ (.slice (some ⟨b2, 0, none⟩) ((s (i + 1)).1 * D) c2)) = W3 at *
    clear lT y0 y1 y2 y3 tf
    generalize w2.heap.size = z2 at *
    generalize hT8 : wr.heap.size = T8 at *
    have HT8 := Lib.hid hT8
    clear hT8
    have TC := hT3.out.cells
    have lT := TC.1
    have y0 := TC.2 0 _ rfl
    have y1 := TC.2 1 _ rfl
    have y2 := TC.2 2 _ rfl
    have y3 := TC.2 3 _ rfl
    have SC := hB3.out.cells
    have lS := SC.1
    have s1 := SC.2 1 _ rfl
    clear TC SC
    by_cases e : i = N
    · subst e
      have he : (s (i + 1)).1 = (s i).1 := HEN.out.2
      have heq : (((s (i + 1)).1 : Int) == ((s i).1 : Int)) = true := by rw [he]; simp
      clear he
      go_wp2
      go_ret
      exact ⟨_, rfl, HM3.out.mono (by have := HZ3.out; omega), hE3.out⟩
    · have hne2 : (s (i + 1)).1 ≠ (s i).1 := HEN.out.1 i (by omega)
      have hne3 : (((s (i + 1)).1 : Int) == ((s i).1 : Int)) = false := by simp only [beq_eq_false_iff_ne, ne_eq]; omega
      clear hne2
      have HROW : Hid (Own W3 base W3.heap.size (some ⟨b2, 0, none⟩) ((s (i + 1)).1 * D) (s (i + 1)).2) := hH3.out.own (by have := hsw.out; omega) hH3.out.lt (HLN.out (i + 1))
      have hbW : base ≤ W3.heap.size := by have := hsw.out; have := HZ3.out; omega
      have hbT : T8 ≤ b2 := by omega
      go_wp2_with (at_builtin; refine wpList_appendMatS rfl (.tmp 37) (.tmp 39) rfl base T8 (.slice va (i + 1) cv) P D (i + 1) s b2 c2 1 W3.heap.size rfl rfl rfl HM3.out HROW.out hbT (by omega) hbW ?_; intro v5 w5 hM5 hg5 hat5; obtain ⟨a5, c5, hv5, _⟩ := hM5.shape; subst hv5; have hS5 := Lib.hid (BoxM.grown hT3.out hg5 (fun e9 => by have := hvw.out _ e9; omega)); have hL5 := Lib.hid (BoxM.grown hB3.out hg5 (fun e9 => (hne.out _ e9).2.1 rfl)); have hA5 := Lib.hid (hA3.out.grown hg5 (fun k hk => by have := hne.out k hk; omega)); have BC5 := hS5.out.cells; have s0 := BC5.2 0 _ rfl; have s1 := BC5.2 1 _ rfl; have s2 := BC5.2 2 _ rfl; have s3 := BC5.2 3 _ rfl; have lS5 := BC5.1; have BL5 := hL5.out.cells; have lL5 := BL5.1; have t0 := BL5.2 0 _ rfl; have t1 := BL5.2 1 _ rfl; have t2 := BL5.2 2 _ rfl; have t3 := BL5.2 3 _ rfl; have f0 := BL5.3 0; have f1 := BL5.3 1; have f2 := BL5.3 2; have f3 := BL5.3 3; have HM5 := Lib.hid hM5; have HG5 := Lib.hid hg5; have HAT5 := Lib.hid hat5; clear hM5 hg5 hat5 BC5 BL5)
      have hi1 : i + 1 ≤ N := by omega
      have hms : N + 1 - (i + 1 + 1) < N + 1 - (i + 1) := by omega
      have E5 := hE3.out.grown HG5.out (fun z hz => (hne.out z hz).1)
      have H5 := Has.grownNe hH3.out HG5.out (fun e9 => by have := hvw.out _ e9; omega)
      have hgs := HG5.out.size
      have hz9 := HZ3.out
      have hgs9 : W3.heap.size ≤ w5.heap.size := hgs
      have NE5 : ∀ z, (Value.slice a5 (i + 1 + 1) c5).ownBlock = some z → w.heap.size ≤ z ∧ z ≠ w.heap.size + 1 ∧ z ≠ w.heap.size := fun z hz => by
        rcases HAT5.out with h9 | h9
        · rw [h9] at hz; exact hne.out z hz
        · rw [h9] at hz
          simp only [Option.some.injEq] at hz
          have q1 := HSB.out
          omega
      obtain ⟨z1, z3⟩ := put4 hL5.out rfl HM5.out (fun e9 => (NE5 _ e9).2.1 rfl) (.int .i64 P) (.int .i64 ((s (i + 1)).1 : Nat)) (.int .i64 D) (.slice (some ⟨b2, 0, none⟩) ((s (i + 1)).1 * D) c2)
      have hwl : w.heap.size ≤ w.heap.size + 1 := by omega
      have nA : w.heap.size + 1 ≠ w.heap.size := by omega
      have nH : w.heap.size + 1 ≠ b2 := by have := HSB.out; omega
      have z4 := (((hA5.out.putOther (p := ⟨w.heap.size + 1, 0, none⟩) nA (.int .i64 P)).putOther (p := ⟨w.heap.size + 1, 1, none⟩) nA (.int .i64 ((s (i + 1)).1 : Nat))).putOther (p := ⟨w.heap.size + 1, 2, none⟩) nA (.int .i64 D)).putOther (p := ⟨w.heap.size + 1, 3, none⟩) nA (.slice (some ⟨b2, 0, none⟩) ((s (i + 1)).1 * D) c2)
      have z5 := (((H5.setOther (p := ⟨w.heap.size + 1, 0, none⟩) nH (.int .i64 P)).setOther (p := ⟨w.heap.size + 1, 1, none⟩) nH (.int .i64 ((s (i + 1)).1 : Nat))).setOther (p := ⟨w.heap.size + 1, 2, none⟩) nH (.int .i64 D)).setOther (p := ⟨w.heap.size + 1, 3, none⟩) nH (.slice (some ⟨b2, 0, none⟩) ((s (i + 1)).1 * D) c2)
      exact ⟨⟨i + 1, b2, c2, c5, a5, hi1, rfl, z4, z1, ⟨z5, hcc⟩, z3.mono (by simpa using hgs9), NE5, ext4 E5 hwl _ _ _ _⟩, by simp only [lenOf]; exact hms⟩

set_option maxRecDepth 100000 in
set_option maxHeartbeats 6400000 in
theorem l3Series_1 (P : Int) (D a0 oa n b0 c0 base N : Nat) (s : Nat → Nat × List Int) (w : World) (hD : D ≤ 28) (hN : N ≤ 28) (hE : Ends (fun i => (s i).1) N) (hle : ∀ i, (s i).1 ≤ D) (hb : Has w b0 (s 0).2) (hc0 : (s 0).1 * D ≤ c0) (hlen : ∀ i, (s i).2.length = (s i).1 * D) (hba : base ≤ b0)
    (hnx : ∀ i, i ≤ N → ∀ w1 b c bu, Ext w w1 → Has w1 bu (unitTo D D) → Has w1 b (s i).2 → (s i).1 * D ≤ c → Calls Try.prog 137 #[.agg #[.int .i64 P, .int .i64 D, .slice (some ⟨a0, oa, none⟩) n n], .agg #[.int .i64 P, .int .i64 D, .int .i64 D, .slice (some ⟨bu, 0, none⟩) (D * D) (D * D)], .agg #[.int .i64 P, .int .i64 ((s i).1 : Nat), .int .i64 D, .slice (some ⟨b, 0, none⟩) ((s i).1 * D) c]] w1 fun e w' => ∃ b' c', e = .returned (.agg #[.int .i64 P, .int .i64 ((s (i + 1)).1 : Nat), .int .i64 D, .slice (some ⟨b', 0, none⟩) ((s (i + 1)).1 * D) c']) ∧ w1.heap.size ≤ b' ∧ b' < w'.heap.size ∧ Has w' b' (s (i + 1)).2 ∧ Ext w1 w' ∧ (s (i + 1)).1 * D ≤ c') :
    Calls Try.prog 61 #[.agg #[.int .i64 P, .int .i64 D, .slice (some ⟨a0, oa, none⟩) n n], .agg #[.int .i64 P, .int .i64 ((s 0).1 : Nat), .int .i64 D, .slice (some ⟨b0, 0, none⟩) ((s 0).1 * D) c0], .int .i64 1] w fun e w' => ∃ v, e = .returned v ∧ MatS w' base w'.heap.size v P D s (N + 1) ∧ Ext w w' := by
  have HNX := Lib.hid hnx
  have HEN := Lib.hid hE
  have HLE := Lib.hid hle
  have HLN := Lib.hid hlen
  have hbl := hb.lt
  have AX0 : Hid (Cells (((w.alloc (.cells #[.int .i64 P, .int .i64 D, .slice (some ⟨a0, oa, none⟩) n n] 28)).alloc (.cells #[.int .i64 P, .int .i64 ((s 0).1 : Nat), .int .i64 D, .slice (some ⟨b0, 0, none⟩) ((s 0).1 * D) c0] 40)).alloc (.cells #[.int .i64 P, .int .i64 ((s 0).1 : Nat), .int .i64 D, .slice (some ⟨b0, 0, none⟩) ((s 0).1 * D) c0] 40)) w.heap.size [.int .i64 P, .int .i64 D, .slice (some ⟨a0, oa, none⟩) n n]) := (cells_new w #[.int .i64 P, .int .i64 D, .slice (some ⟨a0, oa, none⟩) n n] 28).ext (((Ext.refl _).alloc _).alloc _)
  have BX0 : Hid (BoxM (((w.alloc (.cells #[.int .i64 P, .int .i64 D, .slice (some ⟨a0, oa, none⟩) n n] 28)).alloc (.cells #[.int .i64 P, .int .i64 ((s 0).1 : Nat), .int .i64 D, .slice (some ⟨b0, 0, none⟩) ((s 0).1 * D) c0] 40)).alloc (.cells #[.int .i64 P, .int .i64 ((s 0).1 : Nat), .int .i64 D, .slice (some ⟨b0, 0, none⟩) ((s 0).1 * D) c0] 40)) (w.heap.size + 1) [.int .i64 P, .int .i64 ((s 0).1 : Nat), .int .i64 D, .slice (some ⟨b0, 0, none⟩) ((s 0).1 * D) c0]) := by
    have := BoxM.ext (boxM_new (w.alloc (.cells #[.int .i64 P, .int .i64 D, .slice (some ⟨a0, oa, none⟩) n n] 28)) [.int .i64 P, .int .i64 ((s 0).1 : Nat), .int .i64 D, .slice (some ⟨b0, 0, none⟩) ((s 0).1 * D) c0]) ((Ext.refl _).alloc (.cells #[.int .i64 P, .int .i64 ((s 0).1 : Nat), .int .i64 D, .slice (some ⟨b0, 0, none⟩) ((s 0).1 * D) c0] 40))
    rw [Hid]; simpa using this
  have M1 : Hid (MatS (((w.alloc (.cells #[.int .i64 P, .int .i64 D, .slice (some ⟨a0, oa, none⟩) n n] 28)).alloc (.cells #[.int .i64 P, .int .i64 ((s 0).1 : Nat), .int .i64 D, .slice (some ⟨b0, 0, none⟩) ((s 0).1 * D) c0] 40)).alloc (.cells #[.int .i64 P, .int .i64 ((s 0).1 : Nat), .int .i64 D, .slice (some ⟨b0, 0, none⟩) ((s 0).1 * D) c0] 40)) base (w.heap.size + 1 + 1) (.slice (some ⟨w.heap.size + 1 + 1, 0, none⟩) 1 1) P D s 1) := by
    have := matS_one ((w.alloc (.cells #[.int .i64 P, .int .i64 D, .slice (some ⟨a0, oa, none⟩) n n] 28)).alloc (.cells #[.int .i64 P, .int .i64 ((s 0).1 : Nat), .int .i64 D, .slice (some ⟨b0, 0, none⟩) ((s 0).1 * D) c0] 40)) base b0 c0 P D s (by simp; omega) hba ((hb.alloc _).alloc _) (hlen 0)
    rw [Hid]; simpa using this
  have H0 : Hid (Has (((w.alloc (.cells #[.int .i64 P, .int .i64 D, .slice (some ⟨a0, oa, none⟩) n n] 28)).alloc (.cells #[.int .i64 P, .int .i64 ((s 0).1 : Nat), .int .i64 D, .slice (some ⟨b0, 0, none⟩) ((s 0).1 * D) c0] 40)).alloc (.cells #[.int .i64 P, .int .i64 ((s 0).1 : Nat), .int .i64 D, .slice (some ⟨b0, 0, none⟩) ((s 0).1 * D) c0] 40)) b0 (s 0).2) := ((hb.alloc _).alloc _).alloc _
  have E0 : Hid (Ext w (((w.alloc (.cells #[.int .i64 P, .int .i64 D, .slice (some ⟨a0, oa, none⟩) n n] 28)).alloc (.cells #[.int .i64 P, .int .i64 ((s 0).1 : Nat), .int .i64 D, .slice (some ⟨b0, 0, none⟩) ((s 0).1 * D) c0] 40)).alloc (.cells #[.int .i64 P, .int .i64 ((s 0).1 : Nat), .int .i64 D, .slice (some ⟨b0, 0, none⟩) ((s 0).1 * D) c0] 40))) := (((Ext.refl w).alloc _).alloc _).alloc _
  clear hnx hE hle hb hlen
  go_enter Try.func61, Try.ntmps61
  go_wp2_with fail
  generalize hW1 : (((w.alloc (.cells #[.int .i64 P, .int .i64 D, .slice (some ⟨a0, oa, none⟩) n n] 28)).alloc (.cells #[.int .i64 P, .int .i64 ((s 0).1 : Nat), .int .i64 D, .slice (some ⟨b0, 0, none⟩) ((s 0).1 * D) c0] 40)).alloc (.cells #[.int .i64 P, .int .i64 ((s 0).1 : Nat), .int .i64 D, .slice (some ⟨b0, 0, none⟩) ((s 0).1 * D) c0] 40)) = W1 at *
  have hs1 : w.heap.size + 1 + 1 < W1.heap.size := by rw [← hW1]; simp
  clear hW1
  go_loopw [7, 8, 18, 24] (fun z _ _ _ wr => ∃ (i b cb cv : Nat) (va : Option Addr), i ≤ N ∧ z = .slice va (i + 1) cv ∧ Hid (Cells wr w.heap.size [.int .i64 P, .int .i64 D, .slice (some ⟨a0, oa, none⟩) n n]) ∧ Hid (BoxM wr (w.heap.size + 1) [.int .i64 P, .int .i64 ((s i).1 : Nat), .int .i64 D, .slice (some ⟨b, 0, none⟩) ((s i).1 * D) cb]) ∧ Hid (Has wr b (s i).2 ∧ (s i).1 * D ≤ cb) ∧ Hid (MatS wr base wr.heap.size (.slice va (i + 1) cv) P D s (i + 1)) ∧ Hid (∀ z, (Value.slice va (i + 1) cv).ownBlock = some z → w.heap.size ≤ z ∧ z ≠ w.heap.size + 1 ∧ z ≠ w.heap.size) ∧ Hid (Ext w wr)) (fun z _ _ _ _ => N + 1 - lenOf z)
  case atStart => exact ⟨0, b0, c0, 1, _, by omega, rfl, AX0, BX0, ⟨H0.out, hc0⟩, M1.out.mono (by omega), Lib.hid (fun z hz => by simp [Value.ownBlock] at hz; omega), E0⟩
  case round =>
    clear M1 BX0 H0 E0 hs1 AX0
    obtain ⟨i, b, cb, cv, va, hi, rfl, hA, hB, hH, hM, hne, hE⟩ := hrel
    have HX1 := Lib.hid (HNX.out i hi)
    have hvw : Hid (∀ z, (Value.slice va (i + 1) cv).ownBlock = some z → z < wr.heap.size) := fun z hz => (hM.out.blk z hz).2
    have hsw : Hid (base ≤ wr.heap.size) := by have := hE.out.le; show _ ≤ _; omega
    have hX1 := (Ext.refl wr).alloc (.cells #[.int .i64 P, .int .i64 ((s i).1 : Nat), .int .i64 D, .slice (some ⟨b, 0, none⟩) ((s i).1 * D) cb] 40)
    have T8 : Hid (BoxM (wr.alloc (.cells #[.int .i64 P, .int .i64 ((s i).1 : Nat), .int .i64 D, .slice (some ⟨b, 0, none⟩) ((s i).1 * D) cb] 40)) wr.heap.size [.int .i64 P, .int .i64 ((s i).1 : Nat), .int .i64 D, .slice (some ⟨b, 0, none⟩) ((s i).1 * D) cb]) := boxM_new wr _
    have hA1 := Lib.hid (hA.out.ext hX1)
    have hB1 := Lib.hid (BoxM.ext hB.out hX1)
    have hH1 := Lib.hid (hH.out.1.ext hX1)
    have hM1 := Lib.hid (hM.out.ext hX1)
    have hE1 := Lib.hid (hE.out.trans hX1)
    have HCB := Lib.hid hH.out.2
    have HSB : Hid (w.heap.size + 1 < wr.heap.size) := hB.out.cells.1
    have HH0 := Lib.hid hH.out.1
    have HEW := Lib.hid hE.out
    have HEX := Lib.hid hX1
    have BC := hB.out.cells
    have lB := BC.1
    have q0 := BC.2 0 _ rfl
    have q1 := BC.2 1 _ rfl
    have q2 := BC.2 2 _ rfl
    have q3 := BC.2 3 _ rfl
    have lA := hA.out.1
    have a0' := hA.out.2 0 _ rfl
    have a1' := hA.out.2 1 _ rfl
    have a2' := hA.out.2 2 _ rfl
    clear BC hX1 hA hB hH hM hE
    go_wp2_with fail
    generalize hWX : (wr.alloc (.cells #[.int .i64 P, .int .i64 ((s i).1 : Nat), .int .i64 D, .slice (some ⟨b, 0, none⟩) ((s i).1 * D) cb] 40)) = WX at *
    have hwx : WX.heap.size = wr.heap.size + 1 := by rw [← hWX]; simp
    have HWX := Lib.hid hwx
    have BC := hB1.out.cells
    have lB := BC.1
    have q0 := BC.2 0 _ rfl
    have q1 := BC.2 1 _ rfl
    have q2 := BC.2 2 _ rfl
    have q3 := BC.2 3 _ rfl
    have lA := hA1.out.1
    have a0' := hA1.out.2 0 _ rfl
    have a1' := hA1.out.2 1 _ rfl
    have a2' := hA1.out.2 2 _ rfl
    have TC := T8.out.cells
    have lT := TC.1
    have y0 := TC.2 0 _ rfl
    have y1 := TC.2 1 _ rfl
    have y2 := TC.2 2 _ rfl
    have y3 := TC.2 3 _ rfl
    have tf := TC.3
    have tf0 := tf 0
    have tf1 := tf 1
    have tf2 := tf 2
    have tf3 := tf 3
    clear hwx hWX BC TC tf
    go_region_held3 (fun w' => Ext wr w' ∧ (∀ b o, b < wr.heap.size → w'.cell? ⟨b, o, none⟩ = wr.cell? ⟨b, o, none⟩)) (first | assumption | (with_reducible exact ext2 (Ext.trans (And.left ‹Ext wr _ ∧ _›) ‹Ext _ _›)) | (refine ext2 ?_; with_reducible repeat (first | exact Ext.refl _ | exact And.left ‹Ext wr _ ∧ _› | exact HEX.out | refine Ext.drew ?_ | refine Ext.drewN ?_ _ | refine Ext.setCell ?_ (by simp <;> omega) _))) (first
      | (go_at_call 138; (with_reducible refine (l2All_spec P D a0 oa n n _ hD).mono ?_); rintro e w3 ⟨bu, rfl, hu1, hu2, ku, h3⟩; have c_3 := h3.cells; have f_3 := h3.frees; have y_3 := h3.le; have x_3 := fun k hk => Nat.lt_of_lt_of_le (n := k) hk h3.le; (try simp only [World.size_drew] at y_3 x_3); (try simp only [World.size_alloc] at y_3 x_3); (try simp only [Nat.add_one_le_iff] at y_3); have z_3 : wr.heap.size < w3.heap.size := by omega)
      | (go_at_call 137; (with_reducible refine (HX1.out _ b cb bu (HEW.out.trans (And.left ‹Ext wr _ ∧ _›)) ku (HH0.out.ext (And.left ‹Ext wr _ ∧ _›)) HCB.out).mono ?_); rintro e w2 ⟨b2, c2, rfl, hb1, hb2, hh2, h6, hcc⟩; have hall : Ext WX w2 := ((Ext.refl WX).drew.trans h3).trans h6; have d0 := (hall.cells _ 0 lT).trans y0; have d1 := (hall.cells _ 1 lT).trans y1; have d2 := (hall.cells _ 2 lT).trans y2; have d3 := (hall.cells _ 3 lT).trans y3; have g0 := (hall.frees _ 0 lT).trans tf0; have g1 := (hall.frees _ 1 lT).trans tf1; have g2 := (hall.frees _ 2 lT).trans tf2; have g3 := (hall.frees _ 3 lT).trans tf3; have z_6 : wr.heap.size < w2.heap.size := Nat.lt_of_lt_of_le lT hall.le))
    have h2 : Ext WX w2 := ((Ext.refl WX).drew.trans h3).trans h6
    have hb1 : wr.heap.size + 1 ≤ b2 := by have := HWX.out; have := h3.le; simp at this; omega
    clear h3 h6 ku c_3 f_3 x_3 y_3 z_3 z_6 hall d0 d1 d2 d3 g0 g1 g2 g3 lT y0 y1 y2 y3 tf0 tf1 tf2 tf3 hu1 hu2
    have T82 := Lib.hid (BoxM.ext T8.out h2)
    have hA2 := Lib.hid (hA1.out.ext h2)
    have hB2 := Lib.hid (BoxM.ext hB1.out h2)
    have hM2 := Lib.hid (hM1.out.ext h2)
    have hE2 := Lib.hid (hE1.out.trans h2)
    have hsz2 := h2.le
    try simp only [World.size_alloc] at hb1 hsz2
    clear HH0 HEW HEX
    rw [HWX.out] at hsz2
    clear h2 T8 hA1 hB1 hM1 hE1 hH1 lB q0 q1 q2 q3 lA a0' a1' a2'
    have TC := T82.out.cells
    have lT := TC.1
    have y0 := TC.2 0 _ rfl
    have y1 := TC.2 1 _ rfl
    have y2 := TC.2 2 _ rfl
    have y3 := TC.2 3 _ rfl
    have tf := TC.3
    clear TC
    obtain ⟨T83, hM3⟩ := put4 T82.out rfl hM2.out (fun e => by have := hvw.out _ e; omega) (.int .i64 P) (.int .i64 ((s (i + 1)).1 : Nat)) (.int .i64 D) (.slice (some ⟨b2, 0, none⟩) ((s (i + 1)).1 * D) c2)
    have hT3 := Lib.hid T83
    have HM3 := Lib.hid hM3
    have nSB : wr.heap.size ≠ w.heap.size + 1 := by have := HSB.out; omega
    have nSA : wr.heap.size ≠ w.heap.size := by have := HSB.out; omega
    have hB3 := Lib.hid ((((hB2.out.setOther (p := ⟨wr.heap.size, 0, none⟩) nSB (.int .i64 P)).setOther (p := ⟨wr.heap.size, 1, none⟩) nSB (.int .i64 ((s (i + 1)).1 : Nat))).setOther (p := ⟨wr.heap.size, 2, none⟩) nSB (.int .i64 D)).setOther (p := ⟨wr.heap.size, 3, none⟩) nSB (.slice (some ⟨b2, 0, none⟩) ((s (i + 1)).1 * D) c2))
    have hA3 := Lib.hid ((((hA2.out.putOther (p := ⟨wr.heap.size, 0, none⟩) nSA (.int .i64 P)).putOther (p := ⟨wr.heap.size, 1, none⟩) nSA (.int .i64 ((s (i + 1)).1 : Nat))).putOther (p := ⟨wr.heap.size, 2, none⟩) nSA (.int .i64 D)).putOther (p := ⟨wr.heap.size, 3, none⟩) nSA (.slice (some ⟨b2, 0, none⟩) ((s (i + 1)).1 * D) c2))
    have hH3 := Lib.hid ((((hh2.setOther (p := ⟨wr.heap.size, 0, none⟩) (by simp; omega) (.int .i64 P)).setOther (p := ⟨wr.heap.size, 1, none⟩) (by simp; omega) (.int .i64 ((s (i + 1)).1 : Nat))).setOther (p := ⟨wr.heap.size, 2, none⟩) (by simp; omega) (.int .i64 D)).setOther (p := ⟨wr.heap.size, 3, none⟩) (by simp; omega) (.slice (some ⟨b2, 0, none⟩) ((s (i + 1)).1 * D) c2))
    have hE3 := Lib.hid (ext4 (B := wr.heap.size) hE2.out (by have := HSB.out; omega) (.int .i64 P) (.int .i64 ((s (i + 1)).1 : Nat)) (.int .i64 D) (.slice (some ⟨b2, 0, none⟩) ((s (i + 1)).1 * D) c2) : Ext w _)
    have hz3 : ((((w2.setCell ⟨wr.heap.size, 0, none⟩ (.int .i64 P)).setCell ⟨wr.heap.size, 1, none⟩ (.int .i64 ((s (i + 1)).1 : Nat))).setCell ⟨wr.heap.size, 2, none⟩ (.int .i64 D)).setCell ⟨wr.heap.size, 3, none⟩ (.slice (some ⟨b2, 0, none⟩) ((s (i + 1)).1 * D) c2)).heap.size = w2.heap.size := by simp
    have HZ3 := Lib.hid hz3
    clear T83 hM3 hz3 T82 hM2 hB2 hA2 hE2 hh2
    go_upto_region 9 with fail
    generalize ((((w2.setCell ⟨wr.heap.size, 0, none⟩ (.int .i64 P)).setCell ⟨wr.heap.size, 1, none⟩ (.int .i64 ((s (i + 1)).1 : Nat))).setCell ⟨wr.heap.size, 2, none⟩ (.int .i64 D)).setCell ⟨wr.heap.size, 3, none⟩ (.slice (some ⟨b2, 0, none⟩) ((s (i + 1)).1 * D) c2)) = W3 at *
    clear lT y0 y1 y2 y3 tf
    generalize w2.heap.size = z2 at *
    generalize hT8 : wr.heap.size = T8 at *
    have HT8 := Lib.hid hT8
    clear hT8
    have TC := hT3.out.cells
    have lT := TC.1
    have y0 := TC.2 0 _ rfl
    have y1 := TC.2 1 _ rfl
    have y2 := TC.2 2 _ rfl
    have y3 := TC.2 3 _ rfl
    have SC := hB3.out.cells
    have lS := SC.1
    have s1 := SC.2 1 _ rfl
    clear TC SC
    by_cases e : i = N
    · subst e
      have he : (s (i + 1)).1 = (s i).1 := HEN.out.2
      have heq : (((s (i + 1)).1 : Int) == ((s i).1 : Int)) = true := by rw [he]; simp
      clear he
      go_wp2
      go_ret
      exact ⟨_, rfl, HM3.out.mono (by have := HZ3.out; omega), hE3.out⟩
    · have hne2 : (s (i + 1)).1 ≠ (s i).1 := HEN.out.1 i (by omega)
      have hne3 : (((s (i + 1)).1 : Int) == ((s i).1 : Int)) = false := by simp only [beq_eq_false_iff_ne, ne_eq]; omega
      clear hne2
      have HROW : Hid (Own W3 base W3.heap.size (some ⟨b2, 0, none⟩) ((s (i + 1)).1 * D) (s (i + 1)).2) := hH3.out.own (by have := hsw.out; omega) hH3.out.lt (HLN.out (i + 1))
      have hbW : base ≤ W3.heap.size := by have := hsw.out; have := HZ3.out; omega
      have hbT : T8 ≤ b2 := by omega
      go_wp2_with (at_builtin; refine wpList_appendMatS rfl (.tmp 37) (.tmp 39) rfl base T8 (.slice va (i + 1) cv) P D (i + 1) s b2 c2 1 W3.heap.size rfl rfl rfl HM3.out HROW.out hbT (by omega) hbW ?_; intro v5 w5 hM5 hg5 hat5; obtain ⟨a5, c5, hv5, _⟩ := hM5.shape; subst hv5; have hS5 := Lib.hid (BoxM.grown hT3.out hg5 (fun e9 => by have := hvw.out _ e9; omega)); have hL5 := Lib.hid (BoxM.grown hB3.out hg5 (fun e9 => (hne.out _ e9).2.1 rfl)); have hA5 := Lib.hid (hA3.out.grown hg5 (fun k hk => by have := hne.out k hk; omega)); have BC5 := hS5.out.cells; have s0 := BC5.2 0 _ rfl; have s1 := BC5.2 1 _ rfl; have s2 := BC5.2 2 _ rfl; have s3 := BC5.2 3 _ rfl; have lS5 := BC5.1; have BL5 := hL5.out.cells; have lL5 := BL5.1; have t0 := BL5.2 0 _ rfl; have t1 := BL5.2 1 _ rfl; have t2 := BL5.2 2 _ rfl; have t3 := BL5.2 3 _ rfl; have f0 := BL5.3 0; have f1 := BL5.3 1; have f2 := BL5.3 2; have f3 := BL5.3 3; have HM5 := Lib.hid hM5; have HG5 := Lib.hid hg5; have HAT5 := Lib.hid hat5; clear hM5 hg5 hat5 BC5 BL5)
      have hi1 : i + 1 ≤ N := by omega
      have hms : N + 1 - (i + 1 + 1) < N + 1 - (i + 1) := by omega
      have E5 := hE3.out.grown HG5.out (fun z hz => (hne.out z hz).1)
      have H5 := Has.grownNe hH3.out HG5.out (fun e9 => by have := hvw.out _ e9; omega)
      have hgs := HG5.out.size
      have hz9 := HZ3.out
      have hgs9 : W3.heap.size ≤ w5.heap.size := hgs
      have NE5 : ∀ z, (Value.slice a5 (i + 1 + 1) c5).ownBlock = some z → w.heap.size ≤ z ∧ z ≠ w.heap.size + 1 ∧ z ≠ w.heap.size := fun z hz => by
        rcases HAT5.out with h9 | h9
        · rw [h9] at hz; exact hne.out z hz
        · rw [h9] at hz
          simp only [Option.some.injEq] at hz
          have q1 := HSB.out
          omega
      obtain ⟨z1, z3⟩ := put4 hL5.out rfl HM5.out (fun e9 => (NE5 _ e9).2.1 rfl) (.int .i64 P) (.int .i64 ((s (i + 1)).1 : Nat)) (.int .i64 D) (.slice (some ⟨b2, 0, none⟩) ((s (i + 1)).1 * D) c2)
      have hwl : w.heap.size ≤ w.heap.size + 1 := by omega
      have nA : w.heap.size + 1 ≠ w.heap.size := by omega
      have nH : w.heap.size + 1 ≠ b2 := by have := HSB.out; omega
      have z4 := (((hA5.out.putOther (p := ⟨w.heap.size + 1, 0, none⟩) nA (.int .i64 P)).putOther (p := ⟨w.heap.size + 1, 1, none⟩) nA (.int .i64 ((s (i + 1)).1 : Nat))).putOther (p := ⟨w.heap.size + 1, 2, none⟩) nA (.int .i64 D)).putOther (p := ⟨w.heap.size + 1, 3, none⟩) nA (.slice (some ⟨b2, 0, none⟩) ((s (i + 1)).1 * D) c2)
      have z5 := (((H5.setOther (p := ⟨w.heap.size + 1, 0, none⟩) nH (.int .i64 P)).setOther (p := ⟨w.heap.size + 1, 1, none⟩) nH (.int .i64 ((s (i + 1)).1 : Nat))).setOther (p := ⟨w.heap.size + 1, 2, none⟩) nH (.int .i64 D)).setOther (p := ⟨w.heap.size + 1, 3, none⟩) nH (.slice (some ⟨b2, 0, none⟩) ((s (i + 1)).1 * D) c2)
      exact ⟨⟨i + 1, b2, c2, c5, a5, hi1, rfl, z4, z1, ⟨z5, hcc⟩, z3.mono (by simpa using hgs9), NE5, ext4 E5 hwl _ _ _ _⟩, by simp only [lenOf]; exact hms⟩

end Go.Proofs.Ytapaopapgnfdkaa
