/-
  The upper series, in the program.
-/
import Derived.Test.YtapaopapgnfdkaaUpp
import Derived.Test.YtapaopapgnfdkaaSerT
import Derived.Test.YtapaopapgnfdkaaInI
import Derived.Test.YtapaopapgnfdkaaCen
import Derived.Laws.EntriesVeiled
import Derived.RegionTactic
namespace Go.Proofs.Ytapaopapgnfdkaa
open Go.ChangeShapes Go.WideShapes Go.ChangeAt Go.RowKit
set_option linter.unusedVariables false
set_option linter.unusedSimpArgs false

theorem spaceM_spc {P : Int} {D : Nat} {t : Nat × List Int} (hpr : isP P = true) (hD : D ≤ 28) (ht : Spc P D t) : spaceM P (t.1 : Nat) D t.2 = true := by
  have hle := ht.le
  have h1 : mok P (t.1 : Nat) D t.2 = true := mok_iff.2 ⟨hpr, inB_iff.2 ⟨by omega, by omega⟩, inB_iff.2 ⟨by omega, by omega⟩, by rw [ht.len]; simp, resB_true ht.res⟩
  simp only [spaceM, h1, Bool.true_and, spB, Int.toNat_natCast, decide_eq_true_eq]
  exact ht.sp
noncomputable def uppM (P D : Int) (l : List Int) : List Mat := if algB P D l then serL P D.toNat (upS P D.toNat l) (upN P D.toNat l + 1) else []

set_option maxRecDepth 100000 in
set_option maxHeartbeats 6400000 in
theorem series_C (P : Int) (D b0 base N F0 F1 : Nat) (s : Nat → Nat × List Int) (w : World) (hD : D ≤ 28) (hN : N ≤ 28) (hE : Ends (fun i => (s i).1) N) (hle : ∀ i, (s i).1 ≤ D) (hb : Has w b0 (s 0).2) (hlen : ∀ i, (s i).2.length = (s i).1 * D) (hba : base ≤ b0)
    (hnx : ∀ i, i ≤ N → ∀ w1 b, Ext w w1 → Has w1 b (s i).2 → Calls Try.prog 67 #[.agg #[.int .i64 P, .int .i64 ((s i).1 : Nat), .int .i64 D, .slice (some ⟨b, 0, none⟩) ((s i).1 * D) ((s i).1 * D)], .pointer (some ⟨F0, 0, none⟩), .pointer (some ⟨F1, 0, none⟩)] w1 fun e w' => ∃ b', e = .returned (.agg #[.int .i64 P, .int .i64 ((s (i + 1)).1 : Nat), .int .i64 D, .slice (some ⟨b', 0, none⟩) ((s (i + 1)).1 * D) ((s (i + 1)).1 * D)]) ∧ w1.heap.size ≤ b' ∧ b' < w'.heap.size ∧ Has w' b' (s (i + 1)).2 ∧ Ext w1 w') :
    Calls Try.prog 65 #[.agg #[.int .i64 P, .int .i64 ((s 0).1 : Nat), .int .i64 D, .slice (some ⟨b0, 0, none⟩) ((s 0).1 * D) ((s 0).1 * D)], .func (.func 67) #[] #[.pointer (some ⟨F0, 0, none⟩), .pointer (some ⟨F1, 0, none⟩)]] w fun e w' => ∃ v, e = .returned v ∧ MatS w' base w'.heap.size v P D s (N + 1) ∧ Ext w w' := by
  have HNX := Lib.hid hnx
  have HEN := Lib.hid hE
  have HLE := Lib.hid hle
  have HLN := Lib.hid hlen
  have hbl := hb.lt
  have M0 : Hid (MatS ((w.alloc (.cells #[.int .i64 P, .int .i64 ((s 0).1 : Nat), .int .i64 D, .slice (some ⟨b0, 0, none⟩) ((s 0).1 * D) ((s 0).1 * D)] 40)).alloc (.cells #[.int .i64 P, .int .i64 ((s 0).1 : Nat), .int .i64 D, .slice (some ⟨b0, 0, none⟩) ((s 0).1 * D) ((s 0).1 * D)] 40)) base (w.heap.size + 1) (.slice (some ⟨w.heap.size + 1, 0, none⟩) 1 1) P D s 1) := by
    have := matS_one (w.alloc (.cells #[.int .i64 P, .int .i64 ((s 0).1 : Nat), .int .i64 D, .slice (some ⟨b0, 0, none⟩) ((s 0).1 * D) ((s 0).1 * D)] 40)) base b0 ((s 0).1 * D) P D s (by simp; omega) hba (hb.alloc _) (hlen 0)
    rw [Hid]; simpa using this
  have M1 := Lib.hid (M0.out.ext ((Ext.refl _).alloc (.cells #[.int .i64 P, .int .i64 ((s 0).1 : Nat), .int .i64 D, .slice (some ⟨b0, 0, none⟩) ((s 0).1 * D) ((s 0).1 * D)] 40)))
  have BX : Hid (BoxM (((w.alloc (.cells #[.int .i64 P, .int .i64 ((s 0).1 : Nat), .int .i64 D, .slice (some ⟨b0, 0, none⟩) ((s 0).1 * D) ((s 0).1 * D)] 40)).alloc (.cells #[.int .i64 P, .int .i64 ((s 0).1 : Nat), .int .i64 D, .slice (some ⟨b0, 0, none⟩) ((s 0).1 * D) ((s 0).1 * D)] 40)).alloc (.cells #[.int .i64 P, .int .i64 ((s 0).1 : Nat), .int .i64 D, .slice (some ⟨b0, 0, none⟩) ((s 0).1 * D) ((s 0).1 * D)] 40)) (w.heap.size + 1 + 1) [.int .i64 P, .int .i64 ((s 0).1 : Nat), .int .i64 D, .slice (some ⟨b0, 0, none⟩) ((s 0).1 * D) ((s 0).1 * D)]) := by
    have := boxM_new ((w.alloc (.cells #[.int .i64 P, .int .i64 ((s 0).1 : Nat), .int .i64 D, .slice (some ⟨b0, 0, none⟩) ((s 0).1 * D) ((s 0).1 * D)] 40)).alloc (.cells #[.int .i64 P, .int .i64 ((s 0).1 : Nat), .int .i64 D, .slice (some ⟨b0, 0, none⟩) ((s 0).1 * D) ((s 0).1 * D)] 40)) [.int .i64 P, .int .i64 ((s 0).1 : Nat), .int .i64 D, .slice (some ⟨b0, 0, none⟩) ((s 0).1 * D) ((s 0).1 * D)]
    rw [Hid]; simpa using this
  have H0 := Lib.hid (((hb.alloc (.cells #[.int .i64 P, .int .i64 ((s 0).1 : Nat), .int .i64 D, .slice (some ⟨b0, 0, none⟩) ((s 0).1 * D) ((s 0).1 * D)] 40)).alloc (.cells #[.int .i64 P, .int .i64 ((s 0).1 : Nat), .int .i64 D, .slice (some ⟨b0, 0, none⟩) ((s 0).1 * D) ((s 0).1 * D)] 40)).alloc (.cells #[.int .i64 P, .int .i64 ((s 0).1 : Nat), .int .i64 D, .slice (some ⟨b0, 0, none⟩) ((s 0).1 * D) ((s 0).1 * D)] 40))
  have E0 := Lib.hid ((((Ext.refl w).alloc (.cells #[.int .i64 P, .int .i64 ((s 0).1 : Nat), .int .i64 D, .slice (some ⟨b0, 0, none⟩) ((s 0).1 * D) ((s 0).1 * D)] 40)).alloc (.cells #[.int .i64 P, .int .i64 ((s 0).1 : Nat), .int .i64 D, .slice (some ⟨b0, 0, none⟩) ((s 0).1 * D) ((s 0).1 * D)] 40)).alloc (.cells #[.int .i64 P, .int .i64 ((s 0).1 : Nat), .int .i64 D, .slice (some ⟨b0, 0, none⟩) ((s 0).1 * D) ((s 0).1 * D)] 40))
  clear hnx hE hle hb hlen M0
  go_enter Try.func65, Try.ntmps65
  go_wp2_with fail
  generalize hW1 : (((w.alloc (.cells #[.int .i64 P, .int .i64 ((s 0).1 : Nat), .int .i64 D, .slice (some ⟨b0, 0, none⟩) ((s 0).1 * D) ((s 0).1 * D)] 40)).alloc (.cells #[.int .i64 P, .int .i64 ((s 0).1 : Nat), .int .i64 D, .slice (some ⟨b0, 0, none⟩) ((s 0).1 * D) ((s 0).1 * D)] 40)).alloc (.cells #[.int .i64 P, .int .i64 ((s 0).1 : Nat), .int .i64 D, .slice (some ⟨b0, 0, none⟩) ((s 0).1 * D) ((s 0).1 * D)] 40)) = W1 at *
  have hs1 : w.heap.size + 1 + 1 < W1.heap.size := by rw [← hW1]; simp
  clear hW1
  go_loopw [5, 6, 7] (fun z p _ wr => ∃ (i LB b cv : Nat) (va : Option Addr), i ≤ N ∧ p = .pointer (some ⟨LB, 0, none⟩) ∧ z = .slice va (i + 1) cv ∧ Hid (BoxM wr LB [.int .i64 P, .int .i64 ((s i).1 : Nat), .int .i64 D, .slice (some ⟨b, 0, none⟩) ((s i).1 * D) ((s i).1 * D)]) ∧ Hid (Has wr b (s i).2) ∧ Hid (MatS wr base wr.heap.size (.slice va (i + 1) cv) P D s (i + 1)) ∧ Hid (∀ z, (Value.slice va (i + 1) cv).ownBlock = some z → w.heap.size ≤ z ∧ z ≠ LB) ∧ Hid (Ext w wr) ∧ Hid (w.heap.size ≤ LB)) (fun v _ _ _ => N + 1 - lenOf v)
  case atStart => exact ⟨0, w.heap.size + 1 + 1, b0, 1, _, by omega, rfl, rfl, BX, H0, M1.out.mono (by omega), Lib.hid (fun z hz => by simp [Value.ownBlock] at hz; omega), E0, Lib.hid (by omega)⟩
  case round =>
    clear M1 BX H0 E0 hs1
    obtain ⟨i, LB, b, cv, va, hi, rfl, rfl, hB, hH, hM, hne, hE, hlb⟩ := hrel
    have HX1 := Lib.hid (HNX.out i hi)
    have hle1 := HLE.out (i + 1)
    have hvw := fun z hz => (hM.out.blk z hz).2
    have hsw : Hid (base ≤ wr.heap.size) := by have := hE.out.le; show _ ≤ _; omega
    have BC := hB.out.cells
    have lB := BC.1
    have q0 := BC.2 0 _ rfl
    have q1 := BC.2 1 _ rfl
    have q2 := BC.2 2 _ rfl
    have q3 := BC.2 3 _ rfl
    clear BC
    go_wp2_with fail
    refine (HX1.out _ b hE.out hH.out).mono ?_
    rintro e w2 ⟨b2, rfl, hb1, hb2, hh2, h2⟩
    have hB2 := Lib.hid (BoxM.ext hB.out h2)
    have hM2 := Lib.hid (hM.out.ext h2)
    have hE2 := Lib.hid (hE.out.trans h2)
    have hLH := Lib.hid lB
    have hsz := Lib.hid h2.le
    clear lB q0 q1 q2 q3 HX1 hB hH hM hE h2
    have BX2 : Hid (BoxM (w2.alloc (.cells #[.int .i64 P, .int .i64 ((s (i + 1)).1 : Nat), .int .i64 D, .slice (some ⟨b2, 0, none⟩) ((s (i + 1)).1 * D) ((s (i + 1)).1 * D)] 40)) w2.heap.size [.int .i64 P, .int .i64 ((s (i + 1)).1 : Nat), .int .i64 D, .slice (some ⟨b2, 0, none⟩) ((s (i + 1)).1 * D) ((s (i + 1)).1 * D)]) := boxM_new w2 _
    have hB3 := Lib.hid (BoxM.ext hB2.out ((Ext.refl w2).alloc (.cells #[.int .i64 P, .int .i64 ((s (i + 1)).1 : Nat), .int .i64 D, .slice (some ⟨b2, 0, none⟩) ((s (i + 1)).1 * D) ((s (i + 1)).1 * D)] 40)))
    have hM3 := Lib.hid (hM2.out.ext ((Ext.refl w2).alloc (.cells #[.int .i64 P, .int .i64 ((s (i + 1)).1 : Nat), .int .i64 D, .slice (some ⟨b2, 0, none⟩) ((s (i + 1)).1 * D) ((s (i + 1)).1 * D)] 40)))
    have hE3 := Lib.hid (hE2.out.alloc (.cells #[.int .i64 P, .int .i64 ((s (i + 1)).1 : Nat), .int .i64 D, .slice (some ⟨b2, 0, none⟩) ((s (i + 1)).1 * D) ((s (i + 1)).1 * D)] 40))
    have hH3 := Lib.hid (hh2.alloc (.cells #[.int .i64 P, .int .i64 ((s (i + 1)).1 : Nat), .int .i64 D, .slice (some ⟨b2, 0, none⟩) ((s (i + 1)).1 * D) ((s (i + 1)).1 * D)] 40))
    have hsz3 : w2.heap.size < (w2.alloc (.cells #[.int .i64 P, .int .i64 ((s (i + 1)).1 : Nat), .int .i64 D, .slice (some ⟨b2, 0, none⟩) ((s (i + 1)).1 * D) ((s (i + 1)).1 * D)] 40)).heap.size := by simp
    clear hB2 hM2 hE2 hh2
    have hnl : w2.heap.size ≠ LB := by have := hLH.out; have := hsz.out; omega
    have BC := hB3.out.cells
    have lL := BC.1
    have r0 := BC.2 0 _ rfl
    have r1 := BC.2 1 _ rfl
    clear BC
    by_cases e : i = N
    · subst e
      have he : (s (i + 1)).1 = (s i).1 := HEN.out.2
      have heq : (((s (i + 1)).1 : Int) == ((s i).1 : Int)) = true := by rw [he]; simp
      clear he
      go_wp2
      go_ret
      exact ⟨_, rfl, hM3.out.mono (by have := hsz.out; omega), hE3.out⟩
    · have hne2 : (s (i + 1)).1 ≠ (s i).1 := HEN.out.1 i (by omega)
      have hne3 : (((s (i + 1)).1 : Int) == ((s i).1 : Int)) = false := by simp only [beq_eq_false_iff_ne, ne_eq]; omega
      clear hne2
      have hvb := hM3.out
      have HVB : Hid (∀ z, (Value.slice va (i + 1) cv).ownBlock = some z → z < wr.heap.size) := hvw
      have hrow : Own (w2.alloc (.cells #[.int .i64 P, .int .i64 ((s (i + 1)).1 : Nat), .int .i64 D, .slice (some ⟨b2, 0, none⟩) ((s (i + 1)).1 * D) ((s (i + 1)).1 * D)] 40)) base (w2.alloc (.cells #[.int .i64 P, .int .i64 ((s (i + 1)).1 : Nat), .int .i64 D, .slice (some ⟨b2, 0, none⟩) ((s (i + 1)).1 * D) ((s (i + 1)).1 * D)] 40)).heap.size (some ⟨b2, 0, none⟩) ((s (i + 1)).1 * D) (s (i + 1)).2 := hH3.out.own (by have := hsw.out; omega) hH3.out.lt (HLN.out (i + 1))
      have HROW := Lib.hid hrow
      clear hrow hvb hvw
      have hbW : base ≤ (w2.alloc (.cells #[.int .i64 P, .int .i64 ((s (i + 1)).1 : Nat), .int .i64 D, .slice (some ⟨b2, 0, none⟩) ((s (i + 1)).1 * D) ((s (i + 1)).1 * D)] 40)).heap.size := by have := hsw.out; have := hsz.out; simp; omega
      go_wp2_with (at_builtin; refine wpList_appendMatS rfl (.tmp 20) (.tmp 22) rfl base wr.heap.size (.slice va (i + 1) cv) P D (i + 1) s b2 ((s (i + 1)).1 * D) 1 (w2.heap.size + 1) (by simp) rfl rfl hM3.out HROW.out hb1 (by omega) hbW ?_; intro v5 w5 hM5 hg5 hat5; obtain ⟨a5, c5, hv5, _⟩ := hM5.shape; subst hv5; have hS5 := Lib.hid (BoxM.grown BX2.out hg5 (fun e9 => by have := HVB.out _ e9; have := hsz.out; omega)); have hL5 := Lib.hid (BoxM.grown hB3.out hg5 (fun e9 => (hne.out LB e9).2 rfl)); have BC5 := hS5.out.cells; have s0 := BC5.2 0 _ rfl; have s1 := BC5.2 1 _ rfl; have s2 := BC5.2 2 _ rfl; have s3 := BC5.2 3 _ rfl; have lS5 := BC5.1; have BL5 := hL5.out.cells; have lL5 := BL5.1; have t0 := BL5.2 0 _ rfl; have t1 := BL5.2 1 _ rfl; have t2 := BL5.2 2 _ rfl; have t3 := BL5.2 3 _ rfl; have f0 := BL5.3 0; have f1 := BL5.3 1; have f2 := BL5.3 2; have f3 := BL5.3 3; have HM5 := Lib.hid hM5; have HG5 := Lib.hid hg5; have HAT5 := Lib.hid hat5; clear hM5 hg5 hat5 BC5 BL5)
      have E5 := hE3.out.grown HG5.out (fun z hz => (hne.out z hz).1)
      have H5 := Has.grownNe hH3.out HG5.out (fun e9 => by have := HVB.out _ e9; omega)
      have hgs := HG5.out.size
      have NE5 : ∀ z, (Value.slice a5 (i + 1 + 1) c5).ownBlock = some z → w.heap.size ≤ z ∧ z ≠ LB := fun z hz => by
        rcases HAT5.out with h9 | h9
        · rw [h9] at hz; exact hne.out z hz
        · rw [h9] at hz
          simp only [Option.some.injEq] at hz
          have q1 := hlb.out
          have q2 := hLH.out
          have q3 := hsz.out
          have q4 := hsz3
          omega
      obtain ⟨z1, z2, z3, z4, z5, z6⟩ := ser_step (x0 := .int .i64 P) (x1 := .int .i64 ((s (i + 1)).1 : Nat)) (x2 := .int .i64 D) (x3 := .slice (some ⟨b2, 0, none⟩) ((s (i + 1)).1 * D) ((s (i + 1)).1 * D)) hL5.out rfl HM5.out NE5 E5 hlb.out H5 (by have := hLH.out; omega) hgs
      exact ⟨⟨i + 1, _, b2, c5, a5, by omega, rfl, rfl, z1, z2, z3, z4, z5, z6⟩, by simp [lenOf]; omega⟩

set_option maxRecDepth 100000 in
set_option maxHeartbeats 3200000 in
theorem next_C (P : Int) (D B F0 F1 a0 oa n b bu : Nat) (l : List Int) (t : Nat × List Int) (w : World) (hF0 : Cells w F0 [.pointer (some ⟨B, 0, none⟩)]) (hF1 : Cells w F1 [.int .i64 P, .int .i64 D, .int .i64 D, .slice (some ⟨bu, 0, none⟩) (D * D) (D * D)]) (hU : Has w bu (unitTo D D)) (hc : Cells w B [.int .i64 P, .int .i64 D, .slice (some ⟨a0, oa, none⟩) n n]) (hT : Reads w (some ⟨a0, oa, none⟩) n l) (hA : AlgP P D n l) (ht : Spc P D t) (hb : Has w b t.2) :
    Calls Try.prog 67 #[.agg #[.int .i64 P, .int .i64 (t.1 : Nat), .int .i64 D, .slice (some ⟨b, 0, none⟩) (t.1 * D) (t.1 * D)], .pointer (some ⟨F0, 0, none⟩), .pointer (some ⟨F1, 0, none⟩)] w fun e w' => ∃ b', e = .returned (.agg #[.int .i64 P, .int .i64 ((inS P D l t).1 : Nat), .int .i64 D, .slice (some ⟨b', 0, none⟩) ((inS P D l t).1 * D) ((inS P D l t).1 * D)]) ∧ w.heap.size ≤ b' ∧ b' < w'.heap.size ∧ Has w' b' (inS P D l t).2 ∧ Ext w w' := by
  have hp := isP_lo hA.pr
  have hD := hA.dim
  have h28 := cube28 hD
  have HTK : Hid (∀ w1, Ext w w1 → Calls Try.prog 68 #[.pointer (some ⟨B, 0, none⟩), .agg #[.int .i64 P, .int .i64 D, .int .i64 D, .slice (some ⟨bu, 0, none⟩) (D * D) (D * D)], .agg #[.int .i64 P, .int .i64 (t.1 : Nat), .int .i64 D, .slice (some ⟨b, 0, none⟩) (t.1 * D) (t.1 * D)]] w1 fun e w' => ∃ b', e = .returned (.agg #[.int .i64 P, .int .i64 ((inS P D l t).1 : Nat), .int .i64 D, .slice (some ⟨b', 0, none⟩) ((inS P D l t).1 * D) ((inS P D l t).1 * D)]) ∧ w1.heap.size ≤ b' ∧ b' < w'.heap.size ∧ Has w' b' (inS P D l t).2 ∧ Ext w1 w') := fun w1 h =>
    takenInto_impl P D D t.1 (D * D) (t.1 * D) B a0 oa n n bu 0 b 0 l (unitTo D D) t.2 w1 (hc.ext h) hD hD hA.len rfl (Nat.le_refl _) (by unfold maxLen; have := hA.len; omega) (hT.ext h) ((hU.ext h).reads (unitTo_length D D)) ((hb.ext h).reads ht.len) (spaceM_spc hA.pr hD ht) hA.res (unitTo_res2 P hp D D)
  have HF0 := Lib.hid hF0
  have HF1 := Lib.hid hF1
  clear hF0 hc hT hA ht hb hF1 hU
  generalize inS P D l t = u at *
  obtain ⟨ur, ud⟩ := u
  obtain ⟨tr, td⟩ := t
  dsimp only at *
  go_enter Try.func67, Try.ntmps67
  have A0_1 := Lib.hid ((cells_new' w #[.int .i64 P, .int .i64 (tr : Nat), .int .i64 D, .slice (some ⟨b, 0, none⟩) (tr * D) (tr * D)] 40 (w.heap.size) (by simp)).ext ((Ext.refl _).alloc (.cells #[.int .i64 0, .int .i64 0, .int .i64 0, .slice none 0 0] 40)))
  have R_2 := Lib.hid (cells_new' (w.alloc (.cells #[.int .i64 P, .int .i64 (tr : Nat), .int .i64 D, .slice (some ⟨b, 0, none⟩) (tr * D) (tr * D)] 40)) #[.int .i64 0, .int .i64 0, .int .i64 0, .slice none 0 0] 40 (w.heap.size + 1) (by simp))
  have E_3 := Lib.hid (((Ext.refl w).alloc (.cells #[.int .i64 P, .int .i64 (tr : Nat), .int .i64 D, .slice (some ⟨b, 0, none⟩) (tr * D) (tr * D)] 40)).alloc (.cells #[.int .i64 0, .int .i64 0, .int .i64 0, .slice none 0 0] 40))
  have F0_4 := Lib.hid (HF0.out.ext E_3.out)
  have F1_5 := Lib.hid (HF1.out.ext E_3.out)
  have lR0 := Lib.hid R_2.out.1
  have lA0 := A0_1.out.1
  have qA00 := A0_1.out.2 0 _ rfl
  have qA01 := A0_1.out.2 1 _ rfl
  have qA02 := A0_1.out.2 2 _ rfl
  have qA03 := A0_1.out.2 3 _ rfl
  have lF0 := F0_4.out.1
  have qF00 := F0_4.out.2 0 _ rfl
  have lF1 := F1_5.out.1
  have qF10 := F1_5.out.2 0 _ rfl
  have qF11 := F1_5.out.2 1 _ rfl
  have qF12 := F1_5.out.2 2 _ rfl
  have qF13 := F1_5.out.2 3 _ rfl
  try simp only [World.size_alloc] at lA0 lF0 lF1
  go_wp2_with fail
  refine (HTK.out _ E_3.out).mono ?_
  rintro e w_6 ⟨b2, rfl, hq3, hq4, hh2, h_6⟩
  clear lA0 qA00 qA01 qA02 qA03 lF0 qF00 lF1 qF10 qF11 qF12 qF13
  have A0_7 := Lib.hid (A0_1.out.ext h_6)
  clear A0_1
  have R_8 := Lib.hid (R_2.out.ext h_6)
  clear R_2
  have F0_9 := Lib.hid (F0_4.out.ext h_6)
  clear F0_4
  have F1_10 := Lib.hid (F1_5.out.ext h_6)
  clear F1_5
  have E_11 := Lib.hid (E_3.out.trans h_6)
  clear E_3
  have lR1 := lR0.out
  try simp only [World.size_alloc] at hq3
  have r0 := R_8.out.2 0 _ rfl
  have r1 := R_8.out.2 1 _ rfl
  have r2 := R_8.out.2 2 _ rfl
  have r3 := R_8.out.2 3 _ rfl
  have tR := R_8.out.3
  have lR := R_8.out.1
  go_wp2
  refine bodyPost_ret (v := .agg #[.int .i64 P, .int .i64 (ur : Nat), .int .i64 D, .slice (some ⟨b2, 0, none⟩) (ur * D) (ur * D)]) (by simp [results, Try.results67, go_sem, r0, r1, r2, r3]) rfl ⟨b2, rfl, by omega, by simp; omega, ?_, ext4 E_11.out (by omega) _ _ _ _⟩
  repeat with_reducible (first | exact hh2 | refine Has.setOther ?_ (by simp <;> omega) _)

set_option maxRecDepth 100000 in
set_option maxHeartbeats 3200000 in
theorem uppM_no {P D : Int} {a0 oa n : Nat} {l : List Int} {w : World} (hT : Reads w (some ⟨a0, oa, none⟩) n l) (hm0 : n ≤ 1048576) (h0 : algB P D l = false) :
    Calls Try.prog 18 #[.agg #[.int .i64 P, .int .i64 D, .slice (some ⟨a0, oa, none⟩) n n]] w fun e w' => e = .returned (.slice none 0 0) ∧ Ext w w' := by
  have HT := Lib.hid hT
  have H0 := Lib.hid h0
  clear h0 hT
  go_enter Try.func18, Try.ntmps18
  have A0_1 := Lib.hid (cells_new' w #[.int .i64 P, .int .i64 D, .slice (some ⟨a0, oa, none⟩) n n] 28 (w.heap.size) (by simp))
  have E_2 := Lib.hid ((Ext.refl w).alloc (.cells #[.int .i64 P, .int .i64 D, .slice (some ⟨a0, oa, none⟩) n n] 28))
  have lA0 := A0_1.out.1
  have qA00 := A0_1.out.2 0 _ rfl
  have qA01 := A0_1.out.2 1 _ rfl
  have qA02 := A0_1.out.2 2 _ rfl
  try simp only [World.size_alloc] at lA0
  go_wp2_with fail
  refine (wrap_impl P _ a0 oa n n l _ (HT.out.ext E_2.out) hm0 (Nat.le_refl _) (by unfold maxLen; omega)).mono ?_
  rintro e w_3 ⟨B, rfl, hb, hlo, h_3⟩
  clear lA0 qA00 qA01 qA02
  have A0_4 := Lib.hid (A0_1.out.ext h_3)
  clear A0_1
  have E_5 := Lib.hid (E_2.out.trans h_3)
  clear E_2
  clear hb hlo
  rw [H0.out]
  go_wp2
  go_ret
  exact ⟨rfl, E_5.out.alloc _⟩

set_option maxRecDepth 100000 in
set_option maxHeartbeats 3200000 in
theorem uppM_yes {P : Int} {D a0 oa n : Nat} {l : List Int} {w : World} (hT : Reads w (some ⟨a0, oa, none⟩) n l) (hm0 : n ≤ 1048576) (h0 : algB P D l = true) (hA : AlgP P D n l) :
    Calls Try.prog 18 #[.agg #[.int .i64 P, .int .i64 D, .slice (some ⟨a0, oa, none⟩) n n]] w fun e w' => ∃ v, e = .returned v ∧ MatS w' w.heap.size w'.heap.size v P D (upS P D l) (upN P D l + 1) ∧ Ext w w' := by
  have HT := Lib.hid hT
  have H0 := Lib.hid h0
  have hD := hA.dim
  have hIP := isP_iff.1 hA.pr
  have HNS := Lib.hid (upN_spec (P := P) (D := D) (l := l) hIP)
  have hmf : ∀ (fn : Fn) (first cap : Array Value) (w : World), (Instr.makeFunc fn first cap).run Try.prog w = .ok (.func fn first cap) w := fun _ _ _ _ => rfl
  have HSR : Hid (∀ w1 B F0 F1 b9 b, Ext w w1 → Cells w1 B [.int .i64 P, .int .i64 D, .slice (some ⟨a0, oa, none⟩) n n] → Cells w1 F0 [.pointer (some ⟨B, 0, none⟩)] → Cells w1 F1 [.int .i64 P, .int .i64 D, .int .i64 D, .slice (some ⟨b9, 0, none⟩) (D * D) (D * D)] → Has w1 b9 (unitTo D D) → w.heap.size ≤ b → Has w1 b [] → Calls Try.prog 65 #[.agg #[.int .i64 P, .int .i64 0, .int .i64 D, .slice (some ⟨b, 0, none⟩) 0 0], .func (.func 67) #[] #[.pointer (some ⟨F0, 0, none⟩), .pointer (some ⟨F1, 0, none⟩)]] w1 fun e w' => ∃ v, e = .returned v ∧ MatS w' w.heap.size w'.heap.size v P D (upS P D l) (upN P D l + 1) ∧ Ext w1 w') := fun w1 B F0 F1 b9 b h hc hf hf1 hu9 hbb hU => by
    have h9 := series_C P D b w.heap.size (upN P D l) F0 F1 (upS P D l) w1 hD (Nat.le_trans HNS.out.1 hD) HNS.out.2 (fun i => (upS_spc hIP i).le) hU (fun i => (upS_spc hIP i).len) hbb
      (fun i hi w2 b2 h2 hb2 => next_C P D B F0 F1 a0 oa n b2 b9 l (upS P D l i) w2 (hf.ext h2) (hf1.ext h2) (hu9.ext h2) (hc.ext h2) (hT.ext (h.trans h2)) hA (upS_spc hIP i) hb2)
    have e9 : (upS P D l 0).1 * D = 0 := by simp [upS]
    rw [e9] at h9
    exact h9
  clear hT h0 hA HNS
  go_enter Try.func18, Try.ntmps18
  have A0_1 := Lib.hid (cells_new' w #[.int .i64 P, .int .i64 D, .slice (some ⟨a0, oa, none⟩) n n] 28 (w.heap.size) (by simp))
  have E_2 := Lib.hid ((Ext.refl w).alloc (.cells #[.int .i64 P, .int .i64 D, .slice (some ⟨a0, oa, none⟩) n n] 28))
  have lA0 := A0_1.out.1
  have qA00 := A0_1.out.2 0 _ rfl
  have qA01 := A0_1.out.2 1 _ rfl
  have qA02 := A0_1.out.2 2 _ rfl
  try simp only [World.size_alloc] at lA0
  go_wp2_with fail
  refine (wrap_impl P _ a0 oa n n l _ (HT.out.ext E_2.out) hm0 (Nat.le_refl _) (by unfold maxLen; omega)).mono ?_
  rintro e w_3 ⟨B, rfl, hb, hlo, h_3⟩
  clear lA0 qA00 qA01 qA02
  have A0_4 := Lib.hid (A0_1.out.ext h_3)
  clear A0_1
  have E_5 := Lib.hid (E_2.out.trans h_3)
  clear E_2
  have B_6 := Lib.hid hb
  clear hb hlo
  rw [H0.out]
  have P_9 := (Ext.refl w_3).alloc (.cells #[.pointer (some ⟨B, 0, none⟩)] 64)
  have A0_7 := Lib.hid (A0_4.out.ext P_9)
  clear A0_4
  have B_8 := Lib.hid (B_6.out.ext P_9)
  clear B_6
  have E_9 := Lib.hid (E_5.out.trans P_9)
  clear E_5
  clear P_9
  have F_10 := Lib.hid (cells_new w_3 #[.pointer (some ⟨B, 0, none⟩)] 64)
  have lF := F_10.out.1
  have qF0 := F_10.out.2 0 _ rfl
  try simp only [World.size_alloc] at lF
  go_wp2_with fail
  refine (all_impl P D B _ _ B_8.out hD).mono ?_
  rintro e w_11 ⟨b, rfl, hu1, hu2, hu, h_11⟩
  clear lF qF0
  have A0_12 := Lib.hid (A0_7.out.ext h_11)
  clear A0_7
  have B_13 := Lib.hid (B_8.out.ext h_11)
  clear B_8
  have F_14 := Lib.hid (F_10.out.ext h_11)
  clear F_10
  have E_15 := Lib.hid (E_9.out.trans h_11)
  clear E_9
  have HU := Lib.hid hu
  clear hu
  have P_8 := (Ext.refl w_11).alloc (.cells #[.int .i64 P, .int .i64 D, .int .i64 D, .slice (some ⟨b, 0, none⟩) (D * D) (D * D)] 40)
  have A0_16 := Lib.hid (A0_12.out.ext P_8)
  clear A0_12
  have B_17 := Lib.hid (B_13.out.ext P_8)
  clear B_13
  have F_18 := Lib.hid (F_14.out.ext P_8)
  clear F_14
  have U_19 := Lib.hid (HU.out.ext P_8)
  clear HU
  have E_20 := Lib.hid (E_15.out.trans P_8)
  clear E_15
  clear P_8
  have G_21 := Lib.hid (cells_new w_11 #[.int .i64 P, .int .i64 D, .int .i64 D, .slice (some ⟨b, 0, none⟩) (D * D) (D * D)] 40)
  have lF := F_18.out.1
  have qF0 := F_18.out.2 0 _ rfl
  have lB := B_17.out.1
  have qB0 := B_17.out.2 0 _ rfl
  have qB1 := B_17.out.2 1 _ rfl
  have qB2 := B_17.out.2 2 _ rfl
  try simp only [World.size_alloc] at lF lB
  go_wp2_with fail
  clear lF qF0 lB qB0 qB1 qB2
  generalize hWX : (w_11.alloc (.cells #[.int .i64 P, .int .i64 D, .int .i64 D, .slice (some ⟨b, 0, none⟩) (D * D) (D * D)] 40)) = WX at *
  generalize hFF : w_3.heap.size = FF at *
  generalize hGG : w_11.heap.size = GG at *
  clear hWX hFF hGG
  have lF := F_18.out.1
  have f0 := F_18.out.2 0 _ rfl
  have lB := B_17.out.1
  have b0 := B_17.out.2 0 _ rfl
  have b1 := B_17.out.2 1 _ rfl
  have b2 := B_17.out.2 2 _ rfl
  have hEX := E_20.out.le
  go_region_held3 (fun w' => Ext WX w' ∧ (∀ b o, b < WX.heap.size → w'.cell? ⟨b, o, none⟩ = WX.cell? ⟨b, o, none⟩)) (first | assumption | (with_reducible exact ext2 (Ext.trans (And.left ‹Ext WX _ ∧ _›) ‹Ext _ _›)) | (refine ext2 ?_; with_reducible repeat (first | exact Ext.refl _ | exact And.left ‹Ext WX _ ∧ _› | refine Ext.drew ?_ | refine Ext.drewN ?_ _))) (first
    | (go_at_call 66; (with_reducible refine (zeros_none P D _).mono ?_); rintro e w3 ⟨zb, rfl, hz1, hz2, kz, h3⟩)
    | (go_at_call 65; (with_reducible refine (HSR.out _ B FF GG b zb (E_20.out.trans (And.left ‹Ext WX _ ∧ _›)) (B_17.out.ext (And.left ‹Ext WX _ ∧ _›)) (F_18.out.ext (And.left ‹Ext WX _ ∧ _›)) (G_21.out.ext (And.left ‹Ext WX _ ∧ _›)) (U_19.out.ext (And.left ‹Ext WX _ ∧ _›)) (by have e0 : WX.drew.heap.size = WX.heap.size := rfl; omega) kz).mono ?_); rintro e w4 ⟨v, rfl, hM, h4⟩))
  all_goals
    have HM := Lib.hid hM
    have E9 := Lib.hid (E_20.out.trans (And.left ‹Ext WX w4 ∧ _›))
    clear hM h3 h4
    go_wp2
    go_ret
    exact ⟨v, rfl, HM.out, E9.out⟩

set_option maxHeartbeats 800000 in
theorem upperSeries_impl {P D : Int} {a0 oa n : Nat} {l : List Int} {w : World} {d : List Mat} (hT : Reads w (some ⟨a0, oa, none⟩) n l) (hm0 : n ≤ 1048576) (hM : uppM P D l = d) :
    Calls Try.prog 18 #[.agg #[.int .i64 P, .int .i64 D, .slice (some ⟨a0, oa, none⟩) n n]] w fun e w' => ∃ v, e = .returned v ∧ Rmats w w' v d ∧ Ext w w' := by
  subst hM
  rcases h0 : algB P D l with _ | _
  · refine (uppM_no hT hm0 h0).mono ?_
    rintro e w' ⟨rfl, hE⟩
    refine ⟨_, rfl, ⟨none, 0, 0, rfl, ?_, by omega⟩, hE⟩
    rw [uppM, h0]
    exact matsR_nil _ _ _ _
  · obtain ⟨D, rfl, hA⟩ := algB_parts h0 hT.1
    refine (uppM_yes hT hm0 h0 hA).mono ?_
    rintro e w' ⟨v, rfl, hM, hE⟩
    have hIP := isP_iff.1 hA.pr
    have hN := (upN_spec (P := P) (D := D) (l := l) hIP).1
    have hD := hA.dim
    obtain ⟨a, c, rfl, hR⟩ := hM.toR (Nat.le_refl _) (Nat.le_refl _) (Nat.le_refl _) (by omega) hA.dim (fun i => (upS_spc hIP i).le) (fun i => (upS_spc hIP i).len)
    refine ⟨_, rfl, ⟨a, _, c, rfl, ?_, by omega⟩, hE⟩
    rw [uppM, h0, if_pos rfl, Int.toNat_natCast]
    exact hR
end Go.Proofs.Ytapaopapgnfdkaa
