/-
  The reduction of the specification.
-/
import Derived.Test.YtnikfalpjieibaaRi
import Derived.Test.YtnikfalpjieibaaM0
import Derived.StillTailTactics
namespace Go.Proofs.Ytnikfalpjieibaa
open Go.RowKit
set_option linter.unusedVariables false

theorem Loc.other {w wr wr' : World} {B b : Nat} {vs : List Value} {l : List Int} {row : Option Nat} (h : Loc w wr B b vs l) (hg : wr.grownBy wr' row) (hf : ∀ k, row = some k → w.heap.size ≤ k ∧ k ≠ b ∧ k ≠ B) : Loc w wr' B b vs l :=
  ⟨h.box.grown hg (fun k hk => (hf k hk).2.2), h.has.grownOther hg (fun k hk => (hf k hk).2.1), h.ext.grown hg (fun k hk => (hf k hk).1), h.lo, Nat.lt_of_lt_of_le h.lt hg.size, h.ne⟩
theorem Loc.drew {w wr : World} {B b : Nat} {vs : List Value} {l : List Int} (h : Loc w wr B b vs l) : Loc w wr.drew B b vs l := h.step (Ext.refl _).drew
theorem setCell_grown (w : World) (b j : Nat) (v : Value) : w.grownBy (w.setCell ⟨b, j, none⟩ v) (some b) := grownBy_set (p := ⟨b, j, none⟩) (grownBy_refl w (some b)) rfl v
/-- What l1Reduce keeps beside the numbers: the result's box, and the pivots. -/
structure Beside (wr : World) (Z base b : Nat) (v : Value) (pv : List Nat) : Prop where
  res : Cells wr Z [.int .i64 0, .int .i64 0, .int .i64 0, .slice none 0 0]
  pvs : Grows wr base v pv.length (pvI pv)
  far : b < base
  ne : Z ≠ b
theorem Beside.step {wr wr' : World} {Z base b : Nat} {v : Value} {pv : List Nat} (h : Beside wr Z base b v pv) (hE : Ext wr wr') : Beside wr' Z base b v pv := ⟨h.res.ext hE, h.pvs.ext hE, h.far, h.ne⟩
theorem Beside.drew {wr : World} {Z base b : Nat} {v : Value} {pv : List Nat} (h : Beside wr Z base b v pv) : Beside wr.drew Z base b v pv := h.step (Ext.refl _).drew
theorem Beside.grown {wr wr' : World} {Z base b : Nat} {v : Value} {pv : List Nat} (h : Beside wr Z base b v pv) (hg : wr.grownBy wr' (some b)) : Beside wr' Z base b v pv :=
  ⟨h.res.grown hg (fun k hk => by simp at hk; have := h.ne; omega), h.pvs.grown hg h.far, h.far, h.ne⟩

set_option maxRecDepth 100000 in
set_option maxHeartbeats 12800000 in
theorem l1Reduce_spec (P : Int) (R C n c : Nat) (a : Option Addr) (xs : List Int) (w : World) (hr : Reads w a n xs) (hn : n = R * C) (hb : n ≤ 1048576) (hR : R ≤ 1048576) (hC : C ≤ 1048576) (hpr : isP P = true) (hx : Res xs P) (ha : a = none → n = 0 ∧ c = 0) :
    Calls Try.prog 114 #[.agg #[.int .i64 P, .int .i64 R, .int .i64 C, .slice a n c]] w fun e w' => ∃ b c' a2 cap mid, e = .returned (.tuple #[.agg #[.int .i64 P, .int .i64 R, .int .i64 C, .slice (some ⟨b, 0, none⟩) n c'], .slice a2 (redM P R C xs).pv.length cap, .int .i64 (redM P R C xs).d]) ∧ w.heap.size ≤ b ∧ b < mid ∧ mid ≤ w'.heap.size ∧ Has w' b (redM P R C xs).m ∧ Own w' mid w'.heap.size a2 (redM P R C xs).pv.length (pvI (redM P R C xs).pv) ∧ Ext w w' ∧ n ≤ c' := by
  obtain ⟨i0, hi, hz0, hz1, hz2⟩ := info_parts Try.infoInt
  have hp := isP_lo hpr
  have hp2 := isP_hi hpr
  have HR := Lib.hid hr
  have HX := Lib.hid hx
  have HN := Lib.hid hn
  have HPR := Lib.hid hpr
  have HA := Lib.hid ha
  have HL : Hid (xs.length = n) := hr.1
  clear hr hx hn hpr ha
  go_enter Try.func114, Try.ntmps114
  have A0 := Lib.hid ((cells_new' w #[.int .i64 P, .int .i64 R, .int .i64 C, .slice a n c] 37 (w.heap.size) (by simp)).ext ((Ext.refl _).alloc (.cells #[.int .i64 0, .int .i64 0, .int .i64 0, .slice none 0 0] 37)))
  have Z0 := Lib.hid (cells_new' (w.alloc (.cells #[.int .i64 P, .int .i64 R, .int .i64 C, .slice a n c] 37)) #[.int .i64 0, .int .i64 0, .int .i64 0, .slice none 0 0] 37 (w.heap.size + 1) (by simp))
  have E0 := Lib.hid (((Ext.refl w).alloc (.cells #[.int .i64 P, .int .i64 R, .int .i64 C, .slice a n c] 37)).alloc (.cells #[.int .i64 0, .int .i64 0, .int .i64 0, .slice none 0 0] 37))
  go_wp2_with fail
  generalize hW : (w.alloc (.cells #[.int .i64 P, .int .i64 R, .int .i64 C, .slice a n c] 37)).alloc (.cells #[.int .i64 0, .int .i64 0, .int .i64 0, .slice none 0 0] 37) = W at A0 Z0 E0 ⊢
  clear hW
  have lA := A0.out.1
  have q0 := A0.out.2 0 _ rfl
  have q1 := A0.out.2 1 _ rfl
  have q2 := A0.out.2 2 _ rfl
  have q3 := A0.out.2 3 _ rfl
  go_wp2_with fail
  refine (l1Copy_spec2 P R C a n c xs W (HR.out.ext E0.out) hb HA.out).mono ?_
  rintro e w1 ⟨b, c', rfl, hb1, hb2, hh, h1, hcc⟩
  have HCC := Lib.hid hcc
  clear hcc
  clear lA q0 q1 q2 q3
  have A1 := Lib.hid (A0.out.ext h1)
  have hZW := Z0.out.1
  have L1 : Hid (Loc w (w1.alloc (.cells #[.int .i64 P, .int .i64 R, .int .i64 C, .slice (some ⟨b, 0, none⟩) n c'] 37)) w1.heap.size b [.int .i64 P, .int .i64 R, .int .i64 C, .slice (some ⟨b, 0, none⟩) n c'] (redTo P R C xs 0).m) :=
    ⟨cells_new _ _ _, hh.alloc _, (E0.out.trans h1).alloc _, by omega, by simp; omega, by omega⟩
  have A2 := Lib.hid (A1.out.ext ((Ext.refl w1).alloc (.cells #[.int .i64 P, .int .i64 R, .int .i64 C, .slice (some ⟨b, 0, none⟩) n c'] 37)))
  have Z2 := Lib.hid ((Z0.out.ext h1).ext ((Ext.refl w1).alloc (.cells #[.int .i64 P, .int .i64 R, .int .i64 C, .slice (some ⟨b, 0, none⟩) n c'] 37)))
  have hZb : Hid (w.heap.size + 1 < b) := by show w.heap.size + 1 < b; omega
  have hbB : Hid (b < w1.heap.size) := hb2
  clear A0 A1 Z0 E0 hb1 hb2 hh h1 hZW
  go_upto_region 2 with fail
  generalize hW2 : w1.alloc (.cells #[.int .i64 P, .int .i64 R, .int .i64 C, .slice (some ⟨b, 0, none⟩) n c'] 37) = W2 at L1 A2 Z2 ⊢
  have hBW : Hid (w1.heap.size + 1 ≤ W2.heap.size) := by rw [← hW2]; simp [Hid]
  clear hW2
  have own0 : Hid (Grows (W2.alloc (.cells #[] 3)) (w1.heap.size + 1) (.slice (some ⟨W2.heap.size, 0, none⟩) 0 0) 0 []) := World.ownsRow_lit W2 #[] 0 hBW.out (by unfold maxLen; omega) (by simp)
  have lA := A2.out.1
  have q0 := A2.out.2 0 _ rfl
  have L2 := Lib.hid (L1.out.step ((Ext.refl W2).alloc (.cells #[] 3)))
  have hzb : w.heap.size + 1 ≠ b := by have := hZb.out; omega
  have hbb : b < w1.heap.size + 1 := by have := hbB.out; omega
  have B2 : Hid (Beside (W2.alloc (.cells #[] 3)) (w.heap.size + 1) (w1.heap.size + 1) b (.slice (some ⟨W2.heap.size, 0, none⟩) 0 0) []) :=
    ⟨Z2.out.ext ((Ext.refl W2).alloc _), own0.out, hbb, hzb⟩
  have o1 : (1 : Int) % P = 1 := Int.emod_eq_of_lt (by omega) (by omega)
  clear A2 Z2 own0 L1
  go_upto_region 4 with fail
  rw [o1]
  clear o1 lA q0
  generalize hW3 : W2.alloc (.cells #[] 3) = W3 at L2 B2 ⊢
  clear hW3
  generalize (Value.slice (some ⟨W2.heap.size, 0, none⟩) 0 0) = v0 at B2 ⊢
  generalize hBg : w1.heap.size = B at L2 B2 hbb ⊢
  have hbB2 : Hid (b < B) := by rw [← hBg]; exact hbB
  clear hBg hbB hBW hbb hzb
  have hbb := hbB2
  clear hbB2
  go_wp2_with fail
  go_loopw [6, 7, 8, 9, 10, 11, 12, 13, 14, 15, 16, 17] (fun v d z _ _ _ _ _ _ _ _ _ wr => ∃ q : Nat, q ≤ C ∧ z = .int .i64 q ∧ d = .int .i64 (redTo P R C xs q).d ∧ Hid (Loc w wr B b [.int .i64 P, .int .i64 R, .int .i64 C, .slice (some ⟨b, 0, none⟩) n c'] (redTo P R C xs q).m) ∧ Hid (Beside wr (w.heap.size + 1) (B + 1) b v (redTo P R C xs q).pv)) (fun _ _ z _ _ _ _ _ _ _ _ _ _ => C - (intOf z).toNat)
  case atStart => exact ⟨0, by omega, rfl, rfl, L2, B2⟩
  case round =>
    obtain ⟨q, hq, rfl, rfl, L, G⟩ := hrel
    have hs1 := redTo_pv (P := P) (R := R) (C := C) (xs := xs) q
    have hd := redTo_d (R := R) (C := C) (xs := xs) hp q
    have HLm : Hid ((redTo P R C xs q).m.length = n) := by rw [Hid, redTo_length]; exact HL.out
    have HXm : Hid (Res (redTo P R C xs q).m P) := redTo_res hp HX.out q
    have HS : Hid (redTo P R C xs (q + 1) = colS P R C q (redTo P R C xs q)) := rfl
    have HQ : Hid (∀ k, q + k = C → R ≤ (redTo P R C xs q).pv.length ∨ k = 0 → redM P R C xs = redTo P R C xs q) := by
      intro k hk h
      have e : redM P R C xs = redTo P R C xs (q + k) := by rw [hk]; rfl
      rw [e]
      rcases h with h | h
      · exact redTo_full h k
      · subst h; rfl
    generalize redTo P R C xs q = s at L G HLm HXm HS hs1 hd HQ ⊢
    obtain ⟨hs1, hs2, hs3⟩ := hs1
    obtain ⟨hd0, hd1⟩ := hd
    clear hs3
    obtain ⟨wo, rfl⟩ : ∃ wo : World, wo = wr := ⟨_, rfl⟩
    obtain ⟨a2, cap, rfl, hO⟩ := G.out.pvs.shape
    have HO := Lib.hid hO
    clear hO
    by_cases hlt : q < C
    · by_cases hful : s.pv.length < R
      · clear HQ
        have lB := L.out.box.1
        have p0 := L.out.box.2 0 _ rfl
        have p1 := L.out.box.2 1 _ rfl
        have p2 := L.out.box.2 2 _ rfl
        have p3 := L.out.box.2 3 _ rfl
        go_wp2_with fail
        clear lB p0 p1 p2 p3
        go_loopw [10] (fun z wr => ∃ k : Nat, s.pv.length ≤ k ∧ k ≤ R ∧ z = .int .i64 k ∧ Hid (fnz s.m C q R s.pv.length = fnz s.m C q R k) ∧ Hid (Loc w wr B b [.int .i64 P, .int .i64 R, .int .i64 C, .slice (some ⟨b, 0, none⟩) n c'] s.m) ∧ Hid (Beside wr (w.heap.size + 1) (B + 1) b (.slice a2 s.pv.length cap) s.pv)) (fun z _ => R - (intOf z).toNat)
        case atStart => exact ⟨s.pv.length, Nat.le_refl _, by omega, rfl, rfl, L, G⟩
        case round =>
          clear L G HO
          obtain ⟨k, hk1, hk2, rfl, hf, L, G⟩ := hrel
          have lB := L.out.box.1
          have p0 := L.out.box.2 0 _ rfl
          have p1 := L.out.box.2 1 _ rfl
          have p2 := L.out.box.2 2 _ rfl
          have p3 := L.out.box.2 3 _ rfl
          by_cases hk : k < R
          · have hpl := place_lt hk hlt
            go_wp2_with fail
            refine (l1At_spec P R C k q _ n _ s.m wr (L.out.has.reads HLm.out) (by rw [HN.out]; exact hpl) hb).mono ?_
            rintro e w2 ⟨rfl, h2⟩
            clear lB p0 p1 p2 p3
            have L2 := Lib.hid (L.out.step h2)
            have G2 := Lib.hid (G.out.step h2)
            clear L G h2
            by_cases h0 : gi s.m (k * C + q) = 0
            · have HF2 : Hid (fnz s.m C q R s.pv.length = fnz s.m C q R (k + 1)) := hf.out.trans (fnz_zero hk h0)
              have hb0 : (gi s.m (k * C + q) == 0) = true := by simpa using h0
              clear h0
              go_wp2
              exact ⟨⟨k + 1, by omega, by omega, by simp, HF2, L2, G2⟩, by simp [intOf]; omega⟩
            · have HF2 : Hid (redTo P R C xs (q + 1) = colP P R C q k s) := by rw [Hid, HS.out, colS, hf.out, fnz_here hk h0, if_neg (by omega)]
              have hb0 : (gi s.m (k * C + q) == 0) = false := by simpa using h0
              have hb1 : ((k : Int) == (R : Int)) = false := by simp; omega
              clear h0 hf HS
              have lB := L2.out.box.1
              have p0 := L2.out.box.2 0 _ rfl
              have p1 := L2.out.box.2 1 _ rfl
              have p2 := L2.out.box.2 2 _ rfl
              have p3 := L2.out.box.2 3 _ rfl
              go_upto_if 59 with fail
              go_cut [7] (fun d wr => d = .int .i64 (if k = s.pv.length then s.d else (-s.d) % P) ∧ Hid (Loc w wr B b [.int .i64 P, .int .i64 R, .int .i64 C, .slice (some ⟨b, 0, none⟩) n c'] s.m) ∧ Hid (Beside wr (w.heap.size + 1) (B + 1) b (.slice a2 s.pv.length cap) s.pv))
              case first =>
                as_aux_lemma =>
                  by_cases hkt : k = s.pv.length
                  · subst hkt
                    go_wp2
                    go_meet
                    exact ⟨by simp, L2, G2⟩
                  · have HFk := Lib.hid hkt
                    have hb2 : ((k : Int) != (s.pv.length : Int)) = true := by simp; omega
                    clear hkt
                    go_wp2_with fail
                    refine (l1Mod_spec _ _ _ hp hp2).mono ?_
                    rintro e w' ⟨rfl, rfl⟩
                    go_wp2
                    go_meet
                    exact ⟨by rw [if_neg HFk.out], L2, G2⟩
              case rest =>
                obtain ⟨rfl, L3, G3⟩ := hcut
                clear hb0 hb1 hk2
                clear lB p0 p1 p2 p3
                clear L2 G2 hpl
                have hfF : 0 ≤ (if k = s.pv.length then s.d else (-s.d) % P) ∧ (if k = s.pv.length then s.d else (-s.d) % P) < P := by
                  split
                  · exact ⟨hd0, hd1⟩
                  · exact ⟨Int.emod_nonneg _ (by omega), Int.emod_lt_of_pos _ (by omega)⟩
                obtain ⟨hf0, hf1⟩ := hfF
                have HPV : Hid (redTo P R C xs (q + 1) = ⟨clTo P C s.pv.length q (scTo P (inv (gi (swTo (s.pv.length * C) (k * C) s.m C) (s.pv.length * C + q)) P) (s.pv.length * C) (swTo (s.pv.length * C) (k * C) s.m C) C) R, s.pv ++ [q], (if k = s.pv.length then s.d else (-s.d) % P) * gi (swTo (s.pv.length * C) (k * C) s.m C) (s.pv.length * C + q) % P⟩) := by
                  rw [Hid, HF2.out, colP]
                  split
                  · rfl
                  · have := neg_factor s.d (gi (swTo (s.pv.length * C) (k * C) s.m C) (s.pv.length * C + q)) P
                    rw [Int.zero_sub] at this
                    rw [this]
                clear HF2
                generalize (if k = s.pv.length then s.d else (-s.d) % P) = F at hf0 hf1 HPV ⊢
                generalize hgt : s.pv.length = t at hful hk1 hs1 hs2 HPV G3 ⊢
                have HGT := Lib.hid hgt
                have hrn : t * C + C ≤ n := by rw [HN.out]; exact row_lt hful
                have hkn : k * C + C ≤ n := by rw [HN.out]; exact row_lt hk
                have e1 : (t : Int) * (C : Int) = ((t * C : Nat) : Int) := by simp
                have e2 : (k : Int) * (C : Int) = ((k * C : Nat) : Int) := by simp
                have g1 : 0 ≤ (t : Int) * (C : Int) := by rw [e1]; omega
                have g2 : (t : Int) * (C : Int) + (C : Int) ≤ (n : Int) := by rw [e1]; omega
                have g3 : 0 ≤ (k : Int) * (C : Int) := by rw [e2]; omega
                have g4 : (k : Int) * (C : Int) + (C : Int) ≤ (n : Int) := by rw [e2]; omega
                clear hgt e1 e2
                obtain ⟨wo3, rfl⟩ : ∃ wo3 : World, wo3 = wc := ⟨_, rfl⟩
                go_wp2_with fail
                go_loopw [11, 12] (fun z _ wr => ∃ j : Nat, j ≤ C ∧ z = .int .i64 j ∧ Hid (Loc w wr B b [.int .i64 P, .int .i64 R, .int .i64 C, .slice (some ⟨b, 0, none⟩) n c'] (swTo (t * C) (k * C) s.m j)) ∧ Hid (Beside wr (w.heap.size + 1) (B + 1) b (.slice a2 t cap) s.pv)) (fun z _ _ => C - (intOf z).toNat)
                case atStart => exact ⟨0, by omega, rfl, L3, by rw [HGT.out] at *; exact G3⟩
                case round =>
                  clear L3 G3
                  obtain ⟨j, hj, rfl, L, G⟩ := hrel
                  have lB := L.out.box.1
                  have p0 := L.out.box.2 0 _ rfl
                  have p1 := L.out.box.2 1 _ rfl
                  have p2 := L.out.box.2 2 _ rfl
                  have p3 := L.out.box.2 3 _ rfl
                  by_cases hj2 : j < C
                  · have hap : Apart (t * C) (k * C) C := by
                      by_cases e : t = k
                      · exact .inl (by rw [e])
                      · exact .inr (rows_apart e)
                    have x1 := L.out.has.cell (t * C + j) (by rw [swTo_length, HLm.out]; omega)
                    have x2 := L.out.has.cell (k * C + j) (by rw [swTo_length, HLm.out]; omega)
                    rw [gi_swTo_out _ _ C _ (by rw [HLm.out]; omega) (by rw [HLm.out]; omega) _ _ hj (by omega) (by rcases hap with h | h | h <;> omega)] at x1
                    rw [gi_swTo_out _ _ C _ (by rw [HLm.out]; omega) (by rw [HLm.out]; omega) _ _ hj (by rcases hap with h | h | h <;> omega) (by omega)] at x2
                    have f1 := L.out.has.free (t * C + j)
                    have f2 := L.out.has.free (k * C + j)
                    have nM := L.out.ne
                    have N : Hid (Loc w ((wr.setCell ⟨b, t * C + j, none⟩ (.int .i64 (gi s.m (k * C + j)))).setCell ⟨b, k * C + j, none⟩ (.int .i64 (gi s.m (t * C + j)))) B b [.int .i64 P, .int .i64 R, .int .i64 C, .slice (some ⟨b, 0, none⟩) n c'] (swTo (t * C) (k * C) s.m (j + 1))) := (L.out.set (t * C + j) (by rw [swTo_length, HLm.out]; omega) _).set (k * C + j) (by rw [List.length_set, swTo_length, HLm.out]; omega) _
                    have N2 : Hid (Beside ((wr.setCell ⟨b, t * C + j, none⟩ (.int .i64 (gi s.m (k * C + j)))).setCell ⟨b, k * C + j, none⟩ (.int .i64 (gi s.m (t * C + j)))) (w.heap.size + 1) (B + 1) b (.slice a2 t cap) s.pv) := (G.out.grown (setCell_grown _ _ _ _)).grown (setCell_grown _ _ _ _)
                    have g5 : (t : Int) * (C : Int) + (j : Int) < (n : Int) := by omega
                    have g6 : (k : Int) * (C : Int) + (j : Int) < (n : Int) := by omega
                    have g7 : 0 ≤ (t : Int) * (C : Int) + (j : Int) := by omega
                    have g8 : 0 ≤ (k : Int) * (C : Int) + (j : Int) := by omega
                    clear hap L G
                    as_aux_lemma =>
                      by_cases hkr : k = t
                      · subst hkr
                        go_wp2_with fail
                        go_region
                        go_wp2
                        exact ⟨⟨j + 1, by omega, by simp, N.out.drew, N2.out.drew⟩, by simp [intOf]; omega⟩
                      · have hne : t * C + j ≠ k * C + j := by rcases rows_apart (C := C) hkr with h | h <;> omega
                        go_wp2_with fail
                        go_region
                        go_wp2
                        exact ⟨⟨j + 1, by omega, by simp, N.out.drew, N2.out.drew⟩, by simp [intOf]; omega⟩
                  · obtain rfl : C = j := by omega
                    have HM1 : Hid ((swTo (t * C) (k * C) s.m C).length = n) := by rw [Hid, swTo_length]; exact HLm.out
                    have HX1 : Hid (Res (swTo (t * C) (k * C) s.m C) P) := swTo_res _ _ _ _ (by omega) HXm.out _
                    generalize swTo (t * C) (k * C) s.m C = m1 at L HM1 HX1 HPV
                    clear HLm HXm hd0 hd1 g3 g4 hkn hk1
                    have hxb := HX1.out (t * C + q) (by rw [HM1.out]; omega)
                    obtain ⟨x0, x1⟩ := hxb
                    have HAt : Hid (∀ w1, Ext wr w1 → Calls Try.prog 76 #[.agg #[.int .i64 P, .int .i64 R, .int .i64 C, .slice (some ⟨b, 0, none⟩) n c'], .int .i64 t, .int .i64 q] w1 fun e w' => e = .returned (.int .i64 (gi m1 (t * C + q))) ∧ Ext w1 w') := fun w1 hE =>
                      l1At_spec P R C t q _ n _ m1 w1 ((L.out.step hE).has.reads HM1.out) (by omega) hb
                    have HI : Hid (invM (gi m1 (t * C + q)) P = inv (gi m1 (t * C + q)) P) := by rw [Hid, invM, HPR.out, if_pos rfl, Int.emod_eq_of_lt x0 x1]
                    have hi0 : 0 ≤ inv (gi m1 (t * C + q)) P ∧ inv (gi m1 (t * C + q)) P < P := by
                      unfold inv; split
                      · omega
                      · exact ⟨powm_lo _ _ _ (by omega), powm_hi _ _ _ (by omega)⟩
                    have m0 := Int.mul_nonneg hf0 x0
                    have m2 := mul_hi hf0 hf1 x0 x1 hp2
                    generalize gi m1 (t * C + q) = x at x0 x1 HAt HI hi0 m0 m2 HPV
                    go_wp2_with fail
                    have v4 : IntKind.i64.wrap (F * x) = F * x := IntWalk.i64_in _ ⟨by omega, by omega⟩
                    have v6 : (P = 0) = False := eq_false (by omega)
                    have v7 : (F * x).tmod P = F * x % P := IntWalk.rem_in _ _ (by omega)
                    go_region_held3 (fun w' => Ext wr w' ∧ (∀ b o, b < wr.heap.size → w'.cell? ⟨b, o, none⟩ = wr.cell? ⟨b, o, none⟩)) (first | (with_reducible exact ext2 (Ext.trans (And.left ‹Ext wr _ ∧ _›) ‹Ext _ _›)) | (refine ext2 ?_; with_reducible repeat (first | exact Ext.refl _ | refine Ext.drew ?_)) | assumption) ((go_at_call 76; with_reducible refine (HAt.out _ (And.left ‹Ext wr _ ∧ _›)).mono ?_; rintro e w4 ⟨rfl, h4⟩))
                    clear v4 v6 v7
                    have hE4 := And.left ‹Ext wr w4 ∧ _›
                    have L5 := Lib.hid (L.out.step hE4)
                    have G5 := Lib.hid (G.out.step hE4)
                    have HAt5 : Hid (∀ w1, Ext w4 w1 → Calls Try.prog 76 #[.agg #[.int .i64 P, .int .i64 R, .int .i64 C, .slice (some ⟨b, 0, none⟩) n c'], .int .i64 t, .int .i64 q] w1 fun e w' => e = .returned (.int .i64 x) ∧ Ext w1 w') := fun w1 hE => HAt.out w1 (hE4.trans hE)
                    clear lB p0 p1 p2 p3
                    clear L G HAt h4 hE4 m0 m2
                    have lB := L5.out.box.1
                    have p0 := L5.out.box.2 0 _ rfl
                    have p1 := L5.out.box.2 1 _ rfl
                    have p2 := L5.out.box.2 2 _ rfl
                    have p3 := L5.out.box.2 3 _ rfl
                    go_wp2_with fail
                    go_region_held3 (fun w' => Ext w4 w' ∧ (∀ b o, b < w4.heap.size → w'.cell? ⟨b, o, none⟩ = w4.cell? ⟨b, o, none⟩)) (first | assumption | (with_reducible exact ext2 (Ext.trans (And.left ‹Ext w4 _ ∧ _›) ‹Ext _ _›)) | (refine ext2 ?_; with_reducible repeat (first | exact Ext.refl _ | refine Ext.drew ?_))) (first
                      | (go_at_call 76; with_reducible refine (HAt5.out _ (And.left ‹Ext w4 _ ∧ _›)).mono ?_; rintro e w5 ⟨rfl, h5⟩)
                      | (go_at_call 133; with_reducible refine (inverseOf_spec _ _ _).mono ?_; rintro e w6 ⟨rfl, rfl⟩))
                    have hE5 := And.left ‹Ext w4 w5 ∧ _›
                    have L6 : Hid (Loc w w5 B b [.int .i64 P, .int .i64 R, .int .i64 C, .slice (some ⟨b, 0, none⟩) n c'] (scTo P (inv x P) (t * C) m1 0)) := L5.out.step hE5
                    have G6 := Lib.hid (G5.out.step hE5)
                    clear lB p0 p1 p2 p3
                    clear L5 G5 HAt5 h5 hE5
                    rw [HI.out]
                    obtain ⟨i0', i1'⟩ := hi0
                    generalize inv x P = y at i0' i1' HPV L6 ⊢
                    clear HI x0 x1
                    obtain ⟨wo5, rfl⟩ : ∃ wo5 : World, wo5 = w5 := ⟨_, rfl⟩
                    as_aux_lemma =>
                      go_wp2_with fail
                      go_loopw [14] (fun z wr => ∃ j : Nat, j ≤ C ∧ z = .int .i64 j ∧ Hid (Loc w wr B b [.int .i64 P, .int .i64 R, .int .i64 C, .slice (some ⟨b, 0, none⟩) n c'] (scTo P y (t * C) m1 j)) ∧ Hid (Beside wr (w.heap.size + 1) (B + 1) b (.slice a2 t cap) s.pv)) (fun z _ => C - (intOf z).toNat)
                      case atStart => exact ⟨0, by omega, rfl, L6, G6⟩
                      case round =>
                        clear L6 G6
                        obtain ⟨j, hj, rfl, L, G⟩ := hrel
                        have lB := L.out.box.1
                        have p0 := L.out.box.2 0 _ rfl
                        have p1 := L.out.box.2 1 _ rfl
                        have p2 := L.out.box.2 2 _ rfl
                        have p3 := L.out.box.2 3 _ rfl
                        by_cases hj2 : j < C
                        · have x1 := L.out.has.cell (t * C + j) (by rw [scTo_length, HM1.out]; omega)
                          rw [gi_scTo_out _ _ _ C _ (by rw [HM1.out]; omega) _ _ hj (by omega)] at x1
                          have f1 := L.out.has.free (t * C + j)
                          obtain ⟨y0, y1⟩ := HX1.out (t * C + j) (by have := HM1.out; omega)
                          have m0 := Int.mul_nonneg y0 i0'
                          have m2 := mul_hi y0 y1 i0' i1' hp2
                          have nM := L.out.ne
                          have N : Hid (Loc w (wr.setCell ⟨b, t * C + j, none⟩ (.int .i64 (gi m1 (t * C + j) * y % P))) B b [.int .i64 P, .int .i64 R, .int .i64 C, .slice (some ⟨b, 0, none⟩) n c'] (scTo P y (t * C) m1 (j + 1))) := L.out.set (t * C + j) (by rw [scTo_length, HM1.out]; omega) _
                          have N2 : Hid (Beside (wr.setCell ⟨b, t * C + j, none⟩ (.int .i64 (gi m1 (t * C + j) * y % P))) (w.heap.size + 1) (B + 1) b (.slice a2 t cap) s.pv) := G.out.grown (setCell_grown _ _ _ _)
                          have g5 : (t : Int) * (C : Int) + (j : Int) < (n : Int) := by omega
                          have g7 : 0 ≤ (t : Int) * (C : Int) + (j : Int) := by omega
                          clear L G
                          as_aux_lemma =>
                            go_wp2_with fail
                            go_region
                            go_wp2
                            exact ⟨⟨j + 1, by omega, by simp, N.out.drew, N2.out.drew⟩, by simp [intOf]; omega⟩
                        · obtain rfl : C = j := by omega
                          have HM2 : Hid ((scTo P y (t * C) m1 C).length = n) := by rw [Hid, scTo_length]; exact HM1.out
                          have HX2 : Hid (Res (scTo P y (t * C) m1 C) P) := scTo_res _ _ _ _ (by omega) HX1.out _
                          generalize scTo P y (t * C) m1 C = m3 at L HM2 HX2 HPV
                          clear HM1 HX1
                          have L7 : Hid (Loc w wr B b [.int .i64 P, .int .i64 R, .int .i64 C, .slice (some ⟨b, 0, none⟩) n c'] (clTo P C t q m3 0)) := L
                          clear L
                          obtain ⟨wo6, rfl⟩ : ∃ wo6 : World, wo6 = wr := ⟨_, rfl⟩
                          as_aux_lemma =>
                            go_wp2_with fail
                            clear lB p0 p1 p2 p3
                            go_loopw [15, 16, 17] (fun z _ _ wr => ∃ i : Nat, i ≤ R ∧ z = .int .i64 i ∧ Hid (Loc w wr B b [.int .i64 P, .int .i64 R, .int .i64 C, .slice (some ⟨b, 0, none⟩) n c'] (clTo P C t q m3 i)) ∧ Hid (Beside wr (w.heap.size + 1) (B + 1) b (.slice a2 t cap) s.pv)) (fun z _ _ _ => R - (intOf z).toNat)
                            case atStart => exact ⟨0, by omega, rfl, L7, G⟩
                            case round =>
                              clear L7 G
                              obtain ⟨i, hi2, rfl, L, G⟩ := hrel
                              have lB := L.out.box.1
                              have p0 := L.out.box.2 0 _ rfl
                              have p1 := L.out.box.2 1 _ rfl
                              have p2 := L.out.box.2 2 _ rfl
                              have p3 := L.out.box.2 3 _ rfl
                              by_cases hi3 : i < R
                              · have HLm : Hid ((clTo P C t q m3 i).length = n) := by rw [Hid, clTo_length]; exact HM2.out
                                have HXm : Hid (Res (clTo P C t q m3 i) P) := clTo_res _ _ _ _ _ _ (by omega) HX2.out
                                have HS : Hid (clTo P C t q m3 (i + 1) = clOne P C t q i (clTo P C t q m3 i)) := rfl
                                generalize clTo P C t q m3 i = lm at L HLm HXm HS
                                have hri : i * C + C ≤ n := by rw [HN.out]; exact row_lt hi3
                                have hxb := HXm.out (i * C + q) (by rw [HLm.out]; omega)
                                go_wp2_with fail
                                refine (l1At_spec P R C i q _ n _ lm wr (L.out.has.reads HLm.out) (by omega) hb).mono ?_
                                rintro e w8 ⟨rfl, h8⟩
                                clear lB p0 p1 p2 p3
                                have L8 := Lib.hid (L.out.step h8)
                                have G8 := Lib.hid (G.out.step h8)
                                clear L G h8
                                obtain ⟨x0, x1⟩ := hxb
                                by_cases hskip : i = t ∨ gi lm (i * C + q) = 0
                                · have N : Hid (Loc w w8 B b [.int .i64 P, .int .i64 R, .int .i64 C, .slice (some ⟨b, 0, none⟩) n c'] (clTo P C t q m3 (i + 1))) := by rw [HS.out, clOne_skip hskip]; exact L8.out
                                  obtain ⟨bb, hbb1⟩ : ∃ bb : Bool, bb = ((i : Int) != (t : Int)) := ⟨_, rfl⟩
                                  have hq0 : ((i : Int) != (t : Int)) = false ∨ ((i : Int) != (t : Int)) = true ∧ (gi lm (i * C + q) != 0) = false := by
                                    by_cases e : i = t
                                    · left; subst e; simp
                                    · rcases hskip with h | h
                                      · exact absurd h e
                                      · right; constructor
                                        · simp; omega
                                        · simpa using h
                                  clear hskip hbb1 bb
                                  generalize gi lm (i * C + q) = f at x0 x1 hq0 ⊢
                                  as_aux_lemma =>
                                    rcases hq0 with hq1 | ⟨hq1, hq2⟩
                                    all_goals
                                      go_wp2_with fail
                                      go_loopw [17] (fun j wr => j = .int .i64 0 ∧ wr = w8) (fun _ _ => 0)
                                      case atStart => exact ⟨rfl, rfl⟩
                                      case round =>
                                        obtain ⟨rfl, rfl⟩ := hrel
                                        have lB := L8.out.box.1
                                        have p2 := L8.out.box.2 2 _ rfl
                                        have hC0 : 0 < C := by omega
                                        go_wp2
                                        exact ⟨⟨i + 1, by omega, by simp, N, G8⟩, by simp [intOf]; omega⟩
                                · have hit : i ≠ t := fun h => hskip (.inl h)
                                  have hf0' : gi lm (i * C + q) ≠ 0 := fun h => hskip (.inr h)
                                  have HS2 : Hid (clTo P C t q m3 (i + 1) = axTo P (P - gi lm (i * C + q)) lm (i * C) (t * C) lm C) := by rw [Hid, HS.out, clOne, if_neg hskip]
                                  have hq1 : ((i : Int) != (t : Int)) = true := by simp; omega
                                  have hq2 : (gi lm (i * C + q) != 0) = true := by simpa using hf0'
                                  have hap := rows_apart (C := C) hit
                                  have hsub : ∀ a b : Int, (a + (P - gi lm (i * C + q)) * b) % P = (a - gi lm (i * C + q) * b) % P := fun a b => sub_mult a _ b P
                                  have HSUB := Lib.hid hsub
                                  have e1 : (i : Int) * (C : Int) = ((i * C : Nat) : Int) := by simp
                                  have g3 : 0 ≤ (i : Int) * (C : Int) := by rw [e1]; omega
                                  have g4 : (i : Int) * (C : Int) + (C : Int) ≤ (n : Int) := by rw [e1]; omega
                                  clear hskip hf0' hit hsub e1 HS
                                  generalize gi lm (i * C + q) = f at x0 x1 hq2 HS2 HSUB ⊢
                                  have L9 : Hid (Loc w w8 B b [.int .i64 P, .int .i64 R, .int .i64 C, .slice (some ⟨b, 0, none⟩) n c'] (axTo P (P - f) lm (i * C) (t * C) lm 0)) := L8
                                  clear L8
                                  obtain ⟨wo8, rfl⟩ : ∃ wo8 : World, wo8 = w8 := ⟨_, rfl⟩
                                  go_wp2_with fail
                                  go_loopw [17] (fun z wr => ∃ j : Nat, j ≤ C ∧ z = .int .i64 j ∧ Hid (Loc w wr B b [.int .i64 P, .int .i64 R, .int .i64 C, .slice (some ⟨b, 0, none⟩) n c'] (axTo P (P - f) lm (i * C) (t * C) lm j)) ∧ Hid (Beside wr (w.heap.size + 1) (B + 1) b (.slice a2 t cap) s.pv)) (fun z _ => C - (intOf z).toNat)
                                  case atStart => exact ⟨0, by omega, rfl, L9, G8⟩
                                  case round =>
                                    clear L9 G8
                                    obtain ⟨j, hj, rfl, L, G⟩ := hrel
                                    have lB := L.out.box.1
                                    have p0 := L.out.box.2 0 _ rfl
                                    have p1 := L.out.box.2 1 _ rfl
                                    have p2 := L.out.box.2 2 _ rfl
                                    have p3 := L.out.box.2 3 _ rfl
                                    by_cases hj2 : j < C
                                    · have y1 := L.out.has.cell (i * C + j) (by rw [axTo_length, HLm.out]; omega)
                                      have y2 := L.out.has.cell (t * C + j) (by rw [axTo_length, HLm.out]; omega)
                                      rw [gi_axTo_ge _ _ _ _ _ C _ (by rw [HLm.out]; omega) _ _ (Nat.le_refl _) hj] at y1
                                      rw [gi_axTo_out _ _ _ _ _ C _ (by rw [HLm.out]; omega) _ (by rcases hap with h | h <;> omega) _ hj] at y2
                                      have f1 := L.out.has.free (i * C + j)
                                      obtain ⟨a0, a1⟩ := HXm.out (i * C + j) (by have := HLm.out; omega)
                                      obtain ⟨b0, b1⟩ := HXm.out (t * C + j) (by have := HLm.out; omega)
                                      have m0 := Int.mul_nonneg x0 b0
                                      have m2 := mul_hi x0 x1 b0 b1 hp2
                                      have nM := L.out.ne
                                      have N : Hid (Loc w ((wr.setCell ⟨b, i * C + j, none⟩ (.int .i64 ((gi lm (i * C + j) - f * gi lm (t * C + j)) % P))).drew) B b [.int .i64 P, .int .i64 R, .int .i64 C, .slice (some ⟨b, 0, none⟩) n c'] (axTo P (P - f) lm (i * C) (t * C) lm (j + 1))) := by
                                        have := (L.out.set (i * C + j) (by rw [axTo_length, HLm.out]; omega) ((gi lm (i * C + j) - f * gi lm (t * C + j)) % P)).drew
                                        rw [← HSUB.out] at this
                                        rw [← HSUB.out]
                                        exact this
                                      have N2 : Hid (Beside ((wr.setCell ⟨b, i * C + j, none⟩ (.int .i64 ((gi lm (i * C + j) - f * gi lm (t * C + j)) % P))).drew) (w.heap.size + 1) (B + 1) b (.slice a2 t cap) s.pv) := (G.out.grown (setCell_grown _ _ _ _)).drew
                                      have g5 : (i : Int) * (C : Int) + (j : Int) < (n : Int) := by omega
                                      have g6 : (t : Int) * (C : Int) + (j : Int) < (n : Int) := by omega
                                      have g7 : 0 ≤ (i : Int) * (C : Int) + (j : Int) := by omega
                                      have g8 : 0 ≤ (t : Int) * (C : Int) + (j : Int) := by omega
                                      clear L G hap
                                      as_aux_lemma =>
                                        go_wp2_with fail
                                        have v1 : IntKind.i64.wrap ((i : Int) * (C : Int)) = (i : Int) * (C : Int) := IntWalk.i64_in _ ⟨by omega, by omega⟩
                                        have v2 : IntKind.i64.wrap ((i : Int) * (C : Int) + (j : Int)) = (i : Int) * (C : Int) + (j : Int) := IntWalk.i64_in _ ⟨by omega, by omega⟩
                                        have v3 : ((i : Int) * (C : Int) + (j : Int)).toNat = i * C + j := by rw [← Int.natCast_mul, ← Int.natCast_add, Int.toNat_natCast]
                                        have u1 : IntKind.i64.wrap ((t : Int) * (C : Int)) = (t : Int) * (C : Int) := IntWalk.i64_in _ ⟨by omega, by omega⟩
                                        have u2 : IntKind.i64.wrap ((t : Int) * (C : Int) + (j : Int)) = (t : Int) * (C : Int) + (j : Int) := IntWalk.i64_in _ ⟨by omega, by omega⟩
                                        have u3 : ((t : Int) * (C : Int) + (j : Int)).toNat = t * C + j := by rw [← Int.natCast_mul, ← Int.natCast_add, Int.toNat_natCast]
                                        have v4 : IntKind.i64.wrap (f * gi lm (t * C + j)) = f * gi lm (t * C + j) := IntWalk.i64_in _ ⟨by omega, by omega⟩
                                        have v5 : IntKind.i64.wrap (gi lm (i * C + j) - f * gi lm (t * C + j)) = gi lm (i * C + j) - f * gi lm (t * C + j) := IntWalk.i64_in _ ⟨by omega, by omega⟩
                                        refine wp_region_still_tail 35 (by kernel_rfl) (by kernel_rfl) ?_
                                        simp only [List.take_succ_cons, List.take_zero, List.drop_succ_cons, List.drop_zero]
                                        repeat still_step
                                        (refine wpStill_step (fun K hK => ?_); go_simp; refine ⟨_, (l1Mod_spec _ _ _ hp hp2).mono (fun e w' h => ⟨h.1, h.2.symm⟩), hK _ ?_⟩; clear hK K)
                                        repeat still_step
                                        refine wpStill_nil ?_
                                        clear v1 v2 v3 u1 u2 u3 v4 v5
                                        go_wp2
                                        exact ⟨⟨j + 1, by omega, by simp, N, N2⟩, by simp [intOf]; omega⟩
                                    · obtain rfl : C = j := by omega
                                      have N : Hid (Loc w wr B b [.int .i64 P, .int .i64 R, .int .i64 C, .slice (some ⟨b, 0, none⟩) n c'] (clTo P C t q m3 (i + 1))) := by rw [HS2.out]; exact L
                                      clear L
                                      go_wp2
                                      exact ⟨⟨i + 1, by omega, by simp, N, G⟩, by simp [intOf]; omega⟩
                              · obtain rfl : R = i := by omega
                                have HLB : Hid (B + 1 ≤ wr.heap.size) := L.out.box.1
                                as_aux_lemma =>
                                  go_wp2_with (at_builtin; refine wpList_append_own _ rfl _ _ 22 rfl (B + 1) 3 i0 (.int .i64 0) 1 8 Try.underlying22 hi hz0 hz1 hz2 rfl (by decide) _ _ _ rfl (((HGT.out ▸ G.out.pvs : Grows wr (B + 1) (.slice a2 t cap) t (pvI s.pv))).alloc _) ⟨wr.heap.size, 0, none⟩ 1 1 [.int .i64 q] rfl rfl ?c1 ?c2 ?c3 ?c4 ?c5 ?_)
                                  case c1 =>
                                    intro j u hu
                                    obtain rfl : j = 0 := by have := (List.getElem?_eq_some_iff.1 hu).1; simp at this; omega
                                    simp at hu
                                    subst hu
                                    rw [show (⟨wr.heap.size, 0, none⟩ : Addr).add 0 = ⟨wr.heap.size, 0, none⟩ from rfl, World.cell?_alloc_at _ _ _ _ rfl]
                                    rfl
                                  case c2 => intro u hu; simp at hu; subst hu; rfl
                                  case c3 => unfold maxLen; omega
                                  case c4 => omega
                                  case c5 => have := HLB.out; simp; omega
                                  intro v' w4 ho hg hnil
                                  have hg' : wr.grownBy w4 (Value.slice a2 t cap).ownBlock := ⟨hg.os, hg.tape, hg.output, Nat.le_trans (by simp) hg.size, fun k hk hne => (hg.block k (by simp; omega) hne).trans (((Ext.refl wr).alloc _).block k hk)⟩
                                  have hfar : ∀ k, (Value.slice a2 t cap).ownBlock = some k → B + 1 ≤ k := fun k hk => (G.out.pvs.blk k hk).1
                                  have L4 : Hid (Loc w w4 B b [.int .i64 P, .int .i64 R, .int .i64 C, .slice (some ⟨b, 0, none⟩) n c'] (redTo P R C xs (q + 1)).m) := by
                                    rw [HPV.out]
                                    exact L.out.other hg' (fun k hk => by have := hfar k hk; have := hbb.out; have := hZb.out; omega)
                                  have G4 : Hid (Beside w4 (w.heap.size + 1) (B + 1) b v' (redTo P R C xs (q + 1)).pv) := by
                                    rw [HPV.out]
                                    refine ⟨G.out.res.grown hg' (fun k hk => by have := hfar k hk; have := hbb.out; have := hZb.out; omega), ?_, G.out.far, G.out.ne⟩
                                    simp only [Grows, pvI_snoc, List.map_append, List.length_append, List.length_singleton, List.map_cons, List.map_nil, HGT.out]
                                    exact ho
                                  have hd : Hid ((redTo P R C xs (q + 1)).d = F * x % P) := by rw [Hid, HPV.out]
                                  clear lB p0 p1 p2 p3
                                  clear ho hg hg' hnil L G hfar
                                  go_wp2
                                  exact ⟨⟨q + 1, by omega, by simp, by rw [hd.out], L4, G4⟩, by simp [intOf]; omega⟩
          · obtain rfl : R = k := by omega
            have HF2 : Hid (redTo P R C xs (q + 1) = s) := by rw [Hid, HS.out, colS, hf.out, fnz_end (Nat.le_refl _), if_pos rfl]
            go_wp2
            exact ⟨⟨q + 1, by omega, by simp, by rw [HF2.out], by rw [HF2.out]; exact L, by rw [HF2.out]; exact G⟩, by simp [intOf]; omega⟩
      · have HE : Hid (redM P R C xs = s) := HQ.out (C - q) (by omega) (.inl (by omega))
        clear HQ HS
        as_aux_lemma =>
          have z0 := G.out.res.2 0 _ rfl
          have z1 := G.out.res.2 1 _ rfl
          have z2 := G.out.res.2 2 _ rfl
          have z3 := G.out.res.2 3 _ rfl
          have lZ := G.out.res.1
          have tZ := G.out.res.3
          have lB := L.out.box.1
          have p0 := L.out.box.2 0 _ rfl
          have p1 := L.out.box.2 1 _ rfl
          have p2 := L.out.box.2 2 _ rfl
          have p3 := L.out.box.2 3 _ rfl
          go_wp2
          refine bodyPost_ret (v := .tuple #[.agg #[.int .i64 P, .int .i64 R, .int .i64 C, .slice (some ⟨b, 0, none⟩) n c'], .slice a2 s.pv.length cap, .int .i64 s.d]) (by simp [results, Try.results114, go_sem, z0, z1, z2, z3]) rfl ⟨b, c', a2, cap, B + 1, by rw [HE.out], L.out.lo, by have := hbb.out; omega, ?_, ?_, ?_, ?_, HCC.out⟩
          · have := L.out.box.1; simp; omega
          · rw [HE.out]
            have := G.out.ne
            repeat with_reducible (first | exact L.out.has | refine Has.setOther ?_ (by simp <;> omega) _)
          · rw [HE.out]
            have := HO.out
            have h4 := own4 this (show w.heap.size + 1 < B + 1 by have := hbb.out; have := hZb.out; omega) (.int .i64 P) (.int .i64 R) (.int .i64 C) (.slice (some ⟨b, 0, none⟩) n c')
            simpa using h4
          · exact ext4 L.out.ext (by omega) _ _ _ _
    · obtain rfl : C = q := by omega
      have HE : Hid (redM P R C xs = s) := HQ.out 0 rfl (.inr rfl)
      clear HQ HS
      as_aux_lemma =>
        have z0 := G.out.res.2 0 _ rfl
        have z1 := G.out.res.2 1 _ rfl
        have z2 := G.out.res.2 2 _ rfl
        have z3 := G.out.res.2 3 _ rfl
        have lZ := G.out.res.1
        have tZ := G.out.res.3
        have lB := L.out.box.1
        have p0 := L.out.box.2 0 _ rfl
        have p1 := L.out.box.2 1 _ rfl
        have p2 := L.out.box.2 2 _ rfl
        have p3 := L.out.box.2 3 _ rfl
        go_wp2
        refine bodyPost_ret (v := .tuple #[.agg #[.int .i64 P, .int .i64 R, .int .i64 C, .slice (some ⟨b, 0, none⟩) n c'], .slice a2 s.pv.length cap, .int .i64 s.d]) (by simp [results, Try.results114, go_sem, z0, z1, z2, z3]) rfl ⟨b, c', a2, cap, B + 1, by rw [HE.out], L.out.lo, by have := hbb.out; omega, ?_, ?_, ?_, ?_, HCC.out⟩
        · have := L.out.box.1; simp; omega
        · rw [HE.out]
          have := G.out.ne
          repeat with_reducible (first | exact L.out.has | refine Has.setOther ?_ (by simp <;> omega) _)
        · rw [HE.out]
          have := HO.out
          have h4 := own4 this (show w.heap.size + 1 < B + 1 by have := hbb.out; have := hZb.out; omega) (.int .i64 P) (.int .i64 R) (.int .i64 C) (.slice (some ⟨b, 0, none⟩) n c')
          simpa using h4
        · exact ext4 L.out.ext (by omega) _ _ _ _
end Go.Proofs.Ytnikfalpjieibaa
