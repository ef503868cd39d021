/-
  What is taken into a space, in the specification.
-/
import Derived.Test.YtapaopapgnfdkaaInS
import Derived.Test.YtapaopapgnfdkaaBr
import Derived.Maps.AppendAt
namespace Go.Proofs.Ytapaopapgnfdkaa
open Go.ChangeShapes Go.WideShapes Go.ChangeAt Go.RowKit
set_option linter.unusedVariables false
set_option linter.unusedSimpArgs false

/-- append of one row. -/
theorem wpList_appendRow_at {w : World} {ops : Array Oper} {rest : List Oper} {o : Oper} {a : Act} {Q : Exit → Act → World → Prop} (hgd : o.guard = none) (s x : Operand)
    (ho : o.op = .call { callee := .builtin .append, args := #[s, x], argTypes := #[47, 47] })
    (base : Nat) (v : Value) (rs : List (List Int)) (b0 m c0 : Nat) (ys : List Int) (c : Nat) (hs : a.eval s = v) (hx : a.eval x = .slice (some ⟨w.heap.size, 0, none⟩) 1 c) (hown : RowsG w base v rs) (hrow : Own w base w.heap.size (some ⟨b0, 0, none⟩) m ys) (hb : rs.length + 1 ≤ 1048577) (hbase : base ≤ w.heap.size)
    (h : ∀ v' w', RowsG w' base v' (rs ++ [ys]) → w.grownBy w' v.ownBlock → (v'.ownBlock = v.ownBlock ∨ v'.ownBlock = some (w.heap.size + 1)) → wpList Try.prog ops Q rest (a.put o.dst v') w') : wpList Try.prog ops Q (o :: rest) a (w.alloc (.cells #[.slice (some ⟨b0, 0, none⟩) m c0] 22)) := by
  obtain ⟨i0, hi, hz0, hz1, hz2⟩ := info_parts Try.infoInts
  obtain ⟨vs, h1, h2, h3⟩ := RowsG.ext hown ((Ext.refl w).alloc (.cells #[.slice (some ⟨b0, 0, none⟩) m c0] 22))
  have hrow2 := (hrow.ext ((Ext.refl w).alloc (.cells #[.slice (some ⟨b0, 0, none⟩) m c0] 22))).mono (Nat.le_refl _) (show w.heap.size ≤ (w.alloc (.cells #[.slice (some ⟨b0, 0, none⟩) m c0] 22)).heap.size by simp)
  refine Go.wpList_append_own_at _ hgd s x 47 ho base 22 i0 (.slice none 0 0) 1 24 Try.underlying47 hi hz0 hz1 hz2 rfl (by decide) v rs.length vs hs h1 ⟨w.heap.size, 0, none⟩ 1 c [.slice (some ⟨b0, 0, none⟩) m c0] hx rfl (fun j u hu => ?_) (fun u hu => by simp at hu; subst hu; rfl) (by unfold maxLen; omega) (by omega) (by simp; omega) (fun v' w' g1 g2 _ g3 => h v' w' ?_ (grownBy_alloc g2) (by simpa using g3))
  · obtain rfl : j = 0 := by have := (List.getElem?_eq_some_iff.1 hu).1; simp at this; omega
    simp at hu
    subst hu
    rw [show (⟨w.heap.size, 0, none⟩ : Addr).add 0 = ⟨w.heap.size, 0, none⟩ from rfl, World.cell?_alloc_at _ _ _ _ rfl]
    rfl
  · have hty : ∀ k, v.ownBlock = some k → ∃ cur z, (w.alloc (.cells #[.slice (some ⟨b0, 0, none⟩) m c0] 22)).heap[k]? = some (.cells cur 22 z) := by
      intro k hk
      rcases h1.2 with ⟨e1, _⟩ | ⟨g, cap, cur, e1, _, hg, _⟩
      · subst e1; simp [Value.ownBlock] at hk
      · subst e1
        simp [Value.ownBlock] at hk
        subst hk
        exact ⟨cur, _, hg⟩
    refine ⟨vs ++ [.slice (some ⟨b0, 0, none⟩) m c0], by simpa using g1, by simp [h2], fun i hi => ?_⟩
    rw [row_snoc]
    by_cases e : i < rs.length
    · obtain ⟨b', n', c', h4, h6⟩ := h3 i e
      refine ⟨b', n', c', by rw [List.getElem?_append_left (by omega)]; exact h4, ?_⟩
      rw [if_pos e]
      exact (own_other h6 g2 hty).mono (Nat.le_refl _) g2.size
    · have e2 : i = rs.length := by simp at hi; omega
      subst e2
      refine ⟨b0, m, c0, by rw [List.getElem?_append_right (by omega)]; simp [h2], ?_⟩
      rw [if_neg e, if_pos rfl]
      exact (own_other hrow2 g2 hty).mono (Nat.le_refl _) g2.size
/-- Finished rows that are only read: the row k reads cs k, in blocks from lo to hi. -/
def ColR (w : World) (ac : Option Addr) (lo hi D m : Nat) (cs : Nat → List Int) : Prop := ∀ k, k < D → ∃ kc b' c', ac = some ⟨kc, 0, none⟩ ∧ lo ≤ kc ∧ kc < hi ∧ w.cell? ⟨kc, k, none⟩ = some (.slice (some ⟨b', 0, none⟩) m c') ∧ lo ≤ b' ∧ b' < hi ∧ Has w b' (cs k)
theorem ColR.ext {w w' : World} {ac : Option Addr} {lo hi D m : Nat} {cs : Nat → List Int} (h : ColR w ac lo hi D m cs) (hE : Ext w w') (hh : hi ≤ w.heap.size) : ColR w' ac lo hi D m cs := fun k hk => by
  obtain ⟨kc, b', c', e, h1, h2, h3, h4, h5, h6⟩ := h k hk
  exact ⟨kc, b', c', e, h1, h2, (hE.cells kc k (by omega)).trans h3, h4, h5, h6.ext hE⟩
theorem ColR.grown {w w' : World} {ac : Option Addr} {lo hi D m : Nat} {cs : Nat → List Int} {row : Option Nat} (h : ColR w ac lo hi D m cs) (hg : w.grownBy w' row) (hh : hi ≤ w.heap.size) (hr : ∀ k, row = some k → k < lo ∨ hi ≤ k) : ColR w' ac lo hi D m cs := fun k hk => by
  obtain ⟨kc, b', c', e, h1, h2, h3, h4, h5, h6⟩ := h k hk
  refine ⟨kc, b', c', e, h1, h2, ?_, h4, h5, h6.grownOther hg (fun z hz e => by have := hr z hz; omega)⟩
  rw [World.cell?_of_block (a := ⟨kc, k, none⟩) (hg.block kc (by omega) (fun e => by have := hr kc e.symm; omega))]
  exact h3
theorem RowsG.colR {w : World} {lo k m : Nat} {ac : Option Addr} {cap : Nat} {rs : List (List Int)} (h : RowsG w lo (.slice ac k cap) rs) (hm : ∀ i, i < k → (row rs i).length = m) : ColR w ac lo w.heap.size k m (row rs) := fun i hi => by
  obtain ⟨e, h1⟩ := h.get
  obtain ⟨g, hg, hgs, b', n', c', hc, ho⟩ := h1 i hi
  have hn : n' = m := by rw [← ho.len]; exact hm i hi
  subst hn
  have hb := h.blk g (by rw [hg]; rfl)
  have hb' := ho.blk b' rfl
  refine ⟨g, b', c', hg, hb.1, hgs, hc, hb'.1, hb'.2, ?_⟩
  rcases ho.2 with h9 | ⟨b9, h9, _, _, h8⟩
  · exact absurd h9.1 (by simp)
  · simp only [Option.some.injEq, Addr.mk.injEq, and_true] at h9
    subst h9
    exact h8
/-- The rows of the equations, row by row. -/
def eqW (P : Int) (D : Nat) (l ss us : List Int) (pv : List Nat) (i f : Nat) : List (List Int) := (List.range f).map (eqR P D l ss us pv i)
def eqX (P : Int) (D : Nat) (l ss us : List Int) (pv : List Nat) : Nat → List (List Int)
  | 0 => []
  | i + 1 => eqX P D l ss us pv i ++ eqW P D l ss us pv i (freeTo pv D).length
section
variable {P : Int} {D : Nat} {l ss us : List Int} {pv : List Nat}
theorem eqW_length (i f : Nat) : (eqW P D l ss us pv i f).length = f := by simp [eqW]
theorem eqW_succ (i f : Nat) : eqW P D l ss us pv i (f + 1) = eqW P D l ss us pv i f ++ [eqR P D l ss us pv i f] := by simp [eqW, List.range_succ]
theorem eqX_length (i : Nat) : (eqX P D l ss us pv i).length = i * (freeTo pv D).length := by
  induction i with
  | zero => simp [eqX]
  | succ i ih => rw [eqX, List.length_append, ih, eqW_length, Nat.add_mul, Nat.one_mul]
theorem eqX_flat (i : Nat) : (eqX P D l ss us pv i).flatten = eqS P D l ss us pv i := by
  induction i with
  | zero => simp [eqX, eqS, bk]
  | succ i ih => rw [eqX, List.flatten_append, ih, eqS, eqS, bk_succ]; rfl
/-- The remainders of the brackets, as they are laid. -/
def eqC (P : Int) (D : Nat) (l ss us : List Int) (pv : List Nat) (i k : Nat) : List (List Int) := (List.range k).map (eqV P D l ss us pv i)
theorem eqC_length (i k : Nat) : (eqC P D l ss us pv i k).length = k := by simp [eqC]
theorem eqC_succ (i k : Nat) : eqC P D l ss us pv i (k + 1) = eqC P D l ss us pv i k ++ [eqV P D l ss us pv i k] := by simp [eqC, List.range_succ]
theorem row_eqC {i k q : Nat} (h : q < k) : row (eqC P D l ss us pv i k) q = eqV P D l ss us pv i q := by simp [row, eqC, List.getD_eq_getElem?_getD, h]
theorem eqV_length (i k : Nat) : (eqV P D l ss us pv i k).length = D := mdL_length _
theorem eqV_res (hP : 0 < P) (i k : Nat) : Res (eqV P D l ss us pv i k) P := mdL_res hP _
theorem eqR_take {i f k : Nat} (hk : k < D) : (eqR P D l ss us pv i f).take (k + 1) = (eqR P D l ss us pv i f).take k ++ [gi (eqV P D l ss us pv i k) ((freeTo pv D).getD f 0)] := by
  rw [List.take_succ_eq_append_getElem (by rw [eqR_length]; exact hk)]
  simp [eqR]
end

set_option maxRecDepth 100000 in
set_option maxHeartbeats 12800000 in
theorem l2Into_spec (P : Int) (D R k a0 oa n d s0 so n1 d1 u0 uo n3 d3 : Nat) (l ss us : List Int) (w : World) (hT : Reads w (some ⟨a0, oa, none⟩) n l) (hSr : Reads w (some ⟨s0, so, none⟩) n1 ss) (hU : Reads w (some ⟨u0, uo, none⟩) n3 us) (hD : D ≤ 28) (hR : R ≤ 28) (hn : n = D * D * D) (hn1 : n1 = R * D) (hd1 : n1 ≤ d1) (hsp : spaceM P k D us = true) (hl : Res l P) (hs : Res ss P) (halt : AltP P D l) :
    Calls Try.prog 139 #[.agg #[.int .i64 P, .int .i64 D, .slice (some ⟨a0, oa, none⟩) n d], .agg #[.int .i64 P, .int .i64 R, .int .i64 D, .slice (some ⟨s0, so, none⟩) n1 d1], .agg #[.int .i64 P, .int .i64 k, .int .i64 D, .slice (some ⟨u0, uo, none⟩) n3 d3]] w fun e w' => ∃ b c', e = .returned (.agg #[.int .i64 P, .int .i64 (kerN P (R * D) D (eqI P D l ss us (redM P k D us).pv R) : Nat), .int .i64 D, .slice (some ⟨b, 0, none⟩) (kerN P (R * D) D (eqI P D l ss us (redM P k D us).pv R) * D) c']) ∧ w.heap.size ≤ b ∧ b < w'.heap.size ∧ Has w' b (kerS P (R * D) D (eqI P D l ss us (redM P k D us).pv R)) ∧ Ext w w' := by
  obtain ⟨hpr, hss, hxs, hls, hk, hC⟩ := spaceM_parts hsp
  have hip := isP_iff.1 hpr
  have hp := isP_lo hpr
  have hp2 := isP_hi hpr
  have hrr := hss.rref hip hls hxs
  have hn3 : n3 = k * D := by rw [← hU.1]; exact hls
  have hL1 : ss.length = R * D := by rw [hSr.1, hn1]
  have hPL : (redM P k D us).pv.length = k := hss.1
  have hke := ker_same (R := R * D) (R' := R * (freeTo (redM P k D us).pv D).length) hip (eqI_length (P := P) (D := D) (l := l) (ss := ss) (ts := us) (pv := (redM P k D us).pv) (R := R)) (eqI_res hp) (eqS_length (P := P) (D := D) (l := l) (ss := ss) (ts := us) (pv := (redM P k D us).pv) (R := R)) (eqS_res (by omega)) (eq_same halt hrr)
  have hFD := freeTo_le (redM P k D us).pv D
  have HUL : Hid (us.length = k * D) := hls
  have HFR : Hid (∀ w1, Ext w w1 → Calls Try.prog 106 #[.agg #[.int .i64 P, .int .i64 k, .int .i64 D, .slice (some ⟨u0, uo, none⟩) n3 d3]] w1 (FreePost w1 (redM P k D us).pv D)) := fun w1 h => l2Free_spec P k D n3 d3 (some ⟨u0, uo, none⟩) us w1 hpr (hU.ext h) hn3 hk hC hxs (fun h => by cases h)
  have HMD : Hid (∀ w1 b cb (v : List Int), Ext w w1 → Has w1 b v → v.length = D → Res v P → Calls Try.prog 107 #[.agg #[.int .i64 P, .int .i64 k, .int .i64 D, .slice (some ⟨u0, uo, none⟩) n3 d3], .slice (some ⟨b, 0, none⟩) D cb] w1 fun e w' => ∃ b' c', e = .returned (.slice (some ⟨b', 0, none⟩) D c') ∧ w1.heap.size ≤ b' ∧ b' < w'.heap.size ∧ Has w' b' (mdL P D us (redM P k D us).pv v) ∧ Ext w1 w') := fun w1 b cb v h hv hvl hvx => l2Modulo_spec P k D n3 d3 cb (some ⟨u0, uo, none⟩) (some ⟨b, 0, none⟩) us v w1 hpr (hU.ext h) hn3 hk hC hxs (fun h => by cases h) hss (hv.reads hvl) hvx (fun h => by cases h)
  have HBR : Hid (∀ i q, i < R → q < D → ∀ w1 bb cc, Ext w w1 → Has w1 bb (basL D q) → Calls Try.prog 181 #[.agg #[.int .i64 P, .int .i64 D, .slice (some ⟨a0, oa, none⟩) n d], .slice (some ⟨bb, 0, none⟩) D D, .slice (some ⟨s0, so + i * D, none⟩) D cc] w1 (BrPost w1 P D l (basL D q) (rowL D ss i))) := fun i q hi hq w1 bb cc h hb => by
    have hbl : (basL D q).length = D := by simp [basL]
    have hbx : Res (basL D q) P := fun j hj => by
      rw [gi_basL hq]; split <;> omega
    have hrx : Res (rowL D ss i) P := fun j hj => by
      rw [rowL_length hL1 hi] at hj
      rw [gi_rowL2 _ _ hj]
      exact hs _ (by rw [hL1]; exact place_lt hi hj)
    exact l2Bracket_spec P D a0 oa n d D cc (some ⟨bb, 0, none⟩) (some ⟨s0, so + i * D, none⟩) l (basL D q) (rowL D ss i) w1 (hT.ext h) (hb.reads hbl) (reads_row (hSr.ext h) hn1 hi) hD hn hp hp2 hl hbx hrx
  have HKE : Hid (∀ w1 a c', Reads w1 a (R * (freeTo (redM P k D us).pv D).length * D) (eqS P D l ss us (redM P k D us).pv R) → (a = none → R * (freeTo (redM P k D us).pv D).length * D = 0 ∧ c' = 0) → Calls Try.prog 91 #[.agg #[.int .i64 P, .int .i64 ((R * (freeTo (redM P k D us).pv D).length : Nat) : Int), .int .i64 D, .slice a (R * (freeTo (redM P k D us).pv D).length * D) c']] w1 fun e w' => ∃ b c, e = .returned (.agg #[.int .i64 P, .int .i64 (kerN P (R * D) D (eqI P D l ss us (redM P k D us).pv R) : Nat), .int .i64 D, .slice (some ⟨b, 0, none⟩) (kerN P (R * D) D (eqI P D l ss us (redM P k D us).pv R) * D) c]) ∧ w1.heap.size ≤ b ∧ b < w'.heap.size ∧ Has w' b (kerS P (R * D) D (eqI P D l ss us (redM P k D us).pv R)) ∧ Ext w1 w') := fun w1 a c' h ha => by
    rw [hke.1, hke.2]
    have h1 : R * (freeTo (redM P k D us).pv D).length ≤ 784 := Nat.mul_le_mul hR (show _ ≤ 28 by omega)
    have h2 : R * (freeTo (redM P k D us).pv D).length * D ≤ 21952 := Nat.mul_le_mul h1 hD
    refine (l1Kernel_spec P (R * (freeTo (redM P k D us).pv D).length) D _ c' a _ w1 hpr h rfl (by omega) (by omega) (by omega) (eqS_res (by omega)) ha).mono ?_
    rintro e w' ⟨b, c', rfl, g1, g2, g3, g4, _⟩
    exact ⟨b, c', rfl, g1, g2, g3, g4⟩
  have HN1 := Lib.hid hn1
  have HD1 := Lib.hid hd1
  have hk1 : n1 ≤ 784 := by rw [hn1]; exact Nat.mul_le_mul hR hD
  generalize kerN P (R * D) D (eqI P D l ss us (redM P k D us).pv R) = KN at *
  generalize kerS P (R * D) D (eqI P D l ss us (redM P k D us).pv R) = KS at *
  have hfat : ∀ f, f < (freeTo (redM P k D us).pv D).length → (freeTo (redM P k D us).pv D).getD f 0 < D := fun f h => (free_at h).1
  have HFAT := Lib.hid hfat
  generalize (redM P k D us).pv = pv at *
  have A0 := Lib.hid ((((cells_new' w #[.int .i64 P, .int .i64 D, .slice (some ⟨a0, oa, none⟩) n d] 28 w.heap.size rfl).ext ((Ext.refl _).alloc (.cells #[.int .i64 P, .int .i64 R, .int .i64 D, .slice (some ⟨s0, so, none⟩) n1 d1] 40))).ext ((Ext.refl _).alloc (.cells #[.int .i64 P, .int .i64 k, .int .i64 D, .slice (some ⟨u0, uo, none⟩) n3 d3] 40))).ext ((Ext.refl _).alloc (.cells #[.int .i64 0, .int .i64 0, .int .i64 0, .slice none 0 0] 40)))
  have S0 := Lib.hid (((cells_new' (w.alloc (.cells #[.int .i64 P, .int .i64 D, .slice (some ⟨a0, oa, none⟩) n d] 28)) #[.int .i64 P, .int .i64 R, .int .i64 D, .slice (some ⟨s0, so, none⟩) n1 d1] 40 (w.heap.size + 1) (by simp)).ext ((Ext.refl _).alloc (.cells #[.int .i64 P, .int .i64 k, .int .i64 D, .slice (some ⟨u0, uo, none⟩) n3 d3] 40))).ext ((Ext.refl _).alloc (.cells #[.int .i64 0, .int .i64 0, .int .i64 0, .slice none 0 0] 40)))
  have T0 := Lib.hid ((cells_new' ((w.alloc (.cells #[.int .i64 P, .int .i64 D, .slice (some ⟨a0, oa, none⟩) n d] 28)).alloc (.cells #[.int .i64 P, .int .i64 R, .int .i64 D, .slice (some ⟨s0, so, none⟩) n1 d1] 40)) #[.int .i64 P, .int .i64 k, .int .i64 D, .slice (some ⟨u0, uo, none⟩) n3 d3] 40 (w.heap.size + 1 + 1) (by simp)).ext ((Ext.refl _).alloc (.cells #[.int .i64 0, .int .i64 0, .int .i64 0, .slice none 0 0] 40)))
  have R0 := Lib.hid (cells_new' (((w.alloc (.cells #[.int .i64 P, .int .i64 D, .slice (some ⟨a0, oa, none⟩) n d] 28)).alloc (.cells #[.int .i64 P, .int .i64 R, .int .i64 D, .slice (some ⟨s0, so, none⟩) n1 d1] 40)).alloc (.cells #[.int .i64 P, .int .i64 k, .int .i64 D, .slice (some ⟨u0, uo, none⟩) n3 d3] 40)) #[.int .i64 0, .int .i64 0, .int .i64 0, .slice none 0 0] 40 (w.heap.size + 1 + 1 + 1) (by simp))
  have E0 := Lib.hid (((((Ext.refl w).alloc (.cells #[.int .i64 P, .int .i64 D, .slice (some ⟨a0, oa, none⟩) n d] 28)).alloc (.cells #[.int .i64 P, .int .i64 R, .int .i64 D, .slice (some ⟨s0, so, none⟩) n1 d1] 40)).alloc (.cells #[.int .i64 P, .int .i64 k, .int .i64 D, .slice (some ⟨u0, uo, none⟩) n3 d3] 40)).alloc (.cells #[.int .i64 0, .int .i64 0, .int .i64 0, .slice none 0 0] 40))
  clear hT hSr hU hn hn1 hd1 hsp hss hxs hls hl hs halt hrr hn3 hL1 hPL hke hfat hpr hip hk hC HUL
  go_enter Try.func139, Try.ntmps139
  have tA := T0.out.1
  have t0 := T0.out.2 0 _ rfl
  have t1 := T0.out.2 1 _ rfl
  have t2 := T0.out.2 2 _ rfl
  have t3 := T0.out.2 3 _ rfl
  try simp only [World.size_alloc] at tA
  go_wp2_with fail
  refine (HFR.out _ E0.out).mono ?_
  rintro e wF ⟨fa, fcap, rfl, hfo, hF⟩
  have hsz0 : w.heap.size + 1 + 1 + 1 + 1 ≤ wF.heap.size := by have := hF.le; simpa using this
  have A1 := Lib.hid (A0.out.ext hF)
  have S1 := Lib.hid (S0.out.ext hF)
  have T1 := Lib.hid (T0.out.ext hF)
  have R1 := Lib.hid (R0.out.ext hF)
  have E1 := Lib.hid (E0.out.trans hF)
  have O1 := Lib.hid hfo.reads
  clear A0 S0 T0 R0 E0 HFR hfo hF tA t0 t1 t2 t3
  have G0 := Lib.hid (rows_lit wF wF.heap.size (Nat.le_refl _))
  have EF := Lib.hid ((Ext.refl wF).alloc (.cells #[] 22))
  go_wp2_with fail
  go_loopw [8, 9, 10, 11, 12, 13, 14] (fun v z _ _ _ _ _ wr => ∃ i : Nat, i ≤ R ∧ z = .int .i64 i ∧ Hid (RowsG wr wF.heap.size v (eqX P D l ss us pv i)) ∧ Hid (Ext wF wr)) (fun _ z _ _ _ _ _ _ => R - (intOf z).toNat)
  case atStart => exact ⟨0, by omega, rfl, G0, EF⟩
  case round =>
    clear G0 EF
    obtain ⟨i, hi, rfl, hG, hE⟩ := hrel
    have SX := S1.out.ext hE.out
    have lS := SX.1
    have y1 := SX.2 1 _ rfl
    clear SX
    by_cases hlt : i < R
    · go_wp2_with fail
      clear lS y1
      obtain ⟨wi, hwi⟩ : ∃ wi : World, wi = wr := ⟨_, rfl⟩
      subst hwi
      have C0 := Lib.hid (rows_lit wi wi.heap.size (Nat.le_refl _))
      have EI := Lib.hid ((Ext.refl wi).alloc (.cells #[] 22))
      obtain ⟨va, vc, rfl, _⟩ := hG.out.shape
      go_loopw [10, 11] (fun v z wr => ∃ q : Nat, q ≤ D ∧ z = .int .i64 q ∧ Hid (RowsG wr wi.heap.size v (eqC P D l ss us pv i q)) ∧ Hid (Ext wi wr)) (fun _ z _ => D - (intOf z).toNat)
      case atStart => exact ⟨0, by omega, rfl, C0, EI⟩
      case round =>
        clear C0 EI
        obtain ⟨q, hq, rfl, hC, hEI⟩ := hrel
        have EX := Lib.hid (hE.out.trans hEI.out)
        have AX := A1.out.ext EX.out
        have lA := AX.1
        have x0 := AX.2 0 _ rfl
        have x1 := AX.2 1 _ rfl
        have x2 := AX.2 2 _ rfl
        by_cases hlt2 : q < D
        · have SX := S1.out.ext EX.out
          have lS := SX.1
          have y0 := SX.2 0 _ rfl
          have y1 := SX.2 1 _ rfl
          have y2 := SX.2 2 _ rfl
          have y3 := SX.2 3 _ rfl
          have TX := T1.out.ext EX.out
          have lT := TX.1
          have z0 := TX.2 0 _ rfl
          have z1 := TX.2 1 _ rfl
          have z2 := TX.2 2 _ rfl
          have z3 := TX.2 3 _ rfl
          clear AX SX TX
          obtain ⟨wa, wc', rfl, _⟩ := hC.out.shape
          have r1 : (i + 1) * D ≤ n1 := by rw [HN1.out]; exact Nat.mul_le_mul_right D hlt
          have HC1 : Hid (∀ wx, Calls Try.prog 165 #[.agg #[.int .i64 P, .int .i64 R, .int .i64 D, .slice (some ⟨s0, so, none⟩) n1 d1], .int .i64 i] wx fun e w' => e = .returned (.slice (some ⟨s0, so + i * D, none⟩) D (d1 - i * D)) ∧ Ext wx w') := fun wx => l1Row_spec P R D i s0 so n1 d1 wx r1 (by omega) (by omega) HD1.out
          have HB := Lib.hid (HBR.out i q hlt hlt2)
          have HKL : Hid ((eqC P D l ss us pv i q).length ≤ 28) := by rw [Hid, eqC_length]; omega
          have EWr := Lib.hid (E1.out.trans hE.out)
          have hbl : (brL P D l (basL D q) (rowL D ss i)).length = D := brL_len
          have hbx : Res (brL P D l (basL D q) (rowL D ss i)) P := fun j hj => by
            rw [hbl] at hj
            rw [gi_brL _ _ hj]
            exact ⟨Int.emod_nonneg _ (by omega), Int.emod_lt_of_pos _ (by omega)⟩
          have HBL := Lib.hid hbl
          have HBX := Lib.hid hbx
          have HVE : Hid (mdL P D us pv (brL P D l (basL D q) (rowL D ss i)) = eqV P D l ss us pv i q) := rfl
          have HCS : Hid (eqC P D l ss us pv i (q + 1) = eqC P D l ss us pv i q ++ [eqV P D l ss us pv i q]) := eqC_succ i q
          have HVL : Hid ((eqV P D l ss us pv i q).length = D) := eqV_length i q
          clear r1 hbl hbx
          generalize eqC P D l ss us pv i q = CQ at hC HKL HCS
          have AU := A1.out.ext hE.out
          have SU := S1.out.ext hE.out
          have TU := T1.out.ext hE.out
          have uA := AU.1
          have uS := SU.1
          have uT := TU.1
          have ua0 := AU.2 0 _ rfl
          have ua1 := AU.2 1 _ rfl
          have ua2 := AU.2 2 _ rfl
          have us0 := SU.2 0 _ rfl
          have us1 := SU.2 1 _ rfl
          have us2 := SU.2 2 _ rfl
          have us3 := SU.2 3 _ rfl
          have ut0 := TU.2 0 _ rfl
          have ut1 := TU.2 1 _ rfl
          have ut2 := TU.2 2 _ rfl
          have ut3 := TU.2 3 _ rfl
          clear AU SU TU
          go_wp2_with fail
          go_region_held3 (fun w' => Ext wi w' ∧ (∀ b o, b < wi.heap.size → w'.cell? ⟨b, o, none⟩ = wi.cell? ⟨b, o, none⟩)) (first | assumption | (with_reducible exact ext2 (Ext.trans (And.left ‹Ext wi _ ∧ _›) ‹Ext _ _›)) | (refine ext2 ?_; with_reducible repeat (first | exact Ext.refl _ | exact And.left ‹Ext wi _ ∧ _› | exact hEI.out | refine Ext.drew ?_ | refine Ext.drewN ?_ _ | refine Ext.alloc ?_ _))) (first
            | (go_at_call 156; (with_reducible refine (l2Basis_spec D q _ hD hlt2).mono ?_); rintro e w3 ⟨b3, rfl, k3, h3⟩)
            | (go_at_call 165; (with_reducible refine (HC1.out _).mono ?_); rintro e w4 ⟨rfl, h4⟩)
            | (go_at_call 181; (with_reducible refine (HB.out _ _ _ (EWr.out.trans (And.left ‹Ext wi _ ∧ _›)) (k3.ext h4)).mono ?_); rintro e w5 ⟨b5, rfl, hb5, k5, h5⟩)
            | (go_at_call 107; (with_reducible refine (HMD.out _ _ _ _ (EWr.out.trans (And.left ‹Ext wi _ ∧ _›)) k5 HBL.out HBX.out).mono ?_); rintro e w6 ⟨b6, c6, rfl, hb6, hb6', k6, h6⟩)
            | (have e34 : Ext wr w6 := (((Ext.drew (Ext.refl wr)).trans h3).trans h4).trans (h5.trans h6)
               have e35 : wr.heap.size ≤ b6 := Nat.le_trans ((((Ext.drew (Ext.refl wr)).trans h3).trans h4).trans h5).le hb6
               have sz1 := hEI.out.le
               have sz2 := e34.le
               have sz8 := k6.lt
               have sz9 := HKL.out
               have HRow : Own (w6.alloc (.cells #[.slice (some ⟨b6, 0, none⟩) D c6] 22)) wi.heap.size (w6.alloc (.cells #[.slice (some ⟨b6, 0, none⟩) D c6] 22)).heap.size (some ⟨b6, 0, none⟩) D (eqV P D l ss us pv i q) := (k6.alloc _).own (by omega) (by simp; omega) HVL.out
               have hcl : (w6.alloc (.cells #[.slice (some ⟨b6, 0, none⟩) D c6] 22)).cell? ⟨w6.heap.size, 0, none⟩ = some (.slice (some ⟨b6, 0, none⟩) D c6) := by rw [World.cell?_alloc_at _ _ _ _ rfl]; rfl
               refine step_appendRow rfl (.tmp 31) (.tmp 43) rfl (base := wi.heap.size) (.slice wa CQ.length wc') CQ rfl (RowsG.ext (RowsG.ext hC.out e34) ((Ext.refl _).alloc _)) w6.heap.size b6 D c6 1 (eqV P D l ss us pv i q) rfl hcl HRow (by omega) (by simp; omega) ?_
               intro v7 w7 hG7 hg7
               have E7 : Ext wi w7 := Ext.grown (Ext.alloc (Ext.trans hEI.out e34) _) hg7 (fun z hz => (hC.out.blk z hz).1)
               have E72 := ext2 E7))
          all_goals
            have G7 : Hid (RowsG w7 wi.heap.size v7 (eqC P D l ss us pv i (q + 1))) := by rw [HCS.out]; exact hG7
            have E8 := Lib.hid E7
            clear hC hEI hG7 hg7 E7 E72 HRow k3 k5 k6 h3 h4 h5 h6 e34 e35 EX EWr
            go_wp2
            exact ⟨⟨q + 1, by omega, by simp, G7, E8⟩, by simp [intOf]; omega⟩
        · obtain rfl : D = q := by omega
          obtain ⟨wa, wc', rfl, _⟩ := hC.out.shape
          have hcl := eqC_length (P := P) (D := D) (l := l) (ss := ss) (us := us) (pv := pv) i D
          rw [hcl] at hC ⊢
          have CR := Lib.hid (hC.out.colR (m := D) (fun q hq => by rw [row_eqC hq, eqV_length]))
          have CR2 : Hid (ColR wr wa wi.heap.size wr.heap.size D D (eqV P D l ss us pv i)) := fun q hq => by
            obtain ⟨kc, b', c', e1, e2, e3, e4, e5, e6, e7⟩ := CR.out q hq
            rw [row_eqC hq] at e7
            exact ⟨kc, b', c', e1, e2, e3, e4, e5, e6, e7⟩
          have HGX : Hid (RowsG wr wF.heap.size (.slice va (eqX P D l ss us pv i).length vc) (eqX P D l ss us pv i ++ eqW P D l ss us pv i 0)) := by
            simp only [Hid, eqW, List.range_zero, List.map_nil, List.append_nil]
            exact hG.out.ext hEI.out
          have HBK : Hid (∀ z, Value.ownBlock (.slice va (eqX P D l ss us pv i).length vc) = some z → z < wi.heap.size) := fun z hz => (hG.out.blk z hz).2
          obtain ⟨wk, hwk⟩ : ∃ wk : World, wk = wr := ⟨_, rfl⟩
          subst hwk
          have hszi := hEI.out.le
          clear hC CR hcl AX
          go_wp2_with fail
          clear lA x0 x1 x2
          go_loopw [8, 12, 13, 14] (fun v z _ _ wr => ∃ f : Nat, f ≤ (freeTo pv D).length ∧ z = .int .i64 f ∧ Hid (RowsG wr wF.heap.size v (eqX P D l ss us pv i ++ eqW P D l ss us pv i f)) ∧ Hid (∀ z, v.ownBlock = some z → z < wi.heap.size ∨ wk.heap.size ≤ z) ∧ Hid (ColR wr wa wi.heap.size wk.heap.size D D (eqV P D l ss us pv i)) ∧ Hid (Ext wF wr) ∧ wk.heap.size ≤ wr.heap.size) (fun _ z _ _ _ => (freeTo pv D).length - (intOf z).toNat)
          case atStart => exact ⟨0, by omega, rfl, HGX, fun z hz => Or.inl (HBK.out z hz), CR2, EX, Nat.le_refl _⟩
          case round =>
            clear HGX HBK CR2 EX hE hG hEI
            obtain ⟨f, hf, rfl, hG, hB, hCR, hE, hsz⟩ := hrel
            generalize hRS : eqX P D l ss us pv i ++ eqW P D l ss us pv i f = RS at hG
            have HRO := Lib.hid hRS
            clear hRS
            obtain ⟨va, vc, rfl, _⟩ := hG.out.shape
            by_cases hlt3 : f < (freeTo pv D).length
            · have hfd := HFAT.out f hlt3
              go_wp2_with fail
              obtain ⟨wf, hwf⟩ : ∃ wf : World, wf = wr := ⟨_, rfl⟩
              subst hwf
              have X0 := Lib.hid (grows_lit wf wf.heap.size (Nat.le_refl _))
              have EX0 := Lib.hid ((Ext.refl wf).alloc (.cells #[] 3))
              go_loopw [13, 14] (fun v z wr => ∃ q : Nat, q ≤ D ∧ z = .int .i64 q ∧ Hid (Grows wr wf.heap.size v q ((eqR P D l ss us pv i f).take q)) ∧ Hid (Ext wf wr)) (fun _ z _ => D - (intOf z).toNat)
              case atStart => exact ⟨0, by omega, rfl, X0, EX0⟩
              case round =>
                clear X0 EX0
                obtain ⟨q, hq, rfl, hX, hEX⟩ := hrel
                have EY := Lib.hid (hE.out.trans hEX.out)
                have AX := A1.out.ext EY.out
                have lA := AX.1
                have x1 := AX.2 1 _ rfl
                clear AX
                obtain ⟨xa, xc, rfl, _, _⟩ := hX.out.reads2
                by_cases hlt4 : q < D
                · rcases (O1.out.ext hE.out).2 with h | ⟨fb, fo, rfl, hfb, hfc⟩
                  · omega
                  have f1 := hfc f hlt3
                  rw [gi_pvI] at f1
                  obtain ⟨kc, b', c', rfl, hk1', hk2', hcc, hb1', hb2', hha⟩ := hCR.out q hlt4
                  have hv1 := hha.cell ((freeTo pv D).getD f 0) (by rw [eqV_length]; exact hfd)
                  have HT1 := Lib.hid (eqR_take (P := P) (l := l) (ss := ss) (us := us) (pv := pv) (i := i) (f := f) hlt4)
                  generalize (freeTo pv D).getD f 0 = z at f1 hv1 HT1 hfd
                  generalize gi (eqV P D l ss us pv i q) z = y at hv1 HT1
                  have hkk : kc < wf.heap.size := by omega
                  have hkb : b' < wf.heap.size := by omega
                  have hzD : (z : Int) < (D : Int) := by omega
                  clear hfc hha
                  go_wp2_with fail
                  go_region_held3 (fun w' => Ext wf w' ∧ (∀ b o, b < wf.heap.size → w'.cell? ⟨b, o, none⟩ = wf.cell? ⟨b, o, none⟩)) (first | assumption | (with_reducible exact ext2 (Ext.trans (And.left ‹Ext wf _ ∧ _›) ‹Ext _ _›)) | (refine ext2 ?_; with_reducible repeat (first | exact Ext.refl _ | exact And.left ‹Ext wf _ ∧ _› | exact hEX.out | refine Ext.drew ?_ | refine Ext.drewN ?_ _ | refine Ext.alloc ?_ _))) (first
                    | (have sz1 := hEX.out.le
                       have hrd : Reads (wr.drew.alloc (.cells #[.int .i64 y] 3)) (some ⟨wr.heap.size, 0, none⟩) 1 [y] := Has.reads (Has.new wr.drew [y]) rfl
                       refine step_appendG rfl (.tmp 58) (.tmp 69) rfl (base := wf.heap.size) (.slice xa q xc) q ((eqR P D l ss us pv i f).take q) rfl (Grows.ext hX.out ((Ext.refl wr).drew.alloc _)) (some ⟨wr.heap.size, 0, none⟩) 1 1 [y] rfl hrd (by omega) (by simp; omega) ?_ ⟨_, rfl⟩
                       intro v7 w7 hG7 hg7 _
                       have E7 : Ext wf w7 := Ext.grown (Ext.alloc (Ext.drew hEX.out) _) hg7 (fun z hz => (hX.out.blk z hz).1)
                       have E72 := ext2 E7))
                  all_goals
                    have G7 : Hid (Grows w7 wf.heap.size v7 (q + 1) ((eqR P D l ss us pv i f).take (q + 1))) := by rw [HT1.out]; exact hG7
                    have E8 := Lib.hid E7
                    clear hX hEX hG7 hg7 E7 E72 EY f1 hv1 hcc hrd
                    go_wp2
                    exact ⟨⟨q + 1, by omega, by simp, G7, E8⟩, by simp [intOf]; omega⟩
                · obtain rfl : D = q := by omega
                  have hrl := eqR_length (P := P) (D := D) (l := l) (ss := ss) (ts := us) (pv := pv) i f
                  rw [List.take_of_length_le (Nat.le_of_eq hrl)] at hX
                  obtain ⟨xa', xc', hv, hxn, hxo⟩ := hX.out.reads2
                  simp only [Value.slice.injEq, true_and] at hv
                  obtain ⟨rfl, rfl⟩ := hv
                  have HXO := Lib.hid (hxo.mono (lo' := wF.heap.size) hE.out.le (Nat.le_refl _))
                  have hG4 := Lib.hid (RowsG.ext hG.out hEX.out)
                  have hCR4 := Lib.hid (hCR.out.ext hEX.out hsz)
                  have hE4 := Lib.hid (hE.out.trans hEX.out)
                  have hs4 := hEX.out.le
                  have hs5 := hE4.out.le
                  have HLB : Hid (RS.length ≤ 784) := by
                    rw [Hid, ← HRO.out, List.length_append, eqX_length, eqW_length]
                    have h1 := Nat.mul_le_mul_right (freeTo pv D).length (show i + 1 ≤ 28 by omega)
                    have h2 := Nat.mul_le_mul_left 28 (show (freeTo pv D).length ≤ 28 by omega)
                    rw [Nat.add_mul, Nat.one_mul] at h1
                    omega
                  have HWS : Hid (eqX P D l ss us pv i ++ eqW P D l ss us pv i (f + 1) = RS ++ [eqR P D l ss us pv i f]) := by rw [Hid, ← HRO.out, eqW_succ, List.append_assoc]
                  have hBk := Lib.hid hG4.out.blk
                  have HXB : Hid (∃ xb, xa = some ⟨xb, 0, none⟩) := ?hxb
                  case hxb =>
                    by_cases hD0 : xa = none
                    · have h9 := hxn hD0
                      exact absurd (HFAT.out f hlt3) (by omega)
                    · rcases hxo.2 with h9 | ⟨xb, h9, _⟩
                      · exact absurd h9.1 hD0
                      · exact ⟨xb, h9⟩
                  obtain ⟨xb, rfl⟩ := HXB.out
                  clear hX hEX hG hCR hE EY hxo hxn hrl
                  go_wp2_with (at_builtin; refine wpList_appendRow_at rfl _ _ rfl wF.heap.size (.slice va RS.length vc) RS xb D xc (eqR P D l ss us pv i f) 1 rfl rfl hG4.out HXO.out (by have := HLB.out; omega) (by omega) ?_)
                  intro v7 w7 hG7 hg7 hat
                  have G7 : Hid (RowsG w7 wF.heap.size v7 (eqX P D l ss us pv i ++ eqW P D l ss us pv i (f + 1))) := by rw [HWS.out]; exact hG7
                  have B7 : Hid (∀ z, v7.ownBlock = some z → z < wi.heap.size ∨ wk.heap.size ≤ z) := fun z hz => by
                    rcases hat with h | h
                    · rw [h] at hz; exact hB.out z hz
                    · rw [h] at hz; simp at hz; right; omega
                  have C7 : Hid (ColR w7 wa wi.heap.size wk.heap.size D D (eqV P D l ss us pv i)) := hCR4.out.grown hg7 (by omega) (fun z hz => hB.out z hz)
                  have E7 : Hid (Ext wF w7) := hE4.out.grown hg7 (fun z hz => (hBk.out z hz).1)
                  have S7 := hg7.size
                  clear hG4 hCR4 hE4 hG7 hg7 hB hat HXO HXB hBk lA x1
                  go_wp2
                  exact ⟨⟨f + 1, by omega, by simp, G7, B7, C7, E7, by omega⟩, by simp [intOf]; omega⟩
            · obtain rfl : (freeTo pv D).length = f := by omega
              have e9 : RS = eqX P D l ss us pv (i + 1) := HRO.out.symm
              have G8 : Hid (RowsG wr wF.heap.size (.slice va RS.length vc) (eqX P D l ss us pv (i + 1))) := by rw [← e9]; exact hG
              clear e9
              clear hG hCR hB
              go_wp2
              exact ⟨⟨i + 1, by omega, by simp, G8, hE⟩, by simp [intOf]; omega⟩
    · obtain rfl : R = i := by omega
      have AX := A1.out.ext hE.out
      have lA := AX.1
      have x0 := AX.2 0 _ rfl
      have x1 := AX.2 1 _ rfl
      clear AX
      obtain ⟨va, vc, rfl, _⟩ := hG.out.shape
      have hxl := eqX_length (P := P) (D := D) (l := l) (ss := ss) (us := us) (pv := pv) R
      have hxf := eqX_flat (P := P) (D := D) (l := l) (ss := ss) (us := us) (pv := pv) R
      have hsl := eqS_length (P := P) (D := D) (l := l) (ss := ss) (ts := us) (pv := pv) (R := R)
      have h1 : R * (freeTo pv D).length ≤ 784 := Nat.mul_le_mul hR (show _ ≤ 28 by omega)
      have h2 : R * (freeTo pv D).length * D ≤ 21952 := Nat.mul_le_mul h1 hD
      rw [hxl] at hG ⊢
      have HRW : Hid (Calls Try.prog 120 #[.int .i64 P, .int .i64 D, .slice va (R * (freeTo pv D).length) vc] wr (RowsPost wr P D (R * (freeTo pv D).length) (eqS P D l ss us pv R))) := by
        have := l1Rows_spec P D (R * (freeTo pv D).length) wF.heap.size vc va (eqX P D l ss us pv R) wr hG.out (by omega) (by rw [hxf, hsl]; omega)
        rwa [hxf] at this
      have HSL := Lib.hid hsl
      have RX := Lib.hid (R1.out.ext hE.out)
      have EX := Lib.hid (E1.out.trans hE.out)
      have hsz := hE.out.le
      clear hG hE hxl hxf hsl h1 h2
      generalize eqS P D l ss us pv R = ES at *
      generalize R * (freeTo pv D).length = RF at *
      go_wp2_with fail
      refine HRW.out.mono ?_
      rintro e w5 ⟨ra, rc, rfl, hnil, ho, h5⟩
      rw [HSL.out] at ho hnil ⊢
      have HO := Lib.hid ho.reads
      have HNIL := Lib.hid hnil
      have RX2 := Lib.hid (RX.out.ext h5)
      have EX2 := Lib.hid (EX.out.trans h5)
      have hw5 := h5.le
      clear ho hnil RX EX h5 lA x0 x1
      go_wp2_with fail
      refine (HKE.out w5 ra rc HO.out HNIL.out).mono ?_
      rintro e w6 ⟨sb, sc, rfl, hs1, hs2, hh, h6⟩
      have R4 := Lib.hid (RX2.out.ext h6)
      have EQ4 := Lib.hid (EX2.out.trans h6)
      have HS6 := Lib.hid hh
      have hlt9 := RX2.out.1
      clear hh h6 RX2 EX2
      have r0 := R4.out.2 0 _ rfl
      have r1 := R4.out.2 1 _ rfl
      have r2 := R4.out.2 2 _ rfl
      have r3 := R4.out.2 3 _ rfl
      have tR := R4.out.3
      have lR := R4.out.1
      go_wp2
      refine bodyPost_ret (v := .agg #[.int .i64 P, .int .i64 (KN : Nat), .int .i64 D, .slice (some ⟨sb, 0, none⟩) (KN * D) sc]) (by simp [results, Try.results139, go_sem, r0, r1, r2, r3]) rfl ⟨sb, sc, rfl, by omega, ?_, ?_, ?_⟩
      · simpa using hs2
      · repeat with_reducible (first | exact HS6.out | refine Has.setOther ?_ (by simp <;> omega) _)
      · exact ext4 EQ4.out (by omega) _ _ _ _
end Go.Proofs.Ytapaopapgnfdkaa
