/-
  Lists of matrices as arguments: how they are read, and the law package's helpers.
-/
import Derived.Test.YtnikfalpjieibaaFr
import Derived.Test.YtnikfalpjieibaaMtR
import Derived.Deep.Slices
import Derived.ChangeSame
import Derived.Laws.MakeOwn
namespace Go.Proofs.Ytnikfalpjieibaa
open Go.ChangeShapes Go.WideShapes Go.ChangeAt Go.RowKit
set_option linter.unusedVariables false
set_option linter.unusedSimpArgs false

/-- A list of matrices that may be read. -/
structure MatsA (w : World) (a : Option Addr) (n : Nat) (ms : List Mat) : Prop where
  len : ms.length = n
  get : n = 0 ∨ ∃ b o, a = some ⟨b, o, none⟩ ∧ b < w.heap.size ∧ ∀ j, j < n → ∃ aj cj, w.cell? ⟨b, o + j * 4, none⟩ = some (.int .i64 (mt ms j).p) ∧ w.cell? ⟨b, o + j * 4 + 1, none⟩ = some (.int .i64 (mt ms j).r) ∧ w.cell? ⟨b, o + j * 4 + 2, none⟩ = some (.int .i64 (mt ms j).c) ∧ w.cell? ⟨b, o + j * 4 + 3, none⟩ = some (.slice aj (mt ms j).d.length cj) ∧ Reads w aj (mt ms j).d.length (mt ms j).d
theorem MatsA.ext {w w' : World} {a : Option Addr} {n : Nat} {ms : List Mat} (h : MatsA w a n ms) (hE : Ext w w') : MatsA w' a n ms := by
  refine ⟨h.1, ?_⟩
  rcases h.2 with h2 | ⟨b, o, e1, e2, e3⟩
  · exact .inl h2
  · refine .inr ⟨b, o, e1, Nat.lt_of_lt_of_le e2 hE.le, fun j hj => ?_⟩
    obtain ⟨aj, cj, h1, h2, h3, h4, h5⟩ := e3 j hj
    exact ⟨aj, cj, (hE.cells b _ e2).trans h1, (hE.cells b _ e2).trans h2, (hE.cells b _ e2).trans h3, (hE.cells b _ e2).trans h4, h5.ext hE⟩
/-- The data are not too long. -/
def MatsW (ms : List Mat) : Prop := ∀ j, j < ms.length → (mt ms j).d.length ≤ maxLen
/-- How many numbers the first k matrices hold together. -/
def msL (ms : List Mat) : Nat → Nat
  | 0 => 0
  | k + 1 => msL ms k + (mt ms k).d.length
theorem msL_row (ms : List Mat) : ∀ {n j : Nat}, j < n → (mt ms j).d.length ≤ msL ms n
  | 0, _, h => absurd h (Nat.not_lt_zero _)
  | n + 1, j, h => by
    rw [msL]
    by_cases e : j = n
    · subst e; omega
    · have := msL_row ms (n := n) (j := j) (by omega); omega
theorem msL_take (ms : List Mat) : ∀ k, k ≤ ms.length → msL ms k = (dats (ms.take k)).flatten.length
  | 0, _ => by simp [msL, dats]
  | k + 1, h => by
    have hk : k < ms.length := by omega
    rw [msL, msL_take ms k (by omega), List.take_succ_eq_append_getElem hk, dats, dats, List.map_append, List.flatten_append, List.length_append]
    simp [mt, List.getD_eq_getElem?_getD, hk]
theorem msL_all (ms : List Mat) : msL ms ms.length = (dats ms).flatten.length := by
  rw [msL_take ms _ (Nat.le_refl _), List.take_length]
/-- A list of matrices as a copy has it: the list in block g, each matrix's data in a block of their own, with no room behind. -/
structure MatsI (w : World) (g n : Nat) (ms : List Mat) : Prop where
  len : ms.length = n
  tot : (dats ms).flatten.length ≤ 1048576
  lt : g < w.heap.size
  get : ∀ j, j < n → ∃ bj, w.cell? ⟨g, j * 4, none⟩ = some (.int .i64 (mt ms j).p) ∧ w.cell? ⟨g, j * 4 + 1, none⟩ = some (.int .i64 (mt ms j).r) ∧ w.cell? ⟨g, j * 4 + 2, none⟩ = some (.int .i64 (mt ms j).c) ∧ w.cell? ⟨g, j * 4 + 3, none⟩ = some (.slice (some ⟨bj, 0, none⟩) (mt ms j).d.length (mt ms j).d.length) ∧ Reads w (some ⟨bj, 0, none⟩) (mt ms j).d.length (mt ms j).d
theorem MatsI.ext {w w' : World} {g n : Nat} {ms : List Mat} (h : MatsI w g n ms) (hE : Ext w w') : MatsI w' g n ms :=
  ⟨h.1, h.2, Nat.lt_of_lt_of_le h.3 hE.le, fun j hj => by
    obtain ⟨bj, h1, h2, h3, h4, h5⟩ := h.4 j hj
    exact ⟨bj, (hE.cells g _ h.3).trans h1, (hE.cells g _ h.3).trans h2, (hE.cells g _ h.3).trans h3, (hE.cells g _ h.3).trans h4, h5.ext hE⟩⟩
theorem MatsI.short {w : World} {g n : Nat} {ms : List Mat} (h : MatsI w g n ms) {j : Nat} (hj : j < n) : (mt ms j).d.length ≤ 1048576 := by
  have := row_len_le (dats ms) j (by rw [dats_length, h.1]; exact hj)
  rw [row_dats ms (by rw [h.1]; exact hj)] at this
  exact Nat.le_trans this h.2

set_option maxRecDepth 100000 in
theorem open_mats {H : Type} {enc : TypeId × Value → H} {W : World} {base : Nat} {v : Value} {d : DataW H} {p : List MemPlace}
    (hv : Value.okWide Try.prog W .any base 25 v) (h : DataW.Trod enc Try.prog W 0 (fun _ => true) true 25 v d p) :
    ∃ a n c ms, v = .slice a n c ∧ MatsA W a n ms ∧ MatsW ms ∧ n ≤ maxLen := by
  obtain ⟨a0, len0, cap0, rfl⟩ := okWide_slice Try.underlying25 hv
  obtain ⟨fuel, hf⟩ := h
  rcases Go.Deep.open_slice Try.underlying25 (by simpa [Value.cells] using hf) with ⟨hcs, _⟩ | ⟨x, l, c, m, q, D0, P0, hcs, _, hl, hm, hmm, _, hx⟩
  · simp at hcs
    obtain ⟨rfl, rfl, rfl⟩ := hcs
    exact ⟨none, 0, 0, [], rfl, ⟨rfl, .inl rfl⟩, fun j hj => absurd hj (Nat.not_lt_zero _), by omega⟩
  · simp at hcs
    obtain ⟨rfl, rfl, rfl⟩ := hcs
    have hlm : len0 ≤ m := by rw [hmm]; split <;> omega
    have ce : Try.prog.cellsOf 56 = 4 := by kernel_rfl
    have each : ∀ i, i < len0 → ∃ t : (Option Addr × Nat) × Mat, W.cell? (x.add (i * 4)) = some (.int .i64 t.2.p) ∧ W.cell? (x.add (i * 4 + 1)) = some (.int .i64 t.2.r) ∧ W.cell? (x.add (i * 4 + 2)) = some (.int .i64 t.2.c) ∧ W.cell? (x.add (i * 4 + 3)) = some (.slice t.1.1 t.2.d.length t.1.2) ∧ Reads W t.1.1 t.2.d.length t.2.d ∧ t.2.d.length ≤ maxLen := fun i hi => by
      obtain ⟨cs', h1, h2⟩ := hx i (by omega)
      rw [ce] at h1
      obtain ⟨_, hlen, hcell⟩ := World.cells?_some h1
      obtain ⟨xs, k, hk, hxy, _, hxl, hf⟩ := DataW.trod_struct Try.underlying56 h2
      match xs, hxl, cs', hlen with
      | [y0, y1, y2, y3], _, [v0, v1, v2, v3], _ =>
        have g0 := hf 0 _ rfl
        have g1 := hf 1 _ rfl
        have g2 := hf 2 _ rfl
        have g3 := hf 3 _ rfl
        have e0 := hcell 0 (by omega)
        have e1 := hcell 1 (by omega)
        have e2 := hcell 2 (by omega)
        have e3 := hcell 3 (by omega)
        rw [Go.Deep.add_add] at e0 e1 e2 e3
        have cI : Try.prog.cellsOf 3 = 1 := cellsInt
        have cS : Try.prog.cellsOf 22 = 1 := by kernel_rfl
        simp [cI, cS] at g0 g1 g2 g3
        obtain ⟨p0, f0, _, _⟩ := DataW.trod_int Try.underlying3 g0
        obtain ⟨r0, f1, _, _⟩ := DataW.trod_int Try.underlying3 g1
        obtain ⟨c0, f2, _, _⟩ := DataW.trod_int Try.underlying3 g2
        obtain ⟨a, n, c, zs, f3, hr, hm0⟩ := reads_trod g3
        simp at f0 f1 f2
        subst f0 f1 f2 f3
        have hn := hr.len
        subst hn
        exact ⟨((a, c), ⟨p0, r0, c0, zs⟩), by simpa using e0, by simpa using e1, by simpa using e2, by simpa using e3, hr, hm0⟩
    have : Inhabited Mat := ⟨noMat⟩
    obtain ⟨t, ht⟩ := Go.Deep.choose_lt each
    have hg : ∀ j, j < len0 → mt ((List.range len0).map fun i => (t i).2) j = (t j).2 := fun j hj => by simp [mt, List.getD_eq_getElem?_getD, hj]
    refine ⟨some x, len0, cap0, (List.range len0).map fun i => (t i).2, rfl, ⟨by simp, ?_⟩, fun j hj => ?_, by omega⟩
    · by_cases h0 : len0 = 0
      · exact .inl h0
      · obtain ⟨b, off, spot⟩ := x
        have h1 := (ht 0 (by omega)).1
        have hspot : spot = none := by simpa [Addr.add] using World.cell?_spot h1
        subst hspot
        refine .inr ⟨b, off, rfl, by simpa [Addr.add] using World.block_lt_of_cell? _ _ h1, fun j hj => ?_⟩
        obtain ⟨e0, e1, e2, e3, e4, _⟩ := ht j hj
        rw [add_plain] at e0 e1 e2 e3
        rw [hg j hj]
        exact ⟨(t j).1.1, (t j).1.2, e0, e1, e2, e3, e4⟩
    · have hj : j < len0 := by simpa using hj
      rw [hg j hj]; exact (ht j hj).2.2.2.2.2

set_option maxRecDepth 100000 in
set_option maxHeartbeats 1600000 in
theorem szMatrixS_law (a : Option Addr) (n c : Nat) (k : Int) (ms : List Mat) (w : World) (hr : MatsA w a n ms) (hw : MatsW ms) (hk0 : 0 ≤ k) (hk1 : k ≤ 1073741824) (hn : n ≤ maxLen) :
    Calls Try.prog 13 #[.slice a n c, .int .i64 k] w fun e w' => ((((n + msL ms n : Nat) : Int) ≤ k ∧ e = .returned (.int .i64 (k - ((n + msL ms n : Nat) : Int)))) ∨ (k < ((n + msL ms n : Nat) : Int) ∧ e = .returned (.int .i64 (-1)))) ∧ Ext w w' := by
  have HR := Lib.hid hr
  have HW : Hid (∀ j, j < n → (mt ms j).d.length ≤ maxLen) := fun j hj => hw j (by rw [hr.1]; exact hj)
  have HL : Hid (∀ j, msL ms (j + 1) = msL ms j + (mt ms j).d.length) := fun j => rfl
  have HM : Hid (∀ i, i ≤ n → msL ms i ≤ msL ms n) := fun i hi => by
    have : ∀ d, msL ms i ≤ msL ms (i + d) := by
      intro d
      induction d with
      | zero => exact Nat.le_refl _
      | succ d ih => rw [← Nat.add_assoc]; show _ ≤ msL ms (i + d) + _; omega
    have := this (n - i)
    rwa [show i + (n - i) = n by omega] at this
  have HL0 : Hid (msL ms 0 = 0) := rfl
  have hmx : n ≤ 9223372036854775807 := by unfold maxLen at hn; omega
  obtain ⟨L, hL⟩ : ∃ L, msL ms = L := ⟨_, rfl⟩
  rw [hL] at HL HM HL0 ⊢
  obtain ⟨N, hN⟩ : ∃ N, L n = N := ⟨_, rfl⟩
  have HN := Lib.hid hN
  rw [hN] at HM ⊢
  clear hr hw hL hN hn
  by_cases hlt : k < (n : Int)
  · have v1 : IntKind.i64.wrap (k - n) = k - n := IntWalk.i64_in _ ⟨by omega, by omega⟩
    have hneg : k - n < 0 := by omega
    go_enter Try.func13, Try.ntmps13
    go_wp2
    go_ret
    exact ⟨.inr ⟨by omega, rfl⟩, Ext.refl _⟩
  · have v1 : IntKind.i64.wrap (k - n) = k - n := IntWalk.i64_in _ ⟨by omega, by omega⟩
    have hneg : (k - n < 0) = False := eq_false (by omega)
    go_enter Try.func13, Try.ntmps13
    go_wp2_with fail
    clear v1 hneg
    go_loopw [5, 1] (fun z v wr => ∃ i : Nat, i ≤ n ∧ z = .int .i64 i ∧ v = .int .i64 (k - n - (L i : Nat)) ∧ ((n + L i : Nat) : Int) ≤ k ∧ Hid (Ext w wr)) (fun z _ _ => n - (intOf z).toNat)
    case atStart => exact ⟨0, by omega, rfl, by rw [HL0.out]; simp, by rw [HL0.out]; omega, Ext.refl _⟩
    case round =>
      obtain ⟨i, hi, rfl, rfl, hik, hE⟩ := hrel
      by_cases hin : i < n
      · have hinI : (i : Int) < (n : Int) := by omega
        obtain ⟨b, o, rfl, hbl, hcell⟩ : ∃ b o, a = some ⟨b, o, none⟩ ∧ b < wr.heap.size ∧ ∃ aj cj, wr.cell? ⟨b, o + i * 4, none⟩ = some (.int .i64 (mt ms i).p) ∧ wr.cell? ⟨b, o + i * 4 + 1, none⟩ = some (.int .i64 (mt ms i).r) ∧ wr.cell? ⟨b, o + i * 4 + 2, none⟩ = some (.int .i64 (mt ms i).c) ∧ wr.cell? ⟨b, o + i * 4 + 3, none⟩ = some (.slice aj (mt ms i).d.length cj) ∧ Reads wr aj (mt ms i).d.length (mt ms i).d := by
          rcases (HR.out.ext hE.out).2 with h0 | ⟨b, o, e1, e2, e3⟩
          · omega
          · exact ⟨b, o, e1, e2, e3 i hin⟩
        obtain ⟨aj, cj, hc0, hc1, hc2, hc3, hrd⟩ := hcell
        have hwl := HW.out i hin
        have HLi := Lib.hid (HL.out i)
        have hMi := HM.out (i + 1) (by omega)
        clear hrd
        obtain ⟨r, hr⟩ : ∃ r, (mt ms i).d.length = r := ⟨_, rfl⟩
        obtain ⟨Li, hLi⟩ : ∃ Li, L i = Li := ⟨_, rfl⟩
        rw [hr] at hc3 hwl HLi
        rw [hLi] at HLi hik ⊢
        rw [HLi.out] at hMi
        clear hr hLi
        by_cases hrk : (r : Int) ≤ k - n - (Li : Nat)
        · have HS := Lib.hid (fun w1 => szMatrix_yes (mt ms i).p (mt ms i).r (mt ms i).c aj r cj (k - n - (Li : Nat)) w1 (by omega) hrk)
          have hnn : (k - n - (Li : Nat) - r < 0) = False := eq_false (by omega)
          clear hwl
          go_wp2_with fail
          refine (HS.out _).mono ?_
          rintro e w2 ⟨rfl, h2⟩
          have HE2 := Lib.hid (hE.out.trans h2)
          clear hc0 hc1 hc2 hc3
          go_wp2
          exact ⟨⟨i + 1, by omega, by first | rfl | simp, by rw [HLi.out]; congr 1; omega, by rw [HLi.out]; omega, HE2⟩, by (simp [intOf]) <;> omega⟩
        · have HS := Lib.hid (fun w1 => szMatrix_no (mt ms i).p (mt ms i).r (mt ms i).c aj r cj (k - n - (Li : Nat)) w1 (by omega) (by omega) hwl (by omega))
          clear hwl
          go_wp2_with fail
          refine (HS.out _).mono ?_
          rintro e w2 ⟨rfl, h2⟩
          go_wp2
          go_ret
          exact ⟨.inr ⟨by omega, rfl⟩, hE.out.trans h2⟩
      · obtain rfl : i = n := by omega
        go_wp2
        go_ret
        rw [HN.out] at hik
        exact ⟨.inl ⟨hik, by rw [HN.out, show k - ((i : Nat) : Int) - ((N : Nat) : Int) = k - ((i + N : Nat) : Int) by omega]; rfl⟩, hE.out⟩

/-- A table of n matrices, of which k are filled, their data one behind the other. -/
def TblM (w : World) (g n k : Nat) (ms : List Mat) : Prop := ∃ (cur : Array Value) (B : Nat → Nat), w.heap[g]? = some (.cells cur 37 (0, 0)) ∧ cur.size = n * 4 ∧ (∀ i, i < k → g < B i ∧ cur[i * 4]? = some (.int .i64 (mt ms i).p) ∧ cur[i * 4 + 1]? = some (.int .i64 (mt ms i).r) ∧ cur[i * 4 + 2]? = some (.int .i64 (mt ms i).c) ∧ cur[i * 4 + 3]? = some (.slice (some ⟨B i, 0, none⟩) (mt ms i).d.length (mt ms i).d.length) ∧ Own w g w.heap.size (some ⟨B i, 0, none⟩) (mt ms i).d.length (mt ms i).d) ∧ (∀ i j, i < j → j < k → B i < B j) ∧ ∀ i, i < k → B i < w.heap.size
theorem TblM.ext {w w' : World} {g n k : Nat} {ms : List Mat} (h : TblM w g n k ms) (hE : Ext w w') : TblM w' g n k ms := by
  obtain ⟨cur, B, h1, h2, h3, h4, h5⟩ := h
  refine ⟨cur, B, (hE.block g (Array.getElem?_eq_some_iff.1 h1).1).trans h1, h2, fun i hi => ?_, h4, fun i hi => Nat.lt_of_lt_of_le (h5 i hi) hE.le⟩
  obtain ⟨x0, x1, x2, x3, x4, x5⟩ := h3 i hi
  exact ⟨x0, x1, x2, x3, x4, (x5.ext hE).mono (Nat.le_refl _) hE.le⟩
theorem TblM.put {w : World} {g n k b2 : Nat} {ms : List Mat} (h : TblM w g n k ms) (hk : k < n) (hg : g < b2) (hlo : ∀ i, i < k → True) {w0 : World} (hw0 : TblM w0 g n k ms) (hE : Ext w0 w) (ho : Own w w0.heap.size w.heap.size (some ⟨b2, 0, none⟩) (mt ms k).d.length (mt ms k).d) :
    TblM ((((w.setCell ⟨g, k * 4, none⟩ (.int .i64 (mt ms k).p)).setCell ⟨g, k * 4 + 1, none⟩ (.int .i64 (mt ms k).r)).setCell ⟨g, k * 4 + 2, none⟩ (.int .i64 (mt ms k).c)).setCell ⟨g, k * 4 + 3, none⟩ (.slice (some ⟨b2, 0, none⟩) (mt ms k).d.length (mt ms k).d.length)) g n (k + 1) ms := by
  obtain ⟨cur, B, h1, h2, h3, h4, h5⟩ := hw0
  have hgl := (Array.getElem?_eq_some_iff.1 h1).1
  have h1' : w.heap[g]? = some (.cells cur 37 (0, 0)) := (hE.block g hgl).trans h1
  have hb2 := ho.blk b2 rfl
  refine ⟨(((cur.setIfInBounds (k * 4) (.int .i64 (mt ms k).p)).setIfInBounds (k * 4 + 1) (.int .i64 (mt ms k).r)).setIfInBounds (k * 4 + 2) (.int .i64 (mt ms k).c)).setIfInBounds (k * 4 + 3) (.slice (some ⟨b2, 0, none⟩) (mt ms k).d.length (mt ms k).d.length), fun i => if i = k then b2 else B i, ?_, by simp [h2], fun i hi => ?_, fun i j hij hj => ?_, fun i hi => ?_⟩
  · exact heap_setCell_same _ _ _ _ _ _ (heap_setCell_same _ _ _ _ _ _ (heap_setCell_same _ _ _ _ _ _ (heap_setCell_same _ _ _ _ _ _ h1')))
  · have own' : ∀ b (xs : List Int) m, g < b → Own w g w.heap.size (some ⟨b, 0, none⟩) m xs → Own ((((w.setCell ⟨g, k * 4, none⟩ (.int .i64 (mt ms k).p)).setCell ⟨g, k * 4 + 1, none⟩ (.int .i64 (mt ms k).r)).setCell ⟨g, k * 4 + 2, none⟩ (.int .i64 (mt ms k).c)).setCell ⟨g, k * 4 + 3, none⟩ (.slice (some ⟨b2, 0, none⟩) (mt ms k).d.length (mt ms k).d.length)) g w.heap.size (some ⟨b, 0, none⟩) m xs := fun b xs m hb h => by
      have st : ∀ (u : World) (j : Nat) (v : Value), Own u g w.heap.size (some ⟨b, 0, none⟩) m xs → Own (u.setCell ⟨g, j, none⟩ v) g w.heap.size (some ⟨b, 0, none⟩) m xs := fun u j v hu => by
        obtain ⟨q1, q2⟩ := hu
        rcases q2 with q2 | ⟨b', e, q3, q4, r, q5, q6⟩
        · exact ⟨q1, .inl q2⟩
        · simp only [Option.some.injEq, Addr.mk.injEq, and_true] at e
          subst e
          refine ⟨q1, .inr ⟨b, rfl, q3, q4, r, ?_, q6⟩⟩
          rw [heap_setCell_other u ⟨g, j, none⟩ b _ (by show b ≠ g; omega)]
          exact q5
      exact st _ _ _ (st _ _ _ (st _ _ _ (st _ _ _ h)))
    have hsz : k * 4 + 3 < cur.size := by omega
    dsimp only
    by_cases e : i = k
    · subst e
      rw [if_pos rfl]
      refine ⟨hg, ?_, ?_, ?_, ?_, by
        have := own' b2 _ _ hg (ho.mono (Nat.le_of_lt hgl) (Nat.le_refl _))
        simpa using this⟩
      all_goals simp only [Array.getElem?_setIfInBounds, Array.size_setIfInBounds]
      · rw [if_neg (by omega), if_neg (by omega), if_neg (by omega), if_pos trivial, if_pos (by omega)]
      · rw [if_neg (by omega), if_neg (by omega), if_pos trivial, if_pos (by omega)]
      · rw [if_neg (by omega), if_pos trivial, if_pos (by omega)]
      · rw [if_pos trivial, if_pos (by omega)]
    · rw [if_neg e]
      obtain ⟨x0, x1, x2, x3, x4, x5⟩ := h3 i (by omega)
      refine ⟨x0, ?_, ?_, ?_, ?_, by
        have := own' (B i) _ _ x0 ((x5.ext hE).mono (Nat.le_refl _) hE.le)
        simpa using this⟩
      all_goals simp only [Array.getElem?_setIfInBounds]
      · rw [if_neg (by omega), if_neg (by omega), if_neg (by omega), if_neg (by omega)]; exact x1
      · rw [if_neg (by omega), if_neg (by omega), if_neg (by omega), if_neg (by omega)]; exact x2
      · rw [if_neg (by omega), if_neg (by omega), if_neg (by omega), if_neg (by omega)]; exact x3
      · rw [if_neg (by omega), if_neg (by omega), if_neg (by omega), if_neg (by omega)]; exact x4
  · dsimp only
    by_cases e : j = k
    · subst e
      rw [if_neg (show ¬ i = j by omega), if_pos rfl]
      have := h5 i (by omega)
      omega
    · rw [if_neg (show ¬ i = k by omega), if_neg e]
      exact h4 i j hij (by omega)
  · dsimp only
    by_cases e : i = k
    · rw [if_pos e]; simpa using hb2.2
    · rw [if_neg e]
      have := h5 i (by omega)
      have := hE.le
      simp
      omega
theorem TblM.done {w : World} {g n lo : Nat} {ms : List Mat} (h : TblM w g n n ms) (hl : ms.length = n) (ht : (dats ms).flatten.length ≤ 1048576) (hlo : lo ≤ g) : MatsR w lo w.heap.size (some ⟨g, 0, none⟩) n ms ∧ MatsI w g n ms := by
  obtain ⟨cur, B, h1, h2, h3, h4, h5⟩ := h
  have hgl := (Array.getElem?_eq_some_iff.1 h1).1
  refine ⟨⟨hl, ht, .inr ⟨g, cur, fun i => some ⟨B i, 0, none⟩, fun i => (mt ms i).d.length, rfl, hlo, hgl, h1, fun i hi => ?_, fun i j b hi hj hne e => ?_⟩⟩, ⟨hl, ht, hgl, fun j hj => ?_⟩⟩
  · obtain ⟨x0, x1, x2, x3, x4, x5⟩ := h3 i hi
    exact ⟨x1, x2, x3, x4, x5.mono hlo (Nat.le_refl _)⟩
  · simp only [blk, Option.map_some, Option.some.injEq] at e
    intro e'
    simp only [blk, Option.map_some, Option.some.injEq] at e'
    rcases Nat.lt_or_gt_of_ne hne with h | h
    · have := h4 i j h hj; omega
    · have := h4 j i h hi; omega
  · obtain ⟨x0, x1, x2, x3, x4, x5⟩ := h3 j hj
    exact ⟨B j, by rw [cell_of_row w g _ _ _ _ h1]; exact x1, by rw [cell_of_row w g _ _ _ _ h1]; exact x2, by rw [cell_of_row w g _ _ _ _ h1]; exact x3, by rw [cell_of_row w g _ _ _ _ h1]; exact x4, x5.reads⟩
/-- A copy: it is read, and it is the call's own. -/
def MatsO (w : World) (lo hi : Nat) (a : Option Addr) (n : Nat) (ms : List Mat) : Prop := MatsR w lo hi a n ms ∧ ∃ g, a = some ⟨g, 0, none⟩ ∧ MatsI w g n ms
theorem MatsO.ext {w w' : World} {lo hi : Nat} {a : Option Addr} {n : Nat} {ms : List Mat} (h : MatsO w lo hi a n ms) (hE : Ext w w') : MatsO w' lo hi a n ms :=
  ⟨h.1.ext hE, h.2.elim fun g h2 => ⟨g, h2.1, h2.2.ext hE⟩⟩
theorem MatsO.reads {w : World} {lo hi g : Nat} {n : Nat} {ms : List Mat} (h : MatsO w lo hi (some ⟨g, 0, none⟩) n ms) : MatsI w g n ms := by
  obtain ⟨g', e, h2⟩ := h.2
  simp only [Option.some.injEq, Addr.mk.injEq, and_true] at e
  subst e
  exact h2
theorem tblM_start (w : World) (n : Nat) (ms : List Mat) : TblM (w.alloc (.cells (madeCells #[.int .i64 0, .int .i64 0, .int .i64 0, .slice none 0 0] (n * 4)) 37)) w.heap.size n 0 ms := by
  obtain ⟨cs, hcs⟩ : ∃ cs, madeCells #[.int .i64 0, .int .i64 0, .int .i64 0, .slice none 0 0] (n * 4) = cs := ⟨_, rfl⟩
  have hs : cs.size = n * 4 := by rw [← hcs]; unfold madeCells; simp
  rw [hcs]
  exact ⟨cs, fun _ => 0, Array.getElem?_push_size, hs, fun i hi => absurd hi (Nat.not_lt_zero _), fun i j _ hj => absurd hj (Nat.not_lt_zero _), fun i hi => absurd hi (Nat.not_lt_zero _)⟩
theorem Try.infoMtA : (Try.prog.info? 37).map (fun i => (i.zero, i.size, i.bytes)) = some (some (.agg #[.int .i64 0, .int .i64 0, .int .i64 0, .slice none 0 0]), 4, 48) := by kernel_rfl
theorem make_mats (n : Nat) (hn : n ≤ 1048576) (w : World) :
    (Instr.makeSlice 31 (.int .i64 (n : Int)) (.int .i64 (n : Int))).run Try.prog w = .ok (.slice (some ⟨w.heap.size, 0, none⟩) n n) (w.alloc (.cells (madeCells #[.int .i64 0, .int .i64 0, .int .i64 0, .slice none 0 0] (n * 4)) 37)) := by
  obtain ⟨i0, hi, hz0, hz1, hz2⟩ := info_parts Try.infoMtA
  have h := run_make (P := Try.prog) w 31 37 i0 (.agg #[.int .i64 0, .int .i64 0, .int .i64 0, .slice none 0 0]) Try.underlying31 hi hz0 .i64 .i64 n n (by omega) (by omega) (by rw [hz2]; omega) (by omega)
  simp only [Int.toNat_natCast, hz1] at h
  rw [h]
  rfl

set_option maxRecDepth 100000 in
set_option maxHeartbeats 1600000 in
theorem toMatrixS_law (a : Option Addr) (n c : Nat) (ms : List Mat) (w : World) (hr : MatsA w a n ms) (hn : n ≤ 1048576) (ht : (dats ms).flatten.length ≤ 1048576) :
    Calls Try.prog 16 #[.slice a n c] w fun e w' => ∃ b, e = .returned (.slice (some ⟨b, 0, none⟩) n n) ∧ MatsO w' w.heap.size w'.heap.size (some ⟨b, 0, none⟩) n ms ∧ Ext w w' := by
  have HR := Lib.hid hr
  have HTT := Lib.hid ht
  have HLN := Lib.hid hr.1
  have HLE : Hid (∀ j, j < n → (mt ms j).d.length ≤ 1048576) := fun j hj => by
    have hrow := row_len_le (dats ms) j (by rw [dats_length, hr.1]; exact hj)
    rw [row_dats ms (by rw [hr.1]; exact hj)] at hrow
    exact Nat.le_trans hrow ht
  have hmk := make_mats n hn
  have H0 : Hid (TblM (w.alloc (.cells (madeCells #[.int .i64 0, .int .i64 0, .int .i64 0, .slice none 0 0] (n * 4)) 37)) w.heap.size n 0 ms) := tblM_start w n ms
  have X0 := Lib.hid ((Ext.refl w).alloc (.cells (madeCells #[.int .i64 0, .int .i64 0, .int .i64 0, .slice none 0 0] (n * 4)) 37))
  clear hr ht
  go_enter Try.func16, Try.ntmps16
  go_wp2_with fail
  clear hmk
  go_loopw [4] (fun z wr => ∃ i : Nat, i ≤ n ∧ z = .int .i64 i ∧ Hid (TblM wr w.heap.size n i ms) ∧ Hid (Ext w wr)) (fun z _ => n - (intOf z).toNat)
  case atStart => exact ⟨0, by omega, rfl, H0, X0⟩
  case round =>
    clear H0 X0
    obtain ⟨i, hi, rfl, hK, hE⟩ := hrel
    by_cases hin : i < n
    · have hinI : (i : Int) < (n : Int) := by omega
      obtain ⟨b, o, rfl, hbl, hcell⟩ : ∃ b o, a = some ⟨b, o, none⟩ ∧ b < wr.heap.size ∧ ∃ aj cj, wr.cell? ⟨b, o + i * 4, none⟩ = some (.int .i64 (mt ms i).p) ∧ wr.cell? ⟨b, o + i * 4 + 1, none⟩ = some (.int .i64 (mt ms i).r) ∧ wr.cell? ⟨b, o + i * 4 + 2, none⟩ = some (.int .i64 (mt ms i).c) ∧ wr.cell? ⟨b, o + i * 4 + 3, none⟩ = some (.slice aj (mt ms i).d.length cj) ∧ Reads wr aj (mt ms i).d.length (mt ms i).d := by
        rcases (HR.out.ext hE.out).2 with h0 | ⟨b, o, e1, e2, e3⟩
        · omega
        · exact ⟨b, o, e1, e2, e3 i hin⟩
      obtain ⟨aj, cj, hc0, hc1, hc2, hc3, hrd⟩ := hcell
      have HC := Lib.hid (fun w1 (h : Ext wr w1) => toMatrix_law (mt ms i).p (mt ms i).r (mt ms i).c aj _ cj (mt ms i).d w1 (hrd.ext h) (HLE.out i hin))
      clear hrd
      go_wp2_with fail
      refine (HC.out _ (Ext.refl _)).mono ?_
      rintro e w2 ⟨b2, rfl, hO2, hE2⟩
      have HE2 := Lib.hid (hE.out.trans hE2)
      have hK2 := hK.out.ext hE2
      obtain ⟨cur, B, k1, k2, _⟩ := hK2
      have hgl := (Array.getElem?_eq_some_iff.1 k1).1
      have hfz : ∀ z, w2.frozen? ⟨w.heap.size, z, none⟩ = false := fun z => frozen_of_row w2 w.heap.size z _ _ k1
      have hce : ∀ z, z < n * 4 → ∃ v, w2.cell? ⟨w.heap.size, z, none⟩ = some v := fun z hz => ⟨_, by rw [cell_of_row w2 w.heap.size z _ _ _ k1]; exact Array.getElem?_eq_getElem (by omega)⟩
      have y0 := hfz (i * 4)
      have y1 := hfz (i * 4 + 1)
      have y2 := hfz (i * 4 + 2)
      have y3 := hfz (i * 4 + 3)
      obtain ⟨z0, u0⟩ := hce (i * 4) (by omega)
      obtain ⟨z1, u1⟩ := hce (i * 4 + 1) (by omega)
      obtain ⟨z2, u2⟩ := hce (i * 4 + 2) (by omega)
      obtain ⟨z3, u3⟩ := hce (i * 4 + 3) (by omega)
      have hwl := hE.out.le
      have hgr : w.heap.size < wr.heap.size := by
        obtain ⟨cur', B', k1', _⟩ := hK.out
        exact (Array.getElem?_eq_some_iff.1 k1').1
      have hb2 := (hO2.blk b2 rfl).1
      have HK3 := Lib.hid (TblM.put (hK.out.ext hE2) hin (by omega) (fun _ _ => trivial) hK.out hE2 hO2)
      have HE3 : Hid (Ext w ((((w2.setCell ⟨w.heap.size, i * 4, none⟩ (.int .i64 (mt ms i).p)).setCell ⟨w.heap.size, i * 4 + 1, none⟩ (.int .i64 (mt ms i).r)).setCell ⟨w.heap.size, i * 4 + 2, none⟩ (.int .i64 (mt ms i).c)).setCell ⟨w.heap.size, i * 4 + 3, none⟩ (.slice (some ⟨b2, 0, none⟩) (mt ms i).d.length (mt ms i).d.length))) := (((HE2.out.setCell (p := ⟨w.heap.size, i * 4, none⟩) (Nat.le_refl _) _).setCell (p := ⟨w.heap.size, i * 4 + 1, none⟩) (Nat.le_refl _) _).setCell (p := ⟨w.heap.size, i * 4 + 2, none⟩) (Nat.le_refl _) _).setCell (p := ⟨w.heap.size, i * 4 + 3, none⟩) (Nat.le_refl _) _
      clear hc0 hc1 hc2 hc3 hK hE k1 k2 hfz hce hO2 hE2 HC hwl hgr hb2
      go_wp2
      exact ⟨⟨i + 1, by omega, by first | rfl | simp, HK3, HE3⟩, by (simp [intOf]) <;> omega⟩
    · obtain rfl : i = n := by omega
      go_wp2
      go_ret
      exact ⟨_, rfl, ⟨(hK.out.done HLN.out HTT.out (Nat.le_refl _)).1, _, rfl, (hK.out.done HLN.out HTT.out (Nat.le_refl _)).2⟩, hE.out⟩

theorem szMatrixS_yes {a : Option Addr} {n c : Nat} {k : Int} {L : Nat} {ms : List Mat} {w : World} (hr : MatsA w a n ms) (hw : MatsW ms) (hL : n + msL ms n = L) (hk1 : k ≤ 1073741824) (hn : n ≤ maxLen) (h : (L : Int) ≤ k) :
    Calls Try.prog 13 #[.slice a n c, .int .i64 k] w fun e w' => e = .returned (.int .i64 (k - L)) ∧ Ext w w' :=
  (szMatrixS_law a n c k ms w hr hw (by omega) hk1 hn).mono fun e w' h1 => by
    rcases h1 with ⟨⟨h2, h3⟩ | ⟨h2, h3⟩, h4⟩
    · exact ⟨by rw [h3, hL], h4⟩
    · rw [hL] at h2; omega
theorem szMatrixS_no {a : Option Addr} {n c : Nat} {k : Int} {L : Nat} {ms : List Mat} {w : World} (hr : MatsA w a n ms) (hw : MatsW ms) (hL : n + msL ms n = L) (hk0 : 0 ≤ k) (hk1 : k ≤ 1073741824) (hn : n ≤ maxLen) (h : k < (L : Int)) :
    Calls Try.prog 13 #[.slice a n c, .int .i64 k] w fun e w' => e = .returned (.int .i64 (-1)) ∧ Ext w w' :=
  (szMatrixS_law a n c k ms w hr hw hk0 hk1 hn).mono fun e w' h1 => by
    rcases h1 with ⟨⟨h2, h3⟩ | ⟨h2, h3⟩, h4⟩
    · rw [hL] at h2; omega
    · exact ⟨h3, h4⟩
theorem totM_le (ms : List Mat) (n : Nat) (hl : ms.length = n) (hn : n ≤ 1048576) (ht : (dats ms).flatten.length ≤ 1048576) : ((totM ms : Nat) : Int) ≤ 4194304 := by
  have := offM_le ms ms.length
  unfold totM
  omega
end Go.Proofs.Ytnikfalpjieibaa
