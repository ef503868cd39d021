/-
  Lists of a row with a number each (terms, steps), as they are read.
-/
import Derived.Test.YtlnpaplbcocmkaaGreatFr
import Derived.Test.YtlnpaplbcocmkaaGreatRw5
import Derived.Deep.SlicePairs
import Derived.Laws.MakeOwn
namespace Go.Proofs.YtlnpaplbcocmkaaGreat
open Go.ChangeShapes Go.WideShapes Go.ChangeAt Go.RowKit
set_option linter.unusedVariables false
set_option linter.unusedSimpArgs false

def tmR (ts : List (List Int × Int)) (j : Nat) : List Int := (ts.getD j ([], 0)).1
def tmC (ts : List (List Int × Int)) (j : Nat) : Int := (ts.getD j ([], 0)).2
/-- A list of rows with a number each, that may be read. -/
structure TrmR (w : World) (a : Option Addr) (n : Nat) (ts : List (List Int × Int)) : Prop where
  len : ts.length = n
  get : n = 0 ∨ ∃ b o, a = some ⟨b, o, none⟩ ∧ b < w.heap.size ∧ ∀ j, j < n → ∃ aj cj, w.cell? ⟨b, o + j * 2, none⟩ = some (.slice aj (tmR ts j).length cj) ∧ Reads w aj (tmR ts j).length (tmR ts j) ∧ w.cell? ⟨b, o + j * 2 + 1, none⟩ = some (.int .i64 (tmC ts j))
theorem TrmR.ext {w w' : World} {a : Option Addr} {n : Nat} {ts : List (List Int × Int)} (h : TrmR w a n ts) (hE : Ext w w') : TrmR w' a n ts := by
  refine ⟨h.1, ?_⟩
  rcases h.2 with h2 | ⟨b, o, e1, e2, e3⟩
  · exact .inl h2
  · refine .inr ⟨b, o, e1, Nat.lt_of_lt_of_le e2 hE.le, fun j hj => ?_⟩
    obtain ⟨aj, cj, h1, h2, h3⟩ := e3 j hj
    exact ⟨aj, cj, (hE.cells b _ e2).trans h1, h2.ext hE, (hE.cells b _ e2).trans h3⟩
/-- The rows are not too long, the numbers are of 64 bits. -/
def TrmW (ts : List (List Int × Int)) : Prop := (∀ j, j < ts.length → (tmR ts j).length ≤ maxLen) ∧ ∀ j, j < ts.length → -9223372036854775808 ≤ tmC ts j ∧ tmC ts j ≤ 9223372036854775807
/-- How many values the rows hold together, of the first k. -/
def tmL (ts : List (List Int × Int)) : Nat → Nat
  | 0 => 0
  | k + 1 => tmL ts k + (tmR ts k).length
theorem Reads.setO {w : World} {a : Option Addr} {n : Nat} {xs : List Int} {p : Addr} {v : Value} (h : Reads w a n xs) (hne : ∀ z, blk a = some z → z ≠ p.block) : Reads (w.setCell p v) a n xs := by
  refine ⟨h.1, ?_⟩
  rcases h.2 with h2 | ⟨b, o, rfl, hb, hc⟩
  · exact .inl h2
  · refine .inr ⟨b, o, rfl, by simpa using hb, fun j hj => ?_⟩
    rw [World.cell?_setCell_other _ _ _ _ (fun e => hne b rfl (by rw [e]))]
    exact hc j hj
theorem tmL_row (ts : List (List Int × Int)) : ∀ {n j : Nat}, j < n → (tmR ts j).length ≤ tmL ts n
  | 0, _, h => absurd h (Nat.not_lt_zero _)
  | n + 1, j, h => by
    rw [tmL]
    by_cases e : j = n
    · subst e; omega
    · have := tmL_row ts (n := n) (j := j) (by omega); omega
/-- A table of n pairs of cells, of which k are filled. -/
def TblK (w : World) (b n k : Nat) (ts : List (List Int × Int)) : Prop := b < w.heap.size ∧ (∀ j, w.frozen? ⟨b, j, none⟩ = false) ∧ (∀ j, j < n * 2 → ∃ v, w.cell? ⟨b, j, none⟩ = some v) ∧ ∀ j, j < k → ∃ aj cj, (∀ z, blk aj = some z → z ≠ b) ∧ w.cell? ⟨b, j * 2, none⟩ = some (.slice aj (tmR ts j).length cj) ∧ Reads w aj (tmR ts j).length (tmR ts j) ∧ w.cell? ⟨b, j * 2 + 1, none⟩ = some (.int .i64 (tmC ts j))
theorem TblK.ext {w w' : World} {b n k : Nat} {ts : List (List Int × Int)} (h : TblK w b n k ts) (hE : Ext w w') : TblK w' b n k ts :=
  ⟨Nat.lt_of_lt_of_le h.1 hE.le, fun j => (hE.frees b j h.1).trans (h.2.1 j), fun j hj => by obtain ⟨v, e⟩ := h.2.2.1 j hj; exact ⟨v, (hE.cells b j h.1).trans e⟩, fun j hj => by
    obtain ⟨aj, cj, h0, h1, h2, h3⟩ := h.2.2.2 j hj
    exact ⟨aj, cj, h0, (hE.cells b _ h.1).trans h1, h2.ext hE, (hE.cells b _ h.1).trans h3⟩⟩
theorem TblK.done {w : World} {b n : Nat} {ts : List (List Int × Int)} (h : TblK w b n n ts) (hl : ts.length = n) : TrmR w (some ⟨b, 0, none⟩) n ts :=
  ⟨hl, .inr ⟨b, 0, rfl, h.1, fun j hj => by
    obtain ⟨aj, cj, _, h1, h2, h3⟩ := h.2.2.2 j hj
    exact ⟨aj, cj, by rw [Nat.zero_add]; exact h1, h2, by rw [Nat.zero_add]; exact h3⟩⟩⟩
theorem TblK.step {w : World} {b n k a2 : Nat} {ts : List (List Int × Int)} (h : TblK w b n k ts) (hk : k < n) (hr : Reads w (some ⟨a2, 0, none⟩) (tmR ts k).length (tmR ts k)) (ha : a2 ≠ b) : TblK ((w.setCell ⟨b, k * 2, none⟩ (.slice (some ⟨a2, 0, none⟩) (tmR ts k).length (tmR ts k).length)).setCell ⟨b, k * 2 + 1, none⟩ (.int .i64 (tmC ts k))) b n (k + 1) ts := by
  obtain ⟨h1, h2, h3, h4⟩ := h
  obtain ⟨z0, e0⟩ := h3 (k * 2) (by omega)
  obtain ⟨z1, e1⟩ := h3 (k * 2 + 1) (by omega)
  have ne : ∀ {i j : Nat}, i ≠ j → (⟨b, i, none⟩ : Addr) ≠ ⟨b, j, none⟩ := fun hij e => hij (by injection e)
  have s0 : ∀ v : Value, (w.setCell ⟨b, k * 2, none⟩ v).cell? ⟨b, k * 2, none⟩ = some v := fun v => World.cell?_setCell_same _ _ _ e0
  have s1 : ∀ v u : Value, ((w.setCell ⟨b, k * 2, none⟩ v).setCell ⟨b, k * 2 + 1, none⟩ u).cell? ⟨b, k * 2 + 1, none⟩ = some u := fun v u => World.cell?_setCell_same _ _ _ (by rw [World.cell?_setCell_other _ _ _ _ (ne (by omega))]; exact e1)
  refine ⟨by simpa using h1, fun j => by rw [World.frozen?_setCell, World.frozen?_setCell]; exact h2 j, fun j hj => ?_, fun j hj => ?_⟩
  · by_cases c1 : j = k * 2 + 1
    · subst c1; exact ⟨_, s1 _ _⟩
    · rw [World.cell?_setCell_other _ _ _ _ (ne (Ne.symm c1))]
      by_cases c0 : j = k * 2
      · subst c0; exact ⟨_, s0 _⟩
      · rw [World.cell?_setCell_other _ _ _ _ (ne (Ne.symm c0))]; exact h3 j hj
  · by_cases c : j = k
    · subst c
      refine ⟨some ⟨a2, 0, none⟩, (tmR ts j).length, fun z hz => by simp only [blk] at hz; injection hz with hz; rw [← hz]; exact ha, ?_, ?_, s1 _ _⟩
      · rw [World.cell?_setCell_other _ _ _ _ (ne (by omega))]; exact s0 _
      · exact (hr.setO (fun z hz => by simp only [blk] at hz; injection hz with hz; rw [← hz]; exact ha)).setO (fun z hz => by simp only [blk] at hz; injection hz with hz; rw [← hz]; exact ha)
    · obtain ⟨aj, cj, g0, g1, g2, g3⟩ := h4 j (by omega)
      refine ⟨aj, cj, g0, ?_, (g2.setO g0).setO g0, ?_⟩
      · rw [World.cell?_setCell_other _ _ _ _ (ne (by omega)), World.cell?_setCell_other _ _ _ _ (ne (by omega))]; exact g1
      · rw [World.cell?_setCell_other _ _ _ _ (ne (by omega)), World.cell?_setCell_other _ _ _ _ (ne (by omega))]; exact g3
theorem tblK_start (w : World) (n : Nat) (ts : List (List Int × Int)) (t : TypeId) : TblK (w.alloc (.cells (madeCells #[.slice none 0 0, .int .i64 0] (n * 2)) t)) w.heap.size n 0 ts := by
  obtain ⟨cs, hcs⟩ : ∃ cs, madeCells #[.slice none 0 0, .int .i64 0] (n * 2) = cs := ⟨_, rfl⟩
  have hs : cs.size = n * 2 := by rw [← hcs]; unfold madeCells; simp
  rw [hcs]
  have hb : (w.alloc (.cells cs t)).heap[w.heap.size]? = some (.cells cs t (0, 0)) := Array.getElem?_push_size
  refine ⟨by simp, fun j => frozen_of_row _ _ _ _ _ hb, fun j hj => ?_, fun j hj => absurd hj (Nat.not_lt_zero _)⟩
  rw [cell_of_row _ _ j _ _ _ hb]
  exact ⟨_, Array.getElem?_eq_getElem (by rw [hs]; exact hj)⟩

set_option maxRecDepth 100000 in
theorem open_terms {H : Type} {enc : TypeId × Value → H} {W : World} {base : Nat} {v : Value} {d : DataW H} {p : List MemPlace}
    (hv : Value.okWide Tryz.prog W .any base 44 v) (h : DataW.Trod enc Tryz.prog W 0 (fun _ => true) true 44 v d p) :
    ∃ a n c ts, v = .slice a n c ∧ TrmR W a n ts ∧ TrmW ts ∧ n ≤ maxLen := by
  obtain ⟨a0, len0, cap0, rfl⟩ := okWide_slice Tryz.underlying44 hv
  obtain ⟨fuel, hf⟩ := h
  rcases Go.Deep.open_slice_pairs Tryz.underlying44 Tryz.underlying93 (by kernel_rfl) rfl rfl (by kernel_rfl) (by kernel_rfl) (by simpa [Value.cells] using hf) with ⟨hcs, _⟩ | ⟨x, l, c, m, q, V0, V1, D0, D1, P0, P1, hcs, _, hl, hm, hmm, _, hx⟩
  · simp at hcs
    obtain ⟨rfl, rfl, rfl⟩ := hcs
    exact ⟨none, 0, 0, [], rfl, ⟨rfl, .inl rfl⟩, ⟨fun j hj => absurd hj (Nat.not_lt_zero _), fun j hj => absurd hj (Nat.not_lt_zero _)⟩, by omega⟩
  · simp at hcs
    obtain ⟨rfl, rfl, rfl⟩ := hcs
    have hlm : len0 ≤ m := by rw [hmm]; split <;> omega
    have each : ∀ i, i < len0 → ∃ t : (Option Addr × Nat) × (List Int × Int), W.cell? (x.add (i * 2)) = some (.slice t.1.1 t.2.1.length t.1.2) ∧ Reads W t.1.1 t.2.1.length t.2.1 ∧ t.2.1.length ≤ maxLen ∧ W.cell? (x.add (i * 2 + 1)) = some (.int .i64 t.2.2) ∧ -9223372036854775808 ≤ t.2.2 ∧ t.2.2 ≤ 9223372036854775807 := fun i hi => by
      obtain ⟨h0, h1, t0, t1⟩ := hx i (by omega)
      obtain ⟨a, n, c, xs, e0, hr, hm0⟩ := reads_trod t0
      obtain ⟨R, e1, _, hw⟩ := DataW.trod_int Tryz.underlying3 t1
      simp at e0 e1
      rw [e0] at h0
      rw [e1] at h1
      have hn := hr.len
      subst hn
      have hw1 : IntKind.i64.min ≤ R ∧ R ≤ 9223372036854775807 := by simpa [Lit.wf] using hw
      have hw2 : -9223372036854775808 ≤ R ∧ R ≤ 9223372036854775807 := ⟨hw1.1, hw1.2⟩
      exact ⟨((a, c), (xs, R)), h0, hr, hm0, h1, hw2.1, hw2.2⟩
    obtain ⟨t, ht⟩ := Go.Deep.choose_lt each
    have hg : ∀ j, j < len0 → ((List.range len0).map fun i => (t i).2).getD j ([], 0) = (t j).2 := fun j hj => by simp [List.getD_eq_getElem?_getD, hj]
    refine ⟨some x, len0, cap0, (List.range len0).map fun i => (t i).2, rfl, ⟨by simp, ?_⟩, ⟨fun j hj => ?_, fun j hj => ?_⟩, by omega⟩
    · by_cases h0 : len0 = 0
      · exact .inl h0
      · obtain ⟨b, off, spot⟩ := x
        have h1 := (ht 0 (by omega)).1
        have hspot : spot = none := by simpa [Addr.add] using World.cell?_spot h1
        subst hspot
        refine .inr ⟨b, off, rfl, by simpa [Addr.add] using World.block_lt_of_cell? _ _ h1, fun j hj => ?_⟩
        obtain ⟨e1, e2, _, e3, _⟩ := ht j hj
        rw [add_plain] at e1 e3
        refine ⟨(t j).1.1, (t j).1.2, ?_, ?_, ?_⟩
        · rw [tmR, hg j hj]; exact e1
        · rw [tmR, hg j hj]; exact e2
        · rw [tmC, hg j hj]; exact e3
    · have hj : j < len0 := by simpa using hj
      rw [tmR, hg j hj]; exact (ht j hj).2.2.1
    · have hj : j < len0 := by simpa using hj
      rw [tmC, hg j hj]; exact (ht j hj).2.2.2.2

set_option maxRecDepth 100000 in
theorem open_steps {H : Type} {enc : TypeId × Value → H} {W : World} {base : Nat} {v : Value} {d : DataW H} {p : List MemPlace}
    (hv : Value.okWide Tryz.prog W .any base 53 v) (h : DataW.Trod enc Tryz.prog W 0 (fun _ => true) true 53 v d p) :
    ∃ a n c ts, v = .slice a n c ∧ TrmR W a n ts ∧ TrmW ts ∧ n ≤ maxLen := by
  obtain ⟨a0, len0, cap0, rfl⟩ := okWide_slice Tryz.underlying53 hv
  obtain ⟨fuel, hf⟩ := h
  rcases Go.Deep.open_slice_pairs Tryz.underlying53 Tryz.underlying103 (by kernel_rfl) rfl rfl (by kernel_rfl) (by kernel_rfl) (by simpa [Value.cells] using hf) with ⟨hcs, _⟩ | ⟨x, l, c, m, q, V0, V1, D0, D1, P0, P1, hcs, _, hl, hm, hmm, _, hx⟩
  · simp at hcs
    obtain ⟨rfl, rfl, rfl⟩ := hcs
    exact ⟨none, 0, 0, [], rfl, ⟨rfl, .inl rfl⟩, ⟨fun j hj => absurd hj (Nat.not_lt_zero _), fun j hj => absurd hj (Nat.not_lt_zero _)⟩, by omega⟩
  · simp at hcs
    obtain ⟨rfl, rfl, rfl⟩ := hcs
    have hlm : len0 ≤ m := by rw [hmm]; split <;> omega
    have each : ∀ i, i < len0 → ∃ t : (Option Addr × Nat) × (List Int × Int), W.cell? (x.add (i * 2)) = some (.slice t.1.1 t.2.1.length t.1.2) ∧ Reads W t.1.1 t.2.1.length t.2.1 ∧ t.2.1.length ≤ maxLen ∧ W.cell? (x.add (i * 2 + 1)) = some (.int .i64 t.2.2) ∧ -9223372036854775808 ≤ t.2.2 ∧ t.2.2 ≤ 9223372036854775807 := fun i hi => by
      obtain ⟨h0, h1, t0, t1⟩ := hx i (by omega)
      obtain ⟨a, n, c, xs, e0, hr, hm0⟩ := reads_trod t0
      obtain ⟨R, e1, _, hw⟩ := DataW.trod_int Tryz.underlying3 t1
      simp at e0 e1
      rw [e0] at h0
      rw [e1] at h1
      have hn := hr.len
      subst hn
      have hw1 : IntKind.i64.min ≤ R ∧ R ≤ 9223372036854775807 := by simpa [Lit.wf] using hw
      have hw2 : -9223372036854775808 ≤ R ∧ R ≤ 9223372036854775807 := ⟨hw1.1, hw1.2⟩
      exact ⟨((a, c), (xs, R)), h0, hr, hm0, h1, hw2.1, hw2.2⟩
    obtain ⟨t, ht⟩ := Go.Deep.choose_lt each
    have hg : ∀ j, j < len0 → ((List.range len0).map fun i => (t i).2).getD j ([], 0) = (t j).2 := fun j hj => by simp [List.getD_eq_getElem?_getD, hj]
    refine ⟨some x, len0, cap0, (List.range len0).map fun i => (t i).2, rfl, ⟨by simp, ?_⟩, ⟨fun j hj => ?_, fun j hj => ?_⟩, by omega⟩
    · by_cases h0 : len0 = 0
      · exact .inl h0
      · obtain ⟨b, off, spot⟩ := x
        have h1 := (ht 0 (by omega)).1
        have hspot : spot = none := by simpa [Addr.add] using World.cell?_spot h1
        subst hspot
        refine .inr ⟨b, off, rfl, by simpa [Addr.add] using World.block_lt_of_cell? _ _ h1, fun j hj => ?_⟩
        obtain ⟨e1, e2, _, e3, _⟩ := ht j hj
        rw [add_plain] at e1 e3
        refine ⟨(t j).1.1, (t j).1.2, ?_, ?_, ?_⟩
        · rw [tmR, hg j hj]; exact e1
        · rw [tmR, hg j hj]; exact e2
        · rw [tmC, hg j hj]; exact e3
    · have hj : j < len0 := by simpa using hj
      rw [tmR, hg j hj]; exact (ht j hj).2.2.1
    · have hj : j < len0 := by simpa using hj
      rw [tmC, hg j hj]; exact (ht j hj).2.2.2.2
end Go.Proofs.YtlnpaplbcocmkaaGreat
