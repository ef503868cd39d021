/-
  Lists of rows as results: the outer slice and the rows lie in blocks of the call's own, all apart; the law package's helpers.
-/
import Derived.Test.YtnikfalpjieibaaFr
import Derived.Test.YtnikfalpjieibaaRi
namespace Go.Proofs.Ytnikfalpjieibaa
open Go.ChangeShapes Go.WideShapes Go.ChangeAt Go.RowKit
set_option linter.unusedVariables false
set_option linter.unusedSimpArgs false

/-- Only blocks from lo to hi are written. -/
structure Touch (lo hi : Nat) (w w' : World) : Prop where
  ext : ∀ W, Ext W w → W.heap.size ≤ lo → Ext W w'
  size : w.heap.size ≤ w'.heap.size
  block : ∀ b, b < w.heap.size → (b < lo ∨ hi ≤ b) → w'.heap[b]? = w.heap[b]?
theorem Touch.refl (lo hi : Nat) (w : World) : Touch lo hi w w := ⟨fun _ h _ => h, Nat.le_refl _, fun _ _ _ => rfl⟩
theorem Touch.grown {lo hi : Nat} {w w1 w2 : World} {row : Option Nat} (h : Touch lo hi w w1) (hg : w1.grownBy w2 row) (hr : ∀ k, row = some k → lo ≤ k ∧ k < hi) : Touch lo hi w w2 :=
  ⟨fun W hE hlo => (h.1 W hE hlo).grown hg (fun k hk => Nat.le_trans hlo (hr k hk).1), Nat.le_trans h.2 hg.size, fun b hb hd => by
    rw [hg.block b (Nat.lt_of_lt_of_le hb h.2) (fun e => by have := hr b e.symm; omega)]
    exact h.3 b hb hd⟩
theorem Own.keep {w w' : World} {lo hi : Nat} {a : Option Addr} {n : Nat} {xs : List Int} (h : Own w lo hi a n xs) (hk : ∀ b, lo ≤ b → b < hi → b < w.heap.size → w'.heap[b]? = w.heap[b]?) : Own w' lo hi a n xs := by
  obtain ⟨h1, h2⟩ := h
  rcases h2 with h2 | ⟨b, rfl, h3, h4, r, h5, h6⟩
  · exact ⟨h1, .inl h2⟩
  · exact ⟨h1, .inr ⟨b, rfl, h3, h4, r, by rw [hk b h3 h4 (Array.getElem?_eq_some_iff.1 h5).1]; exact h5, h6⟩⟩
theorem Own.touch {w w' : World} {lo hi lo' hi' : Nat} {a : Option Addr} {n : Nat} {xs : List Int} (h : Own w lo hi a n xs) (ht : Touch lo' hi' w w') (hd : hi ≤ lo' ∨ hi' ≤ lo) : Own w' lo hi a n xs :=
  h.keep (fun b h1 h2 h3 => ht.block b h3 (by omega))
theorem Cells.touch {w w' : World} {lo hi B : Nat} {vs : List Value} (h : Cells w B vs) (ht : Touch lo hi w w') (hd : B < lo ∨ hi ≤ B) : Cells w' B vs := by
  have hb := ht.block B h.1 hd
  exact ⟨Nat.lt_of_lt_of_le h.1 ht.2, fun j v hv => (World.cell?_of_block (a := ⟨B, j, none⟩) hb).trans (h.2 j v hv), fun j => (World.frozen?_of_block (a := ⟨B, j, none⟩) hb).trans (h.3 j)⟩
theorem Ext.touch {W w w' : World} {lo hi : Nat} (h : Ext W w) (ht : Touch lo hi w w') (hd : W.heap.size ≤ lo) : Ext W w' := ht.1 W h hd
theorem Reads.touch {w w' : World} {lo hi : Nat} {a : Option Addr} {n : Nat} {xs : List Int} (h : Reads w a n xs) (ht : Touch lo hi w w') (hd : w.heap.size ≤ lo) : Reads w' a n xs := h.ext (ht.1 w (Ext.refl w) hd)

/-- A list of rows as a result. -/
structure RowsR (w : World) (lo hi : Nat) (a : Option Addr) (k : Nat) (rs : List (List Int)) : Prop where
  len : rs.length = k
  tot : rs.flatten.length ≤ 1048576
  get : k = 0 ∨ ∃ (g : Nat) (cur : Array Value) (A : Nat → Option Addr) (C : Nat → Nat), a = some ⟨g, 0, none⟩ ∧ lo ≤ g ∧ g < hi ∧ w.heap[g]? = some (.cells cur 22 (0, 0)) ∧ (∀ i, i < k → cur[i]? = some (.slice (A i) (row rs i).length (C i)) ∧ Own w lo hi (A i) (row rs i).length (row rs i)) ∧ ∀ i j b, i < k → j < k → i ≠ j → blk (A i) = some b → blk (A j) ≠ some b
theorem RowsR.keep {w w' : World} {lo hi : Nat} {a : Option Addr} {k : Nat} {rs : List (List Int)} (h : RowsR w lo hi a k rs) (hk : ∀ b, lo ≤ b → b < hi → b < w.heap.size → w'.heap[b]? = w.heap[b]?) : RowsR w' lo hi a k rs := by
  refine ⟨h.1, h.2, ?_⟩
  rcases h.3 with h3 | ⟨g, cur, A, C, e1, e2, e3, e4, e5, e6⟩
  · exact .inl h3
  · exact .inr ⟨g, cur, A, C, e1, e2, e3, by rw [hk g e2 e3 (Array.getElem?_eq_some_iff.1 e4).1]; exact e4, fun i hi => ⟨(e5 i hi).1, (e5 i hi).2.keep hk⟩, e6⟩
theorem RowsR.ext {w w' : World} {lo hi : Nat} {a : Option Addr} {k : Nat} {rs : List (List Int)} (h : RowsR w lo hi a k rs) (hE : Ext w w') : RowsR w' lo hi a k rs := h.keep (fun b _ _ hb => hE.block b hb)
theorem RowsR.grown {w w' : World} {lo hi : Nat} {a : Option Addr} {k : Nat} {rs : List (List Int)} (h : RowsR w lo hi a k rs) {row : Option Nat} (hg : w.grownBy w' row) (hd : ∀ z, row = some z → z < lo ∨ hi ≤ z) : RowsR w' lo hi a k rs :=
  h.keep (fun b h1 h2 hb => hg.block b hb (fun e => by have := hd b e.symm; omega))
theorem RowsR.touch {w w' : World} {lo hi lo' hi' : Nat} {a : Option Addr} {k : Nat} {rs : List (List Int)} (h : RowsR w lo hi a k rs) (ht : Touch lo' hi' w w') (hd : hi ≤ lo' ∨ hi' ≤ lo) : RowsR w' lo hi a k rs :=
  h.keep (fun b h1 h2 hb => ht.block b hb (by omega))
theorem RowsR.mono {w : World} {lo hi lo' hi' : Nat} {a : Option Addr} {k : Nat} {rs : List (List Int)} (h : RowsR w lo hi a k rs) (hl : lo' ≤ lo) (hh : hi ≤ hi') : RowsR w lo' hi' a k rs := by
  refine ⟨h.1, h.2, ?_⟩
  rcases h.3 with h3 | ⟨g, cur, A, C, e1, e2, e3, e4, e5, e6⟩
  · exact .inl h3
  · exact .inr ⟨g, cur, A, C, e1, by omega, by omega, e4, fun i hi => ⟨(e5 i hi).1, (e5 i hi).2.mono hl hh⟩, e6⟩
theorem rowsR_nil (w : World) (lo hi : Nat) (a : Option Addr) : RowsR w lo hi a 0 [] := ⟨rfl, by simp, .inl rfl⟩
/-- What a result of rows is. -/
def Rrows (w w' : World) (v : Value) (rs : List (List Int)) : Prop := ∃ a n c, v = .slice a n c ∧ RowsR w' w.heap.size w'.heap.size a n rs ∧ n ≤ 1048576
theorem row_set (rs : List (List Int)) (i j : Nat) (ys : List Int) (hi : i < rs.length) : row (rs.set i ys) j = if j = i then ys else row rs j := by
  simp only [row, List.getD_eq_getElem?_getD, List.getElem?_set]
  by_cases e : i = j
  · subst e; simp [hi]
  · rw [if_neg e, if_neg (Ne.symm e)]
theorem ext_row {a b : List (List Int)} (hl : a.length = b.length) (h : ∀ i, i < a.length → row a i = row b i) : a = b := by
  refine List.ext_getElem hl (fun i h1 h2 => ?_)
  have := h i h1
  simpa [row, List.getD_eq_getElem?_getD, h1, h2] using this
theorem flatten_len_congr : ∀ (a b : List (List Int)), a.length = b.length → (∀ i, i < a.length → (row a i).length = (row b i).length) → a.flatten.length = b.flatten.length
  | [], [], _, _ => rfl
  | [], _ :: _, h, _ => by simp at h
  | _ :: _, [], h, _ => by simp at h
  | x :: a, y :: b, h, hr => by
    have h0 := hr 0 (by simp)
    simp only [row, List.getD_cons_zero] at h0
    have h1 := flatten_len_congr a b (by simpa using h) (fun i hi => by have := hr (i + 1) (by simp; omega); simpa [row] using this)
    simp only [List.flatten_cons, List.length_append]
    omega
theorem row_len_le (rs : List (List Int)) (i : Nat) (hi : i < rs.length) : (row rs i).length ≤ rs.flatten.length := by
  have h1 := flatten_snoc rs i hi
  have h2 := flatten_le rs (i + 1)
  rw [h1, List.length_append] at h2
  omega
/-- One row, and what becomes of the list when it alone is written. -/
theorem RowsR.at {w : World} {lo hi : Nat} {a : Option Addr} {k : Nat} {rs : List (List Int)} (h : RowsR w lo hi a k rs) {i : Nat} (hi' : i < k) : ∃ g ai ci, a = some ⟨g, 0, none⟩ ∧ g < w.heap.size ∧ w.cell? ⟨g, i, none⟩ = some (.slice ai (row rs i).length ci) ∧ Own w lo hi ai (row rs i).length (row rs i) ∧
    ∀ w' ys, ys.length = (row rs i).length → w.grownBy w' (blk ai) → Own w' lo hi ai ys.length ys → RowsR w' lo hi a k (rs.set i ys) := by
  rcases h.3 with h3 | ⟨g, cur, A, C, e1, e2, e3, e4, e5, e6⟩
  · omega
  refine ⟨g, A i, C i, e1, (Array.getElem?_eq_some_iff.1 e4).1, by rw [cell_of_row w g i _ _ _ e4]; exact (e5 i hi').1, (e5 i hi').2, fun w' ys hys hg ho => ?_⟩
  have hrl : i < rs.length := by rw [h.1]; exact hi'
  have hty : ∀ b, blk (A i) = some b → b ≠ g := fun b hb e => by
    subst e
    rcases (e5 i hi').2.2 with ⟨hn, _⟩ | ⟨b2, hb2, _, _, cur2, hc2, _⟩
    · rw [hn] at hb; simp [blk] at hb
    · rw [hb2] at hb
      simp [blk] at hb
      subst hb
      rw [hc2] at e4
      simp at e4
  refine ⟨by rw [List.length_set]; exact h.1, ?_, .inr ⟨g, cur, A, C, e1, e2, e3, ?_, fun j hj => ?_, e6⟩⟩
  · have := flatten_len_congr (rs.set i ys) rs (by simp) (fun j hj => by
      rw [row_set _ _ _ _ hrl]
      split
      · rename_i e; subst e; exact hys
      · rfl)
    rw [this]; exact h.2
  · rw [hg.block g (Array.getElem?_eq_some_iff.1 e4).1 (fun e => hty g e.symm rfl)]; exact e4
  · rw [row_set _ _ _ _ hrl]
    by_cases e : j = i
    · subst e
      rw [if_pos rfl]
      exact ⟨by rw [hys]; exact (e5 j hj).1, ho⟩
    · rw [if_neg e]
      refine ⟨(e5 j hj).1, ?_⟩
      obtain ⟨h1, h2⟩ := (e5 j hj).2
      rcases h2 with h2 | ⟨b, hb, h5, h6, r, h7, h8⟩
      · exact ⟨h1, .inl h2⟩
      · refine ⟨h1, .inr ⟨b, hb, h5, h6, r, ?_, h8⟩⟩
        rw [hg.block b (Array.getElem?_eq_some_iff.1 h7).1 (fun e' => e6 i j b hi' hj (Ne.symm e) e'.symm (by rw [hb]; rfl))]
        exact h7
/-- The marks, row by row. -/
def offR (rs : List (List Int)) (i : Nat) : Nat := (rs.take i).flatten.length
def mkR (k : Int) (rs : List (List Int)) : List (List Int) := (List.range rs.length).map fun i => marks (k + offR rs i) (row rs i).length
theorem mkR_length (k : Int) (rs : List (List Int)) : (mkR k rs).length = rs.length := by simp [mkR]
theorem row_mkR (k : Int) (rs : List (List Int)) {i : Nat} (hi : i < rs.length) : row (mkR k rs) i = marks (k + offR rs i) (row rs i).length := by
  simp [row, mkR, List.getD_eq_getElem?_getD, hi]
theorem offR_succ (rs : List (List Int)) {i : Nat} (hi : i < rs.length) : offR rs (i + 1) = offR rs i + (row rs i).length := by
  rw [offR, flatten_snoc rs i hi, List.length_append]; rfl
def totR (rs : List (List Int)) : Nat := rs.flatten.length
theorem offR_all (rs : List (List Int)) : offR rs rs.length = totR rs := by rw [offR, List.take_length]; rfl
theorem offR_le (rs : List (List Int)) (i : Nat) : offR rs i ≤ rs.flatten.length := flatten_le rs i

end Go.Proofs.Ytnikfalpjieibaa
