/-
  Lists of rows as results: the outer slice and the rows lie in blocks of the call's own, all apart; the law package's helpers.
-/
import Derived.Test.YtlnpaplbcocmkaaGreatFr
import Derived.Test.YtlnpaplbcocmkaaGreatRw5
namespace Go.Proofs.YtlnpaplbcocmkaaGreat
open Go.ChangeShapes Go.WideShapes Go.ChangeAt Go.RowKit
set_option linter.unusedVariables false
set_option linter.unusedSimpArgs false

theorem flatten_snoc (rs : List (List Int)) (i : Nat) (hi : i < rs.length) : (rs.take (i + 1)).flatten = (rs.take i).flatten ++ row rs i := by
  rw [List.take_succ_eq_append_getElem hi, List.flatten_append]
  simp [row, List.getD_eq_getElem?_getD, hi]
theorem flatten_le (rs : List (List Int)) (i : Nat) : (rs.take i).flatten.length ≤ rs.flatten.length := by
  have : rs = rs.take i ++ rs.drop i := (List.take_append_drop i rs).symm
  have h2 : rs.flatten = (rs.take i).flatten ++ (rs.drop i).flatten := by rw [← List.flatten_append, ← this]
  rw [h2, List.length_append]; omega
/-- Only blocks from lo to hi are written. -/
structure Touch (lo hi : Nat) (w w' : World) : Prop where
  ext : ∀ W, Ext W w → W.heap.size ≤ lo → Ext W w'
  size : w.heap.size ≤ w'.heap.size
  block : ∀ b, b < w.heap.size → (b < lo ∨ hi ≤ b) → w'.heap[b]? = w.heap[b]?
theorem Touch.refl (lo hi : Nat) (w : World) : Touch lo hi w w := ⟨fun _ h _ => h, Nat.le_refl _, fun _ _ _ => rfl⟩
theorem Touch.grown {lo hi : Nat} {w w1 w2 : World} {row : Option Nat} (h : Touch lo hi w w1) (hg : w1.grownBy w2 row) (hr : ∀ k, row = some k → lo ≤ k ∧ k < hi) : Touch lo hi w w2 :=
  ⟨fun W hE hlo => (h.1 W hE hlo).grown hg (fun k hk => Nat.le_trans hlo (hr k hk).1), Nat.le_trans h.2 hg.size, fun b hb hd => by
    rw [hg.block b (Nat.lt_of_lt_of_le hb h.2) (fun e => by have := hr b e.symm; omega)]
    exact h.3 b hb hd⟩
theorem Own.keep {w w' : World} {lo hi : Nat} {a : Option Addr} {n : Nat} {xs : List Int} (h : Own w lo hi a n xs) (hk : ∀ b, lo ≤ b → b < hi → b < w.heap.size → w'.heap[b]? = w.heap[b]?) : Own w' lo hi a n xs := by
  obtain ⟨h1, h2⟩ := h
  rcases h2 with h2 | ⟨b, rfl, h3, h4, r, h5, h6⟩
  · exact ⟨h1, .inl h2⟩
  · exact ⟨h1, .inr ⟨b, rfl, h3, h4, r, by rw [hk b h3 h4 (Array.getElem?_eq_some_iff.1 h5).1]; exact h5, h6⟩⟩
theorem Own.touch {w w' : World} {lo hi lo' hi' : Nat} {a : Option Addr} {n : Nat} {xs : List Int} (h : Own w lo hi a n xs) (ht : Touch lo' hi' w w') (hd : hi ≤ lo' ∨ hi' ≤ lo) : Own w' lo hi a n xs :=
  h.keep (fun b h1 h2 h3 => ht.block b h3 (by omega))
theorem Cells.touch {w w' : World} {lo hi B : Nat} {vs : List Value} (h : Cells w B vs) (ht : Touch lo hi w w') (hd : B < lo ∨ hi ≤ B) : Cells w' B vs := by
  have hb := ht.block B h.1 hd
  exact ⟨Nat.lt_of_lt_of_le h.1 ht.2, fun j v hv => (World.cell?_of_block (a := ⟨B, j, none⟩) hb).trans (h.2 j v hv), fun j => (World.frozen?_of_block (a := ⟨B, j, none⟩) hb).trans (h.3 j)⟩
theorem Ext.touch {W w w' : World} {lo hi : Nat} (h : Ext W w) (ht : Touch lo hi w w') (hd : W.heap.size ≤ lo) : Ext W w' := ht.1 W h hd
theorem Reads.touch {w w' : World} {lo hi : Nat} {a : Option Addr} {n : Nat} {xs : List Int} (h : Reads w a n xs) (ht : Touch lo hi w w') (hd : w.heap.size ≤ lo) : Reads w' a n xs := h.ext (ht.1 w (Ext.refl w) hd)

/-- A list of rows as a result. -/
structure RowsR (w : World) (lo hi : Nat) (a : Option Addr) (k : Nat) (rs : List (List Int)) : Prop where
  len : rs.length = k
  tot : rs.flatten.length ≤ 1048576
  get : k = 0 ∨ ∃ (g : Nat) (cur : Array Value) (A : Nat → Option Addr) (C : Nat → Nat), a = some ⟨g, 0, none⟩ ∧ lo ≤ g ∧ g < hi ∧ w.heap[g]? = some (.cells cur 22 (0, 0)) ∧ (∀ i, i < k → cur[i]? = some (.slice (A i) (row rs i).length (C i)) ∧ Own w lo hi (A i) (row rs i).length (row rs i)) ∧ ∀ i j b, i < k → j < k → i ≠ j → blk (A i) = some b → blk (A j) ≠ some b
theorem RowsR.keep {w w' : World} {lo hi : Nat} {a : Option Addr} {k : Nat} {rs : List (List Int)} (h : RowsR w lo hi a k rs) (hk : ∀ b, lo ≤ b → b < hi → b < w.heap.size → w'.heap[b]? = w.heap[b]?) : RowsR w' lo hi a k rs := by
  refine ⟨h.1, h.2, ?_⟩
  rcases h.3 with h3 | ⟨g, cur, A, C, e1, e2, e3, e4, e5, e6⟩
  · exact .inl h3
  · exact .inr ⟨g, cur, A, C, e1, e2, e3, by rw [hk g e2 e3 (Array.getElem?_eq_some_iff.1 e4).1]; exact e4, fun i hi => ⟨(e5 i hi).1, (e5 i hi).2.keep hk⟩, e6⟩
theorem RowsR.ext {w w' : World} {lo hi : Nat} {a : Option Addr} {k : Nat} {rs : List (List Int)} (h : RowsR w lo hi a k rs) (hE : Ext w w') : RowsR w' lo hi a k rs := h.keep (fun b _ _ hb => hE.block b hb)
theorem RowsR.grown {w w' : World} {lo hi : Nat} {a : Option Addr} {k : Nat} {rs : List (List Int)} (h : RowsR w lo hi a k rs) {row : Option Nat} (hg : w.grownBy w' row) (hd : ∀ z, row = some z → z < lo ∨ hi ≤ z) : RowsR w' lo hi a k rs :=
  h.keep (fun b h1 h2 hb => hg.block b hb (fun e => by have := hd b e.symm; omega))
theorem RowsR.touch {w w' : World} {lo hi lo' hi' : Nat} {a : Option Addr} {k : Nat} {rs : List (List Int)} (h : RowsR w lo hi a k rs) (ht : Touch lo' hi' w w') (hd : hi ≤ lo' ∨ hi' ≤ lo) : RowsR w' lo hi a k rs :=
  h.keep (fun b h1 h2 hb => ht.block b hb (by omega))
theorem RowsR.mono {w : World} {lo hi lo' hi' : Nat} {a : Option Addr} {k : Nat} {rs : List (List Int)} (h : RowsR w lo hi a k rs) (hl : lo' ≤ lo) (hh : hi ≤ hi') : RowsR w lo' hi' a k rs := by
  refine ⟨h.1, h.2, ?_⟩
  rcases h.3 with h3 | ⟨g, cur, A, C, e1, e2, e3, e4, e5, e6⟩
  · exact .inl h3
  · exact .inr ⟨g, cur, A, C, e1, by omega, by omega, e4, fun i hi => ⟨(e5 i hi).1, (e5 i hi).2.mono hl hh⟩, e6⟩
theorem rowsR_nil (w : World) (lo hi : Nat) (a : Option Addr) : RowsR w lo hi a 0 [] := ⟨rfl, by simp, .inl rfl⟩
/-- What a result of rows is. -/
def Rrows (w w' : World) (v : Value) (rs : List (List Int)) : Prop := ∃ a n c, v = .slice a n c ∧ RowsR w' w.heap.size w'.heap.size a n rs ∧ n ≤ 1048576
theorem row_set (rs : List (List Int)) (i j : Nat) (ys : List Int) (hi : i < rs.length) : row (rs.set i ys) j = if j = i then ys else row rs j := by
  simp only [row, List.getD_eq_getElem?_getD, List.getElem?_set]
  by_cases e : i = j
  · subst e; simp [hi]
  · rw [if_neg e, if_neg (Ne.symm e)]
theorem ext_row {a b : List (List Int)} (hl : a.length = b.length) (h : ∀ i, i < a.length → row a i = row b i) : a = b := by
  refine List.ext_getElem hl (fun i h1 h2 => ?_)
  have := h i h1
  simpa [row, List.getD_eq_getElem?_getD, h1, h2] using this
theorem flatten_len_congr : ∀ (a b : List (List Int)), a.length = b.length → (∀ i, i < a.length → (row a i).length = (row b i).length) → a.flatten.length = b.flatten.length
  | [], [], _, _ => rfl
  | [], _ :: _, h, _ => by simp at h
  | _ :: _, [], h, _ => by simp at h
  | x :: a, y :: b, h, hr => by
    have h0 := hr 0 (by simp)
    simp only [row, List.getD_cons_zero] at h0
    have h1 := flatten_len_congr a b (by simpa using h) (fun i hi => by have := hr (i + 1) (by simp; omega); simpa [row] using this)
    simp only [List.flatten_cons, List.length_append]
    omega
theorem row_len_le (rs : List (List Int)) (i : Nat) (hi : i < rs.length) : (row rs i).length ≤ rs.flatten.length := by
  have h1 := flatten_snoc rs i hi
  have h2 := flatten_le rs (i + 1)
  rw [h1, List.length_append] at h2
  omega
/-- One row, and what becomes of the list when it alone is written. -/
theorem RowsR.at {w : World} {lo hi : Nat} {a : Option Addr} {k : Nat} {rs : List (List Int)} (h : RowsR w lo hi a k rs) {i : Nat} (hi' : i < k) : ∃ g ai ci, a = some ⟨g, 0, none⟩ ∧ g < w.heap.size ∧ w.cell? ⟨g, i, none⟩ = some (.slice ai (row rs i).length ci) ∧ Own w lo hi ai (row rs i).length (row rs i) ∧
    ∀ w' ys, ys.length = (row rs i).length → w.grownBy w' (blk ai) → Own w' lo hi ai ys.length ys → RowsR w' lo hi a k (rs.set i ys) := by
  rcases h.3 with h3 | ⟨g, cur, A, C, e1, e2, e3, e4, e5, e6⟩
  · omega
  refine ⟨g, A i, C i, e1, (Array.getElem?_eq_some_iff.1 e4).1, by rw [cell_of_row w g i _ _ _ e4]; exact (e5 i hi').1, (e5 i hi').2, fun w' ys hys hg ho => ?_⟩
  have hrl : i < rs.length := by rw [h.1]; exact hi'
  have hty : ∀ b, blk (A i) = some b → b ≠ g := fun b hb e => by
    subst e
    rcases (e5 i hi').2.2 with ⟨hn, _⟩ | ⟨b2, hb2, _, _, cur2, hc2, _⟩
    · rw [hn] at hb; simp [blk] at hb
    · rw [hb2] at hb
      simp [blk] at hb
      subst hb
      rw [hc2] at e4
      simp at e4
  refine ⟨by rw [List.length_set]; exact h.1, ?_, .inr ⟨g, cur, A, C, e1, e2, e3, ?_, fun j hj => ?_, e6⟩⟩
  · have := flatten_len_congr (rs.set i ys) rs (by simp) (fun j hj => by
      rw [row_set _ _ _ _ hrl]
      split
      · rename_i e; subst e; exact hys
      · rfl)
    rw [this]; exact h.2
  · rw [hg.block g (Array.getElem?_eq_some_iff.1 e4).1 (fun e => hty g e.symm rfl)]; exact e4
  · rw [row_set _ _ _ _ hrl]
    by_cases e : j = i
    · subst e
      rw [if_pos rfl]
      exact ⟨by rw [hys]; exact (e5 j hj).1, ho⟩
    · rw [if_neg e]
      refine ⟨(e5 j hj).1, ?_⟩
      obtain ⟨h1, h2⟩ := (e5 j hj).2
      rcases h2 with h2 | ⟨b, hb, h5, h6, r, h7, h8⟩
      · exact ⟨h1, .inl h2⟩
      · refine ⟨h1, .inr ⟨b, hb, h5, h6, r, ?_, h8⟩⟩
        rw [hg.block b (Array.getElem?_eq_some_iff.1 h7).1 (fun e' => e6 i j b hi' hj (Ne.symm e) e'.symm (by rw [hb]; rfl))]
        exact h7
/-- The marks, row by row. -/
def offR (rs : List (List Int)) (i : Nat) : Nat := (rs.take i).flatten.length
def mkR (k : Int) (rs : List (List Int)) : List (List Int) := (List.range rs.length).map fun i => marks (k + offR rs i) (row rs i).length
theorem mkR_length (k : Int) (rs : List (List Int)) : (mkR k rs).length = rs.length := by simp [mkR]
theorem row_mkR (k : Int) (rs : List (List Int)) {i : Nat} (hi : i < rs.length) : row (mkR k rs) i = marks (k + offR rs i) (row rs i).length := by
  simp [row, mkR, List.getD_eq_getElem?_getD, hi]
theorem offR_succ (rs : List (List Int)) {i : Nat} (hi : i < rs.length) : offR rs (i + 1) = offR rs i + (row rs i).length := by
  rw [offR, flatten_snoc rs i hi, List.length_append]; rfl
def totR (rs : List (List Int)) : Nat := rs.flatten.length
theorem offR_all (rs : List (List Int)) : offR rs rs.length = totR rs := by rw [offR, List.take_length]; rfl
theorem offR_le (rs : List (List Int)) (i : Nat) : offR rs i ≤ rs.flatten.length := flatten_le rs i

set_option maxHeartbeats 1600000 in
theorem eqIntSS_x (a a' : Option Addr) (lo hi lo' hi' n c c' : Nat) (rs : List (List Int)) (w : World) (hr : RowsR w lo hi a n rs) (hr' : RowsR w lo' hi' a' n rs) (hn : n ≤ 1048576) :
    Calls Tryz.prog 28 #[.slice a n c, .slice a' n c'] w fun e w' => e = .returned (.bool true) ∧ Ext w w' := by
  have HR := Lib.hid hr
  have HR' := Lib.hid hr'
  clear hr hr'
  go_enter Tryz.func28, Tryz.ntmps28
  go_wp2
  go_loopw [5] (fun i wr => ∃ (k : Nat), k ≤ n ∧ i = .int .i64 k ∧ Hid (Ext w wr)) (fun i _ => n - (intOf i).toNat)
  case atStart => exact ⟨0, by omega, rfl, Ext.refl _⟩
  case round =>
    obtain ⟨k, hk, rfl, hE⟩ := hrel
    by_cases hlt : k < n
    · obtain ⟨g, ai, ci, ha, hg, hc, ho, _⟩ := HR.out.at hlt
      obtain ⟨g', ai', ci', ha', hg', hc', ho', _⟩ := HR'.out.at hlt
      subst ha
      subst ha'
      have x1 := (hE.out.cells g k hg).trans hc
      have x2 := (hE.out.cells g' k hg').trans hc'
      have y1 : g < wr.heap.size := Nat.lt_of_lt_of_le hg hE.out.le
      have y2 : g' < wr.heap.size := Nat.lt_of_lt_of_le hg' hE.out.le
      have hb : (row rs k).length ≤ 1048576 := Nat.le_trans (row_len_le rs k (by rw [HR.out.1]; exact hlt)) HR.out.2
      have O1 := Lib.hid (ho.reads.ext hE.out)
      have O2 := Lib.hid (ho'.reads.ext hE.out)
      have hlt' : (k : Int) < (n : Int) := by omega
      clear hc hc' ho ho' hg hg'
      go_wp2_with fail
      go_region_held3 (fun w' => Ext wr w' ∧ (∀ b o, b < wr.heap.size → w'.cell? ⟨b, o, none⟩ = wr.cell? ⟨b, o, none⟩)) (first | assumption | (with_reducible exact ext2 (Ext.trans (And.left ‹Ext wr _ ∧ _›) ‹Ext _ _›)) | (refine ext2 ?_; with_reducible repeat (first | exact Ext.refl _ | exact And.left ‹Ext wr _ ∧ _› | refine Ext.drew ?_ | refine Ext.drewN ?_ _))) (first
        | (go_at_call 22; (with_reducible refine (eqIntS_x ai ai' _ ci ci' (row rs k) _ (O1.out.ext (And.left ‹Ext wr _ ∧ _›)) (O2.out.ext (And.left ‹Ext wr _ ∧ _›)) hb).mono ?_); rintro e w4 ⟨rfl, h4⟩))
      all_goals
        have E9 := Lib.hid (hE.out.trans (And.left ‹Ext wr w4 ∧ _›))
        go_wp2
        exact ⟨⟨k + 1, by omega, by simp, E9⟩, by simp [intOf]; omega⟩
    · go_wp2
      go_ret
      exact ⟨rfl, hE.out⟩

set_option maxHeartbeats 1600000 in
theorem markIntSS_law (lo hi : Nat) (a : Option Addr) (n c : Nat) (rs : List (List Int)) (k : Int) (w : World) (hr : RowsR w lo hi a n rs) (hn : n ≤ 1048576) (hk0 : 0 ≤ k) (hk1 : k ≤ 536870912) :
    Calls Tryz.prog 29 #[.slice a n c, .int .i64 k] w fun e w' => e = .returned (.int .i64 (k + totR rs)) ∧ RowsR w' lo hi a n (mkR k rs) ∧ Touch lo hi w w' := by
  have HR := Lib.hid hr
  clear hr
  have h00 : k + ((offR rs 0 : Nat) : Int) = k := by simp [offR]
  have HOA : Hid (offR rs n = totR rs) := by rw [← HR.out.1]; exact offR_all rs
  have h01 : (Value.int .i64 k) = .int .i64 (k + ((offR rs 0 : Nat) : Int)) := by rw [h00]
  have H01 := Lib.hid h01
  clear h00 h01
  go_enter Tryz.func29, Tryz.ntmps29
  go_wp2
  go_loopw [1, 5] (fun q i wr => ∃ (j : Nat) (ys : List (List Int)), j ≤ n ∧ i = .int .i64 j ∧ q = .int .i64 (k + offR rs j) ∧ Hid (RowsR wr lo hi a n ys) ∧ Hid (∀ i, i < n → (row ys i).length = (row rs i).length ∧ (i < j → row ys i = row (mkR k rs) i)) ∧ Hid (Touch lo hi w wr)) (fun _ i _ => n - (intOf i).toNat)
  case atStart => exact ⟨0, rs, by omega, rfl, H01.out, HR, fun i hi => ⟨rfl, fun h => by omega⟩, Touch.refl _ _ _⟩
  case round =>
    obtain ⟨j, ys, hj, rfl, rfl, h1, h2, h3⟩ := hrel
    by_cases hlt : j < n
    · obtain ⟨g, ai, ci, ha, hg, hc, ho, hn2⟩ := h1.out.at hlt
      subst ha
      have hjr : j < rs.length := by rw [HR.out.1]; exact hlt
      have hlen := (h2.out j hlt).1
      have hs := Lib.hid (offR_succ rs hjr)
      have hb0 := offR_le rs (j + 1)
      have hb1 := HR.out.2
      rw [offR_succ rs hjr] at hb0
      rw [hlen] at hc ho
      have hb2 : (row rs j).length ≤ 1048576 := by omega
      have hb3 : (offR rs j : Int) ≤ 1048576 := by omega
      have HO := Lib.hid ho
      have HN2 := Lib.hid hn2
      have HL := Lib.hid hlen
      have hlt' : (j : Int) < (n : Int) := by omega
      clear ho hn2 hlen hb0 hb1
      go_wp2_with fail
      refine (markIntS_law lo hi ai _ ci (row ys j) _ _ HO.out hb2 (by omega) (by omega)).mono ?_
      rintro e w2 ⟨rfl, ho2, hg2⟩
      have hml : (marks (k + offR rs j) (row rs j).length).length = (row rs j).length := marks_length _ _
      have R2 : Hid (RowsR w2 lo hi (some ⟨g, 0, none⟩) n (ys.set j (marks (k + offR rs j) (row rs j).length))) := HN2.out w2 _ (by rw [hml, HL.out]) hg2 (by rw [hml]; exact ho2)
      have T2 : Hid (Touch lo hi w w2) := h3.out.grown hg2 (fun z hz => HO.out.blk z hz)
      have HY : Hid (∀ i, i < n → (row (ys.set j (marks (k + offR rs j) (row rs j).length)) i).length = (row rs i).length ∧ (i < j + 1 → row (ys.set j (marks (k + offR rs j) (row rs j).length)) i = row (mkR k rs) i)) := fun i hi => by
        have hjy : j < ys.length := by rw [h1.out.1]; exact hlt
        rw [row_set _ _ _ _ hjy]
        by_cases e : i = j
        · subst e
          rw [if_pos rfl, row_mkR k rs hjr]
          exact ⟨hml, fun _ => rfl⟩
        · rw [if_neg e]
          exact ⟨(h2.out i hi).1, fun h => (h2.out i hi).2 (by omega)⟩
      have HQ : Hid (Value.int .i64 (k + (offR rs j : Int) + ((row rs j).length : Int)) = .int .i64 (k + ((offR rs (j + 1) : Nat) : Int))) := by rw [Hid, hs.out]; simp [Int.add_assoc]
      clear hml ho2 hg2 h1 h2 h3 HO HN2 HL hc hg
      go_wp2
      exact ⟨⟨j + 1, _, by omega, by simp, HQ.out, R2, HY, T2⟩, by simp [intOf]; omega⟩
    · obtain rfl : j = n := by omega
      have hy : ys = mkR k rs := ext_row (by rw [h1.out.1, mkR_length, HR.out.1]) (fun i hi => by
        rw [h1.out.1] at hi
        exact (h2.out i hi).2 hi)
      subst hy
      go_wp2
      go_ret
      exact ⟨congrArg (fun z : Nat => Ending.returned (.int .i64 (k + (z : Int)))) HOA.out, h1.out, h3.out⟩

set_option maxHeartbeats 1600000 in
theorem heldIntSS_x (a : Option Addr) (lo hi n c : Nat) (rs : List (List Int)) (k : Int) (w : World) (hr : RowsR w lo hi a n (mkR k rs)) (hn : n ≤ 1048576) (hk0 : 0 ≤ k) (hk1 : k ≤ 536870912) :
    Calls Tryz.prog 30 #[.slice a n c, .int .i64 k] w fun e w' => e = .returned (.int .i64 (k + totR rs)) ∧ Ext w w' := by
  have HR := Lib.hid hr
  clear hr
  have HN : Hid (rs.length = n) := by rw [Hid, ← mkR_length k rs]; exact HR.out.1
  have hfl : (mkR k rs).flatten.length = rs.flatten.length := flatten_len_congr _ _ (mkR_length k rs) (fun i hi => by
    rw [mkR_length] at hi
    rw [row_mkR k rs hi, marks_length])
  have HT : Hid (rs.flatten.length ≤ 1048576) := by rw [Hid, ← hfl]; exact HR.out.2
  clear hfl
  have h00 : k + ((offR rs 0 : Nat) : Int) = k := by simp [offR]
  have HOA : Hid (offR rs n = totR rs) := by rw [← HN.out]; exact offR_all rs
  have h01 : (Value.int .i64 k) = .int .i64 (k + ((offR rs 0 : Nat) : Int)) := by rw [h00]
  have H01 := Lib.hid h01
  clear h00 h01
  go_enter Tryz.func30, Tryz.ntmps30
  go_wp2
  go_loopw [1, 5] (fun q i wr => ∃ (j : Nat), j ≤ n ∧ i = .int .i64 j ∧ q = .int .i64 (k + offR rs j) ∧ Hid (Ext w wr)) (fun _ i _ => n - (intOf i).toNat)
  case atStart => exact ⟨0, by omega, rfl, H01.out, Ext.refl _⟩
  case round =>
    obtain ⟨j, hj, rfl, rfl, hE⟩ := hrel
    by_cases hlt : j < n
    · obtain ⟨g, ai, ci, ha, hg, hc, ho, _⟩ := HR.out.at hlt
      subst ha
      have hjr : j < rs.length := by rw [HN.out]; exact hlt
      have hs := Lib.hid (offR_succ rs hjr)
      have hb0 := offR_le rs (j + 1)
      have hb1 := HT.out
      rw [offR_succ rs hjr] at hb0
      rw [row_mkR k rs hjr, marks_length] at hc ho
      have hb2 : (row rs j).length ≤ 1048576 := by omega
      have hb3 : (offR rs j : Int) ≤ 1048576 := by omega
      have x1 := (hE.out.cells g j hg).trans hc
      have y1 : g < wr.heap.size := Nat.lt_of_lt_of_le hg hE.out.le
      have HO := Lib.hid (ho.reads.ext hE.out)
      have hlt' : (j : Int) < (n : Int) := by omega
      have hpos : 0 ≤ k + (offR rs j : Int) + ((row rs j).length : Int) := by omega
      clear ho hc hg hb0 hb1
      go_wp2_with fail
      refine (heldIntS_x ai _ ci _ _ HO.out hb2 (by omega) (by omega)).mono ?_
      rintro e w2 ⟨rfl, h2⟩
      have E9 := Lib.hid (hE.out.trans h2)
      have HQ : Hid (Value.int .i64 (k + (offR rs j : Int) + ((row rs j).length : Int)) = .int .i64 (k + ((offR rs (j + 1) : Nat) : Int))) := by rw [Hid, hs.out]; simp [Int.add_assoc]
      clear h2 HO hE
      go_wp2
      exact ⟨⟨j + 1, by omega, by simp, HQ.out, E9⟩, by simp [intOf]; omega⟩
    · obtain rfl : j = n := by omega
      go_wp2
      go_ret
      exact ⟨congrArg (fun z : Nat => Ending.returned (.int .i64 (k + (z : Int)))) HOA.out, hE.out⟩
end Go.Proofs.YtlnpaplbcocmkaaGreat
