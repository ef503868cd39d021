/-
  Slices of integers in memory: what a slice that came in shows (Reads), what a block of the call's own holds (Has), and the law package's helpers over them.
-/
import Derived.Test.YthblbaglemoalaaNum
import Derived.Deep.QuietTactic
import Derived.BigQuiet
import Derived.Carry
namespace Go.Proofs.Ythblbaglemoalaa
open Go.RowKit
set_option linter.unusedVariables false

/-- The integer at a place of a list (0 behind its end). Plain on purpose: the walk does not look into it. -/
def gi (xs : List Int) (k : Nat) : Int := xs.getD k 0

/-- The cells of a list of integers. -/
def ints (xs : List Int) : Array Value := (xs.map (Value.int .i64)).toArray
theorem ints_size (xs : List Int) : (ints xs).size = xs.length := by simp [ints]
theorem ints_set (xs : List Int) (k : Nat) (v : Int) : (ints xs).setIfInBounds k (.int .i64 v) = ints (xs.set k v) := by
  simp [ints, List.map_set]
theorem ints_get (xs : List Int) (k : Nat) (h : k < xs.length) : (ints xs)[k]? = some (.int .i64 (gi xs k)) := by
  simp [ints, gi, h]
theorem madeCells_ints (n : Nat) : madeCells #[Value.int .i64 0] n = ints (List.replicate n 0) := by
  apply Array.toList_inj.1
  rw [toList_madeCells_one]
  simp [ints]

/-- Block b holds the integers xs from its head on, and is no constant's. -/
def Has (w : World) (b : Nat) (xs : List Int) : Prop := ∃ rest, w.heap[b]? = some (.cells (ints (xs ++ rest)) 3 (0, 0))

theorem Has.lt {w : World} {b : Nat} {xs : List Int} (h : Has w b xs) : b < w.heap.size := by
  obtain ⟨r, h⟩ := h
  exact (Array.getElem?_eq_some_iff.1 h).1
theorem Has.cell {w : World} {b : Nat} {xs : List Int} (h : Has w b xs) (j : Nat) (hj : j < xs.length) : w.cell? ⟨b, j, none⟩ = some (.int .i64 (gi xs j)) := by
  obtain ⟨r, h⟩ := h
  rw [cell_of_row w b j _ _ _ h, ints_get _ _ (by simp; omega)]
  simp [gi, List.getElem?_append_left hj]
theorem Has.free {w : World} {b : Nat} {xs : List Int} (h : Has w b xs) (j : Nat) : w.frozen? ⟨b, j, none⟩ = false := by
  obtain ⟨r, h⟩ := h
  exact frozen_of_row w b j _ _ h
theorem Has.set {w : World} {b : Nat} {xs : List Int} (h : Has w b xs) (j : Nat) (hj : j < xs.length) (v : Int) : Has (w.setCell ⟨b, j, none⟩ (.int .i64 v)) b (xs.set j v) := by
  obtain ⟨r, h⟩ := h
  refine ⟨r, ?_⟩
  rw [heap_setCell_same w b j _ _ _ h, ints_set, List.set_append_left _ _ hj]
theorem Has.setOther {w : World} {b : Nat} {xs : List Int} (h : Has w b xs) {p : Addr} (hp : p.block ≠ b) (v : Value) : Has (w.setCell p v) b xs := by
  obtain ⟨r, h⟩ := h
  exact ⟨r, by rw [Below.heap_setCell _ _ _ _ (Ne.symm hp)]; exact h⟩
theorem Has.below {w w' : World} {b B : Nat} {xs : List Int} (h : Has w b xs) (hb : Below B w w') (hB : b < B) : Has w' b xs := by
  obtain ⟨r, h⟩ := h
  exact ⟨r, by rw [hb.block b hB]; exact h⟩
theorem Has.alloc {w : World} {b : Nat} {xs : List Int} (h : Has w b xs) (o : Obj) : Has (w.alloc o) b xs :=
  h.below ((Below.refl w.heap.size w).alloc (Nat.le_refl _) o) h.lt
theorem Has.new (w : World) (xs : List Int) : Has (w.alloc (.cells (ints xs) 3)) w.heap.size xs :=
  ⟨[], by rw [List.append_nil]; exact heap_alloc_new w _⟩
theorem Has.take {w : World} {b : Nat} {xs : List Int} (h : Has w b xs) (k : Nat) : Has w b (xs.take k) := by
  obtain ⟨r, h⟩ := h
  exact ⟨xs.drop k ++ r, by rw [← List.append_assoc, List.take_append_drop]; exact h⟩

/-- A slice that came in, or was made, shows the integers xs. -/
def Reads (w : World) (a : Option Addr) (n : Nat) (xs : List Int) : Prop :=
  xs.length = n ∧ (n = 0 ∨ ∃ b off, a = some ⟨b, off, none⟩ ∧ b < w.heap.size ∧ ∀ j, j < n → w.cell? ⟨b, off + j, none⟩ = some (.int .i64 (gi xs j)))

theorem Reads.len {w : World} {a : Option Addr} {n : Nat} {xs : List Int} (h : Reads w a n xs) : xs.length = n := h.1
theorem Reads.below {w w' : World} {a : Option Addr} {n : Nat} {xs : List Int} (h : Reads w a n xs) (hb : Below w.heap.size w w') : Reads w' a n xs := by
  refine ⟨h.1, ?_⟩
  rcases h.2 with h | ⟨b, off, rfl, hlt, hc⟩
  · exact .inl h
  · refine .inr ⟨b, off, rfl, Nat.lt_of_lt_of_le hlt hb.size, fun j hj => ?_⟩
    rw [hb.cell hlt]
    exact hc j hj
theorem Has.reads {w : World} {b : Nat} {xs : List Int} (h : Has w b xs) {n : Nat} (hn : xs.length = n) : Reads w (some ⟨b, 0, none⟩) n xs :=
  ⟨hn, .inr ⟨b, 0, rfl, h.lt, fun j hj => by rw [Nat.zero_add]; exact h.cell j (by omega)⟩⟩
theorem reads_nil (w : World) (a : Option Addr) : Reads w a 0 [] := ⟨rfl, .inl rfl⟩

theorem take_set_snoc (xs ys : List Int) (k : Nat) (hk : k < xs.length) (hl : ys.length = xs.length) (ht : ys.take k = xs.take k) :
    (ys.set k (gi xs k)).take (k + 1) = xs.take (k + 1) := by
  apply List.ext_getElem?
  intro i
  have hi := congrArg (·[i]?) ht
  simp only [List.getElem?_take, List.getElem?_set] at hi ⊢
  by_cases h1 : i < k
  · have h2 : k ≠ i := by omega
    have h3 : i < k + 1 := by omega
    simpa [h1, h2, h3] using hi
  · by_cases h2 : i = k
    · subst h2
      have h3 : i < ys.length := by omega
      simp [h3, hk, gi]
    · have h3 : ¬ i < k + 1 := by omega
      simp [h3]

theorem Try.infoInt : (Try.prog.info? 3).map (fun i => (i.zero, i.size, i.bytes)) = some (some (.int .i64 0), 1, 8) := by kernel_rfl

/-- 'make([]int, n)'. -/
theorem make_ints (n : Nat) (hn : n ≤ 1048576) (w : World) :
    (Instr.makeSlice 25 (.int .i64 (n : Int)) (.int .i64 (n : Int))).run Try.prog w = .ok (.slice (some ⟨w.heap.size, 0, none⟩) n n) (w.alloc (.cells (ints (List.replicate n 0)) 3)) := by
  obtain ⟨i0, hi, hz0, hz1, hz2⟩ := info_parts Try.infoInt
  have h := run_make (P := Try.prog) w 25 3 i0 (.int .i64 0) Try.underlying25 hi hz0 .i64 .i64 n n (by omega) (by omega) (by rw [hz2]; omega) (by omega)
  simp only [Int.toNat_natCast, hz1, Nat.mul_one] at h
  rw [h]
  have : (Value.int IntKind.i64 0).cells = #[Value.int .i64 0] := rfl
  rw [this, madeCells_ints]

/-- What the marks are: k, k + 1, .. -/
def marks (k : Int) (n : Nat) : List Int := (List.range n).map fun i : Nat => k + (i : Int)
theorem marks_length (k : Int) (n : Nat) : (marks k n).length = n := by simp [marks]
theorem gi_marks (k : Int) (n j : Nat) (h : j < n) : gi (marks k n) j = k + j := by simp [gi, marks, h]
theorem marks_step (ys : List Int) (k : Int) (n j : Nat) (hj : j < n) (hl : ys.length = n) (ht : ys.take j = (marks k n).take j) :
    (ys.set j (k + j)).take (j + 1) = (marks k n).take (j + 1) := by
  have := take_set_snoc (marks k n) ys j (by rw [marks_length]; exact hj) (by rw [marks_length]; exact hl) ht
  rwa [gi_marks k n j hj] at this

/-- A slice of the call's own, from block 'base' on: it holds xs, and may be written. -/
def Own (w : World) (base : Nat) (a : Option Addr) (n : Nat) (xs : List Int) : Prop :=
  xs.length = n ∧ (n = 0 ∨ ∃ b, a = some ⟨b, 0, none⟩ ∧ base ≤ b ∧ Has w b xs)
def blk (a : Option Addr) : Option Nat := a.map (·.block)
theorem Own.reads {w : World} {base : Nat} {a : Option Addr} {n : Nat} {xs : List Int} (h : Own w base a n xs) : Reads w a n xs := by
  obtain ⟨h1, h2⟩ := h
  rcases h2 with h2 | ⟨b, rfl, _, h2⟩
  · exact ⟨h1, .inl h2⟩
  · exact h2.reads h1
theorem Own.below {w w' : World} {base B : Nat} {a : Option Addr} {n : Nat} {xs : List Int} (h : Own w base a n xs) (hb : Below w.heap.size w w') : Own w' base a n xs := by
  obtain ⟨h1, h2⟩ := h
  rcases h2 with h2 | ⟨b, rfl, h3, h2⟩
  · exact ⟨h1, .inl h2⟩
  · exact ⟨h1, .inr ⟨b, rfl, h3, h2.below hb h2.lt⟩⟩
theorem Own.mono {w : World} {base base' : Nat} {a : Option Addr} {n : Nat} {xs : List Int} (h : Own w base a n xs) (hb : base' ≤ base) : Own w base' a n xs := by
  obtain ⟨h1, h2⟩ := h
  rcases h2 with h2 | ⟨b, rfl, h3, h2⟩
  · exact ⟨h1, .inl h2⟩
  · exact ⟨h1, .inr ⟨b, rfl, Nat.le_trans hb h3, h2⟩⟩
theorem Has.own {w : World} {b base : Nat} {xs : List Int} (h : Has w b xs) (hb : base ≤ b) {n : Nat} (hn : xs.length = n) : Own w base (some ⟨b, 0, none⟩) n xs :=
  ⟨hn, .inr ⟨b, rfl, hb, h⟩⟩
theorem own_nil (w : World) (base : Nat) (a : Option Addr) : Own w base a 0 [] := ⟨rfl, .inl rfl⟩

theorem below_drewN {B : Nat} {w : World} (n : Nat) : Below B w (w.drewN n) := ⟨rfl, rfl, rfl, Nat.le_refl _, fun _ _ => rfl⟩

/-- Nothing that was there has changed: the world has at most new blocks. -/
def Ext (w w' : World) : Prop := Below w.heap.size w w'
theorem Ext.refl (w : World) : Ext w w := Below.refl _ _
theorem Ext.trans {a b c : World} (h : Ext a b) (h' : Ext b c) : Ext a c := Below.trans h (Below.mono h' h.size)
theorem Ext.alloc {w w' : World} (h : Ext w w') (o : Obj) : Ext w (w'.alloc o) := Below.alloc h h.size o
theorem Ext.drewN {w w' : World} (h : Ext w w') (n : Nat) : Ext w (w'.drewN n) := Below.trans h (below_drewN n)
theorem Ext.drew {w w' : World} (h : Ext w w') : Ext w w'.drew := Below.drew h
theorem Ext.setCell {w w' : World} (h : Ext w w') {p : Addr} (hp : w.heap.size ≤ p.block) (u : Value) : Ext w (w'.setCell p u) := Below.setCell h hp u
theorem Ext.grown {w w' w'' : World} {row : Option Nat} (h : Ext w w') (hg : w'.grownBy w'' row) (hr : ∀ k, row = some k → w.heap.size ≤ k) : Ext w w'' := Below.grown h hg h.size hr
theorem Ext.le {w w' : World} (h : Ext w w') : w.heap.size ≤ w'.heap.size := h.size
theorem Ext.cells {W w1 : World} (hb : Ext W w1) : ∀ b o, b < W.heap.size → w1.cell? ⟨b, o, none⟩ = W.cell? ⟨b, o, none⟩ := fun b o h => Below.cell hb (p := ⟨b, o, none⟩) h
theorem Ext.frees {W w1 : World} (hb : Ext W w1) : ∀ b o, b < W.heap.size → w1.frozen? ⟨b, o, none⟩ = W.frozen? ⟨b, o, none⟩ := fun b o h => Below.frozen hb (p := ⟨b, o, none⟩) h
theorem Reads.ext {w w' : World} {a : Option Addr} {n : Nat} {xs : List Int} (h : Reads w a n xs) (hb : Ext w w') : Reads w' a n xs := h.below hb
theorem Own.ext {w w' : World} {base : Nat} {a : Option Addr} {n : Nat} {xs : List Int} (h : Own w base a n xs) (hb : Ext w w') : Own w' base a n xs := h.below (B := 0) hb
theorem Has.ext {w w' : World} {b : Nat} {xs : List Int} (h : Has w b xs) (hb : Ext w w') : Has w' b xs := Has.below h hb h.lt

set_option maxHeartbeats 400000 in
/-- 'toIntS' makes a copy. -/
theorem toIntS_law (a : Option Addr) (n c : Nat) (xs : List Int) (w : World) (hr : Reads w a n xs) (hn : n ≤ 1048576) :
    Calls Try.prog 51 #[.slice a n c] w fun e w' => ∃ b, e = .returned (.slice (some ⟨b, 0, none⟩) n n) ∧ w.heap.size ≤ b ∧ Has w' b xs ∧ Ext w w' := by
  have hmk := make_ints n hn
  have hl := Lib.hid hr.1
  have HR := Lib.hid hr.2
  clear hr
  go_enter Try.func51, Try.ntmps51
  go_wp2
  clear hmk
  go_loopw [4] (fun i wr => ∃ (k : Nat) (l : List Int), k ≤ n ∧ i = .int .i64 k ∧ Hid (l.length = n) ∧ Hid (l.take k = xs.take k) ∧ wr = w.alloc (.cells (ints l) 3)) (fun i _ => n - (intOf i).toNat)
  case atStart => exact ⟨0, List.replicate n 0, by omega, rfl, by simp [Hid], by simp [Hid], rfl⟩
  case round =>
    obtain ⟨k, l, hk, rfl, h1, h2, rfl⟩ := hrel
    by_cases hlt : k < n
    · rcases HR.out with h | ⟨b, off, rfl, hb, hc⟩
      · omega
      have hc1 : (w.alloc (.cells (ints l) 3)).cell? ⟨b, off + k, none⟩ = some (.int .i64 (gi xs k)) := by
        rw [World.cell?_alloc_past _ _ _ hb]; exact hc k hlt
      have hc2 : (w.alloc (.cells (ints l) 3)).cell? ⟨w.heap.size, k, none⟩ = some (.int .i64 (gi l k)) := by
        rw [World.cell?_alloc_at _ _ _ _ rfl]; exact ints_get _ _ (by rw [h1.out]; exact hlt)
      have hf2 : (w.alloc (.cells (ints l) 3)).frozen? ⟨w.heap.size, k, none⟩ = false := World.frozen?_alloc_at _ _ _ _ rfl
      clear hc
      have H3 : Hid ((l.set k (gi xs k)).take (k + 1) = xs.take (k + 1)) := take_set_snoc xs l k (by rw [hl.out]; exact hlt) (by rw [h1.out, hl.out]) h2.out
      go_wp2
      exact ⟨⟨k + 1, l.set k (gi xs k), by omega, by simp, by rw [Hid, List.length_set]; exact h1.out, H3, by rw [ints_set]⟩, by simp [intOf]; omega⟩
    · obtain rfl : k = n := by omega
      have hll : Hid (l = xs) := by
        have := h2.out
        rwa [List.take_of_length_le (by rw [h1.out]; exact Nat.le_refl _), List.take_of_length_le (by rw [hl.out]; exact Nat.le_refl _)] at this
      go_wp2
      go_ret
      exact ⟨w.heap.size, rfl, Nat.le_refl _, by rw [hll.out]; exact Has.new w xs, (Ext.refl _).alloc _⟩

set_option maxHeartbeats 400000 in
/-- 'eqIntS' at equal lists. -/
theorem eqIntS_law (a a' : Option Addr) (n c c' : Nat) (xs : List Int) (w : World) (hr : Reads w a n xs) (hr' : Reads w a' n xs) (hn : n ≤ 1048576) :
    Calls Try.prog 54 #[.slice a n c, .slice a' n c'] w fun e w' => e = .returned (.bool true) ∧ ∃ m, w' = w.drewN m := by
  have HR := Lib.hid hr.2
  have HR' := Lib.hid hr'.2
  clear hr hr'
  go_enter Try.func54, Try.ntmps54
  go_wp2
  go_loopw [5] (fun i wr => ∃ (k m : Nat), k ≤ n ∧ i = .int .i64 k ∧ wr = w.drewN m) (fun i _ => n - (intOf i).toNat)
  case atStart => exact ⟨0, 0, by omega, rfl, rfl⟩
  case round =>
    obtain ⟨k, m, hk, rfl, rfl⟩ := hrel
    by_cases hlt : k < n
    · rcases HR.out with h | ⟨b, off, rfl, hb, hc⟩
      · omega
      rcases HR'.out with h | ⟨b', off', rfl, hb', hc'⟩
      · omega
      have hc1 := hc k hlt
      have hc2 := hc' k hlt
      have hlt' : (k : Int) < (n : Int) := by omega
      clear hc hc'
      go_wp2
      go_quiet (fail)
      go_wp2
      exact ⟨⟨k + 1, m + nq, by omega, by simp, by simp⟩, by simp [intOf]; omega⟩
    · go_wp2
      go_ret
      exact ⟨rfl, m, rfl⟩

set_option maxHeartbeats 400000 in
/-- 'markIntS' writes the marks. -/
theorem markIntS_law (base : Nat) (a : Option Addr) (n c : Nat) (xs : List Int) (k : Int) (w : World) (hr : Own w base a n xs) (hn : n ≤ 1048576) (hk0 : 0 ≤ k) (hk1 : k ≤ 1073741824) :
    Calls Try.prog 57 #[.slice a n c, .int .i64 k] w fun e w' => e = .returned (.int .i64 (k + n)) ∧ Own w' base a n (marks k n) ∧ w.grownBy w' (blk a) := by
  have hl := Lib.hid hr.1
  have HR := Lib.hid hr.2
  clear hr
  go_enter Try.func57, Try.ntmps57
  go_wp2
  go_loopw [1, 5] (fun q i wr => ∃ (j : Nat) (l : List Int), j ≤ n ∧ i = .int .i64 j ∧ q = .int .i64 (k + j) ∧ Hid (l.take j = (marks k n).take j) ∧ Hid (Own wr base a n l) ∧ Hid (w.grownBy wr (blk a))) (fun _ i _ => n - (intOf i).toNat)
  case atStart => exact ⟨0, xs, by omega, rfl, by simp, by simp [Hid], ⟨hl.out, HR.out⟩, ⟨rfl, rfl, rfl, Nat.le_refl _, fun _ _ _ => rfl⟩⟩
  case round =>
    obtain ⟨j, l, hj, rfl, rfl, h1, h2, h3⟩ := hrel
    by_cases hlt : j < n
    · rcases h2.out with ⟨h4, h | ⟨b, rfl, hb, hh⟩⟩
      · omega
      have hc1 := hh.cell j (by omega)
      have hf1 := hh.free j
      have H5 : Hid ((l.set j (k + j)).take (j + 1) = (marks k n).take (j + 1)) := marks_step l k n j hlt h4 h1.out
      have H6 := Lib.hid (hh.set j (by omega) (k + j))
      have H4 := Lib.hid h4
      clear hh h4
      go_wp2
      exact ⟨⟨j + 1, l.set j (k + j), by omega, by simp, by simp; omega, H5, ⟨by rw [List.length_set]; exact H4.out, .inr ⟨b, rfl, hb, H6.out⟩⟩, ⟨h3.out.os, h3.out.tape, h3.out.output, by simpa using h3.out.size, fun i hi hne => by rw [Below.heap_setCell _ _ _ _ (by intro e; exact hne (by simp [blk, e]))]; exact h3.out.block i hi hne⟩⟩, by simp [intOf]; omega⟩
    · obtain rfl : j = n := by omega
      have hll : Hid (l = marks k j) := by
        have := h1.out
        rwa [List.take_of_length_le (by rw [h2.out.1]; exact Nat.le_refl _), List.take_of_length_le (by rw [marks_length]; exact Nat.le_refl _)] at this
      go_wp2
      go_ret
      exact ⟨rfl, by rw [← hll.out]; exact h2.out, h3.out⟩

set_option maxHeartbeats 400000 in
/-- 'heldIntS' where the marks stand. -/
theorem heldIntS_law (a : Option Addr) (n c : Nat) (k : Int) (w : World) (hr : Reads w a n (marks k n)) (hn : n ≤ 1048576) (hk0 : 0 ≤ k) (hk1 : k ≤ 1073741824) :
    Calls Try.prog 58 #[.slice a n c, .int .i64 k] w fun e w' => e = .returned (.int .i64 (k + n)) ∧ w = w' := by
  have HR := Lib.hid hr.2
  clear hr
  go_enter Try.func58, Try.ntmps58
  go_wp2
  go_loop [1, 5] (fun q i => ∃ (j : Nat), j ≤ n ∧ i = .int .i64 j ∧ q = .int .i64 (k + j)) (fun _ i => n - (intOf i).toNat)
  case atStart => exact ⟨0, by omega, rfl, by simp⟩
  case round =>
    obtain ⟨j, hj, rfl, rfl⟩ := hrel
    by_cases hlt : j < n
    · rcases HR.out with h | ⟨b, off, rfl, hb, hc⟩
      · omega
      have hc1 := hc j hlt
      rw [gi_marks k n j hlt] at hc1
      clear hc
      go_wp2
      exact ⟨⟨j + 1, by omega, by simp, by simp; omega⟩, by simp [intOf]; omega⟩
    · obtain rfl : j = n := by omega
      go_wp2
      go_ret
      exact ⟨rfl, rfl⟩

set_option maxHeartbeats 400000 in
theorem szIntS_yes (a : Option Addr) (n c : Nat) (k : Int) (w : World) (hk1 : k ≤ 1073741824) (hn : (n : Int) ≤ k) :
    Calls Try.prog 48 #[.slice a n c, .int .i64 k] w fun e w' => e = .returned (.int .i64 (k - n)) ∧ w = w' := by
  have h : 0 ≤ k - n := by omega
  go_enter Try.func48, Try.ntmps48
  go_wp2
  go_ret
  exact ⟨rfl, rfl⟩
set_option maxHeartbeats 400000 in
theorem szIntS_no (a : Option Addr) (n c : Nat) (k : Int) (w : World) (hk0 : 0 ≤ k) (hk1 : k ≤ 1073741824) (hn : n ≤ maxLen) (hlt : k < (n : Int)) :
    Calls Try.prog 48 #[.slice a n c, .int .i64 k] w fun e w' => e = .returned (.int .i64 (-1)) ∧ w = w' := by
  unfold maxLen at hn
  have h : k - n < 0 := by omega
  go_enter Try.func48, Try.ntmps48
  go_wp2
  go_ret
  exact ⟨rfl, rfl⟩

/-! ### The same for matrices: a struct by value, its numbers in a slice. -/
/-- A matrix by value. -/
def mv (P R C : Int) (a : Option Addr) (n c : Nat) : Value := .agg #[.int .i64 P, .int .i64 R, .int .i64 C, .slice a n c]

set_option maxHeartbeats 400000 in
theorem szMatrix_yes (P R C : Int) (a : Option Addr) (n c : Nat) (k : Int) (w : World) (hk1 : k ≤ 1073741824) (hn : (n : Int) ≤ k) :
    Calls Try.prog 21 #[.agg #[.int .i64 P, .int .i64 R, .int .i64 C, .slice a n c], .int .i64 k] w fun e w' => e = .returned (.int .i64 (k - n)) ∧ Ext w w' := by
  have h : 0 ≤ k - n := by omega
  go_enter Try.func21, Try.ntmps21
  go_wp2_with ((with_reducible refine (szIntS_yes _ _ _ _ _ hk1 hn).mono ?_); rintro e w' ⟨rfl, rfl⟩)
  go_ret
  exact ⟨rfl, (Ext.refl _).alloc _⟩
set_option maxHeartbeats 400000 in
theorem szMatrix_no (P R C : Int) (a : Option Addr) (n c : Nat) (k : Int) (w : World) (hk0 : 0 ≤ k) (hk1 : k ≤ 1073741824) (hn : n ≤ maxLen) (hlt : k < (n : Int)) :
    Calls Try.prog 21 #[.agg #[.int .i64 P, .int .i64 R, .int .i64 C, .slice a n c], .int .i64 k] w fun e w' => e = .returned (.int .i64 (-1)) ∧ Ext w w' := by
  go_enter Try.func21, Try.ntmps21
  go_wp2_with ((with_reducible refine (szIntS_no _ _ _ _ _ hk0 hk1 hn hlt).mono ?_); rintro e w' ⟨rfl, rfl⟩)
  go_ret
  exact ⟨rfl, (Ext.refl _).alloc _⟩

set_option maxHeartbeats 400000 in
theorem toMatrix_law (P R C : Int) (a : Option Addr) (n c : Nat) (xs : List Int) (w : World) (hr : Reads w a n xs) (hn : n ≤ 1048576) :
    Calls Try.prog 23 #[.agg #[.int .i64 P, .int .i64 R, .int .i64 C, .slice a n c]] w fun e w' => ∃ b, e = .returned (.agg #[.int .i64 P, .int .i64 R, .int .i64 C, .slice (some ⟨b, 0, none⟩) n n]) ∧ w.heap.size ≤ b ∧ Has w' b xs ∧ Ext w w' := by
  have HR := Lib.hid hr
  clear hr
  go_enter Try.func23, Try.ntmps23
  go_wp2_with fail
  refine (toIntS_law a n c xs _ (HR.out.ext ((((Ext.refl _).alloc _).alloc _).alloc _)) hn).mono ?_
  rintro e w1 ⟨b, rfl, hb1, hh, hbel⟩
  have hc := hbel.cells
  have hf := hbel.frees
  have hz := hbel.le
  simp at hz hb1
  go_wp2
  refine bodyPost_ret (v := .agg #[.int .i64 P, .int .i64 R, .int .i64 C, .slice (some ⟨b, 0, none⟩) n n]) (by simp [results, Try.results23, go_sem, hc]) rfl ⟨b, rfl, by omega, ?_, ?_⟩
  · repeat with_reducible (first | exact hh | refine Has.setOther ?_ (by simp <;> omega) _)
  · repeat with_reducible (first | refine Ext.setCell ?_ (by simp <;> omega) _ | (refine Ext.trans ?_ hbel; exact (((Ext.refl _).alloc _).alloc _).alloc _))

set_option maxHeartbeats 400000 in
/-- 'eqMatrix' at equal matrices. -/
theorem eqMatrix_law (P R C : Int) (a a' : Option Addr) (n c c' : Nat) (xs : List Int) (w : World) (hr : Reads w a n xs) (hr' : Reads w a' n xs) (hn : n ≤ 1048576) :
    Calls Try.prog 25 #[.agg #[.int .i64 P, .int .i64 R, .int .i64 C, .slice a n c], .agg #[.int .i64 P, .int .i64 R, .int .i64 C, .slice a' n c']] w fun e w' => e = .returned (.bool true) ∧ Ext w w' := by
  have HR := Lib.hid hr
  have HR' := Lib.hid hr'
  clear hr hr'
  go_enter Try.func25, Try.ntmps25
  go_wp2_with fail
  refine (eqIntS_law a a' n c c' xs _ (HR.out.ext (((Ext.refl _).alloc _).alloc _)) (HR'.out.ext (((Ext.refl _).alloc _).alloc _)) hn).mono ?_
  rintro e w1 ⟨rfl, m, rfl⟩
  go_wp2
  go_ret
  exact ⟨rfl, (((Ext.refl _).alloc _).alloc _).drewN m⟩

set_option maxHeartbeats 400000 in
theorem markMatrix_law (P R C : Int) (base : Nat) (a : Option Addr) (n c : Nat) (xs : List Int) (k : Int) (w : World) (hr : Own w base a n xs) (hn : n ≤ 1048576) (hk0 : 0 ≤ k) (hk1 : k ≤ 1073741824) :
    Calls Try.prog 28 #[.agg #[.int .i64 P, .int .i64 R, .int .i64 C, .slice a n c], .int .i64 k] w fun e w' => e = .returned (.int .i64 (k + n)) ∧ Own w' base a n (marks k n) ∧ w.grownBy w' (blk a) := by
  have HR := Lib.hid hr
  clear hr
  go_enter Try.func28, Try.ntmps28
  go_wp2_with fail
  refine (markIntS_law base a n c xs k _ (HR.out.ext ((Ext.refl _).alloc _)) hn hk0 hk1).mono ?_
  rintro e w1 ⟨rfl, hown, hgrow⟩
  go_wp2
  go_ret
  exact ⟨rfl, hown, hgrow.os, hgrow.tape, hgrow.output, Nat.le_trans (Ext.alloc (Ext.refl w) _).le hgrow.size, fun i hi hne => (hgrow.block i (by simp; omega) hne).trans ((Ext.alloc (Ext.refl w) _).block i hi)⟩

set_option maxHeartbeats 400000 in
theorem heldMatrix_law (P R C : Int) (a : Option Addr) (n c : Nat) (k : Int) (w : World) (hr : Reads w a n (marks k n)) (hn : n ≤ 1048576) (hk0 : 0 ≤ k) (hk1 : k ≤ 1073741824) :
    Calls Try.prog 29 #[.agg #[.int .i64 P, .int .i64 R, .int .i64 C, .slice a n c], .int .i64 k] w fun e w' => e = .returned (.int .i64 (k + n)) ∧ Ext w w' := by
  have HR := Lib.hid hr
  have hpos : 0 ≤ k + n := by omega
  clear hr
  go_enter Try.func29, Try.ntmps29
  go_wp2_with fail
  refine (heldIntS_law a n c k _ (HR.out.ext ((Ext.refl _).alloc _)) hn hk0 hk1).mono ?_
  rintro e w1 ⟨rfl, rfl⟩
  go_wp2
  go_ret
  exact ⟨rfl, (Ext.refl _).alloc _⟩
end Go.Proofs.Ythblbaglemoalaa
