/-
  Slices of integers: what is searched, copied and appended to. Out of the texts of chapter 1.
-/
import Derived.Test.YtlnpaplbcocmkaaGreatFr
import Derived.BigQuiet
import Derived.BigRegion
import Derived.Deep.QuietTactic
import Derived.Deep.RegionHeld3
import Derived.Deep.RegionLaw
import Derived.Deep.DeepCutAuto
import Derived.StillTactics
import Derived.Laws.Pointers
import Derived.Laws.CopyOwn
import Derived.Lib.AppendZerosOnto
import Derived.Maps.AppendAt
import Derived.WalkSpells
namespace Go.Proofs.YtlnpaplbcocmkaaGreat
open Go.ChangeShapes Go.WideShapes Go.ChangeAt Go.RowKit
set_option linter.unusedVariables false
set_option linter.unusedSimpArgs false

theorem grownBy_trans {w w1 w2 : World} {r : Option Nat} (h : w.grownBy w1 r) (h' : w1.grownBy w2 r) : w.grownBy w2 r :=
  ⟨h'.os.trans h.os, h'.tape.trans h.tape, h'.output.trans h.output, Nat.le_trans h.size h'.size, fun k hk hne => (h'.block k (Nat.lt_of_lt_of_le hk h.size) hne).trans (h.block k hk hne)⟩
theorem grownBy_ext {w w1 w2 : World} {r : Option Nat} (h : w.grownBy w1 r) (hE : Ext w1 w2) : w.grownBy w2 r :=
  ⟨hE.os.trans h.os, hE.tape.trans h.tape, hE.output.trans h.output, Nat.le_trans h.size hE.le, fun k hk hne => (hE.block k (Nat.lt_of_lt_of_le hk h.size)).trans (h.block k hk hne)⟩
theorem ext_grownBy {w w1 : World} (h : Ext w w1) (r : Option Nat) : w.grownBy w1 r := ⟨h.os, h.tape, h.output, h.le, fun k hk _ => h.block k hk⟩
/-- A slice of integers of the call's own that is appended to: its block lies from base on. -/
def Grows (w : World) (base : Nat) (v : Value) (n : Nat) (xs : List Int) : Prop := w.ownsRow base 3 1 v n (xs.map (Value.int .i64))
theorem Grows.len {w : World} {base n : Nat} {v : Value} {xs : List Int} (h : Grows w base v n xs) : xs.length = n := by
  have := h.1
  simpa using this
theorem Grows.shape {w : World} {base n : Nat} {v : Value} {xs : List Int} (h : Grows w base v n xs) : ∃ a cap, v = .slice a n cap ∧ Own w base w.heap.size a n xs := by
  rcases h.2 with ⟨h1, h2⟩ | ⟨g, cap, cur, h1, hb, hg, hn, hc, hs, ht⟩
  · subst h1; subst h2
    exact ⟨none, 0, rfl, h.len, .inl ⟨rfl, rfl⟩⟩
  · subst h1
    have hlt := (Array.getElem?_eq_some_iff.1 hg).1
    refine ⟨_, cap, rfl, h.len, .inr ⟨g, rfl, hb, hlt, cur, hg, ?_, ?_⟩⟩
    · rw [h.len]; omega
    · rw [h.len]; simpa using ht
theorem Grows.blk {w : World} {base n : Nat} {v : Value} {xs : List Int} (h : Grows w base v n xs) : ∀ k, v.ownBlock = some k → base ≤ k ∧ k < w.heap.size := World.ownsRow.lt h
theorem Grows.ext {w w' : World} {base n : Nat} {v : Value} {xs : List Int} (h : Grows w base v n xs) (hE : Ext w w') : Grows w' base v n xs := by
  by_cases e : v.ownBlock = none
  · exact World.ownsRow.kept h (ext_grownBy hE none) (.inl e)
  · exact World.ownsRow.kept h (ext_grownBy hE none) (.inr e)
theorem Grows.grown {w w' : World} {base n b : Nat} {v : Value} {xs : List Int} (h : Grows w base v n xs) (hg : w.grownBy w' (some b)) (hb : b < base) : Grows w' base v n xs := by
  refine World.ownsRow.kept h hg ?_
  by_cases e : v.ownBlock = none
  · exact .inl e
  · refine .inr (fun e2 => ?_)
    have := (h.blk b e2).1
    omega
theorem Has.grownOther {w w' : World} {b : Nat} {xs : List Int} {row : Option Nat} (h : Has w b xs) (hg : w.grownBy w' row) (hne : ∀ k, row = some k → k ≠ b) : Has w' b xs := by
  obtain ⟨r, h, h1⟩ := h
  exact ⟨r, by rw [hg.block b (Array.getElem?_eq_some_iff.1 h).1 (fun e => hne b e.symm rfl)]; exact h, h1⟩
theorem grownBy_far {w w1 w2 : World} {r r2 : Option Nat} (h : w.grownBy w1 r) (h' : w1.grownBy w2 r2) (hf : ∀ k, r2 = some k → w.heap.size ≤ k) : w.grownBy w2 r :=
  ⟨h'.os.trans h.os, h'.tape.trans h.tape, h'.output.trans h.output, Nat.le_trans h.size h'.size, fun k hk hne => (h'.block k (Nat.lt_of_lt_of_le hk h.size) (fun e => by have := hf k e.symm; omega)).trans (h.block k hk hne)⟩
theorem first_mem {l : List Nat} {x : Nat} (h : x ∈ l) : ∃ q, q < l.length ∧ l.getD q 0 = x ∧ ∀ i, i < q → l.getD i 0 ≠ x := by
  induction l with
  | nil => simp at h
  | cons a l ih =>
    by_cases e : a = x
    · exact ⟨0, by simp, by simpa using e, fun i hi => by omega⟩
    · have : x ∈ l := by
        rcases List.mem_cons.1 h with h1 | h1
        · exact absurd h1.symm e
        · exact h1
      obtain ⟨q, h1, h2, h3⟩ := ih this
      refine ⟨q + 1, by simpa using h1, by simpa using h2, fun i hi => ?_⟩
      cases i with
      | zero => simpa using e
      | succ i => simpa using h3 i (by omega)
theorem not_first {l : List Nat} {x : Nat} (h : x ∉ l) : ∀ i, i < l.length → l.getD i 0 ≠ x := fun i hi e => h (by
  rw [← e, List.getD_eq_getElem?_getD, List.getElem?_eq_getElem hi]; simp)
/-- Where the search ends: q is the first place with x, or the length. -/
def FirstAt (xs : List Int) (x : Int) (n q : Nat) : Prop := q ≤ n ∧ (q < n → gi xs q = x) ∧ ∀ i, i < q → gi xs i ≠ x
def fndR (n q : Nat) : Int := if q < n then (q : Int) else -1
theorem firstAt_step {xs : List Int} {x : Int} {n q k : Nat} (h : FirstAt xs x n q) (hk : k ≤ q) (hlt : k < n) : (gi xs k = x → k = q) ∧ (gi xs k ≠ x → k + 1 ≤ q) := by
  obtain ⟨h1, h2, h3⟩ := h
  constructor
  · intro e
    apply Classical.byContradiction
    intro hne
    exact h3 k (by omega) e
  · intro e
    apply Classical.byContradiction
    intro hne
    obtain rfl : k = q := by omega
    exact e (h2 hlt)
set_option maxHeartbeats 800000 in
theorem l1Find_spec (a : Option Addr) (n c : Nat) (xs : List Int) (x : Int) (q : Nat) (w : World) (hr : Reads w a n xs) (hm : n ≤ 1048576) (hq : FirstAt xs x n q) :
    Calls Tryz.prog 139 #[.slice a n c, .int .i64 x] w fun e w' => e = .returned (.int .i64 (fndR n q)) ∧ w = w' := by
  have hl := Lib.hid hr.1
  have HR := Lib.hid hr.2
  have HQ := Lib.hid hq
  have hq1 := hq.1
  clear hr hq
  go_enter Tryz.func139, Tryz.ntmps139
  go_wp2
  go_loop [5] (fun z => ∃ k : Nat, k ≤ q ∧ z = .int .i64 k) (fun z => n - (intOf z).toNat)
  case atStart => exact ⟨0, by omega, rfl⟩
  case round =>
    obtain ⟨k, hk, rfl⟩ := hrel
    by_cases hlt : k < n
    · rcases HR.out with h | ⟨b, off, rfl, hb, hc⟩
      · omega
      have hc1 := hc k hlt
      have HS := Lib.hid (firstAt_step HQ.out hk hlt)
      clear hc
      by_cases h0 : gi xs k = x
      · have hb0 : (gi xs k == x) = true := by simpa using h0
        obtain rfl : k = q := HS.out.1 h0
        have HF : Hid (fndR n k = (k : Int)) := by rw [Hid, fndR, if_pos hlt]
        clear h0
        go_wp2
        go_ret
        exact ⟨ret_int HF.out.symm, rfl⟩
      · have hb0 : (gi xs k == x) = false := by simpa using h0
        have hk2 := HS.out.2 h0
        clear h0
        go_wp2
        exact ⟨⟨k + 1, by omega, by simp⟩, by simp [intOf]; omega⟩
    · have HF : Hid (fndR n q = -1) := by rw [Hid, fndR, if_neg (by omega)]
      obtain rfl : k = n := by omega
      go_wp2
      go_ret
      exact ⟨ret_int HF.out.symm, rfl⟩

set_option maxHeartbeats 800000 in
theorem index_fn (a : Option Addr) (n c : Nat) (xs : List Int) (x : Int) (q : Nat) (w : World) (hr : Reads w a n xs) (hm : n ≤ 1048576) (hq : FirstAt xs x n q) :
    Calls Tryz.prog 186 #[.slice a n c, .int .i64 x] w fun e w' => e = .returned (.int .i64 (fndR n q)) ∧ w = w' := by
  have hl := Lib.hid hr.1
  have HR := Lib.hid hr.2
  have HQ := Lib.hid hq
  have hq1 := hq.1
  clear hr hq
  go_enter Tryz.func186, Tryz.ntmps186
  go_wp2
  go_loop [8, 5] (fun z _ => ∃ k : Nat, k ≤ q ∧ z = .int .i64 k) (fun z _ => n - (intOf z).toNat)
  case atStart => exact ⟨0, by omega, rfl⟩
  case round =>
    obtain ⟨k, hk, rfl⟩ := hrel
    by_cases hlt : k < n
    · rcases HR.out with h | ⟨b, off, rfl, hb, hc⟩
      · omega
      have hc1 := hc k hlt
      have HS := Lib.hid (firstAt_step HQ.out hk hlt)
      clear hc
      by_cases h0 : gi xs k = x
      · have hb0 : (x == gi xs k) = true := by simpa using h0.symm
        obtain rfl : k = q := HS.out.1 h0
        have HF : Hid (fndR n k = (k : Int)) := by rw [Hid, fndR, if_pos hlt]
        clear h0
        go_wp2
        go_ret
        exact ⟨ret_int HF.out.symm, rfl⟩
      · have hb0 : (x == gi xs k) = false := by simp; exact fun e => h0 e.symm
        have hk2 := HS.out.2 h0
        clear h0
        go_wp2
        exact ⟨⟨k + 1, by omega, by simp⟩, by simp [intOf]; omega⟩
    · have HF : Hid (fndR n q = -1) := by rw [Hid, fndR, if_neg (by omega)]
      obtain rfl : k = n := by omega
      go_wp2
      go_ret
      exact ⟨ret_int HF.out.symm, rfl⟩

set_option maxHeartbeats 400000 in
theorem contains_fn (a : Option Addr) (n c : Nat) (xs : List Int) (x : Int) (q : Nat) (w : World) (hr : Reads w a n xs) (hm : n ≤ 1048576) (hq : FirstAt xs x n q) :
    Calls Tryz.prog 148 #[.slice a n c, .int .i64 x] w fun e w' => e = .returned (.bool (decide (q < n))) ∧ w = w' := by
  have H := Lib.hid (index_fn a n c xs x q w hr hm hq)
  have hq1 := hq.1
  clear hr hq
  by_cases h : q < n
  · have HF : Hid (fndR n q = (q : Int)) := by rw [Hid, fndR, if_pos h]
    rw [HF.out] at H
    have HD : Hid (decide (q < n) = true) := decide_eq_true h
    clear HF
    go_enter Tryz.func148, Tryz.ntmps148
    go_wp2_with fail
    refine H.out.mono ?_
    rintro e w' ⟨rfl, rfl⟩
    go_wp2
    go_ret
    exact ⟨ret_bool HD.out.symm, rfl⟩
  · have HF : Hid (fndR n q = -1) := by rw [Hid, fndR, if_neg h]
    rw [HF.out] at H
    have HD : Hid (decide (q < n) = false) := decide_eq_false h
    clear HF
    go_enter Tryz.func148, Tryz.ntmps148
    go_wp2_with fail
    refine H.out.mono ?_
    rintro e w' ⟨rfl, rfl⟩
    go_wp2
    go_ret
    exact ⟨ret_bool HD.out.symm, rfl⟩
theorem Grows.reads2 {w : World} {base n : Nat} {v : Value} {xs : List Int} (h : Grows w base v n xs) : ∃ a cap, v = .slice a n cap ∧ (a = none → n = 0 ∧ cap = 0) ∧ Own w base w.heap.size a n xs := by
  have hl : xs.length = n := h.len
  rcases h.2 with ⟨h1, h2⟩ | ⟨g, cap, cur, h1, hb, hg, hn, hc, hs, ht⟩
  · subst h1; subst h2
    exact ⟨none, 0, rfl, fun _ => ⟨rfl, rfl⟩, ⟨hl, .inl ⟨rfl, rfl⟩⟩⟩
  · subst h1
    have hh : Has w g xs := ⟨cur, hg, by omega, by rw [hl]; simpa using ht⟩
    exact ⟨_, cap, rfl, fun h => by simp at h, ⟨hl, .inr ⟨g, rfl, hb, hh.lt, hh⟩⟩⟩
theorem grows_lit (w : World) (base : Nat) (hb : base ≤ w.heap.size) : Grows (w.alloc (.cells #[] 3)) base (.slice (some ⟨w.heap.size, 0, none⟩) 0 0) 0 [] :=
  World.ownsRow_lit w #[] 0 hb (by unfold maxLen; omega) (by simp)
theorem Grows.extAfter {w w0 w' : World} {base n : Nat} {v : Value} {xs : List Int} (h : Grows w base v n xs) (hg : w.grownBy w' v.ownBlock) (hE : Ext w0 w) (hb : w0.heap.size ≤ base) : Ext w0 w' :=
  hE.grown hg (fun k hk => Nat.le_trans hb (h.blk k hk).1)
theorem grownBy_alloc {w w' : World} {o : Obj} {row : Option Nat} (hg : (w.alloc o).grownBy w' row) : w.grownBy w' row :=
  ⟨hg.os, hg.tape, hg.output, Nat.le_trans (by simp) hg.size, fun k hk hne => (hg.block k (by simp; omega) hne).trans (((Ext.refl w).alloc _).block k hk)⟩

/-- append of one integer. -/
theorem wpList_append1 {w : World} {ops : Array Oper} {rest : List Oper} {o : Oper} {a : Act} {Q : Exit → Act → World → Prop} (hgd : o.guard = none) (s x : Operand)
    (ho : o.op = .call { callee := .builtin .append, args := #[s, x], argTypes := #[22, 22] })
    (base : Nat) (v : Value) (n : Nat) (xs : List Int) (y : Int) (c : Nat) (hs : a.eval s = v) (hx : a.eval x = .slice (some ⟨w.heap.size, 0, none⟩) 1 c) (hown : Grows w base v n xs) (hb : n + 1 ≤ 1048577) (hbase : base ≤ w.heap.size)
    (h : ∀ v' w', Grows w' base v' (n + 1) (xs ++ [y]) → w.grownBy w' v.ownBlock → wpList Tryz.prog ops Q rest (a.put o.dst v') w') : wpList Tryz.prog ops Q (o :: rest) a (w.alloc (.cells #[.int .i64 y] 3)) := by
  obtain ⟨i0, hi, hz0, hz1, hz2⟩ := info_parts Tryz.infoInt
  refine wpList_append_own _ hgd s x 22 ho base 3 i0 (.int .i64 0) 1 8 Tryz.underlying22 hi hz0 hz1 hz2 rfl (by decide) v n (xs.map (Value.int .i64)) hs (Grows.ext hown ((Ext.refl w).alloc _)) ⟨w.heap.size, 0, none⟩ 1 c [.int .i64 y] hx rfl (fun j u hu => ?_) (fun u hu => by simp at hu; subst hu; rfl) (by unfold maxLen; omega) (by omega) (by simp; omega) (fun v' w' h1 h2 _ => h v' w' (by simpa [Grows] using h1) (grownBy_alloc h2))
  obtain rfl : j = 0 := by have := (List.getElem?_eq_some_iff.1 hu).1; simp at this; omega
  simp at hu
  subst hu
  rw [show (⟨w.heap.size, 0, none⟩ : Addr).add 0 = ⟨w.heap.size, 0, none⟩ from rfl, World.cell?_alloc_at _ _ _ _ rfl]
  rfl
/-- append of a list, as a step of a region. -/
theorem step_appendG {ops : Array Oper} {o : Oper} {a : Act} {w : World} {K : Act → World → Prop} {Q : Exit → Act → World → Prop} {E : Prop} (hgd : o.guard = none) (s x : Operand)
    (ho : o.op = .call { callee := .builtin .append, args := #[s, x], argTypes := #[22, 22] }) {base : Nat}
    (v : Value) (n : Nat) (xs : List Int) (hs : a.eval s = v) (hown : Grows w base v n xs) (sp : Option Addr) (m c : Nat) (ys : List Int) (hx : a.eval x = .slice sp m c) (hy : Reads w sp m ys) (hb : n + m ≤ 1048576) (hbase : base ≤ w.heap.size)
    (h : ∀ v' w', Grows w' base v' (n + m) (xs ++ ys) → w.grownBy w' v.ownBlock → (v' = .slice none 0 0 ↔ v = .slice none 0 0 ∧ m = 0) → K (a.put o.dst v') w') (hsp : ∃ ad, sp = some ad) :
    if Region.wanted o (yielded ops a.tmps) = true then Oper.wp Tryz.prog o a w K Q else E := by
  obtain ⟨ad, rfl⟩ := hsp
  obtain ⟨i0, hi, hz0, hz1, hz2⟩ := info_parts Tryz.infoInt
  have hw : Region.wanted o (yielded ops a.tmps) = true := by simp [Region.wanted, hgd]
  rw [if_pos hw]
  refine wp_append_own w s x 22 ho base 3 i0 (.int .i64 0) 1 8 Tryz.underlying22 hi hz0 hz1 hz2 rfl (by decide) v n (xs.map (Value.int .i64)) hs hown ad m c (ys.map (Value.int .i64)) hx (by simpa using hy.1) (fun j u hu => ?_) (fun u hu => by obtain ⟨z, _, rfl⟩ := List.mem_map.1 hu; rfl) (by unfold maxLen; omega) (by omega) hbase (fun v' w' h1 h2 h3 => h v' w' (by rw [Grows, List.map_append]; exact h1) h2 h3)
  have hj : j < m := by have := (List.getElem?_eq_some_iff.1 hu).1; simp [hy.1] at this; omega
  rcases hy.2 with h0 | ⟨b, off, h0, hb', hc⟩
  · omega
  · simp only [Option.some.injEq] at h0
    subst h0
    rw [show (⟨b, off, none⟩ : Addr).add j = ⟨b, off + j, none⟩ from add_plain .., hc j hj]
    simp at hu
    obtain ⟨z, hz, rfl⟩ := hu
    simp [gi, List.getD_eq_getElem?_getD, hz]

end Go.Proofs.YtlnpaplbcocmkaaGreat
