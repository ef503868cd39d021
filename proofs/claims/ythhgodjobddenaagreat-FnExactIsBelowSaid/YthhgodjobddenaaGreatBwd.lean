/-
  slices.Backward: what a range over it comes to, for letters of a word.
-/
import Derived.RangeFuncNested
import Derived.RangeFuncBound
import Derived.RangeFuncCalls
import Derived.RangeFuncLeaves
import Derived.Shelf.Abstract
import Derived.Shelf.RegionOpen
import Derived.WalkKit
import Derived.OwnWalkIn
import Derived.TacticsInMore
import Derived.LoopNIn
import Derived.LoopIn
import Derived.Test.YthhgodjobddenaaGreatRd5
namespace Go.Proofs.YthhgodjobddenaaGreat
open Go.ChangeShapes Go.WideShapes Go.ChangeAt Go.RowKit Go.Shelf
set_option linter.unusedVariables false
set_option linter.unusedSimpArgs false
attribute [local go_sem] Oper.semAt_some

/-- A place, and a letter. -/
abbrev Ltr (R : Nat) : Type := { p : Nat × Nat // p.2 < R }
def encL {R : Nat} (x : Ltr R) : Array Value := #[.int .i64 (x.1.1 : Int), .int .i64 (x.1.2 : Int)]
/-- What comes in round j: the last place first. -/
def ltrAt (ys : List Int) (len R : Nat) (h0 : 0 < R) (j : Nat) : Ltr R := ⟨(len - 1 - j, (gi ys (len - 1 - j)).toNat % R), Nat.mod_lt _ h0⟩
def uptoL {α : Type} (f : Nat → α) (k : Nat) : List α := (List.range k).map f
theorem uptoL_succ {α : Type} (f : Nat → α) (k : Nat) : uptoL f (k + 1) = uptoL f k ++ [f k] := by simp [uptoL, List.range_succ]
theorem uptoL_length {α : Type} (f : Nat → α) (k : Nat) : (uptoL f k).length = k := by simp [uptoL]
theorem ltrAt_at {ys : List Int} {len R q : Nat} {h0 : 0 < R} (hq : q < len) (hy : 0 ≤ gi ys q ∧ gi ys q < (R : Int)) : ltrAt ys len R h0 (len - (q + 1)) = ⟨(q, (gi ys q).toNat), by omega⟩ := by
  have e : len - 1 - (len - (q + 1)) = q := by omega
  refine Subtype.ext ?_
  simp only [ltrAt, e]
  rw [Nat.mod_eq_of_lt (by omega)]
/-- What a round keeps. -/
def KpB (n₀ Bs : Nat) (A B : World) : Prop := Below n₀ A B ∧ (Bs < A.heap.size → B.heap[Bs]? = A.heap[Bs]?)
theorem kpB_refl (n₀ Bs : Nat) (A : World) : KpB n₀ Bs A A := ⟨Below.refl _ _, fun _ => rfl⟩
theorem kpB_t {n₀ Bs : Nat} {A B C : World} (h : KpB n₀ Bs A B) (k : KpB n₀ Bs B C) : KpB n₀ Bs A C :=
  ⟨h.1.trans k.1, fun hA => (k.2 (Nat.lt_of_lt_of_le hA h.1.size)).trans (h.2 hA)⟩
theorem kpB_b {n₀ Bs : Nat} {w : World} (hn : n₀ ≤ w.heap.size) (hB : Bs < w.heap.size) (W : World) (l : Nat) (o o' : Obj) (hl : w.heap.size ≤ l) (h : W.heap[l]? = some o) (h1 : o.isCells = false) (h2 : o.isWalk = false) : KpB n₀ Bs W (W.putObj l o') :=
  ⟨belowK_b hn W l o o' hl h h1 h2, fun _ => World.putObj_heap_other (by omega)⟩
set_option maxRecDepth 100000 in
set_option maxHeartbeats 2000000 in
theorem back1_in (F : Fence) (n : Nat) (hF : F.fn 129) (hro : F.round = none) (hn : 1 ≤ n) (l Bs n₀ b off len cap R : Nat) (ys : List Int) (hR0 : 0 < R) (hlen : len ≤ 1048576) (hys : ∀ j, j < len → 0 ≤ gi ys j ∧ gi ys j < (R : Int)) (J Jx : List (Ltr R) → World → Prop)
    (hY : ∀ pre x W, J pre W → pre.length < len → YieldAt F (n - 1) Tryz.prog l (encL x) W fun e W' =>
      (e = .returned (.bool true) ∧ J (pre ++ [x]) W' ∧ KpB n₀ Bs W W') ∨ (e = .returned (.bool false) ∧ Jx (pre ++ [x]) W'))
    (W : World) (hBs : W.cell? ⟨Bs, 0, none⟩ = some (.slice (some ⟨b, off, none⟩) len cap)) (hBl : Bs < W.heap.size) (hc : len = 0 ∨ (b < n₀ ∧ b < W.heap.size ∧ ∀ j, j < len → W.cell? ⟨b, off + j, none⟩ = some (.int .i64 (gi ys j)))) (h0 : J [] W) :
    CallsIn F n Tryz.prog 129 #[.func (.yield l) #[] #[], .pointer (some ⟨Bs, 0, none⟩)] W fun e W' => (∃ v, e = .returned v) ∧
      ((∃ zs, zs = uptoL (ltrAt ys len R hR0) len ∧ J zs W') ∨ (∃ pre, True ∧ Jx pre W')) := by
  refine callsIn_of_wp Tryz.func129 rfl hF ?_ hro
  simp only [Tryz.ntmps129, List.size_toArray, List.length_cons, List.length_nil, Nat.reduceAdd, Nat.reduceSub, Array.replicate_succ, Array.replicate_zero, List.push_toArray, List.append_toArray, List.nil_append, List.cons_append]
  have v0 : IntKind.i64.wrap ((len : Int) - 1) = (len : Int) - 1 := IntWalk.i64_in _ ⟨by omega, by omega⟩
  gi_wp2
  gi_loopw [3] (fun i wr => ∃ q : Nat, q ≤ len ∧ i = .int .i64 ((q : Int) - 1) ∧ J (uptoL (ltrAt ys len R hR0) (len - q)) wr ∧ KpB n₀ Bs W wr)
    (fun i _ => (intOf i + 1).toNat)
  case atStart => exact ⟨len, Nat.le_refl _, rfl, by rw [Nat.sub_self]; exact h0, kpB_refl _ _ _⟩
  case round =>
    obtain ⟨q, hq, rfl, hJs, hnx⟩ := hrel
    have hbx : wr.cell? ⟨Bs, 0, none⟩ = some (.slice (some ⟨b, off, none⟩) len cap) := (World.cell?_of_block (a := ⟨Bs, 0, none⟩) (hnx.2 hBl)).trans hBs
    by_cases hq0 : q = 0
    · subst hq0
      gi_wp2
      go_end0
      exact ⟨⟨_, rfl⟩, .inl ⟨_, rfl, hJs⟩⟩
    · obtain ⟨q', rfl⟩ : ∃ q', q = q' + 1 := ⟨q - 1, by omega⟩
      have hz : ((q' + 1 : Nat) : Int) - 1 = (q' : Int) := by omega
      rw [hz]
      obtain ⟨hb, hb2, hcs⟩ : b < n₀ ∧ b < W.heap.size ∧ ∀ j, j < len → W.cell? ⟨b, off + j, none⟩ = some (.int .i64 (gi ys j)) := by
        rcases hc with h | h
        · omega
        · exact h
      have hy1 := hys q' (by omega)
      have hcx : wr.cell? ⟨b, off + q', none⟩ = some (.int .i64 (gi ys q')) := (hnx.1.cell (p := ⟨b, off + q', none⟩) hb).trans (hcs q' (by omega))
      obtain ⟨y, hy⟩ : ∃ y : Nat, gi ys q' = (y : Int) := ⟨(gi ys q').toNat, by omega⟩
      have hyR : y < R := by omega
      rw [hy] at hcx
      have hx : ltrAt ys len R hR0 (len - (q' + 1)) = ⟨(q', y), hyR⟩ := by
        rw [ltrAt_at (by omega) hy1]
        exact Subtype.ext (by simp only [hy]; rfl)
      have hJ2 : ∀ W3, J (uptoL (ltrAt ys len R hR0) (len - (q' + 1)) ++ [⟨(q', y), hyR⟩]) W3 → J (uptoL (ltrAt ys len R hR0) (len - q')) W3 := fun W3 h => by
        rw [show len - q' = len - (q' + 1) + 1 by omega, uptoL_succ, hx]; exact h
      have HJ2 := Lib.hid hJ2
      obtain ⟨fn, tmps, assign, body, hy9, hR⟩ := hY _ ⟨(q', y), hyR⟩ wr hJs (by rw [uptoL_length]; omega)
      simp only [encL] at hy9
      have v1 : IntKind.i64.wrap ((q' : Int) - 1) = (q' : Int) - 1 := IntWalk.i64_in _ ⟨by omega, by omega⟩
      have hqI : (q' : Int) < (len : Int) := by omega
      clear hx hJ2 hz hy1
      gi_wp2
      refine hR.mono ?_
      rintro e W3 (⟨rfl, hJ3, hk3⟩ | ⟨rfl, hJx3⟩)
      · gi_wp2
        go_roundw
        case rel => exact ⟨q', by omega, rfl, HJ2.out _ hJ3, kpB_t hnx hk3⟩
        case measure => (simp [intOf]) <;> omega
      · gi_wp2
        refine bodyPost_ret (results_none rfl _ _ _) rfl ?_
        exact ⟨⟨_, rfl⟩, .inr ⟨_, trivial, hJx3⟩⟩
set_option maxHeartbeats 1000000 in
theorem back_in (F : Fence) (n : Nat) (hF : F.fn 98) (hro : F.round = none) (a : Option Addr) (len cap : Nat) (w : World) :
    CallsIn F n Tryz.prog 98 #[.slice a len cap] w fun e w' => e = .returned (.func (.func 129) #[] #[.pointer (some ⟨w.heap.size, 0, none⟩)]) ∧ w' = w.alloc (.cells #[.slice a len cap] 22) := by
  refine callsIn_of_wp Tryz.func98 rfl hF ?_ hro
  simp only [Tryz.ntmps98, List.size_toArray, List.length_cons, List.length_nil, Nat.reduceAdd, Nat.reduceSub, Array.replicate_succ, Array.replicate_zero, List.push_toArray, List.append_toArray, List.nil_append, List.cons_append]
  gi_wp2
  go_ret
  exact ⟨rfl, rfl⟩
theorem back_stops (F : Fence) (n : Nat) (hF : F.fn 129) (hro : F.round = none) (hn : 1 ≤ n) (Bs n₀ b off len cap R : Nat) (ys : List Int) (hR0 : 0 < R) (hlen : len ≤ 1048576) (hys : ∀ j, j < len → 0 ≤ gi ys j ∧ gi ys j < (R : Int)) (w : World) (hBs : Bs < w.heap.size)
    (hcB : w.cell? ⟨Bs, 0, none⟩ = some (.slice (some ⟨b, off, none⟩) len cap)) (hc : len = 0 ∨ (b < n₀ ∧ b < w.heap.size ∧ ∀ j, j < len → w.cell? ⟨b, off + j, none⟩ = some (.int .i64 (gi ys j)))) :
    SeqStopsK F n Tryz.prog 129 #[.pointer (some ⟨Bs, 0, none⟩)] (encL (R := R)) (KpB n₀ Bs) (fun zs => zs = uptoL (ltrAt ys len R hR0) len) (fun _ => True) len w := fun l J Jx W hW _ _ hY h0 => by
  refine back1_in F n hF hro hn l Bs n₀ b off len cap R ys hR0 hlen hys J Jx hY W ((hW.cell (p := ⟨Bs, 0, none⟩) hBs).trans hcB) (Nat.lt_of_lt_of_le hBs hW.size) ?_ h0
  rcases hc with h | ⟨h1, h2, h3⟩
  · exact .inl h
  · exact .inr ⟨h1, Nat.lt_of_lt_of_le h2 hW.size, fun j hj => (hW.cell (p := ⟨b, off + j, none⟩) h2).trans (h3 j hj)⟩
end Go.Proofs.YthhgodjobddenaaGreat
