/-
  Names in their order, and what the library's sort leaves.
-/
import Derived.Test.YtlnpaplbcocmkaaGreatLrn
import Derived.Test.YtlnpaplbcocmkaaGreatShf
import Derived.Lib.RowBridge
namespace Go.Proofs.YtlnpaplbcocmkaaGreat
open Go.ChangeShapes Go.WideShapes Go.ChangeAt Go.RowKit
set_option linter.unusedVariables false
set_option linter.unusedSimpArgs false

theorem insN_perm (k : Nat) : ∀ l : List Nat, (insN k l).Perm (k :: l)
  | [] => List.Perm.refl _
  | a :: t => by
    rw [insN]
    split
    · exact List.Perm.refl _
    · exact ((insN_perm k t).cons a).trans (List.Perm.swap k a t)
theorem insN_pw (k : Nat) : ∀ l : List Nat, l.Pairwise (fun a b => nameKey a ≤ nameKey b) → (insN k l).Pairwise (fun a b => nameKey a ≤ nameKey b)
  | [], _ => by simp [insN]
  | a :: t, h => by
    rw [List.pairwise_cons] at h
    rw [insN]
    split
    · next h1 =>
      rw [List.pairwise_cons, List.pairwise_cons]
      refine ⟨fun b hb => ?_, h⟩
      rcases List.mem_cons.1 hb with rfl | hb
      · omega
      · exact Nat.le_trans (Nat.le_of_lt h1) (h.1 b hb)
    · next h1 =>
      rw [List.pairwise_cons]
      refine ⟨fun b hb => ?_, insN_pw k t h.2⟩
      rcases List.mem_cons.1 ((insN_perm k t).mem_iff.1 hb) with rfl | hb
      · omega
      · exact h.1 b hb
theorem sortN_go (l : List Nat) : ∀ acc : List Nat, acc.Pairwise (fun a b => nameKey a ≤ nameKey b) → (l.foldl (fun acc k => insN k acc) acc).Perm (l ++ acc) ∧ (l.foldl (fun acc k => insN k acc) acc).Pairwise (fun a b => nameKey a ≤ nameKey b) := by
  induction l with
  | nil => intro acc h; exact ⟨List.Perm.refl _, h⟩
  | cons a t ih =>
    intro acc h
    obtain ⟨h1, h2⟩ := ih (insN a acc) (insN_pw a acc h)
    refine ⟨h1.trans ?_, h2⟩
    exact ((insN_perm a acc).append_left t).trans (List.perm_middle)
theorem nm_le : ∀ a, a < 12 → ∀ b, b < 12 → nameKey a ≤ nameKey b → nmB a ≤ nmB b := by decide +kernel
theorem nm_lt : ∀ a, a < 12 → ∀ b, b < 12 → (nmB a ≤ nmB b → nameKey a ≤ nameKey b) := by decide +kernel
theorem names_sorted (ns : List Nat) (h : ∀ k, k ∈ ns → k < 12) : (ns.map nmB).mergeSort (fun x y => decide (x ≤ y)) = (sortN ns).map nmB := by
  obtain ⟨h1, h2⟩ := sortN_go ns [] (by simp)
  rw [List.append_nil] at h1
  have hm : ∀ k, k ∈ sortN ns → k < 12 := fun k hk => h k (h1.mem_iff.1 hk)
  have hp : ((ns.map nmB).mergeSort (fun x y => decide (x ≤ y))).Perm ((sortN ns).map nmB) := (List.mergeSort_perm _ _).trans (h1.symm.map nmB)
  refine hp.eq_of_pairwise (le := fun x y => x ≤ y) (fun a b _ _ hab hba => List.le_antisymm hab hba) ?_ ?_
  · have := List.pairwise_mergeSort (le := fun x y : List UInt8 => decide (x ≤ y)) (fun a b c h3 h4 => by simp only [decide_eq_true_eq] at *; exact List.le_trans h3 h4) (fun a b => by simp only [Bool.or_eq_true, decide_eq_true_eq]; exact List.le_total a b) (ns.map nmB)
    simpa using this
  · rw [List.pairwise_map]
    exact List.Pairwise.imp_of_mem (fun {a b} ha hb hab => nm_le a (hm a ha) b (hm b hb) hab) h2

/-- A slice that shows strings. -/
def StrR (w : World) (a : Option Addr) (n : Nat) (ss : List ByteArray) : Prop := ss.length = n ∧ (n = 0 ∨ ∃ g, a = some ⟨g, 0, none⟩ ∧ g < w.heap.size ∧ ∀ j, j < n → w.cell? ⟨g, j, none⟩ = some (.string (ss.getD j ByteArray.empty)))
theorem grownBy_row (w : World) (q blk : Nat) (d : Array (List UInt8)) (os : Array Obj) : w.grownBy (Go.Sort.grow (Go.Sort.putRow Go.Proofs.encStr (Go.Sort.ahead w q) blk 0 d) os) (some blk) := by
  refine ⟨rfl, rfl, rfl, by simp [Go.Sort.grow], fun k hk hne => ?_⟩
  rw [Go.Sort.heap_grow_old _ _ (by simpa using hk)]
  have hne2 : ¬ blk = k := fun e => hne (by rw [e])
  simp [Go.Sort.putRow, Go.Sort.mapBlock, Array.getElem?_modify, hne2]
set_option maxRecDepth 100000 in
set_option maxHeartbeats 1600000 in
theorem sort_names (W : World) (a : Option Addr) (n c : Nat) (ns : List Nat) (w : World) (h : w.ownsRow W.heap.size 9 1 (.slice a n c) n (nmV ns)) (hn : ns.length = n) (h0 : 0 < n) (h4 : n ≤ 4) (hk : ∀ k, k ∈ ns → k < 12) :
    Calls Tryz.prog 100 #[.slice a n c] w fun e w' => e = .returned (.tuple #[]) ∧ w.grownBy w' (Value.slice a n c).ownBlock ∧ StrR w' a n ((sortN ns).map nmS) := by
  obtain ⟨g, rfl, hb, hg, hc⟩ := ownsRow_get h h0
  have hH : Go.Sort.Holds Go.Proofs.encStr w g 0 (ns.map nmB).toArray := by
    intro j hj
    have hj2 : j < ns.length := by simpa using hj
    rcases h.2 with ⟨e1, _⟩ | ⟨g', cap, cur, e1, _, h5, _⟩
    · cases e1
    · injection e1 with e1 _ _
      simp only [Option.some.injEq, Addr.mk.injEq, and_true] at e1
      subst e1
      refine ⟨?_, frozen_of_row w g _ _ _ h5⟩
      rw [Nat.zero_add, hc j (by omega)]
      simp [nmV, hj2, Go.Proofs.encStr, nmS]
  have hs := Tryz.slices_Sort_string g 0 c (ns.map nmB) w hH hg (by simp; omega)
  rw [names_sorted ns hk, List.length_map, hn] at hs
  refine hs.mono ?_
  rintro e w' ⟨rfl, q, os, rfl⟩
  have hl : (sortN ns).length = n := by
    have := (sortN_go ns [] (by simp)).1.length_eq
    rw [← hn]; simpa [sortN] using this
  refine ⟨rfl, grownBy_row w q g _ os, by simp [hl], .inr ⟨g, rfl, Nat.lt_of_lt_of_le hg (grownBy_row w q g _ os).size, fun j hj => ?_⟩⟩
  rw [Go.Sort.cell?_grow _ _ _ (by simpa using hg)]
  have := Go.Sort.cell?_putRow Go.Proofs.encStr (Go.Sort.ahead w q) g 0 (ns.map nmB).toArray ((sortN ns).map nmB).toArray (Go.Sort.holds_ahead _ _ _ _ _ _ hH) (by simp [hl, hn]) j (by simp [hl]; exact hj)
  rw [Nat.zero_add] at this
  rw [this]
  simp [hl, hj, Go.Proofs.encStr, nmS]
end Go.Proofs.YtlnpaplbcocmkaaGreat
