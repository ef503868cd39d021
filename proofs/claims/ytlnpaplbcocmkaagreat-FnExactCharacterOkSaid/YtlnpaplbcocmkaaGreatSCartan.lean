/-
  Cartan by value: the law package's helpers.
-/
import Derived.Test.YtlnpaplbcocmkaaGreatM0
namespace Go.Proofs.YtlnpaplbcocmkaaGreat
open Go.RowKit
set_option linter.unusedVariables false

/-- What a result of this struct is: its numbers, and a slice of the call's own. -/
def Rcar (w w' : World) (v : Value) (R : Int) (xs : List Int) : Prop := ∃ a n c, v = .agg #[.int .i64 R, .slice a n c] ∧ Own w' w.heap.size w'.heap.size a n xs ∧ n ≤ 1048576

set_option maxHeartbeats 400000 in
theorem szCartan_yes (R : Int) (a : Option Addr) (n c : Nat) (k : Int) (w : World) (hk1 : k ≤ 1073741824) (hn : (n : Int) ≤ k) :
    Calls Tryz.prog 15 #[.agg #[.int .i64 R, .slice a n c], .int .i64 k] w fun e w' => e = .returned (.int .i64 (k - n)) ∧ Ext w w' := by
  have h : 0 ≤ k - n := by omega
  go_enter Tryz.func15, Tryz.ntmps15
  go_wp2_with ((with_reducible refine (szIntS_yes _ _ _ _ _ hk1 hn).mono ?_); rintro e w' ⟨rfl, rfl⟩)
  go_ret
  exact ⟨rfl, (Ext.refl _).alloc _⟩
set_option maxHeartbeats 400000 in
theorem szCartan_no (R : Int) (a : Option Addr) (n c : Nat) (k : Int) (w : World) (hk0 : 0 ≤ k) (hk1 : k ≤ 1073741824) (hn : n ≤ maxLen) (hlt : k < (n : Int)) :
    Calls Tryz.prog 15 #[.agg #[.int .i64 R, .slice a n c], .int .i64 k] w fun e w' => e = .returned (.int .i64 (-1)) ∧ Ext w w' := by
  go_enter Tryz.func15, Tryz.ntmps15
  go_wp2_with ((with_reducible refine (szIntS_no _ _ _ _ _ hk0 hk1 hn hlt).mono ?_); rintro e w' ⟨rfl, rfl⟩)
  go_ret
  exact ⟨rfl, (Ext.refl _).alloc _⟩

set_option maxHeartbeats 400000 in
theorem toCartan_law (R : Int) (a : Option Addr) (n c : Nat) (xs : List Int) (w : World) (hr : Reads w a n xs) (hn : n ≤ 1048576) :
    Calls Tryz.prog 17 #[.agg #[.int .i64 R, .slice a n c]] w fun e w' => ∃ b, e = .returned (.agg #[.int .i64 R, .slice (some ⟨b, 0, none⟩) n n]) ∧ Own w' w.heap.size w'.heap.size (some ⟨b, 0, none⟩) n xs ∧ Ext w w' := by
  have HR := Lib.hid hr
  clear hr
  go_enter Tryz.func17, Tryz.ntmps17
  go_wp2_with fail
  refine (toIntS_law a n c xs _ (HR.out.ext ((((Ext.refl _).alloc _).alloc _).alloc _)) hn).mono ?_
  rintro e w1 ⟨b, rfl, ho, hbel⟩
  have hc := hbel.cells
  have hf := hbel.frees
  have hz := hbel.le
  simp at hz
  have HO := Lib.hid ho
  have hbk := ho.blk b rfl
  simp at hbk
  obtain ⟨hb1, hb2⟩ := hbk
  clear ho
  go_wp2
  have hh : Has w1 b xs := by
    rcases HO.out.2 with h | ⟨b', h, _, _, h2⟩
    · simp at h
    · simp at h; subst h; exact h2
  refine bodyPost_ret (v := .agg #[.int .i64 R, .slice (some ⟨b, 0, none⟩) n n]) (by simp [results, Tryz.results17, go_sem, hc]) rfl ⟨b, rfl, ?_, ?_⟩
  · refine Has.own ?_ (by omega) (by simp; omega) HO.out.len
    repeat with_reducible (first | exact hh | refine Has.setOther ?_ (by simp <;> omega) _)
  · repeat with_reducible (first | refine Ext.setCell ?_ (by simp <;> omega) _ | (refine Ext.trans ?_ hbel; exact (((Ext.refl _).alloc _).alloc _).alloc _))

set_option maxHeartbeats 400000 in
/-- At equal ones. -/
theorem eqCartan_law (R : Int) (a a' : Option Addr) (n c c' : Nat) (xs : List Int) (w : World) (hr : Reads w a n xs) (hr' : Reads w a' n xs) (hn : n ≤ 1048576) :
    Calls Tryz.prog 19 #[.agg #[.int .i64 R, .slice a n c], .agg #[.int .i64 R, .slice a' n c']] w fun e w' => e = .returned (.bool true) ∧ Ext w w' := by
  have HR := Lib.hid hr
  have HR' := Lib.hid hr'
  clear hr hr'
  go_enter Tryz.func19, Tryz.ntmps19
  go_wp2_with fail
  refine (eqIntS_law a a' n c c' xs _ (HR.out.ext (((Ext.refl _).alloc _).alloc _)) (HR'.out.ext (((Ext.refl _).alloc _).alloc _)) hn).mono ?_
  rintro e w1 ⟨rfl, m, rfl⟩
  go_wp2
  go_ret
  exact ⟨rfl, (((Ext.refl _).alloc _).alloc _).drewN m⟩

set_option maxHeartbeats 400000 in
theorem markCartan_law (R : Int) (lo hi : Nat) (a : Option Addr) (n c : Nat) (xs : List Int) (k : Int) (w : World) (hr : Own w lo hi a n xs) (hn : n ≤ 1048576) (hk0 : 0 ≤ k) (hk1 : k ≤ 1073741824) :
    Calls Tryz.prog 23 #[.agg #[.int .i64 R, .slice a n c], .int .i64 k] w fun e w' => e = .returned (.int .i64 (k + n)) ∧ Own w' lo hi a n (marks k n) ∧ w.grownBy w' (blk a) := by
  have HR := Lib.hid hr
  clear hr
  go_enter Tryz.func23, Tryz.ntmps23
  go_wp2_with fail
  refine (markIntS_law lo hi a n c xs k _ (HR.out.ext ((Ext.refl _).alloc _)) hn hk0 hk1).mono ?_
  rintro e w1 ⟨rfl, hown, hgrow⟩
  go_wp2
  go_ret
  exact ⟨rfl, hown, hgrow.os, hgrow.tape, hgrow.output, Nat.le_trans (Ext.alloc (Ext.refl w) _).le hgrow.size, fun i hi hne => (hgrow.block i (by simp; omega) hne).trans ((Ext.alloc (Ext.refl w) _).block i hi)⟩

end Go.Proofs.YtlnpaplbcocmkaaGreat
