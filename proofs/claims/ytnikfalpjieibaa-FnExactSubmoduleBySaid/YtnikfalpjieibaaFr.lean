/-
  Matrix by value: the law package's helpers.
-/
import Derived.Test.YtnikfalpjieibaaM0
import Derived.ProofKit
import Derived.OpenShut
import Derived.ShutString
import Derived.ChangeOld
import Derived.Lib.SmallJoins
import Derived.Deep.RegionHeld3
import Derived.Deep.DeepCutAuto
import Derived.StillTactics
import Derived.Laws.Pointers
namespace Go.Proofs.Ytnikfalpjieibaa
open Go.RowKit
set_option linter.unusedVariables false

/-- What a result of this struct is: its numbers, and a slice of the call's own. -/
def Rmat (w w' : World) (v : Value) (P R C : Int) (xs : List Int) : Prop := ∃ a n c, v = .agg #[.int .i64 P, .int .i64 R, .int .i64 C, .slice a n c] ∧ Own w' w.heap.size w'.heap.size a n xs ∧ n ≤ 1048576

set_option maxHeartbeats 400000 in
theorem szMatrix_yes (P R C : Int) (a : Option Addr) (n c : Nat) (k : Int) (w : World) (hk1 : k ≤ 1073741824) (hn : (n : Int) ≤ k) :
    Calls Try.prog 41 #[.agg #[.int .i64 P, .int .i64 R, .int .i64 C, .slice a n c], .int .i64 k] w fun e w' => e = .returned (.int .i64 (k - n)) ∧ Ext w w' := by
  have h : 0 ≤ k - n := by omega
  go_enter Try.func41, Try.ntmps41
  go_wp2_with ((with_reducible refine (szIntS_yes _ _ _ _ _ hk1 hn).mono ?_); rintro e w' ⟨rfl, rfl⟩)
  go_ret
  exact ⟨rfl, (Ext.refl _).alloc _⟩
set_option maxHeartbeats 400000 in
theorem szMatrix_no (P R C : Int) (a : Option Addr) (n c : Nat) (k : Int) (w : World) (hk0 : 0 ≤ k) (hk1 : k ≤ 1073741824) (hn : n ≤ maxLen) (hlt : k < (n : Int)) :
    Calls Try.prog 41 #[.agg #[.int .i64 P, .int .i64 R, .int .i64 C, .slice a n c], .int .i64 k] w fun e w' => e = .returned (.int .i64 (-1)) ∧ Ext w w' := by
  go_enter Try.func41, Try.ntmps41
  go_wp2_with ((with_reducible refine (szIntS_no _ _ _ _ _ hk0 hk1 hn hlt).mono ?_); rintro e w' ⟨rfl, rfl⟩)
  go_ret
  exact ⟨rfl, (Ext.refl _).alloc _⟩

set_option maxHeartbeats 400000 in
theorem toMatrix_law (P R C : Int) (a : Option Addr) (n c : Nat) (xs : List Int) (w : World) (hr : Reads w a n xs) (hn : n ≤ 1048576) :
    Calls Try.prog 43 #[.agg #[.int .i64 P, .int .i64 R, .int .i64 C, .slice a n c]] w fun e w' => ∃ b, e = .returned (.agg #[.int .i64 P, .int .i64 R, .int .i64 C, .slice (some ⟨b, 0, none⟩) n n]) ∧ Own w' w.heap.size w'.heap.size (some ⟨b, 0, none⟩) n xs ∧ Ext w w' := by
  have HR := Lib.hid hr
  clear hr
  go_enter Try.func43, Try.ntmps43
  go_wp2_with fail
  refine (toIntS_law a n c xs _ (HR.out.ext ((((Ext.refl _).alloc _).alloc _).alloc _)) hn).mono ?_
  rintro e w1 ⟨b, rfl, ho, hbel⟩
  have hc := hbel.cells
  have hf := hbel.frees
  have hz := hbel.le
  simp at hz
  have HO := Lib.hid ho
  have hbk := ho.blk b rfl
  simp at hbk
  obtain ⟨hb1, hb2⟩ := hbk
  clear ho
  go_wp2
  have hh : Has w1 b xs := by
    rcases HO.out.2 with h | ⟨b', h, _, _, h2⟩
    · simp at h
    · simp at h; subst h; exact h2
  refine bodyPost_ret (v := .agg #[.int .i64 P, .int .i64 R, .int .i64 C, .slice (some ⟨b, 0, none⟩) n n]) (by simp [results, Try.results43, go_sem, hc]) rfl ⟨b, rfl, ?_, ?_⟩
  · refine Has.own ?_ (by omega) (by simp; omega) HO.out.len
    repeat with_reducible (first | exact hh | refine Has.setOther ?_ (by simp <;> omega) _)
  · repeat with_reducible (first | refine Ext.setCell ?_ (by simp <;> omega) _ | (refine Ext.trans ?_ hbel; exact (((Ext.refl _).alloc _).alloc _).alloc _))

set_option maxHeartbeats 400000 in
/-- At equal ones. -/
theorem eqMatrix_law (P R C : Int) (a a' : Option Addr) (n c c' : Nat) (xs : List Int) (w : World) (hr : Reads w a n xs) (hr' : Reads w a' n xs) (hn : n ≤ 1048576) :
    Calls Try.prog 23 #[.agg #[.int .i64 P, .int .i64 R, .int .i64 C, .slice a n c], .agg #[.int .i64 P, .int .i64 R, .int .i64 C, .slice a' n c']] w fun e w' => e = .returned (.bool true) ∧ Ext w w' := by
  have HR := Lib.hid hr
  have HR' := Lib.hid hr'
  clear hr hr'
  go_enter Try.func23, Try.ntmps23
  go_wp2_with fail
  refine (eqIntS_law a a' n c c' xs _ (HR.out.ext (((Ext.refl _).alloc _).alloc _)) (HR'.out.ext (((Ext.refl _).alloc _).alloc _)) hn).mono ?_
  rintro e w1 ⟨rfl, m, rfl⟩
  go_wp2
  go_ret
  exact ⟨rfl, (((Ext.refl _).alloc _).alloc _).drewN m⟩

set_option maxHeartbeats 400000 in
theorem markMatrix_law (P R C : Int) (lo hi : Nat) (a : Option Addr) (n c : Nat) (xs : List Int) (k : Int) (w : World) (hr : Own w lo hi a n xs) (hn : n ≤ 1048576) (hk0 : 0 ≤ k) (hk1 : k ≤ 1073741824) :
    Calls Try.prog 28 #[.agg #[.int .i64 P, .int .i64 R, .int .i64 C, .slice a n c], .int .i64 k] w fun e w' => e = .returned (.int .i64 (k + n)) ∧ Own w' lo hi a n (marks k n) ∧ w.grownBy w' (blk a) := by
  have HR := Lib.hid hr
  clear hr
  go_enter Try.func28, Try.ntmps28
  go_wp2_with fail
  refine (markIntS_law lo hi a n c xs k _ (HR.out.ext ((Ext.refl _).alloc _)) hn hk0 hk1).mono ?_
  rintro e w1 ⟨rfl, hown, hgrow⟩
  go_wp2
  go_ret
  exact ⟨rfl, hown, hgrow.os, hgrow.tape, hgrow.output, Nat.le_trans (Ext.alloc (Ext.refl w) _).le hgrow.size, fun i hi hne => (hgrow.block i (by simp; omega) hne).trans ((Ext.alloc (Ext.refl w) _).block i hi)⟩

set_option maxHeartbeats 400000 in
theorem heldMatrix_law (P R C : Int) (a : Option Addr) (n c : Nat) (k : Int) (w : World) (hr : Reads w a n (marks k n)) (hn : n ≤ 1048576) (hk0 : 0 ≤ k) (hk1 : k ≤ 1073741824) :
    Calls Try.prog 29 #[.agg #[.int .i64 P, .int .i64 R, .int .i64 C, .slice a n c], .int .i64 k] w fun e w' => e = .returned (.int .i64 (k + n)) ∧ Ext w w' := by
  have HR := Lib.hid hr
  have hpos : 0 ≤ k + n := by omega
  clear hr
  go_enter Try.func29, Try.ntmps29
  go_wp2_with fail
  refine (heldIntS_law a n c k _ (HR.out.ext ((Ext.refl _).alloc _)) hn hk0 hk1).mono ?_
  rintro e w1 ⟨rfl, rfl⟩
  go_wp2
  go_ret
  exact ⟨rfl, (Ext.refl _).alloc _⟩
end Go.Proofs.Ytnikfalpjieibaa

/-
  What the rows of the laws share: the program's layout, and how an argument that is a slice of integers or a matrix is read.
-/
namespace Go.Proofs.Ytnikfalpjieibaa
open Go.ChangeShapes Go.WideShapes Go.ChangeAt Go.RowKit

theorem own : ownKnob Try.prog.godebug = none := by kernel_rfl
theorem laidOut : laidOutB Try.prog = true := by kernel_rfl
theorem cellsInt : Try.prog.cellsOf 3 = 1 := by kernel_rfl

theorem reads_trod {H : Type} {enc : TypeId × Value → H} {W : World} {n : Nat} {v : Value} {y : DataW H × List MemPlace}
    (h : DataW.trod enc Try.prog W 0 (fun _ => true) true n 22 [v] = some y) :
    ∃ a l c xs, v = .slice a l c ∧ Reads W a l xs ∧ l ≤ maxLen := by
  rcases open_ints Try.underlying22 Try.underlying3 cellsInt h with ⟨hcs, _⟩ | ⟨x, l, c, zs, hcs, _, hl, hm, hz, _, hcell, hwz⟩
  · simp at hcs
    exact ⟨none, 0, 0, [], hcs, ⟨rfl, .inl rfl⟩, by omega⟩
  · simp at hcs
    refine ⟨some x, l, c, zs.take l, hcs, ?_, by omega⟩
    have hz' : zs.length = c := by simpa using hz
    have htl : (zs.take l).length = l := by simp; omega
    refine ⟨htl, ?_⟩
    by_cases h0 : l = 0
    · exact .inl h0
    · obtain ⟨b, off, spot⟩ := x
      have hspot : spot = none := by simpa [Addr.add] using World.cell?_spot (hcell 0 (by omega))
      subst hspot
      refine .inr ⟨b, off, rfl, ?_, fun j hj => ?_⟩
      · have := hcell 0 (by omega)
        simpa [Addr.add] using World.block_lt_of_cell? _ _ this
      · have := hcell j (by omega)
        rw [add_plain] at this
        rw [this]
        simp [gi, hj]

set_option maxRecDepth 100000 in
theorem open_intsl {H : Type} {enc : TypeId × Value → H} {W : World} {base : Nat} {v : Value} {d : DataW H} {p : List MemPlace}
    (hv : Value.okWide Try.prog W .any base 22 v) (h : DataW.Trod enc Try.prog W 0 (fun _ => true) true 22 v d p) :
    ∃ a n c xs, v = .slice a n c ∧ Reads W a n xs ∧ n ≤ maxLen := by
  obtain ⟨a0, len0, cap0, rfl⟩ := okWide_slice Try.underlying22 hv
  obtain ⟨fuel, hf⟩ := h
  exact reads_trod (by simpa [Value.cells] using hf)

set_option maxRecDepth 100000 in
theorem open_mat {H : Type} {enc : TypeId × Value → H} {W : World} {base : Nat} {v : Value} {d : DataW H} {p : List MemPlace}
    (hv : Value.okWide Try.prog W .any base 56 v) (h : DataW.Trod enc Try.prog W 0 (fun _ => true) true 56 v d p) :
    ∃ P R C a n c xs, v = .agg #[.int .i64 P, .int .i64 R, .int .i64 C, .slice a n c] ∧ Reads W a n xs ∧ n ≤ maxLen := by
  obtain ⟨v0, v1, v2, v3, y0, y1, y2, y3, m, rfl, _, _, t0, t1, t2, t3⟩ := Go.Joins.open_agg4 Try.underlying56 (by kernel_rfl) (by kernel_rfl) hv h
  obtain ⟨P, e0, _, _⟩ := DataW.trod_int Try.underlying3 t0
  obtain ⟨R, e1, _, _⟩ := DataW.trod_int Try.underlying3 t1
  obtain ⟨C, e2, _, _⟩ := DataW.trod_int Try.underlying3 t2
  obtain ⟨a, n, c, xs, e3, hr, hm⟩ := reads_trod t3
  simp at e0 e1 e2
  subst e0 e1 e2 e3
  exact ⟨P, R, C, a, n, c, xs, rfl, hr, hm⟩
end Go.Proofs.Ytnikfalpjieibaa

/-
  What the walks of the laws import, under one name.
-/

/-
  How an argument that is an algebra is read.
-/
namespace Go.Proofs.Ytnikfalpjieibaa
open Go.ChangeShapes Go.WideShapes Go.ChangeAt Go.RowKit

set_option maxRecDepth 100000 in
theorem open_alg {H : Type} {enc : TypeId × Value → H} {W : World} {base : Nat} {v : Value} {d : DataW H} {p : List MemPlace}
    (hv : Value.okWide Try.prog W .any base 24 v) (h : DataW.Trod enc Try.prog W 0 (fun _ => true) true 24 v d p) :
    ∃ P D a n c xs, v = .agg #[.int .i64 P, .int .i64 D, .slice a n c] ∧ Reads W a n xs ∧ n ≤ maxLen := by
  obtain ⟨v0, v1, v2, y0, y1, y2, m, rfl, _, _, t0, t1, t2⟩ := Go.Joins.open_agg3 Try.underlying24 (by kernel_rfl) (by kernel_rfl) hv h
  obtain ⟨P, e0, _, _⟩ := DataW.trod_int Try.underlying3 t0
  obtain ⟨D, e1, _, _⟩ := DataW.trod_int Try.underlying3 t1
  obtain ⟨a, n, c, xs, e2, hr, hm⟩ := reads_trod t2
  simp at e0 e1 e2
  subst e0 e1 e2
  exact ⟨P, D, a, n, c, xs, rfl, hr, hm⟩
end Go.Proofs.Ytnikfalpjieibaa

/-
  Algebra by value: the law package's helpers.
-/
namespace Go.Proofs.Ytnikfalpjieibaa
open Go.RowKit
set_option linter.unusedVariables false

/-- What a result of this struct is: its numbers, and a slice of the call's own. -/
def Ralg (w w' : World) (v : Value) (P D : Int) (xs : List Int) : Prop := ∃ a n c, v = .agg #[.int .i64 P, .int .i64 D, .slice a n c] ∧ Own w' w.heap.size w'.heap.size a n xs ∧ n ≤ 1048576

set_option maxHeartbeats 400000 in
theorem szAlgebra_yes (P D : Int) (a : Option Addr) (n c : Nat) (k : Int) (w : World) (hk1 : k ≤ 1073741824) (hn : (n : Int) ≤ k) :
    Calls Try.prog 12 #[.agg #[.int .i64 P, .int .i64 D, .slice a n c], .int .i64 k] w fun e w' => e = .returned (.int .i64 (k - n)) ∧ Ext w w' := by
  have h : 0 ≤ k - n := by omega
  go_enter Try.func12, Try.ntmps12
  go_wp2_with ((with_reducible refine (szIntS_yes _ _ _ _ _ hk1 hn).mono ?_); rintro e w' ⟨rfl, rfl⟩)
  go_ret
  exact ⟨rfl, (Ext.refl _).alloc _⟩
set_option maxHeartbeats 400000 in
theorem szAlgebra_no (P D : Int) (a : Option Addr) (n c : Nat) (k : Int) (w : World) (hk0 : 0 ≤ k) (hk1 : k ≤ 1073741824) (hn : n ≤ maxLen) (hlt : k < (n : Int)) :
    Calls Try.prog 12 #[.agg #[.int .i64 P, .int .i64 D, .slice a n c], .int .i64 k] w fun e w' => e = .returned (.int .i64 (-1)) ∧ Ext w w' := by
  go_enter Try.func12, Try.ntmps12
  go_wp2_with ((with_reducible refine (szIntS_no _ _ _ _ _ hk0 hk1 hn hlt).mono ?_); rintro e w' ⟨rfl, rfl⟩)
  go_ret
  exact ⟨rfl, (Ext.refl _).alloc _⟩

set_option maxHeartbeats 400000 in
theorem toAlgebra_law (P D : Int) (a : Option Addr) (n c : Nat) (xs : List Int) (w : World) (hr : Reads w a n xs) (hn : n ≤ 1048576) :
    Calls Try.prog 15 #[.agg #[.int .i64 P, .int .i64 D, .slice a n c]] w fun e w' => ∃ b, e = .returned (.agg #[.int .i64 P, .int .i64 D, .slice (some ⟨b, 0, none⟩) n n]) ∧ Own w' w.heap.size w'.heap.size (some ⟨b, 0, none⟩) n xs ∧ Ext w w' := by
  have HR := Lib.hid hr
  clear hr
  go_enter Try.func15, Try.ntmps15
  go_wp2_with fail
  refine (toIntS_law a n c xs _ (HR.out.ext ((((Ext.refl _).alloc _).alloc _).alloc _)) hn).mono ?_
  rintro e w1 ⟨b, rfl, ho, hbel⟩
  have hc := hbel.cells
  have hf := hbel.frees
  have hz := hbel.le
  simp at hz
  have HO := Lib.hid ho
  have hbk := ho.blk b rfl
  simp at hbk
  obtain ⟨hb1, hb2⟩ := hbk
  clear ho
  go_wp2
  have hh : Has w1 b xs := by
    rcases HO.out.2 with h | ⟨b', h, _, _, h2⟩
    · simp at h
    · simp at h; subst h; exact h2
  refine bodyPost_ret (v := .agg #[.int .i64 P, .int .i64 D, .slice (some ⟨b, 0, none⟩) n n]) (by simp [results, Try.results15, go_sem, hc]) rfl ⟨b, rfl, ?_, ?_⟩
  · refine Has.own ?_ (by omega) (by simp; omega) HO.out.len
    repeat with_reducible (first | exact hh | refine Has.setOther ?_ (by simp <;> omega) _)
  · repeat with_reducible (first | refine Ext.setCell ?_ (by simp <;> omega) _ | (refine Ext.trans ?_ hbel; exact (((Ext.refl _).alloc _).alloc _).alloc _))

set_option maxHeartbeats 400000 in
/-- At equal ones. -/
theorem eqAlgebra_law (P D : Int) (a a' : Option Addr) (n c c' : Nat) (xs : List Int) (w : World) (hr : Reads w a n xs) (hr' : Reads w a' n xs) (hn : n ≤ 1048576) :
    Calls Try.prog 18 #[.agg #[.int .i64 P, .int .i64 D, .slice a n c], .agg #[.int .i64 P, .int .i64 D, .slice a' n c']] w fun e w' => e = .returned (.bool true) ∧ Ext w w' := by
  have HR := Lib.hid hr
  have HR' := Lib.hid hr'
  clear hr hr'
  go_enter Try.func18, Try.ntmps18
  go_wp2_with fail
  refine (eqIntS_law a a' n c c' xs _ (HR.out.ext (((Ext.refl _).alloc _).alloc _)) (HR'.out.ext (((Ext.refl _).alloc _).alloc _)) hn).mono ?_
  rintro e w1 ⟨rfl, m, rfl⟩
  go_wp2
  go_ret
  exact ⟨rfl, (((Ext.refl _).alloc _).alloc _).drewN m⟩

set_option maxHeartbeats 400000 in
theorem markAlgebra_law (P D : Int) (lo hi : Nat) (a : Option Addr) (n c : Nat) (xs : List Int) (k : Int) (w : World) (hr : Own w lo hi a n xs) (hn : n ≤ 1048576) (hk0 : 0 ≤ k) (hk1 : k ≤ 1073741824) :
    Calls Try.prog 25 #[.agg #[.int .i64 P, .int .i64 D, .slice a n c], .int .i64 k] w fun e w' => e = .returned (.int .i64 (k + n)) ∧ Own w' lo hi a n (marks k n) ∧ w.grownBy w' (blk a) := by
  have HR := Lib.hid hr
  clear hr
  go_enter Try.func25, Try.ntmps25
  go_wp2_with fail
  refine (markIntS_law lo hi a n c xs k _ (HR.out.ext ((Ext.refl _).alloc _)) hn hk0 hk1).mono ?_
  rintro e w1 ⟨rfl, hown, hgrow⟩
  go_wp2
  go_ret
  exact ⟨rfl, hown, hgrow.os, hgrow.tape, hgrow.output, Nat.le_trans (Ext.alloc (Ext.refl w) _).le hgrow.size, fun i hi hne => (hgrow.block i (by simp; omega) hne).trans ((Ext.alloc (Ext.refl w) _).block i hi)⟩

end Go.Proofs.Ytnikfalpjieibaa
