/-
  Copies: the specification's l1Ints and l1Copy.
-/
import Derived.Test.YtgmipolgnpjmnaaMat
import Derived.Test.YtgmipolgnpjmnaaSMatrix
import Derived.Deep.RegionHeld3
import Derived.Laws.AppendOwnNone
import Derived.ChangeOld
import Derived.Lib.SmallJoins
namespace Go.Proofs.Ytgmipolgnpjmnaa
open Go.ChangeShapes Go.WideShapes Go.ChangeAt Go.RowKit
set_option linter.unusedVariables false

/-- A fresh slice of n integers. -/
def PInts (w : World) (n : Nat) (xs : List Int) (e : Ending) (w' : World) : Prop := ∃ b c', e = .returned (.slice (some ⟨b, 0, none⟩) n c') ∧ w.heap.size ≤ b ∧ Has w' b xs ∧ Ext w w' ∧ n ≤ c'

set_option maxHeartbeats 800000 in
theorem l1Ints_spec (a : Option Addr) (n c : Nat) (xs : List Int) (w : World) (hr : Reads w a n xs) (hn : n ≤ 1048576) (ha : a = none → n = 0 ∧ c = 0) :
    Calls Try.prog 153 #[.slice a n c] w (PInts w n xs) := by
  obtain ⟨i0, hi, hz0, hz1, hz2⟩ := info_parts Try.infoInt
  obtain ⟨hl, hr⟩ := hr
  have own0 : (w.alloc (.cells #[] 3)).ownsRow w.heap.size 3 1 (.slice (some ⟨w.heap.size, 0, none⟩) 0 0) 0 [] := World.ownsRow_lit w #[] 0 (Nat.le_refl _) (by unfold maxLen; omega) (by simp)
  cases a with
  | none =>
    obtain ⟨rfl, rfl⟩ := ha rfl
    obtain rfl : xs = [] := List.length_eq_zero_iff.1 hl
    go_enter Try.func153, Try.ntmps153
    go_wp2_with (at_builtin; refine wpList_append_own_none rfl _ _ 22 rfl w.heap.size 3 i0 1 Try.underlying22 hi _ 0 [] rfl own0 rfl ?_)
    go_ret
    exact ⟨w.heap.size, 0, rfl, Nat.le_refl _, (Has.new w []), (Ext.refl _).alloc _, Nat.le_refl _⟩
  | some ad =>
    have hnews : ∀ (j : Nat) (u : Value), (xs.map (Value.int .i64))[j]? = some u → (w.alloc (.cells #[] 3)).cell? (ad.add j) = some u := by
      intro j u hu
      have hj : j < xs.length := by have := (List.getElem?_eq_some_iff.1 hu).1; simpa using this
      rcases hr with h | ⟨b, off, h, hb, hc⟩
      · omega
      · simp at h
        subst h
        have e : (⟨b, off, none⟩ : Addr).add j = ⟨b, off + j, none⟩ := add_plain ..
        rw [e, World.cell?_alloc_past _ _ _ hb, hc j (by omega)]
        simp [hj] at hu
        simp [gi, hj, hu]
    go_enter Try.func153, Try.ntmps153
    go_wp2_with (at_builtin; refine wpList_append_own _ rfl _ _ 22 rfl w.heap.size 3 i0 (.int .i64 0) 1 8 Try.underlying22 hi hz0 hz1 hz2 rfl (by decide) _ 0 [] rfl own0 ad n _ (xs.map (Value.int .i64)) rfl ?c1 hnews ?c2 ?c3 ?c4 ?c5 ?_)
    case c1 => simpa using hl
    case c2 => intro u hu; obtain ⟨z, _, rfl⟩ := List.mem_map.1 hu; rfl
    case c3 => unfold maxLen; omega
    case c4 => omega
    case c5 => simp
    intro v' w1 ho hg hnil
    have hne : ¬ v' = .slice none 0 0 := hnil
    rcases ho.2 with ⟨h, _⟩ | ⟨g, cap, cur, h, _, _, hcap, _⟩
    · exact absurd h hne
    · subst h
      have hcp : Hid (n ≤ cap) := by simpa [Hid] using hcap
      clear hcap
      have hh := Lib.hid (Has.ofOwns ho)
      have hE : Hid (Ext w w1) := ((Ext.refl w).alloc _).grown hg (fun k hk => by simp [Value.ownBlock] at hk; omega)
      clear ho hg hnil hne
      go_wp2
      go_ret
      refine ⟨g, cap, by simp, hh.out.2.1, hh.out.1, hE.out, hcp.out⟩

set_option maxHeartbeats 1600000 in
theorem l1Copy_spec2 (P R C : Int) (a : Option Addr) (n c : Nat) (xs : List Int) (w : World) (hr : Reads w a n xs) (hn : n ≤ 1048576) (ha : a = none → n = 0 ∧ c = 0) :
    Calls Try.prog 128 #[.agg #[.int .i64 P, .int .i64 R, .int .i64 C, .slice a n c]] w fun e w' => ∃ b c', e = .returned (.agg #[.int .i64 P, .int .i64 R, .int .i64 C, .slice (some ⟨b, 0, none⟩) n c']) ∧ w.heap.size ≤ b ∧ b < w'.heap.size ∧ Has w' b xs ∧ Ext w w' ∧ n ≤ c' := by
  have HR := Lib.hid hr
  clear hr
  go_enter Try.func128, Try.ntmps128
  have B0 := (cells_new w #[.int .i64 P, .int .i64 R, .int .i64 C, .slice a n c] 36).ext ((Ext.refl _).alloc (.cells #[.int .i64 0, .int .i64 0, .int .i64 0, .slice none 0 0] 36))
  have B1 := cells_new' (w.alloc (.cells #[.int .i64 P, .int .i64 R, .int .i64 C, .slice a n c] 36)) #[.int .i64 0, .int .i64 0, .int .i64 0, .slice none 0 0] 36 (w.heap.size + 1) (by simp)
  have hE0 : Hid (Ext w ((w.alloc (.cells #[.int .i64 P, .int .i64 R, .int .i64 C, .slice a n c] 36)).alloc (.cells #[.int .i64 0, .int .i64 0, .int .i64 0, .slice none 0 0] 36))) := ((Ext.refl _).alloc _).alloc _
  go_wp2_with fail
  generalize ((w.alloc (.cells #[.int .i64 P, .int .i64 R, .int .i64 C, .slice a n c] 36)).alloc (.cells #[.int .i64 0, .int .i64 0, .int .i64 0, .slice none 0 0] 36)) = W0 at *
  have l0 := B0.1
  have l1 := B1.1
  have q0 := B0.2 0 _ rfl
  have q1 := B0.2 1 _ rfl
  have q2 := B0.2 2 _ rfl
  have q3 := B0.2 3 _ rfl
  have r0 := B1.2 0 _ rfl
  have r1 := B1.2 1 _ rfl
  have r2 := B1.2 2 _ rfl
  have r3 := B1.2 3 _ rfl
  have t1 := B1.3
  clear B0 B1
  go_region_held3 (fun w' => Ext w w' ∧ w.heap.size + 1 ≤ w'.heap.size ∧ ∀ b o, b < w.heap.size + 1 → w'.cell? ⟨b, o, none⟩ = W0.cell? ⟨b, o, none⟩) (first | (with_reducible exact KeptR.call ‹Ext w _ ∧ w.heap.size + 1 ≤ _ ∧ _› ‹Ext _ _›) | exact ⟨hE0.out, Nat.le_of_lt l1, fun _ _ _ => rfl⟩ | exact ⟨hE0.out.drew, Nat.le_of_lt l1, fun _ _ _ => rfl⟩ | (with_reducible exact KeptR.set4 ‹Ext w _ ∧ w.heap.size + 1 ≤ _ ∧ _› (Nat.le_succ _) _ _ _ _)) (first
    | (go_at_call 153; refine (l1Ints_spec _ _ _ xs _ (HR.out.ext (And.left ‹Ext w _ ∧ w.heap.size + 1 ≤ _ ∧ _›)) hn ha).mono ?_; rintro e w1 ⟨b, c', rfl, hb, hh, hE, hcc⟩; have c1 : w1.cell? ⟨w.heap.size + 1, 0, none⟩ = some (.int .i64 0) := (hE.cells _ 0 l1).trans r0; have c2 : w1.cell? ⟨w.heap.size + 1, 1, none⟩ = some (.int .i64 0) := (hE.cells _ 1 l1).trans r1; have c3 : w1.cell? ⟨w.heap.size + 1, 2, none⟩ = some (.int .i64 0) := (hE.cells _ 2 l1).trans r2; have c4 : w1.cell? ⟨w.heap.size + 1, 3, none⟩ = some (.slice none 0 0) := (hE.cells _ 3 l1).trans r3; have f1 : ∀ j, w1.frozen? ⟨w.heap.size + 1, j, none⟩ = false := fun j => (hE.frees _ j l1).trans (t1 j)))
  have hx := (‹Ext w _ ∧ w.heap.size + 1 ≤ _ ∧ _› : Ext w _ ∧ w.heap.size + 1 ≤ _ ∧ _).1
  simp at hb
  go_wp2
  refine bodyPost_ret (v := .agg #[.int .i64 P, .int .i64 R, .int .i64 C, .slice (some ⟨b, 0, none⟩) n c']) (by simp [results, Try.results128, go_sem, c1, c2, c3, c4]) rfl ⟨b, c', rfl, by omega, ?_, ?_, hx, hcc⟩
  · have := hh.lt; simpa using this
  · repeat with_reducible (first | exact hh | refine Has.setOther ?_ (by simp <;> omega) _)
theorem l1Copy_spec (P R C : Int) (a : Option Addr) (n c : Nat) (xs : List Int) (w : World) (hr : Reads w a n xs) (hn : n ≤ 1048576) (ha : a = none → n = 0 ∧ c = 0) :
    Calls Try.prog 128 #[.agg #[.int .i64 P, .int .i64 R, .int .i64 C, .slice a n c]] w fun e w' => ∃ b c', e = .returned (.agg #[.int .i64 P, .int .i64 R, .int .i64 C, .slice (some ⟨b, 0, none⟩) n c']) ∧ w.heap.size ≤ b ∧ b < w'.heap.size ∧ Has w' b xs ∧ Ext w w' :=
  (l1Copy_spec2 P R C a n c xs w hr hn ha).mono fun e w' ⟨b, c', h1, h2, h3, h4, h5, _⟩ => ⟨b, c', h1, h2, h3, h4, h5⟩
end Go.Proofs.Ytgmipolgnpjmnaa
