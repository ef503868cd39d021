/-
  Columns of two matrices, one beside the other, in the program.
-/
import Derived.Test.YtgmipolgnpjmnaaJoin
import Derived.Test.YtgmipolgnpjmnaaSpOk
import Derived.Deep.RegionHeld3
namespace Go.Proofs.Ytgmipolgnpjmnaa
open Go.ChangeShapes Go.WideShapes Go.ChangeAt Go.RowKit
set_option linter.unusedVariables false

theorem spl_at (X Z cs : List Int) (off : Nat) (h : X.length = off) : spl (X ++ Z) off cs = X ++ (cs ++ Z.drop cs.length) := by
  subst h
  simp [spl, List.drop_append]
theorem spl_idem (l cs : List Int) (off : Nat) (h : off + cs.length ≤ l.length) : spl (spl l off cs) off cs = spl l off cs := by
  have e : (l.take off).length = off := by rw [List.length_take]; omega
  have e2 : spl l off cs = l.take off ++ (cs ++ l.drop (off + cs.length)) := rfl
  rw [e2, spl_at _ _ _ _ e, List.drop_left]
def jl (C D : Nat) (xs ys : List Int) (N i : Nat) : List Int := jmTo C D xs ys i ++ List.replicate (N - i * (C + D)) 0
theorem jl_zero (C D : Nat) (xs ys : List Int) (N : Nat) : jl C D xs ys N 0 = List.replicate N 0 := by simp [jl, jmTo]
theorem jl_end (C D : Nat) (xs ys : List Int) (N R : Nat) (hN : N = R * (C + D)) : jl C D xs ys N R = jmTo C D xs ys R := by simp [jl, hN]
section
variable {R C D N : Nat} {xs ys : List Int}
theorem jl_length (hx : xs.length = R * C) (hy : ys.length = R * D) (hN : N = R * (C + D)) (i : Nat) (hi : i ≤ R) : (jl C D xs ys N i).length = N := by
  have := Nat.mul_le_mul_right (C + D) hi
  rw [jl, List.length_append, jmTo_length hx hy i hi, List.length_replicate]; omega
theorem jl_half (hx : xs.length = R * C) (hy : ys.length = R * D) (hN : N = R * (C + D)) {i : Nat} (hi : i < R) : spl (jl C D xs ys N i) (i * (C + D)) (rowL C xs i) = (jmTo C D xs ys i ++ rowL C xs i) ++ List.replicate (N - i * (C + D) - C) 0 := by
  rw [jl, spl_at _ _ _ _ (jmTo_length hx hy i (by omega)), rowL_length hx hi, List.drop_replicate, List.append_assoc]
theorem jl_step (hx : xs.length = R * C) (hy : ys.length = R * D) (hN : N = R * (C + D)) {i : Nat} (hi : i < R) : spl (spl (jl C D xs ys N i) (i * (C + D)) (rowL C xs i)) (i * (C + D) + C) (rowL D ys i) = jl C D xs ys N (i + 1) := by
  have e : N - i * (C + D) - C - D = N - (i + 1) * (C + D) := by rw [Nat.add_mul]; omega
  rw [jl_half hx hy hN hi, spl_at _ _ _ _ (by rw [List.length_append, jmTo_length hx hy i (by omega), rowL_length hx hi]), rowL_length hy hi, List.drop_replicate, e, jl, jmTo]
  simp [rowL, List.append_assoc]
end
/-- What joinColumns keeps: its boxes, and the numbers of the result. -/
structure JoinC (w wr : World) (A B b : Nat) (va vb vm : List Value) (l : List Int) : Prop where
  loc : Loc w wr B b vm l
  a0 : Cells wr A va
  a1 : Cells wr (A + 1) vb
  res : Cells wr (A + 1 + 1) [.int .i64 0, .int .i64 0, .int .i64 0, .slice none 0 0]
  ne : A + 1 + 1 < b
theorem JoinC.step {w wr wr' : World} {A B b : Nat} {va vb vm : List Value} {l : List Int} (h : JoinC w wr A B b va vb vm l) (hE : Ext wr wr') : JoinC w wr' A B b va vb vm l :=
  ⟨h.loc.step hE, h.a0.ext hE, h.a1.ext hE, h.res.ext hE, h.ne⟩
theorem JoinC.row {w wr wr' : World} {A B b : Nat} {va vb vm : List Value} {l l' : List Int} (h : JoinC w wr A B b va vb vm l) (hh : Has wr' b l') (hg : wr.grownBy wr' (some b)) : JoinC w wr' A B b va vb vm l' := by
  have hn := h.ne
  exact ⟨h.loc.row hh hg, h.a0.grown hg (fun k hk => by simp at hk; omega), h.a1.grown hg (fun k hk => by simp at hk; omega), h.res.grown hg (fun k hk => by simp at hk; omega), h.ne⟩
def JS (w wr : World) (A B b : Nat) (va vb vm : List Value) (N off : Nat) (cs l2 : List Int) : Prop := ∃ l, JoinC w wr A B b va vb vm l ∧ l.length = N ∧ spl l off cs = l2
theorem JS.mk' {w wr : World} {A B b : Nat} {va vb vm : List Value} {N off : Nat} {cs l2 l : List Int} (h1 : JoinC w wr A B b va vb vm l) (h2 : l.length = N) (h3 : spl l off cs = l2) : JS w wr A B b va vb vm N off cs l2 := ⟨l, h1, h2, h3⟩
theorem JS.step {w wr wr' : World} {A B b : Nat} {va vb vm : List Value} {N off : Nat} {cs l2 : List Int} (h : JS w wr A B b va vb vm N off cs l2) (hE : Ext wr wr') : JS w wr' A B b va vb vm N off cs l2 := by
  obtain ⟨l, h1, h2⟩ := h
  exact ⟨l, h1.step hE, h2⟩
theorem js5 {w wr : World} {A B b : Nat} {a1 a2 a3 a4 b1 b2 b3 b4 : Value} {vm : List Value} {N off : Nat} {cs l2 : List Int} (h : JS w wr A B b [a1, a2, a3, a4] [b1, b2, b3, b4] vm N off cs l2) : wr.cell? ⟨A, 2, none⟩ = some a3 ∧ wr.cell? ⟨A + 1, 0, none⟩ = some b1 ∧ wr.cell? ⟨A + 1, 1, none⟩ = some b2 ∧ wr.cell? ⟨A + 1, 2, none⟩ = some b3 ∧ wr.cell? ⟨A + 1, 3, none⟩ = some b4 ∧ JS w wr A B b [a1, a2, a3, a4] [b1, b2, b3, b4] vm N off cs l2 := by
  obtain ⟨l, h1, h2⟩ := h
  exact ⟨h1.a0.2 2 _ rfl, h1.a1.2 0 _ rfl, h1.a1.2 1 _ rfl, h1.a1.2 2 _ rfl, h1.a1.2 3 _ rfl, l, h1, h2⟩

end Go.Proofs.Ytgmipolgnpjmnaa
