/-
  Rows of two matrices, one behind the other, in the program.
-/
import Derived.Test.YtgmipolgnpjmnaaRi
import Derived.Deep.RegionLaw
import Derived.Deep.DeepCutAuto
import Derived.Test.YtgmipolgnpjmnaaSp
import Derived.Deep.RegionHeld3
import Derived.Test.YtgmipolgnpjmnaaNc
namespace Go.Proofs.Ytgmipolgnpjmnaa
open Go.ChangeShapes Go.WideShapes Go.ChangeAt Go.RowKit
set_option linter.unusedVariables false

/-- The builtin copy as a step of a region. -/
theorem step_copyM {ops : Array Oper} {o : Oper} {a : Act} {w : World} {K : Act → World → Prop} {Q : Exit → Act → World → Prop} {E : Prop} (hgd : o.guard = none) (d s : Operand)
    (ho : o.op = .call { callee := .builtin .copy, args := #[d, s], argTypes := #[22, 22] })
    (dp : Option Addr) (b off dLen dCap : Nat) (sp : Option Addr) (sLen sCap : Nat) (hd : a.eval d = .slice dp dLen dCap) (hs : a.eval s = .slice sp sLen sCap)
    (l ys : List Int) (hh : Has w b l) (hy : Reads w sp sLen ys) (k : Nat) (hk : min sLen dLen = k) (hdp : 0 < k → dp = some ⟨b, off, none⟩) (hf : off + k ≤ l.length)
    (h : ∀ w', Has w' b (spl l off (ys.take k)) → w.grownBy w' (some b) → K (a.put o.dst (goInt ((k : Nat) : Int))) w') :
    if Region.wanted o (yielded ops a.tmps) = true then Oper.wp Try.prog o a w K Q else E := by
  have hw : Region.wanted o (yielded ops a.tmps) = true := by simp [Region.wanted, hgd]
  rw [if_pos hw]
  have hsz : (Try.prog.info? 3).map (·.size) = some 1 := by kernel_rfl
  by_cases h0 : k = 0
  · subst h0
    have hrun := run_copy_none (P := Try.prog) w 22 22 o.type 3 dp sp dLen dCap sLen sCap Try.underlying22 hsz hk
    unfold Oper.wp
    simp [execOp, ho, resolve, invoke, builtin, hd, hs, hrun, Result.andThen]
    exact h w (by simpa [spl_nil] using hh) (grownBy_refl _ _)
  · have hl := hy.1
    have hlen : (ys.take k).length = k := by rw [List.length_take, hl]; omega
    obtain ⟨cur, h1, h2, h3, h4⟩ := hh.setRow off (ys.take k) (by rw [hlen]; exact hf)
    obtain rfl := hdp (by omega)
    rcases hy.2 with hz | ⟨b', off', rfl, hb', hc'⟩
    · omega
    · have h5 := h _ h3 h4
      have e : ((ys.take k).map (Value.int .i64)).length = k := by rw [List.length_map, hlen]
      have e2 : goInt ((k : Nat) : Int) = goInt ((((ys.take k).map (Value.int .i64)).length : Nat) : Int) := by rw [e]
      rw [e2] at h5
      have hrun := run_copy_row (P := Try.prog) w 22 22 o.type 3 b off dLen dCap ⟨b', off', none⟩ sLen sCap cur 3 ((ys.take k).map (Value.int .i64)) Try.underlying22 hsz h1 (by rw [e]; exact hk.symm) (fun j v hv => by
        have hj : j < k := by have := (List.getElem?_eq_some_iff.1 hv).1; simp [hl] at this; omega
        rw [show (⟨b', off', none⟩ : Addr).add j = ⟨b', off' + j, none⟩ from add_plain .., hc' j (by omega)]
        simp [hj] at hv
        obtain ⟨x, hx, rfl⟩ := hv
        simp [gi, List.getD_eq_getElem?_getD, hx]) h2 (fun v hv => by obtain ⟨z, _, rfl⟩ := List.mem_map.1 hv; rfl)
      clear h2 h3 h4 e2 e hlen
      generalize (ys.take k).map (Value.int .i64) = cs at h5 hrun
      unfold Oper.wp
      simp [execOp, ho, resolve, invoke, builtin, hd, hs, hrun, Result.andThen]
      exact h5
theorem spl_join (l xs ys : List Int) (n n' : Nat) (hl : l.length = n + n') (hx : xs.length = n) (hy : ys.length = n') : spl (spl l 0 (xs.take n)) n (ys.take n') = xs ++ ys := by
  rw [List.take_of_length_le (Nat.le_of_eq hx), List.take_of_length_le (Nat.le_of_eq hy)]
  have e1 : spl l 0 xs = xs ++ l.drop n := by simp [spl, hx]
  rw [e1, spl, List.take_append_of_le_length (Nat.le_of_eq hx.symm), List.take_of_length_le (Nat.le_of_eq hx), List.drop_eq_nil_of_le (by simp; omega), List.append_nil]

end Go.Proofs.Ytgmipolgnpjmnaa

/-
  Columns of two matrices, one beside the other, in the program.
-/
namespace Go.Proofs.Ytgmipolgnpjmnaa
open Go.ChangeShapes Go.WideShapes Go.ChangeAt Go.RowKit
set_option linter.unusedVariables false

theorem spl_at (X Z cs : List Int) (off : Nat) (h : X.length = off) : spl (X ++ Z) off cs = X ++ (cs ++ Z.drop cs.length) := by
  subst h
  simp [spl, List.drop_append]
theorem spl_idem (l cs : List Int) (off : Nat) (h : off + cs.length ≤ l.length) : spl (spl l off cs) off cs = spl l off cs := by
  have e : (l.take off).length = off := by rw [List.length_take]; omega
  have e2 : spl l off cs = l.take off ++ (cs ++ l.drop (off + cs.length)) := rfl
  rw [e2, spl_at _ _ _ _ e, List.drop_left]
def jl (C D : Nat) (xs ys : List Int) (N i : Nat) : List Int := jmTo C D xs ys i ++ List.replicate (N - i * (C + D)) 0
theorem jl_zero (C D : Nat) (xs ys : List Int) (N : Nat) : jl C D xs ys N 0 = List.replicate N 0 := by simp [jl, jmTo]
theorem jl_end (C D : Nat) (xs ys : List Int) (N R : Nat) (hN : N = R * (C + D)) : jl C D xs ys N R = jmTo C D xs ys R := by simp [jl, hN]
section
variable {R C D N : Nat} {xs ys : List Int}
theorem jl_length (hx : xs.length = R * C) (hy : ys.length = R * D) (hN : N = R * (C + D)) (i : Nat) (hi : i ≤ R) : (jl C D xs ys N i).length = N := by
  have := Nat.mul_le_mul_right (C + D) hi
  rw [jl, List.length_append, jmTo_length hx hy i hi, List.length_replicate]; omega
theorem jl_half (hx : xs.length = R * C) (hy : ys.length = R * D) (hN : N = R * (C + D)) {i : Nat} (hi : i < R) : spl (jl C D xs ys N i) (i * (C + D)) (rowL C xs i) = (jmTo C D xs ys i ++ rowL C xs i) ++ List.replicate (N - i * (C + D) - C) 0 := by
  rw [jl, spl_at _ _ _ _ (jmTo_length hx hy i (by omega)), rowL_length hx hi, List.drop_replicate, List.append_assoc]
theorem jl_step (hx : xs.length = R * C) (hy : ys.length = R * D) (hN : N = R * (C + D)) {i : Nat} (hi : i < R) : spl (spl (jl C D xs ys N i) (i * (C + D)) (rowL C xs i)) (i * (C + D) + C) (rowL D ys i) = jl C D xs ys N (i + 1) := by
  have e : N - i * (C + D) - C - D = N - (i + 1) * (C + D) := by rw [Nat.add_mul]; omega
  rw [jl_half hx hy hN hi, spl_at _ _ _ _ (by rw [List.length_append, jmTo_length hx hy i (by omega), rowL_length hx hi]), rowL_length hy hi, List.drop_replicate, e, jl, jmTo]
  simp [rowL, List.append_assoc]
end
/-- What joinColumns keeps: its boxes, and the numbers of the result. -/
structure JoinC (w wr : World) (A B b : Nat) (va vb vm : List Value) (l : List Int) : Prop where
  loc : Loc w wr B b vm l
  a0 : Cells wr A va
  a1 : Cells wr (A + 1) vb
  res : Cells wr (A + 1 + 1) [.int .i64 0, .int .i64 0, .int .i64 0, .slice none 0 0]
  ne : A + 1 + 1 < b
theorem JoinC.step {w wr wr' : World} {A B b : Nat} {va vb vm : List Value} {l : List Int} (h : JoinC w wr A B b va vb vm l) (hE : Ext wr wr') : JoinC w wr' A B b va vb vm l :=
  ⟨h.loc.step hE, h.a0.ext hE, h.a1.ext hE, h.res.ext hE, h.ne⟩
theorem JoinC.row {w wr wr' : World} {A B b : Nat} {va vb vm : List Value} {l l' : List Int} (h : JoinC w wr A B b va vb vm l) (hh : Has wr' b l') (hg : wr.grownBy wr' (some b)) : JoinC w wr' A B b va vb vm l' := by
  have hn := h.ne
  exact ⟨h.loc.row hh hg, h.a0.grown hg (fun k hk => by simp at hk; omega), h.a1.grown hg (fun k hk => by simp at hk; omega), h.res.grown hg (fun k hk => by simp at hk; omega), h.ne⟩
def JS (w wr : World) (A B b : Nat) (va vb vm : List Value) (N off : Nat) (cs l2 : List Int) : Prop := ∃ l, JoinC w wr A B b va vb vm l ∧ l.length = N ∧ spl l off cs = l2
theorem JS.mk' {w wr : World} {A B b : Nat} {va vb vm : List Value} {N off : Nat} {cs l2 l : List Int} (h1 : JoinC w wr A B b va vb vm l) (h2 : l.length = N) (h3 : spl l off cs = l2) : JS w wr A B b va vb vm N off cs l2 := ⟨l, h1, h2, h3⟩
theorem JS.step {w wr wr' : World} {A B b : Nat} {va vb vm : List Value} {N off : Nat} {cs l2 : List Int} (h : JS w wr A B b va vb vm N off cs l2) (hE : Ext wr wr') : JS w wr' A B b va vb vm N off cs l2 := by
  obtain ⟨l, h1, h2⟩ := h
  exact ⟨l, h1.step hE, h2⟩
theorem js5 {w wr : World} {A B b : Nat} {a1 a2 a3 a4 b1 b2 b3 b4 : Value} {vm : List Value} {N off : Nat} {cs l2 : List Int} (h : JS w wr A B b [a1, a2, a3, a4] [b1, b2, b3, b4] vm N off cs l2) : wr.cell? ⟨A, 2, none⟩ = some a3 ∧ wr.cell? ⟨A + 1, 0, none⟩ = some b1 ∧ wr.cell? ⟨A + 1, 1, none⟩ = some b2 ∧ wr.cell? ⟨A + 1, 2, none⟩ = some b3 ∧ wr.cell? ⟨A + 1, 3, none⟩ = some b4 ∧ JS w wr A B b [a1, a2, a3, a4] [b1, b2, b3, b4] vm N off cs l2 := by
  obtain ⟨l, h1, h2⟩ := h
  exact ⟨h1.a0.2 2 _ rfl, h1.a1.2 0 _ rfl, h1.a1.2 1 _ rfl, h1.a1.2 2 _ rfl, h1.a1.2 3 _ rfl, l, h1, h2⟩

end Go.Proofs.Ytgmipolgnpjmnaa

/-
  A system solved, in the program.
-/
namespace Go.Proofs.Ytgmipolgnpjmnaa
open Go.ChangeShapes Go.WideShapes Go.ChangeAt Go.RowKit
set_option linter.unusedVariables false

/-- What is found, or nothing. -/
def SolPost (w : World) (ok : Bool) (l : List Int) (e : Ending) (w' : World) : Prop := ∃ s m c, e = .returned (.tuple #[.slice s m c, .bool ok]) ∧ Own w' w.heap.size w'.heap.size s m (if ok then l else []) ∧ Ext w w'

end Go.Proofs.Ytgmipolgnpjmnaa
