/-
  The builtin copy over slices of integers, and copies of matrices in the program.
-/
import Derived.Test.YtgmipolgnpjmnaaRedI
import Derived.Laws.CopyOwn
namespace Go.Proofs.Ytgmipolgnpjmnaa
open Go.ChangeShapes Go.WideShapes Go.ChangeAt Go.RowKit
set_option linter.unusedVariables false

/-- cs laid over l from off on. -/
def spl (l : List Int) (off : Nat) (cs : List Int) : List Int := l.take off ++ (cs ++ l.drop (off + cs.length))
theorem spl_length (l : List Int) (off : Nat) (cs : List Int) (h : off + cs.length ≤ l.length) : (spl l off cs).length = l.length := by
  simp only [spl, List.length_append, List.length_take, List.length_drop]; omega
theorem gi_spl (l : List Int) (off : Nat) (cs : List Int) (h : off + cs.length ≤ l.length) (k : Nat) : gi (spl l off cs) k = if off ≤ k ∧ k < off + cs.length then gi cs (k - off) else gi l k := by
  have ht : (l.take off).length = off := by simp; omega
  unfold spl
  by_cases h1 : k < off
  · rw [gi_append_l (by omega), gi_take _ _ _ h1, if_neg (by omega)]
  · rw [gi_append_r (by omega), ht]
    by_cases h2 : k - off < cs.length
    · rw [gi_append_l h2, if_pos (by omega)]
    · rw [gi_append_r (by omega), gi_drop, if_neg (by omega)]
      congr 1; omega
theorem spl_nil (l : List Int) (off : Nat) : spl l off [] = l := by simp [spl]
theorem Has.setRow {w : World} {b : Nat} {l : List Int} (h : Has w b l) (off : Nat) (cs : List Int) (hf : off + cs.length ≤ l.length) :
    ∃ cur, w.heap[b]? = some (.cells cur 3 (0, 0)) ∧ off + (cs.map (Value.int .i64)).length ≤ cur.size ∧ Has (w.setRow b (cur.toList.take off ++ (cs.map (Value.int .i64) ++ cur.toList.drop (off + (cs.map (Value.int .i64)).length))).toArray) b (spl l off cs) ∧ w.grownBy (w.setRow b (cur.toList.take off ++ (cs.map (Value.int .i64) ++ cur.toList.drop (off + (cs.map (Value.int .i64)).length))).toArray) (some b) := by
  obtain ⟨cur, h1, h2, h3⟩ := h
  have hsz : cur.toList.length = cur.size := by simp
  refine ⟨cur, h1, by simp; omega, ⟨_, setRow_heap w b _ _ _ _ h1, ?_, ?_⟩, ⟨rfl, rfl, rfl, by simp [World.setRow], fun k hk hne => setRow_other w b k _ (fun e => hne (by rw [e]))⟩⟩
  · rw [spl_length _ _ _ hf]; simp; omega
  · rw [spl_length _ _ _ hf]
    apply List.ext_getElem?
    intro k
    have h3k : ∀ i : Nat, (cur.toList.take l.length)[i]? = (l.map (Value.int .i64))[i]? := fun i => congrArg (fun z : List Value => z[i]?) h3
    simp only [List.getElem?_take, List.getElem?_map] at h3k
    simp only [List.getElem?_take, List.getElem?_map, spl, List.getElem?_append, List.length_take, List.length_map, List.getElem?_drop, hsz]
    have e1 : min off cur.size = off := by omega
    have e2 : min off l.length = off := by omega
    rw [e1, e2]
    by_cases a1 : k < off
    · have := h3k k
      rw [if_pos (by omega)] at this
      simp [a1, show k < l.length by omega, this]
    · by_cases a2 : k - off < cs.length
      · simp [a1, a2, show k < l.length by omega]
      · by_cases a3 : k < l.length
        · have e4 : off + cs.length + (k - off - cs.length) = k := by omega
          have := h3k k
          rw [if_pos a3] at this
          simp [a1, a2, a3, e4, this]
        · have e5 : l.length ≤ off + cs.length + (k - off - cs.length) := by omega
          simp [a1, a2, a3, List.getElem?_eq_none e5]

/-- The builtin copy: what is read is laid over what is written. -/
theorem wpList_copyM {w : World} {ops : Array Oper} {rest : List Oper} {o : Oper} {a : Act} {Q : Exit → Act → World → Prop} (hgd : o.guard = none) (d s : Operand)
    (ho : o.op = .call { callee := .builtin .copy, args := #[d, s], argTypes := #[22, 22] })
    (b off dLen dCap : Nat) (sp : Option Addr) (sLen sCap : Nat) (hd : a.eval d = .slice (some ⟨b, off, none⟩) dLen dCap) (hs : a.eval s = .slice sp sLen sCap)
    (l ys : List Int) (hh : Has w b l) (hy : Reads w sp sLen ys) (k : Nat) (hk : min sLen dLen = k) (hf : off + k ≤ l.length)
    (h : ∀ w', Has w' b (spl l off (ys.take k)) → w.grownBy w' (some b) → wpList Try.prog ops Q rest (a.put o.dst (goInt ((k : Nat) : Int))) w') : wpList Try.prog ops Q (o :: rest) a w := by
  have hsz : (Try.prog.info? 3).map (·.size) = some 1 := by kernel_rfl
  by_cases h0 : k = 0
  · subst h0
    exact wpList_copy_nothing hgd d s _ _ ho 3 Try.underlying22 hsz _ sp dLen dCap sLen sCap hd hs hk (h w (by simpa [spl_nil] using hh) (grownBy_refl _ _))
  · have hl := hy.1
    have hlen : (ys.take k).length = k := by rw [List.length_take, hl]; omega
    obtain ⟨cur, h1, h2, h3, h4⟩ := hh.setRow off (ys.take k) (by rw [hlen]; exact hf)
    rcases hy.2 with hz | ⟨b', off', rfl, hb', hc'⟩
    · omega
    · have h5 := h _ h3 h4
      have e : ((ys.take k).map (Value.int .i64)).length = k := by rw [List.length_map, hlen]
      have e2 : goInt ((k : Nat) : Int) = goInt ((((ys.take k).map (Value.int .i64)).length : Nat) : Int) := by rw [e]
      rw [e2] at h5
      refine wpList_copy_own hgd d s _ _ ho 3 Try.underlying22 hsz b off dLen dCap ⟨b', off', none⟩ sLen sCap hd hs cur 3 h1 ((ys.take k).map (Value.int .i64)) (by rw [e]; exact hk.symm) (fun j v hv => ?_) h2 (fun v hv => ?_) h5
      · have hj : j < k := by have := (List.getElem?_eq_some_iff.1 hv).1; simp [hl] at this; omega
        rw [show (⟨b', off', none⟩ : Addr).add j = ⟨b', off' + j, none⟩ from add_plain .., hc' j (by omega)]
        simp [hj] at hv
        obtain ⟨x, hx, rfl⟩ := hv
        simp [gi, List.getD_eq_getElem?_getD, hx]
      · obtain ⟨z, _, rfl⟩ := List.mem_map.1 hv; rfl
end Go.Proofs.Ytgmipolgnpjmnaa
