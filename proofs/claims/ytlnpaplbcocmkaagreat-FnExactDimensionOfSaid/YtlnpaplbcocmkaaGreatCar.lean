/-
  Cartan matrices of rank 1 to 4: how both texts know them, and the table of all. Plain mathematics.
-/
import Derived.Test.YtlnpaplbcocmkaaGreatM0
namespace Go.Proofs.YtlnpaplbcocmkaaGreat
set_option linter.unusedVariables false

def ni (l : List Nat) (k : Nat) : Nat := l.getD k 0
/-- The ranks of the families, in the order in which the program lists them: D4 F4 G2 A1 A2 B2 A3 B3 C3 A4 B4 C4. -/
def frk : Nat → Nat
  | 0 => 4 | 1 => 4 | 2 => 2 | 3 => 1 | 4 => 2 | 5 => 2 | 6 => 3 | 7 => 3 | 8 => 3 | _ => 4
/-- Their kinds: chain, short end, long end, star, short half, triple. -/
def fkd : Nat → Nat
  | 0 => 3 | 1 => 4 | 2 => 5 | 3 => 0 | 4 => 0 | 5 => 1 | 6 => 0 | 7 => 1 | 8 => 2 | 9 => 0 | 10 => 1 | _ => 2
def chM (i j : Nat) : Int := if i = j + 1 ∨ j = i + 1 then -1 else 0
def besM (kd n i j : Nat) : Int :=
  match kd with
  | 0 => chM i j
  | 1 => if i = n ∧ j + 1 = n then -2 else chM i j
  | 2 => if i + 1 = n ∧ j = n then -2 else chM i j
  | 3 => if i = 2 ∨ j = 2 then -1 else 0
  | 4 => if i = 3 ∧ j = 2 then -2 else chM i j
  | _ => if i = 1 then -3 else -1
def elM (k i j : Nat) : Int := if i = j then 2 else besM (fkd k) (frk k) i j
def lenM (k i : Nat) : Int :=
  match fkd k with
  | 1 => if i < frk k then 2 else 1
  | 2 => if i = frk k then 2 else 1
  | 4 => if i ≤ 2 then 2 else 1
  | 5 => if i = 2 then 3 else 1
  | _ => 1
theorem lenM_pos (k i : Nat) : lenM k i ≠ 0 := by
  unfold lenM; repeat' split <;> omega

/-- Row i and row j are connected by a number other than 0. -/
def bx (xs : List Int) (R i j : Nat) : Bool := i != j && decide (i < R) && decide (j < R) && (gi xs (i * R + j) != 0 || gi xs (j * R + i) != 0)
/-- One place of the list of connected rows: each row beside it that is not yet there. -/
def connJ (b : Nat → Nat → Bool) (r : Nat) (l : List Nat) : Nat → List Nat
  | 0 => l
  | j + 1 => if b r j && !(connJ b r l j).contains j then connJ b r l j ++ [j] else connJ b r l j
def connK (b : Nat → Nat → Bool) (R row : Nat) : Nat → List Nat
  | 0 => [row]
  | k + 1 => if k < (connK b R row k).length then connJ b (ni (connK b R row k) k) (connK b R row k) R else connK b R row k
def conn (b : Nat → Nat → Bool) (R row : Nat) : List Nat := connK b R row R
def patB (b01 b02 b03 b12 b13 b23 : Bool) : Nat → Nat → Bool
  | 0, 1 => b01 | 1, 0 => b01
  | 0, 2 => b02 | 2, 0 => b02
  | 0, 3 => b03 | 3, 0 => b03
  | 1, 2 => b12 | 2, 1 => b12
  | 1, 3 => b13 | 3, 1 => b13
  | 2, 3 => b23 | 3, 2 => b23
  | _, _ => false
theorem bx_symm (xs : List Int) (R i j : Nat) : bx xs R i j = bx xs R j i := by
  unfold bx
  rw [Bool.or_comm (gi xs (i * R + j) != 0), show (i != j) = (j != i) from bne_comm]
  cases decide (i < R) <;> cases decide (j < R) <;> simp
theorem bx_self (xs : List Int) (R i : Nat) : bx xs R i i = false := by simp [bx]
theorem bx_big (xs : List Int) (R i j : Nat) (h : R ≤ i ∨ R ≤ j) : bx xs R i j = false := by
  unfold bx
  rcases h with h | h
  · rw [decide_eq_false (show ¬ i < R by omega)]; simp
  · rw [decide_eq_false (show ¬ j < R by omega)]; simp
theorem bx_pat (xs : List Int) (R : Nat) (hR : R ≤ 4) : bx xs R = patB (bx xs R 0 1) (bx xs R 0 2) (bx xs R 0 3) (bx xs R 1 2) (bx xs R 1 3) (bx xs R 2 3) := by
  funext i j
  by_cases h : 4 ≤ i ∨ 4 ≤ j
  · rw [bx_big xs R i j (by omega)]
    unfold patB
    split <;> first | rfl | omega
  · have hi : i < 4 := by omega
    have hj : j < 4 := by omega
    match i, j, hi, hj with
    | 0, 0, _, _ => exact bx_self _ _ _
    | 1, 1, _, _ => exact bx_self _ _ _
    | 2, 2, _, _ => exact bx_self _ _ _
    | 3, 3, _, _ => exact bx_self _ _ _
    | 0, 1, _, _ => rfl
    | 0, 2, _, _ => rfl
    | 0, 3, _, _ => rfl
    | 1, 2, _, _ => rfl
    | 1, 3, _, _ => rfl
    | 2, 3, _, _ => rfl
    | 1, 0, _, _ => exact bx_symm _ _ _ _
    | 2, 0, _, _ => exact bx_symm _ _ _ _
    | 3, 0, _, _ => exact bx_symm _ _ _ _
    | 2, 1, _, _ => exact bx_symm _ _ _ _
    | 3, 1, _, _ => exact bx_symm _ _ _ _
    | 3, 2, _, _ => exact bx_symm _ _ _ _
/-- What is asked of the lists of connected rows, over all patterns. -/
def connOk (b : Nat → Nat → Bool) (R : Nat) : Bool :=
  (List.range R).all fun r =>
    (conn b R r).contains r && (conn b R r).all (fun x => decide (x < R)) && decide (conn b R r).Nodup && decide ((conn b R r).length ≤ R) &&
    (List.range (R + 1)).all (fun k => (connK b R r k).all (fun x => decide (x < R)) && decide ((connK b R r k).length ≤ R) && decide (connK b R r k).Nodup && (List.range (R + 1)).all (fun j => (connJ b (ni (connK b R r k) k) (connK b R r k) j).all (fun x => decide (x < R)) && decide ((connJ b (ni (connK b R r k) k) (connK b R r k) j).length ≤ R))) &&
    (conn b R r).all (fun x => (List.range R).all (fun y => (!(b x y) || (conn b R r).contains y) && ((conn b R x).contains y == (conn b R r).contains y)))
theorem connOk_pat : ∀ R, R < 5 → ∀ b01 b02 b03 b12 b13 b23 : Bool, connOk (fun i j => decide (i < R) && decide (j < R) && patB b01 b02 b03 b12 b13 b23 i j) R = true := by decide +kernel
theorem connOk_bx (xs : List Int) (R : Nat) (hR : R ≤ 4) : connOk (bx xs R) R = true := by
  have h := connOk_pat R (by omega) (bx xs R 0 1) (bx xs R 0 2) (bx xs R 0 3) (bx xs R 1 2) (bx xs R 1 3) (bx xs R 2 3)
  rw [← bx_pat xs R hR] at h
  rwa [show (fun i j => decide (i < R) && decide (j < R) && bx xs R i j) = bx xs R from ?_] at h
  funext i j
  by_cases h1 : i < R
  · by_cases h2 : j < R
    · simp [h1, h2]
    · rw [bx_big xs R i j (by omega)]; simp
  · rw [bx_big xs R i j (by omega)]; simp

/-- The rows, in this order, are like the first ones of family k. -/
def likeB (k : Nat) (xs : List Int) (R : Nat) (rows : List Nat) : Bool :=
  (List.range rows.length).all fun i => (List.range rows.length).all fun j => gi xs (ni rows i * R + ni rows j) == elM k (i + 1) (j + 1)
theorem likeB_at {k : Nat} {xs : List Int} {R : Nat} {rows : List Nat} (h : likeB k xs R rows = true) {i j : Nat} (hi : i < rows.length) (hj : j < rows.length) : gi xs (ni rows i * R + ni rows j) = elM k (i + 1) (j + 1) := by
  unfold likeB at h
  rw [List.all_eq_true] at h
  have h1 := h i (List.mem_range.2 hi)
  rw [List.all_eq_true] at h1
  exact eq_of_beq (h1 j (List.mem_range.2 hj))
def orderM (k : Nat) (xs : List Int) (R : Nat) : Nat → List Nat → List Nat → Option (List Nat)
  | 0, placed, _ => if likeB k xs R placed then some placed else none
  | m + 1, placed, left => if likeB k xs R placed then (List.range (m + 1)).findSome? (fun i => orderM k xs R m (placed ++ [ni left i]) (left.eraseIdx i)) else none
theorem cons_erase_perm (l : List Nat) (i : Nat) (h : i < l.length) : (l[i] :: l.eraseIdx i).Perm l := by
  rw [List.eraseIdx_eq_take_drop_succ]
  have e : l = l.take i ++ l[i] :: l.drop (i + 1) := by rw [List.getElem_cons_drop, List.take_append_drop]
  exact List.Perm.trans List.perm_middle.symm (by rw [← e])
theorem orderM_ok (k : Nat) (xs : List Int) (R : Nat) : ∀ (m : Nat) (placed left σ : List Nat), left.length = m → orderM k xs R m placed left = some σ → likeB k xs R σ = true ∧ (placed ++ left).Perm σ
  | 0, placed, left, σ, hl, h => by
    rw [orderM] at h
    split at h
    · next h1 =>
      cases h
      rw [List.length_eq_zero_iff] at hl
      subst hl
      exact ⟨h1, by simp⟩
    · cases h
  | m + 1, placed, left, σ, hl, h => by
    rw [orderM] at h
    split at h
    · next h1 =>
      obtain ⟨i, hi, h2⟩ := List.exists_of_findSome?_eq_some h
      rw [List.mem_range] at hi
      have h3 := orderM_ok k xs R m _ _ σ (by rw [List.length_eraseIdx, if_pos (by omega)]; omega) h2
      refine ⟨h3.1, List.Perm.trans ?_ h3.2⟩
      rw [List.append_assoc]
      refine List.Perm.append_left placed ?_
      have e : ni left i = left[i] := by simp [ni, show i < left.length by omega]
      rw [e]
      exact (cons_erase_perm left i (by omega)).symm
    · cases h
def learnM (xs : List Int) (R : Nat) (rows : List Nat) : Option (Nat × List Nat) :=
  (List.range 12).findSome? fun k => if frk k = rows.length then (orderM k xs R rows.length [] rows).map (fun σ => (k, σ)) else none
def slF (k : Nat) (σ : List Nat) (ls : List Int) : Nat → List Int
  | 0 => ls
  | i + 1 => (slF k σ ls i).set (ni σ i) (lenM k (i + 1))
def wrapS (xs : List Int) (R : Nat) : Nat → Option (List Nat × List Int)
  | 0 => some ([], List.replicate R 0)
  | i + 1 => match wrapS xs R i with
    | none => none
    | some (ns, ls) => if gi ls i = 0 then
        match learnM xs R (conn (bx xs R) R i) with
        | none => none
        | some (k, σ) => some (ns ++ [k], slF k σ ls σ.length)
      else some (ns, ls)

/-- Every row belongs to a part that is like a family in some order. -/
def Acc (R : Nat) (xs : List Int) : Prop := ∀ r, r < R → ∃ k σ, k < 12 ∧ σ.length = frk k ∧ likeB k xs R σ = true ∧ σ.Nodup ∧ ∀ x, x ∈ σ ↔ x ∈ conn (bx xs R) R r

def allLists (R : Nat) : Nat → List (List Nat)
  | 0 => [[]]
  | n + 1 => (List.range R).flatMap fun x => (allLists R n).map (x :: ·)
theorem mem_allLists (R : Nat) : ∀ (n : Nat) (l : List Nat), l.length = n → (∀ x, x ∈ l → x < R) → l ∈ allLists R n
  | 0, l, h, _ => by rw [List.length_eq_zero_iff] at h; subst h; simp [allLists]
  | n + 1, l, h, h1 => by
    cases l with
    | nil => simp at h
    | cons x t =>
      rw [allLists, List.mem_flatMap]
      exact ⟨x, List.mem_range.2 (h1 x (by simp)), List.mem_map.2 ⟨t, mem_allLists R n t (by simpa using h) (fun y hy => h1 y (by simp [hy])), rfl⟩⟩
def chs (R : Nat) (part : List Nat) : List (Nat × List Nat) :=
  (List.range 12).flatMap fun k => if frk k = part.length then ((allLists R (frk k)).filter (fun σ => decide σ.Nodup && part.all (σ.contains ·) && σ.all (part.contains ·))).map (k, ·) else []
def ent (r c : Nat) : List (Nat × List Nat) → Int
  | [] => 0
  | (k, σ) :: t => if σ.contains r && σ.contains c then elM k (σ.idxOf r + 1) (σ.idxOf c + 1) else ent r c t
def bld (R : Nat) (ch : List (Nat × List Nat)) : List Int := (List.range (R * R)).map fun e => ent (e / R) (e % R) ch
def allCh (R : Nat) : List (List Nat) → List (List (Nat × List Nat))
  | [] => [[]]
  | p :: ps => (chs R p).flatMap fun c => (allCh R ps).map (c :: ·)
def partOf (b : Nat → Nat → Bool) (R h : Nat) : List Nat := (List.range R).filter (fun x => (conn b R h).contains x)
def heads (b : Nat → Nat → Bool) (R : Nat) : List Nat := (List.range R).filter fun r => (List.range r).all fun q => !(conn b R q).contains r
def spt (b : Nat → Nat → Bool) (R : Nat) : List (List Nat) := (heads b R).map (partOf b R)
def PL : Nat → List (List (List Nat))
  | 1 => [[[0]]]
  | 2 => [[[0], [1]], [[0, 1]]]
  | 3 => [[[0], [1], [2]], [[0, 1], [2]], [[0, 2], [1]], [[0], [1, 2]], [[0, 1, 2]]]
  | _ => [[[0], [1], [2], [3]], [[0, 1], [2], [3]], [[0, 2], [1], [3]], [[0, 3], [1], [2]], [[0], [1, 2], [3]], [[0], [1, 3], [2]], [[0], [1], [2, 3]], [[0, 1], [2, 3]], [[0, 2], [1, 3]], [[0, 3], [1, 2]], [[0, 1, 2], [3]], [[0, 1, 3], [2]], [[0, 2, 3], [1]], [[0], [1, 2, 3]], [[0, 1, 2, 3]]]
/-- Where two rows stand in one part: the part of the first head that reaches the first. -/
def headOk (b : Nat → Nat → Bool) (R : Nat) : Bool :=
  (PL R).contains (spt b R) && (List.range R).all (fun r => (heads b R).any (fun h => (conn b R h).contains r)) && (heads b R).all (fun h => decide (h < R))
theorem headOk_pat : ∀ R, 0 < R → R < 5 → ∀ b01 b02 b03 b12 b13 b23 : Bool, headOk (fun i j => decide (i < R) && decide (j < R) && patB b01 b02 b03 b12 b13 b23 i j) R = true := by
  intro R h0 h1
  match R, h0, h1 with
  | 1, _, _ => decide +kernel
  | 2, _, _ => decide +kernel
  | 3, _, _ => decide +kernel
  | 4, _, _ => decide +kernel
set_option maxHeartbeats 1600000 in
def tab1_0 : List (List Int × List Nat × List Int) := [
  ([2], [3], [1])]
def tab1 : List (List Int × List Nat × List Int) := tab1_0
set_option maxHeartbeats 1600000 in
def tab2_0 : List (List Int × List Nat × List Int) := [
  ([2, -3, -1, 2], [2], [1, 3]),
  ([2, -2, -1, 2], [5], [1, 2]),
  ([2, -1, -3, 2], [2], [3, 1]),
  ([2, -1, -2, 2], [5], [2, 1]),
  ([2, -1, -1, 2], [4], [1, 1]),
  ([2, 0, 0, 2], [3, 3], [1, 1])]
def tab2 : List (List Int × List Nat × List Int) := tab2_0
set_option maxHeartbeats 1600000 in
def tab3_0 : List (List Int × List Nat × List Int) := [
  ([2, -3, 0, -1, 2, 0, 0, 0, 2], [3, 2], [1, 3, 1]),
  ([2, -2, -1, -1, 2, 0, -1, 0, 2], [8], [1, 2, 1]),
  ([2, -2, 0, -1, 2, -1, 0, -1, 2], [7], [1, 2, 2]),
  ([2, -2, 0, -1, 2, 0, 0, 0, 2], [3, 5], [1, 2, 1]),
  ([2, -1, -2, -1, 2, 0, -1, 0, 2], [8], [1, 1, 2]),
  ([2, -1, -1, -2, 2, 0, -1, 0, 2], [7], [2, 1, 2]),
  ([2, -1, -1, -1, 2, 0, -2, 0, 2], [7], [2, 2, 1]),
  ([2, -1, -1, -1, 2, 0, -1, 0, 2], [6], [1, 1, 1]),
  ([2, -1, 0, -3, 2, 0, 0, 0, 2], [3, 2], [3, 1, 1]),
  ([2, -1, 0, -2, 2, -1, 0, -1, 2], [8], [2, 1, 1]),
  ([2, -1, 0, -2, 2, 0, 0, 0, 2], [3, 5], [2, 1, 1]),
  ([2, -1, 0, -1, 2, -2, 0, -1, 2], [8], [1, 1, 2]),
  ([2, -1, 0, -1, 2, -1, 0, -2, 2], [7], [2, 2, 1]),
  ([2, -1, 0, -1, 2, -1, 0, -1, 2], [6], [1, 1, 1]),
  ([2, -1, 0, -1, 2, 0, 0, 0, 2], [3, 4], [1, 1, 1]),
  ([2, 0, -3, 0, 2, 0, -1, 0, 2], [3, 2], [1, 1, 3]),
  ([2, 0, -2, 0, 2, -1, -1, -1, 2], [7], [1, 2, 2]),
  ([2, 0, -2, 0, 2, 0, -1, 0, 2], [3, 5], [1, 1, 2]),
  ([2, 0, -1, 0, 2, -2, -1, -1, 2], [7], [2, 1, 2]),
  ([2, 0, -1, 0, 2, -1, -2, -1, 2], [8], [2, 1, 1]),
  ([2, 0, -1, 0, 2, -1, -1, -2, 2], [8], [1, 2, 1]),
  ([2, 0, -1, 0, 2, -1, -1, -1, 2], [6], [1, 1, 1]),
  ([2, 0, -1, 0, 2, 0, -3, 0, 2], [3, 2], [3, 1, 1]),
  ([2, 0, -1, 0, 2, 0, -2, 0, 2], [3, 5], [2, 1, 1]),
  ([2, 0, -1, 0, 2, 0, -1, 0, 2], [3, 4], [1, 1, 1]),
  ([2, 0, 0, 0, 2, -3, 0, -1, 2], [3, 2], [1, 1, 3]),
  ([2, 0, 0, 0, 2, -2, 0, -1, 2], [3, 5], [1, 1, 2]),
  ([2, 0, 0, 0, 2, -1, 0, -3, 2], [3, 2], [1, 3, 1]),
  ([2, 0, 0, 0, 2, -1, 0, -2, 2], [3, 5], [1, 2, 1]),
  ([2, 0, 0, 0, 2, -1, 0, -1, 2], [3, 4], [1, 1, 1]),
  ([2, 0, 0, 0, 2, 0, 0, 0, 2], [3, 3, 3], [1, 1, 1])]
def tab3 : List (List Int × List Nat × List Int) := tab3_0
set_option maxHeartbeats 1600000 in
def tab4_0 : List (List Int × List Nat × List Int) := [
  ([2, -3, 0, 0, -1, 2, 0, 0, 0, 0, 2, -3, 0, 0, -1, 2], [2, 2], [1, 3, 1, 3]),
  ([2, -3, 0, 0, -1, 2, 0, 0, 0, 0, 2, -2, 0, 0, -1, 2], [5, 2], [1, 3, 1, 2]),
  ([2, -3, 0, 0, -1, 2, 0, 0, 0, 0, 2, -1, 0, 0, -3, 2], [2, 2], [1, 3, 3, 1]),
  ([2, -3, 0, 0, -1, 2, 0, 0, 0, 0, 2, -1, 0, 0, -2, 2], [5, 2], [1, 3, 2, 1]),
  ([2, -3, 0, 0, -1, 2, 0, 0, 0, 0, 2, -1, 0, 0, -1, 2], [4, 2], [1, 3, 1, 1]),
  ([2, -3, 0, 0, -1, 2, 0, 0, 0, 0, 2, 0, 0, 0, 0, 2], [3, 3, 2], [1, 3, 1, 1]),
  ([2, -2, -1, 0, -1, 2, 0, -1, -1, 0, 2, 0, 0, -1, 0, 2], [1], [1, 2, 1, 2]),
  ([2, -2, -1, 0, -1, 2, 0, 0, -1, 0, 2, -1, 0, 0, -1, 2], [11], [1, 2, 1, 1]),
  ([2, -2, -1, 0, -1, 2, 0, 0, -1, 0, 2, 0, 0, 0, 0, 2], [3, 8], [1, 2, 1, 1]),
  ([2, -2, 0, -1, -1, 2, -1, 0, 0, -1, 2, 0, -1, 0, 0, 2], [1], [1, 2, 2, 1]),
  ([2, -2, 0, -1, -1, 2, 0, 0, 0, 0, 2, -1, -1, 0, -1, 2], [11], [1, 2, 1, 1]),
  ([2, -2, 0, -1, -1, 2, 0, 0, 0, 0, 2, 0, -1, 0, 0, 2], [3, 8], [1, 2, 1, 1]),
  ([2, -2, 0, 0, -1, 2, -1, 0, 0, -1, 2, -1, 0, 0, -1, 2], [10], [1, 2, 2, 2]),
  ([2, -2, 0, 0, -1, 2, -1, 0, 0, -1, 2, 0, 0, 0, 0, 2], [3, 7], [1, 2, 2, 1]),
  ([2, -2, 0, 0, -1, 2, 0, -1, 0, 0, 2, -1, 0, -1, -1, 2], [10], [1, 2, 2, 2]),
  ([2, -2, 0, 0, -1, 2, 0, -1, 0, 0, 2, 0, 0, -1, 0, 2], [3, 7], [1, 2, 1, 2]),
  ([2, -2, 0, 0, -1, 2, 0, 0, 0, 0, 2, -3, 0, 0, -1, 2], [5, 2], [1, 2, 1, 3]),
  ([2, -2, 0, 0, -1, 2, 0, 0, 0, 0, 2, -2, 0, 0, -1, 2], [5, 5], [1, 2, 1, 2]),
  ([2, -2, 0, 0, -1, 2, 0, 0, 0, 0, 2, -1, 0, 0, -3, 2], [5, 2], [1, 2, 3, 1]),
  ([2, -2, 0, 0, -1, 2, 0, 0, 0, 0, 2, -1, 0, 0, -2, 2], [5, 5], [1, 2, 2, 1]),
  ([2, -2, 0, 0, -1, 2, 0, 0, 0, 0, 2, -1, 0, 0, -1, 2], [4, 5], [1, 2, 1, 1]),
  ([2, -2, 0, 0, -1, 2, 0, 0, 0, 0, 2, 0, 0, 0, 0, 2], [3, 3, 5], [1, 2, 1, 1]),
  ([2, -1, -2, 0, -1, 2, 0, -1, -1, 0, 2, 0, 0, -1, 0, 2], [11], [1, 1, 2, 1]),
  ([2, -1, -2, 0, -1, 2, 0, 0, -1, 0, 2, -1, 0, 0, -1, 2], [1], [1, 1, 2, 2]),
  ([2, -1, -2, 0, -1, 2, 0, 0, -1, 0, 2, 0, 0, 0, 0, 2], [3, 8], [1, 1, 2, 1]),
  ([2, -1, -1, -1, -1, 2, 0, 0, -1, 0, 2, 0, -1, 0, 0, 2], [0], [1, 1, 1, 1]),
  ([2, -1, -1, 0, -2, 2, 0, -1, -1, 0, 2, 0, 0, -1, 0, 2], [1], [2, 1, 2, 1]),
  ([2, -1, -1, 0, -2, 2, 0, 0, -1, 0, 2, -1, 0, 0, -1, 2], [10], [2, 1, 2, 2]),
  ([2, -1, -1, 0, -2, 2, 0, 0, -1, 0, 2, 0, 0, 0, 0, 2], [3, 7], [2, 1, 2, 1]),
  ([2, -1, -1, 0, -1, 2, 0, -2, -1, 0, 2, 0, 0, -1, 0, 2], [11], [1, 1, 1, 2]),
  ([2, -1, -1, 0, -1, 2, 0, -1, -2, 0, 2, 0, 0, -1, 0, 2], [10], [2, 2, 1, 2]),
  ([2, -1, -1, 0, -1, 2, 0, -1, -1, 0, 2, 0, 0, -2, 0, 2], [10], [2, 2, 2, 1])]
set_option maxHeartbeats 1600000 in
def tab4_1 : List (List Int × List Nat × List Int) := [
  ([2, -1, -1, 0, -1, 2, 0, -1, -1, 0, 2, 0, 0, -1, 0, 2], [9], [1, 1, 1, 1]),
  ([2, -1, -1, 0, -1, 2, 0, 0, -2, 0, 2, -1, 0, 0, -1, 2], [1], [2, 2, 1, 1]),
  ([2, -1, -1, 0, -1, 2, 0, 0, -2, 0, 2, 0, 0, 0, 0, 2], [3, 7], [2, 2, 1, 1]),
  ([2, -1, -1, 0, -1, 2, 0, 0, -1, 0, 2, -2, 0, 0, -1, 2], [11], [1, 1, 1, 2]),
  ([2, -1, -1, 0, -1, 2, 0, 0, -1, 0, 2, -1, 0, 0, -2, 2], [10], [2, 2, 2, 1]),
  ([2, -1, -1, 0, -1, 2, 0, 0, -1, 0, 2, -1, 0, 0, -1, 2], [9], [1, 1, 1, 1]),
  ([2, -1, -1, 0, -1, 2, 0, 0, -1, 0, 2, 0, 0, 0, 0, 2], [3, 6], [1, 1, 1, 1]),
  ([2, -1, 0, -2, -1, 2, -1, 0, 0, -1, 2, 0, -1, 0, 0, 2], [11], [1, 1, 1, 2]),
  ([2, -1, 0, -2, -1, 2, 0, 0, 0, 0, 2, -1, -1, 0, -1, 2], [1], [1, 1, 2, 2]),
  ([2, -1, 0, -2, -1, 2, 0, 0, 0, 0, 2, 0, -1, 0, 0, 2], [3, 8], [1, 1, 1, 2]),
  ([2, -1, 0, -1, -2, 2, -1, 0, 0, -1, 2, 0, -1, 0, 0, 2], [1], [2, 1, 1, 2]),
  ([2, -1, 0, -1, -2, 2, 0, 0, 0, 0, 2, -1, -1, 0, -1, 2], [10], [2, 1, 2, 2]),
  ([2, -1, 0, -1, -2, 2, 0, 0, 0, 0, 2, 0, -1, 0, 0, 2], [3, 7], [2, 1, 1, 2]),
  ([2, -1, 0, -1, -1, 2, -2, 0, 0, -1, 2, 0, -1, 0, 0, 2], [11], [1, 1, 2, 1]),
  ([2, -1, 0, -1, -1, 2, -1, 0, 0, -2, 2, 0, -1, 0, 0, 2], [10], [2, 2, 1, 2]),
  ([2, -1, 0, -1, -1, 2, -1, 0, 0, -1, 2, 0, -2, 0, 0, 2], [10], [2, 2, 2, 1]),
  ([2, -1, 0, -1, -1, 2, -1, 0, 0, -1, 2, 0, -1, 0, 0, 2], [9], [1, 1, 1, 1]),
  ([2, -1, 0, -1, -1, 2, 0, 0, 0, 0, 2, -2, -1, 0, -1, 2], [10], [2, 2, 1, 2]),
  ([2, -1, 0, -1, -1, 2, 0, 0, 0, 0, 2, -1, -2, 0, -1, 2], [1], [2, 2, 1, 1]),
  ([2, -1, 0, -1, -1, 2, 0, 0, 0, 0, 2, -1, -1, 0, -2, 2], [11], [1, 1, 2, 1]),
  ([2, -1, 0, -1, -1, 2, 0, 0, 0, 0, 2, -1, -1, 0, -1, 2], [9], [1, 1, 1, 1]),
  ([2, -1, 0, -1, -1, 2, 0, 0, 0, 0, 2, 0, -2, 0, 0, 2], [3, 7], [2, 2, 1, 1]),
  ([2, -1, 0, -1, -1, 2, 0, 0, 0, 0, 2, 0, -1, 0, 0, 2], [3, 6], [1, 1, 1, 1]),
  ([2, -1, 0, 0, -3, 2, 0, 0, 0, 0, 2, -3, 0, 0, -1, 2], [2, 2], [3, 1, 1, 3]),
  ([2, -1, 0, 0, -3, 2, 0, 0, 0, 0, 2, -2, 0, 0, -1, 2], [5, 2], [3, 1, 1, 2]),
  ([2, -1, 0, 0, -3, 2, 0, 0, 0, 0, 2, -1, 0, 0, -3, 2], [2, 2], [3, 1, 3, 1]),
  ([2, -1, 0, 0, -3, 2, 0, 0, 0, 0, 2, -1, 0, 0, -2, 2], [5, 2], [3, 1, 2, 1]),
  ([2, -1, 0, 0, -3, 2, 0, 0, 0, 0, 2, -1, 0, 0, -1, 2], [4, 2], [3, 1, 1, 1]),
  ([2, -1, 0, 0, -3, 2, 0, 0, 0, 0, 2, 0, 0, 0, 0, 2], [3, 3, 2], [3, 1, 1, 1]),
  ([2, -1, 0, 0, -2, 2, -1, 0, 0, -1, 2, -1, 0, 0, -1, 2], [11], [2, 1, 1, 1]),
  ([2, -1, 0, 0, -2, 2, -1, 0, 0, -1, 2, 0, 0, 0, 0, 2], [3, 8], [2, 1, 1, 1]),
  ([2, -1, 0, 0, -2, 2, 0, -1, 0, 0, 2, -1, 0, -1, -1, 2], [11], [2, 1, 1, 1])]
set_option maxHeartbeats 1600000 in
def tab4_2 : List (List Int × List Nat × List Int) := [
  ([2, -1, 0, 0, -2, 2, 0, -1, 0, 0, 2, 0, 0, -1, 0, 2], [3, 8], [2, 1, 1, 1]),
  ([2, -1, 0, 0, -2, 2, 0, 0, 0, 0, 2, -3, 0, 0, -1, 2], [5, 2], [2, 1, 1, 3]),
  ([2, -1, 0, 0, -2, 2, 0, 0, 0, 0, 2, -2, 0, 0, -1, 2], [5, 5], [2, 1, 1, 2]),
  ([2, -1, 0, 0, -2, 2, 0, 0, 0, 0, 2, -1, 0, 0, -3, 2], [5, 2], [2, 1, 3, 1]),
  ([2, -1, 0, 0, -2, 2, 0, 0, 0, 0, 2, -1, 0, 0, -2, 2], [5, 5], [2, 1, 2, 1]),
  ([2, -1, 0, 0, -2, 2, 0, 0, 0, 0, 2, -1, 0, 0, -1, 2], [4, 5], [2, 1, 1, 1]),
  ([2, -1, 0, 0, -2, 2, 0, 0, 0, 0, 2, 0, 0, 0, 0, 2], [3, 3, 5], [2, 1, 1, 1]),
  ([2, -1, 0, 0, -1, 2, -2, 0, 0, -1, 2, -1, 0, 0, -1, 2], [1], [1, 1, 2, 2]),
  ([2, -1, 0, 0, -1, 2, -2, 0, 0, -1, 2, 0, 0, 0, 0, 2], [3, 8], [1, 1, 2, 1]),
  ([2, -1, 0, 0, -1, 2, -1, -1, 0, -1, 2, 0, 0, -1, 0, 2], [0], [1, 1, 1, 1]),
  ([2, -1, 0, 0, -1, 2, -1, 0, 0, -2, 2, -1, 0, 0, -1, 2], [1], [2, 2, 1, 1]),
  ([2, -1, 0, 0, -1, 2, -1, 0, 0, -2, 2, 0, 0, 0, 0, 2], [3, 7], [2, 2, 1, 1]),
  ([2, -1, 0, 0, -1, 2, -1, 0, 0, -1, 2, -2, 0, 0, -1, 2], [11], [1, 1, 1, 2]),
  ([2, -1, 0, 0, -1, 2, -1, 0, 0, -1, 2, -1, 0, 0, -2, 2], [10], [2, 2, 2, 1]),
  ([2, -1, 0, 0, -1, 2, -1, 0, 0, -1, 2, -1, 0, 0, -1, 2], [9], [1, 1, 1, 1]),
  ([2, -1, 0, 0, -1, 2, -1, 0, 0, -1, 2, 0, 0, 0, 0, 2], [3, 6], [1, 1, 1, 1]),
  ([2, -1, 0, 0, -1, 2, 0, -2, 0, 0, 2, -1, 0, -1, -1, 2], [1], [1, 1, 2, 2]),
  ([2, -1, 0, 0, -1, 2, 0, -2, 0, 0, 2, 0, 0, -1, 0, 2], [3, 8], [1, 1, 1, 2]),
  ([2, -1, 0, 0, -1, 2, 0, -1, 0, 0, 2, -2, 0, -1, -1, 2], [10], [2, 2, 1, 2]),
  ([2, -1, 0, 0, -1, 2, 0, -1, 0, 0, 2, -1, 0, -2, -1, 2], [1], [2, 2, 1, 1]),
  ([2, -1, 0, 0, -1, 2, 0, -1, 0, 0, 2, -1, 0, -1, -2, 2], [11], [1, 1, 2, 1]),
  ([2, -1, 0, 0, -1, 2, 0, -1, 0, 0, 2, -1, 0, -1, -1, 2], [9], [1, 1, 1, 1]),
  ([2, -1, 0, 0, -1, 2, 0, -1, 0, 0, 2, 0, 0, -2, 0, 2], [3, 7], [2, 2, 1, 1]),
  ([2, -1, 0, 0, -1, 2, 0, -1, 0, 0, 2, 0, 0, -1, 0, 2], [3, 6], [1, 1, 1, 1]),
  ([2, -1, 0, 0, -1, 2, 0, 0, 0, 0, 2, -3, 0, 0, -1, 2], [4, 2], [1, 1, 1, 3]),
  ([2, -1, 0, 0, -1, 2, 0, 0, 0, 0, 2, -2, 0, 0, -1, 2], [4, 5], [1, 1, 1, 2]),
  ([2, -1, 0, 0, -1, 2, 0, 0, 0, 0, 2, -1, 0, 0, -3, 2], [4, 2], [1, 1, 3, 1]),
  ([2, -1, 0, 0, -1, 2, 0, 0, 0, 0, 2, -1, 0, 0, -2, 2], [4, 5], [1, 1, 2, 1]),
  ([2, -1, 0, 0, -1, 2, 0, 0, 0, 0, 2, -1, 0, 0, -1, 2], [4, 4], [1, 1, 1, 1]),
  ([2, -1, 0, 0, -1, 2, 0, 0, 0, 0, 2, 0, 0, 0, 0, 2], [3, 3, 4], [1, 1, 1, 1]),
  ([2, 0, -3, 0, 0, 2, 0, -3, -1, 0, 2, 0, 0, -1, 0, 2], [2, 2], [1, 1, 3, 3]),
  ([2, 0, -3, 0, 0, 2, 0, -2, -1, 0, 2, 0, 0, -1, 0, 2], [5, 2], [1, 1, 3, 2])]
set_option maxHeartbeats 1600000 in
def tab4_3 : List (List Int × List Nat × List Int) := [
  ([2, 0, -3, 0, 0, 2, 0, -1, -1, 0, 2, 0, 0, -3, 0, 2], [2, 2], [1, 3, 3, 1]),
  ([2, 0, -3, 0, 0, 2, 0, -1, -1, 0, 2, 0, 0, -2, 0, 2], [5, 2], [1, 2, 3, 1]),
  ([2, 0, -3, 0, 0, 2, 0, -1, -1, 0, 2, 0, 0, -1, 0, 2], [4, 2], [1, 1, 3, 1]),
  ([2, 0, -3, 0, 0, 2, 0, 0, -1, 0, 2, 0, 0, 0, 0, 2], [3, 3, 2], [1, 1, 3, 1]),
  ([2, 0, -2, -1, 0, 2, -1, 0, -1, -1, 2, 0, -1, 0, 0, 2], [1], [1, 2, 2, 1]),
  ([2, 0, -2, -1, 0, 2, 0, -1, -1, 0, 2, 0, -1, -1, 0, 2], [11], [1, 1, 2, 1]),
  ([2, 0, -2, -1, 0, 2, 0, 0, -1, 0, 2, 0, -1, 0, 0, 2], [3, 8], [1, 1, 2, 1]),
  ([2, 0, -2, 0, 0, 2, -1, -1, -1, -1, 2, 0, 0, -1, 0, 2], [10], [1, 2, 2, 2]),
  ([2, 0, -2, 0, 0, 2, -1, 0, -1, -1, 2, 0, 0, 0, 0, 2], [3, 7], [1, 2, 2, 1]),
  ([2, 0, -2, 0, 0, 2, 0, -3, -1, 0, 2, 0, 0, -1, 0, 2], [5, 2], [1, 1, 2, 3]),
  ([2, 0, -2, 0, 0, 2, 0, -2, -1, 0, 2, 0, 0, -1, 0, 2], [5, 5], [1, 1, 2, 2]),
  ([2, 0, -2, 0, 0, 2, 0, -1, -1, 0, 2, -1, 0, -1, -1, 2], [10], [1, 2, 2, 2]),
  ([2, 0, -2, 0, 0, 2, 0, -1, -1, 0, 2, 0, 0, -3, 0, 2], [5, 2], [1, 3, 2, 1]),
  ([2, 0, -2, 0, 0, 2, 0, -1, -1, 0, 2, 0, 0, -2, 0, 2], [5, 5], [1, 2, 2, 1]),
  ([2, 0, -2, 0, 0, 2, 0, -1, -1, 0, 2, 0, 0, -1, 0, 2], [4, 5], [1, 1, 2, 1]),
  ([2, 0, -2, 0, 0, 2, 0, 0, -1, 0, 2, -1, 0, 0, -1, 2], [3, 7], [1, 1, 2, 2]),
  ([2, 0, -2, 0, 0, 2, 0, 0, -1, 0, 2, 0, 0, 0, 0, 2], [3, 3, 5], [1, 1, 2, 1]),
  ([2, 0, -1, -2, 0, 2, -1, 0, -1, -1, 2, 0, -1, 0, 0, 2], [11], [1, 1, 1, 2]),
  ([2, 0, -1, -2, 0, 2, 0, -1, -1, 0, 2, 0, -1, -1, 0, 2], [1], [1, 2, 1, 2]),
  ([2, 0, -1, -2, 0, 2, 0, 0, -1, 0, 2, 0, -1, 0, 0, 2], [3, 8], [1, 1, 1, 2]),
  ([2, 0, -1, -1, 0, 2, -2, 0, -1, -1, 2, 0, -1, 0, 0, 2], [10], [2, 1, 2, 2]),
  ([2, 0, -1, -1, 0, 2, -1, 0, -2, -1, 2, 0, -1, 0, 0, 2], [1], [2, 1, 1, 2]),
  ([2, 0, -1, -1, 0, 2, -1, 0, -1, -2, 2, 0, -1, 0, 0, 2], [11], [1, 2, 1, 1]),
  ([2, 0, -1, -1, 0, 2, -1, 0, -1, -1, 2, 0, -2, 0, 0, 2], [10], [2, 2, 2, 1]),
  ([2, 0, -1, -1, 0, 2, -1, 0, -1, -1, 2, 0, -1, 0, 0, 2], [9], [1, 1, 1, 1]),
  ([2, 0, -1, -1, 0, 2, 0, -2, -1, 0, 2, 0, -1, -1, 0, 2], [10], [2, 1, 2, 2]),
  ([2, 0, -1, -1, 0, 2, 0, -1, -2, 0, 2, 0, -1, -1, 0, 2], [10], [2, 2, 1, 2]),
  ([2, 0, -1, -1, 0, 2, 0, -1, -1, 0, 2, 0, -2, -1, 0, 2], [1], [2, 1, 2, 1]),
  ([2, 0, -1, -1, 0, 2, 0, -1, -1, 0, 2, 0, -1, -2, 0, 2], [11], [1, 2, 1, 1]),
  ([2, 0, -1, -1, 0, 2, 0, -1, -1, 0, 2, 0, -1, -1, 0, 2], [9], [1, 1, 1, 1]),
  ([2, 0, -1, -1, 0, 2, 0, 0, -2, 0, 2, 0, -1, 0, 0, 2], [3, 7], [2, 1, 1, 2]),
  ([2, 0, -1, -1, 0, 2, 0, 0, -1, 0, 2, 0, -2, 0, 0, 2], [3, 7], [2, 1, 2, 1])]
set_option maxHeartbeats 1600000 in
def tab4_4 : List (List Int × List Nat × List Int) := [
  ([2, 0, -1, -1, 0, 2, 0, 0, -1, 0, 2, 0, -1, 0, 0, 2], [3, 6], [1, 1, 1, 1]),
  ([2, 0, -1, 0, 0, 2, -2, -1, -1, -1, 2, 0, 0, -1, 0, 2], [1], [2, 1, 2, 1]),
  ([2, 0, -1, 0, 0, 2, -2, 0, -1, -1, 2, 0, 0, 0, 0, 2], [3, 7], [2, 1, 2, 1]),
  ([2, 0, -1, 0, 0, 2, -1, -2, -1, -1, 2, 0, 0, -1, 0, 2], [11], [1, 1, 1, 2]),
  ([2, 0, -1, 0, 0, 2, -1, -1, -2, -1, 2, 0, 0, -1, 0, 2], [11], [2, 1, 1, 1]),
  ([2, 0, -1, 0, 0, 2, -1, -1, -1, -2, 2, 0, 0, -1, 0, 2], [1], [1, 2, 1, 2]),
  ([2, 0, -1, 0, 0, 2, -1, -1, -1, -1, 2, 0, 0, -2, 0, 2], [10], [2, 2, 2, 1]),
  ([2, 0, -1, 0, 0, 2, -1, -1, -1, -1, 2, 0, 0, -1, 0, 2], [9], [1, 1, 1, 1]),
  ([2, 0, -1, 0, 0, 2, -1, 0, -2, -1, 2, 0, 0, 0, 0, 2], [3, 8], [2, 1, 1, 1]),
  ([2, 0, -1, 0, 0, 2, -1, 0, -1, -2, 2, 0, 0, 0, 0, 2], [3, 8], [1, 2, 1, 1]),
  ([2, 0, -1, 0, 0, 2, -1, 0, -1, -1, 2, -1, 0, 0, -1, 2], [0], [1, 1, 1, 1]),
  ([2, 0, -1, 0, 0, 2, -1, 0, -1, -1, 2, 0, 0, 0, 0, 2], [3, 6], [1, 1, 1, 1]),
  ([2, 0, -1, 0, 0, 2, 0, -3, -3, 0, 2, 0, 0, -1, 0, 2], [2, 2], [3, 1, 1, 3]),
  ([2, 0, -1, 0, 0, 2, 0, -3, -2, 0, 2, 0, 0, -1, 0, 2], [5, 2], [2, 1, 1, 3]),
  ([2, 0, -1, 0, 0, 2, 0, -3, -1, 0, 2, 0, 0, -1, 0, 2], [4, 2], [1, 1, 1, 3]),
  ([2, 0, -1, 0, 0, 2, 0, -2, -3, 0, 2, 0, 0, -1, 0, 2], [5, 2], [3, 1, 1, 2]),
  ([2, 0, -1, 0, 0, 2, 0, -2, -2, 0, 2, 0, 0, -1, 0, 2], [5, 5], [2, 1, 1, 2]),
  ([2, 0, -1, 0, 0, 2, 0, -2, -1, 0, 2, -1, 0, -1, -1, 2], [10], [2, 1, 2, 2]),
  ([2, 0, -1, 0, 0, 2, 0, -2, -1, 0, 2, 0, 0, -1, 0, 2], [4, 5], [1, 1, 1, 2]),
  ([2, 0, -1, 0, 0, 2, 0, -1, -3, 0, 2, 0, 0, -3, 0, 2], [2, 2], [3, 3, 1, 1]),
  ([2, 0, -1, 0, 0, 2, 0, -1, -3, 0, 2, 0, 0, -2, 0, 2], [5, 2], [3, 2, 1, 1]),
  ([2, 0, -1, 0, 0, 2, 0, -1, -3, 0, 2, 0, 0, -1, 0, 2], [4, 2], [3, 1, 1, 1]),
  ([2, 0, -1, 0, 0, 2, 0, -1, -2, 0, 2, -1, 0, -1, -1, 2], [11], [2, 1, 1, 1]),
  ([2, 0, -1, 0, 0, 2, 0, -1, -2, 0, 2, 0, 0, -3, 0, 2], [5, 2], [2, 3, 1, 1]),
  ([2, 0, -1, 0, 0, 2, 0, -1, -2, 0, 2, 0, 0, -2, 0, 2], [5, 5], [2, 2, 1, 1]),
  ([2, 0, -1, 0, 0, 2, 0, -1, -2, 0, 2, 0, 0, -1, 0, 2], [4, 5], [2, 1, 1, 1]),
  ([2, 0, -1, 0, 0, 2, 0, -1, -1, 0, 2, -2, 0, -1, -1, 2], [1], [1, 2, 1, 2]),
  ([2, 0, -1, 0, 0, 2, 0, -1, -1, 0, 2, -1, 0, -2, -1, 2], [11], [1, 2, 1, 1]),
  ([2, 0, -1, 0, 0, 2, 0, -1, -1, 0, 2, -1, 0, -1, -2, 2], [1], [2, 1, 2, 1]),
  ([2, 0, -1, 0, 0, 2, 0, -1, -1, 0, 2, -1, 0, -1, -1, 2], [9], [1, 1, 1, 1]),
  ([2, 0, -1, 0, 0, 2, 0, -1, -1, 0, 2, 0, 0, -3, 0, 2], [4, 2], [1, 3, 1, 1]),
  ([2, 0, -1, 0, 0, 2, 0, -1, -1, 0, 2, 0, 0, -2, 0, 2], [4, 5], [1, 2, 1, 1])]
set_option maxHeartbeats 1600000 in
def tab4_5 : List (List Int × List Nat × List Int) := [
  ([2, 0, -1, 0, 0, 2, 0, -1, -1, 0, 2, 0, 0, -1, 0, 2], [4, 4], [1, 1, 1, 1]),
  ([2, 0, -1, 0, 0, 2, 0, 0, -3, 0, 2, 0, 0, 0, 0, 2], [3, 3, 2], [3, 1, 1, 1]),
  ([2, 0, -1, 0, 0, 2, 0, 0, -2, 0, 2, -1, 0, 0, -1, 2], [3, 8], [2, 1, 1, 1]),
  ([2, 0, -1, 0, 0, 2, 0, 0, -2, 0, 2, 0, 0, 0, 0, 2], [3, 3, 5], [2, 1, 1, 1]),
  ([2, 0, -1, 0, 0, 2, 0, 0, -1, 0, 2, -2, 0, 0, -1, 2], [3, 8], [1, 1, 1, 2]),
  ([2, 0, -1, 0, 0, 2, 0, 0, -1, 0, 2, -1, 0, 0, -2, 2], [3, 7], [2, 1, 2, 1]),
  ([2, 0, -1, 0, 0, 2, 0, 0, -1, 0, 2, -1, 0, 0, -1, 2], [3, 6], [1, 1, 1, 1]),
  ([2, 0, -1, 0, 0, 2, 0, 0, -1, 0, 2, 0, 0, 0, 0, 2], [3, 3, 4], [1, 1, 1, 1]),
  ([2, 0, 0, -3, 0, 2, -3, 0, 0, -1, 2, 0, -1, 0, 0, 2], [2, 2], [1, 1, 3, 3]),
  ([2, 0, 0, -3, 0, 2, -2, 0, 0, -1, 2, 0, -1, 0, 0, 2], [5, 2], [1, 1, 2, 3]),
  ([2, 0, 0, -3, 0, 2, -1, 0, 0, -3, 2, 0, -1, 0, 0, 2], [2, 2], [1, 3, 1, 3]),
  ([2, 0, 0, -3, 0, 2, -1, 0, 0, -2, 2, 0, -1, 0, 0, 2], [5, 2], [1, 2, 1, 3]),
  ([2, 0, 0, -3, 0, 2, -1, 0, 0, -1, 2, 0, -1, 0, 0, 2], [4, 2], [1, 1, 1, 3]),
  ([2, 0, 0, -3, 0, 2, 0, 0, 0, 0, 2, 0, -1, 0, 0, 2], [3, 3, 2], [1, 1, 1, 3]),
  ([2, 0, 0, -2, 0, 2, -3, 0, 0, -1, 2, 0, -1, 0, 0, 2], [5, 2], [1, 1, 3, 2]),
  ([2, 0, 0, -2, 0, 2, -2, 0, 0, -1, 2, 0, -1, 0, 0, 2], [5, 5], [1, 1, 2, 2]),
  ([2, 0, 0, -2, 0, 2, -1, -1, 0, -1, 2, 0, -1, -1, 0, 2], [10], [1, 2, 2, 2]),
  ([2, 0, 0, -2, 0, 2, -1, 0, 0, -3, 2, 0, -1, 0, 0, 2], [5, 2], [1, 3, 1, 2]),
  ([2, 0, 0, -2, 0, 2, -1, 0, 0, -2, 2, 0, -1, 0, 0, 2], [5, 5], [1, 2, 1, 2]),
  ([2, 0, 0, -2, 0, 2, -1, 0, 0, -1, 2, -1, -1, 0, -1, 2], [10], [1, 2, 2, 2]),
  ([2, 0, 0, -2, 0, 2, -1, 0, 0, -1, 2, 0, -1, 0, 0, 2], [4, 5], [1, 1, 1, 2]),
  ([2, 0, 0, -2, 0, 2, 0, -1, 0, 0, 2, 0, -1, -1, 0, 2], [3, 7], [1, 2, 1, 2]),
  ([2, 0, 0, -2, 0, 2, 0, 0, 0, 0, 2, -1, -1, 0, -1, 2], [3, 7], [1, 1, 2, 2]),
  ([2, 0, 0, -2, 0, 2, 0, 0, 0, 0, 2, 0, -1, 0, 0, 2], [3, 3, 5], [1, 1, 1, 2]),
  ([2, 0, 0, -1, 0, 2, -3, 0, 0, -1, 2, 0, -3, 0, 0, 2], [2, 2], [3, 1, 3, 1]),
  ([2, 0, 0, -1, 0, 2, -3, 0, 0, -1, 2, 0, -2, 0, 0, 2], [5, 2], [2, 1, 3, 1]),
  ([2, 0, 0, -1, 0, 2, -3, 0, 0, -1, 2, 0, -1, 0, 0, 2], [4, 2], [1, 1, 3, 1]),
  ([2, 0, 0, -1, 0, 2, -2, -1, 0, -1, 2, 0, -1, -1, 0, 2], [11], [1, 1, 2, 1]),
  ([2, 0, 0, -1, 0, 2, -2, 0, 0, -1, 2, -1, -1, 0, -1, 2], [10], [2, 1, 2, 2]),
  ([2, 0, 0, -1, 0, 2, -2, 0, 0, -1, 2, 0, -3, 0, 0, 2], [5, 2], [3, 1, 2, 1]),
  ([2, 0, 0, -1, 0, 2, -2, 0, 0, -1, 2, 0, -2, 0, 0, 2], [5, 5], [2, 1, 2, 1]),
  ([2, 0, 0, -1, 0, 2, -2, 0, 0, -1, 2, 0, -1, 0, 0, 2], [4, 5], [1, 1, 2, 1])]
set_option maxHeartbeats 1600000 in
def tab4_6 : List (List Int × List Nat × List Int) := [
  ([2, 0, 0, -1, 0, 2, -1, -2, 0, -1, 2, 0, -1, -1, 0, 2], [1], [2, 1, 1, 2]),
  ([2, 0, 0, -1, 0, 2, -1, -1, 0, -2, 2, 0, -1, -1, 0, 2], [10], [2, 2, 1, 2]),
  ([2, 0, 0, -1, 0, 2, -1, -1, 0, -1, 2, 0, -2, -1, 0, 2], [11], [2, 1, 1, 1]),
  ([2, 0, 0, -1, 0, 2, -1, -1, 0, -1, 2, 0, -1, -2, 0, 2], [1], [1, 2, 2, 1]),
  ([2, 0, 0, -1, 0, 2, -1, -1, 0, -1, 2, 0, -1, -1, 0, 2], [9], [1, 1, 1, 1]),
  ([2, 0, 0, -1, 0, 2, -1, 0, 0, -3, 2, 0, -3, 0, 0, 2], [2, 2], [3, 3, 1, 1]),
  ([2, 0, 0, -1, 0, 2, -1, 0, 0, -3, 2, 0, -2, 0, 0, 2], [5, 2], [2, 3, 1, 1]),
  ([2, 0, 0, -1, 0, 2, -1, 0, 0, -3, 2, 0, -1, 0, 0, 2], [4, 2], [1, 3, 1, 1]),
  ([2, 0, 0, -1, 0, 2, -1, 0, 0, -2, 2, -1, -1, 0, -1, 2], [11], [1, 2, 1, 1]),
  ([2, 0, 0, -1, 0, 2, -1, 0, 0, -2, 2, 0, -3, 0, 0, 2], [5, 2], [3, 2, 1, 1]),
  ([2, 0, 0, -1, 0, 2, -1, 0, 0, -2, 2, 0, -2, 0, 0, 2], [5, 5], [2, 2, 1, 1]),
  ([2, 0, 0, -1, 0, 2, -1, 0, 0, -2, 2, 0, -1, 0, 0, 2], [4, 5], [1, 2, 1, 1]),
  ([2, 0, 0, -1, 0, 2, -1, 0, 0, -1, 2, -2, -1, 0, -1, 2], [1], [2, 1, 1, 2]),
  ([2, 0, 0, -1, 0, 2, -1, 0, 0, -1, 2, -1, -2, 0, -1, 2], [11], [2, 1, 1, 1]),
  ([2, 0, 0, -1, 0, 2, -1, 0, 0, -1, 2, -1, -1, 0, -2, 2], [1], [1, 2, 2, 1]),
  ([2, 0, 0, -1, 0, 2, -1, 0, 0, -1, 2, -1, -1, 0, -1, 2], [9], [1, 1, 1, 1]),
  ([2, 0, 0, -1, 0, 2, -1, 0, 0, -1, 2, 0, -3, 0, 0, 2], [4, 2], [3, 1, 1, 1]),
  ([2, 0, 0, -1, 0, 2, -1, 0, 0, -1, 2, 0, -2, 0, 0, 2], [4, 5], [2, 1, 1, 1]),
  ([2, 0, 0, -1, 0, 2, -1, 0, 0, -1, 2, 0, -1, 0, 0, 2], [4, 4], [1, 1, 1, 1]),
  ([2, 0, 0, -1, 0, 2, 0, -2, 0, 0, 2, 0, -1, -1, 0, 2], [3, 7], [2, 1, 1, 2]),
  ([2, 0, 0, -1, 0, 2, 0, -1, 0, 0, 2, -1, -1, -1, -1, 2], [0], [1, 1, 1, 1]),
  ([2, 0, 0, -1, 0, 2, 0, -1, 0, 0, 2, 0, -2, -1, 0, 2], [3, 8], [2, 1, 1, 1]),
  ([2, 0, 0, -1, 0, 2, 0, -1, 0, 0, 2, 0, -1, -2, 0, 2], [3, 8], [1, 2, 1, 1]),
  ([2, 0, 0, -1, 0, 2, 0, -1, 0, 0, 2, 0, -1, -1, 0, 2], [3, 6], [1, 1, 1, 1]),
  ([2, 0, 0, -1, 0, 2, 0, 0, 0, 0, 2, -2, -1, 0, -1, 2], [3, 7], [2, 1, 1, 2]),
  ([2, 0, 0, -1, 0, 2, 0, 0, 0, 0, 2, -1, -2, 0, -1, 2], [3, 8], [2, 1, 1, 1]),
  ([2, 0, 0, -1, 0, 2, 0, 0, 0, 0, 2, -1, -1, 0, -2, 2], [3, 8], [1, 1, 2, 1]),
  ([2, 0, 0, -1, 0, 2, 0, 0, 0, 0, 2, -1, -1, 0, -1, 2], [3, 6], [1, 1, 1, 1]),
  ([2, 0, 0, -1, 0, 2, 0, 0, 0, 0, 2, 0, -3, 0, 0, 2], [3, 3, 2], [3, 1, 1, 1]),
  ([2, 0, 0, -1, 0, 2, 0, 0, 0, 0, 2, 0, -2, 0, 0, 2], [3, 3, 5], [2, 1, 1, 1]),
  ([2, 0, 0, -1, 0, 2, 0, 0, 0, 0, 2, 0, -1, 0, 0, 2], [3, 3, 4], [1, 1, 1, 1]),
  ([2, 0, 0, 0, 0, 2, -3, 0, 0, -1, 2, 0, 0, 0, 0, 2], [3, 3, 2], [1, 1, 3, 1])]
set_option maxHeartbeats 1600000 in
def tab4_7 : List (List Int × List Nat × List Int) := [
  ([2, 0, 0, 0, 0, 2, -2, -1, 0, -1, 2, 0, 0, -1, 0, 2], [3, 8], [1, 1, 2, 1]),
  ([2, 0, 0, 0, 0, 2, -2, 0, 0, -1, 2, -1, 0, 0, -1, 2], [3, 7], [1, 1, 2, 2]),
  ([2, 0, 0, 0, 0, 2, -2, 0, 0, -1, 2, 0, 0, 0, 0, 2], [3, 3, 5], [1, 1, 2, 1]),
  ([2, 0, 0, 0, 0, 2, -1, -2, 0, -1, 2, 0, 0, -1, 0, 2], [3, 8], [1, 1, 1, 2]),
  ([2, 0, 0, 0, 0, 2, -1, -1, 0, -2, 2, 0, 0, -1, 0, 2], [3, 7], [1, 2, 1, 2]),
  ([2, 0, 0, 0, 0, 2, -1, -1, 0, -1, 2, 0, 0, -2, 0, 2], [3, 7], [1, 2, 2, 1]),
  ([2, 0, 0, 0, 0, 2, -1, -1, 0, -1, 2, 0, 0, -1, 0, 2], [3, 6], [1, 1, 1, 1]),
  ([2, 0, 0, 0, 0, 2, -1, 0, 0, -3, 2, 0, 0, 0, 0, 2], [3, 3, 2], [1, 3, 1, 1]),
  ([2, 0, 0, 0, 0, 2, -1, 0, 0, -2, 2, -1, 0, 0, -1, 2], [3, 8], [1, 2, 1, 1]),
  ([2, 0, 0, 0, 0, 2, -1, 0, 0, -2, 2, 0, 0, 0, 0, 2], [3, 3, 5], [1, 2, 1, 1]),
  ([2, 0, 0, 0, 0, 2, -1, 0, 0, -1, 2, -2, 0, 0, -1, 2], [3, 8], [1, 1, 1, 2]),
  ([2, 0, 0, 0, 0, 2, -1, 0, 0, -1, 2, -1, 0, 0, -2, 2], [3, 7], [1, 2, 2, 1]),
  ([2, 0, 0, 0, 0, 2, -1, 0, 0, -1, 2, -1, 0, 0, -1, 2], [3, 6], [1, 1, 1, 1]),
  ([2, 0, 0, 0, 0, 2, -1, 0, 0, -1, 2, 0, 0, 0, 0, 2], [3, 3, 4], [1, 1, 1, 1]),
  ([2, 0, 0, 0, 0, 2, 0, -3, 0, 0, 2, 0, 0, -1, 0, 2], [3, 3, 2], [1, 1, 1, 3]),
  ([2, 0, 0, 0, 0, 2, 0, -2, 0, 0, 2, -1, 0, -1, -1, 2], [3, 7], [1, 1, 2, 2]),
  ([2, 0, 0, 0, 0, 2, 0, -2, 0, 0, 2, 0, 0, -1, 0, 2], [3, 3, 5], [1, 1, 1, 2]),
  ([2, 0, 0, 0, 0, 2, 0, -1, 0, 0, 2, -2, 0, -1, -1, 2], [3, 7], [1, 2, 1, 2]),
  ([2, 0, 0, 0, 0, 2, 0, -1, 0, 0, 2, -1, 0, -2, -1, 2], [3, 8], [1, 2, 1, 1]),
  ([2, 0, 0, 0, 0, 2, 0, -1, 0, 0, 2, -1, 0, -1, -2, 2], [3, 8], [1, 1, 2, 1]),
  ([2, 0, 0, 0, 0, 2, 0, -1, 0, 0, 2, -1, 0, -1, -1, 2], [3, 6], [1, 1, 1, 1]),
  ([2, 0, 0, 0, 0, 2, 0, -1, 0, 0, 2, 0, 0, -3, 0, 2], [3, 3, 2], [1, 3, 1, 1]),
  ([2, 0, 0, 0, 0, 2, 0, -1, 0, 0, 2, 0, 0, -2, 0, 2], [3, 3, 5], [1, 2, 1, 1]),
  ([2, 0, 0, 0, 0, 2, 0, -1, 0, 0, 2, 0, 0, -1, 0, 2], [3, 3, 4], [1, 1, 1, 1]),
  ([2, 0, 0, 0, 0, 2, 0, 0, 0, 0, 2, -3, 0, 0, -1, 2], [3, 3, 2], [1, 1, 1, 3]),
  ([2, 0, 0, 0, 0, 2, 0, 0, 0, 0, 2, -2, 0, 0, -1, 2], [3, 3, 5], [1, 1, 1, 2]),
  ([2, 0, 0, 0, 0, 2, 0, 0, 0, 0, 2, -1, 0, 0, -3, 2], [3, 3, 2], [1, 1, 3, 1]),
  ([2, 0, 0, 0, 0, 2, 0, 0, 0, 0, 2, -1, 0, 0, -2, 2], [3, 3, 5], [1, 1, 2, 1]),
  ([2, 0, 0, 0, 0, 2, 0, 0, 0, 0, 2, -1, 0, 0, -1, 2], [3, 3, 4], [1, 1, 1, 1]),
  ([2, 0, 0, 0, 0, 2, 0, 0, 0, 0, 2, 0, 0, 0, 0, 2], [3, 3, 3, 3], [1, 1, 1, 1])]
def tab4 : List (List Int × List Nat × List Int) := tab4_0 ++ tab4_1 ++ tab4_2 ++ tab4_3 ++ tab4_4 ++ tab4_5 ++ tab4_6 ++ tab4_7
def tab : Nat → List (List Int × List Nat × List Int)
  | 1 => tab1
  | 2 => tab2
  | 3 => tab3
  | 4 => tab4
  | _ => []
def inTab (R : Nat) (xs : List Int) : Bool := (tab R).any fun t => t.1 == xs
theorem inTab_iff {R : Nat} {xs : List Int} : inTab R xs = true ↔ ∃ t, t ∈ tab R ∧ t.1 = xs := by
  unfold inTab
  rw [List.any_eq_true]
  exact ⟨fun ⟨t, h, h1⟩ => ⟨t, h, eq_of_beq h1⟩, fun ⟨t, h, h1⟩ => ⟨t, h, by rw [h1]; exact beq_self_eq_true _⟩⟩
theorem built_in : ∀ R, 0 < R → R < 5 → (PL R).all (fun P => (allCh R P).all (fun L => inTab R (bld R L))) = true := by
  intro R h0 h1
  match R, h0, h1 with
  | 1, _, _ => decide +kernel
  | 2, _, _ => decide +kernel
  | 3, _, _ => decide +kernel
  | 4, _, _ => decide +kernel
theorem headOk_bx (xs : List Int) (R : Nat) (h0 : 0 < R) (hR : R ≤ 4) : headOk (bx xs R) R = true := by
  have h := headOk_pat R h0 (by omega) (bx xs R 0 1) (bx xs R 0 2) (bx xs R 0 3) (bx xs R 1 2) (bx xs R 1 3) (bx xs R 2 3)
  rw [← bx_pat xs R hR] at h
  rwa [show (fun i j => decide (i < R) && decide (j < R) && bx xs R i j) = bx xs R from ?_] at h
  funext i j
  by_cases h1 : i < R
  · by_cases h2 : j < R
    · simp [h1, h2]
    · rw [bx_big xs R i j (by omega)]; simp
  · rw [bx_big xs R i j (by omega)]; simp

structure Conn (b : Nat → Nat → Bool) (R : Nat) : Prop where
  self : ∀ r, r < R → r ∈ conn b R r
  lt : ∀ r, r < R → ∀ x, x ∈ conn b R r → x < R
  nodup : ∀ r, r < R → (conn b R r).Nodup
  len : ∀ r, r < R → (conn b R r).length ≤ R
  kk : ∀ r, r < R → ∀ k, k ≤ R → (∀ x, x ∈ connK b R r k → x < R) ∧ (connK b R r k).length ≤ R ∧ (connK b R r k).Nodup
  jj : ∀ r, r < R → ∀ k, k ≤ R → ∀ j, j ≤ R → (∀ x, x ∈ connJ b (ni (connK b R r k) k) (connK b R r k) j → x < R) ∧ (connJ b (ni (connK b R r k) k) (connK b R r k) j).length ≤ R
  closed : ∀ r, r < R → ∀ x, x ∈ conn b R r → ∀ y, y < R → b x y = true → y ∈ conn b R r
  same : ∀ r, r < R → ∀ x, x ∈ conn b R r → ∀ y, y < R → (y ∈ conn b R x ↔ y ∈ conn b R r)
theorem connOk_out {b : Nat → Nat → Bool} {R : Nat} (h : connOk b R = true) : Conn b R := by
  unfold connOk at h
  simp only [List.all_eq_true, List.mem_range, Bool.and_eq_true, decide_eq_true_eq, List.contains_iff_mem, Bool.or_eq_true, Bool.not_eq_true', beq_iff_eq] at h
  refine ⟨fun r hr => (h r hr).1.1.1.1.1, fun r hr => (h r hr).1.1.1.1.2, fun r hr => (h r hr).1.1.1.2, fun r hr => (h r hr).1.1.2, fun r hr k hk => ?_, fun r hr k hk j hj => ?_, fun r hr x hx y hy e => ?_, fun r hr x hx y hy => ?_⟩
  · have := (h r hr).1.2 k (by omega)
    exact ⟨this.1.1.1, this.1.1.2, this.1.2⟩
  · exact ((h r hr).1.2 k (by omega)).2 j (by omega)
  · rcases ((h r hr).2 x hx y hy).1 with h1 | h1
    · rw [e] at h1; cases h1
    · exact h1
  · have h1 := ((h r hr).2 x hx y hy).2
    rw [← List.contains_iff_mem, ← List.contains_iff_mem, h1]
theorem conn_bx (xs : List Int) (R : Nat) (hR : R ≤ 4) : Conn (bx xs R) R := connOk_out (connOk_bx xs R hR)

theorem nodup_sub {l : List Nat} : ∀ {m : List Nat}, l.Nodup → (∀ x, x ∈ l → x ∈ m) → m.length ≤ l.length → ∀ x, x ∈ m → x ∈ l := by
  induction l with
  | nil => intro m _ _ h x hx; rw [List.length_nil, Nat.le_zero, List.length_eq_zero_iff] at h; subst h; exact hx
  | cons a t ih =>
    intro m hn hs hl x hx
    have ha : a ∈ m := hs a (by simp)
    by_cases e : x = a
    · simp [e]
    · have hn2 := List.nodup_cons.1 hn
      have h1 := ih (m := m.erase a) hn2.2 (fun y hy => (List.mem_erase_of_ne (show y ≠ a from fun e2 => hn2.1 (e2 ▸ hy))).2 (hs y (by simp [hy]))) (by rw [List.length_erase_of_mem ha]; simp at hl; omega) x ((List.mem_erase_of_ne e).2 hx)
      simp [h1]
theorem ni_idxOf {l : List Nat} {x : Nat} (h : x ∈ l) : l.idxOf x < l.length ∧ ni l (l.idxOf x) = x := by
  have h1 := List.idxOf_lt_length_of_mem h
  refine ⟨h1, ?_⟩
  simp only [ni, List.getD_eq_getElem?_getD, List.getElem?_eq_getElem h1, Option.getD_some]
  exact List.getElem_idxOf h1

theorem acc_in {R : Nat} {xs : List Int} (h0 : 0 < R) (hR : R ≤ 4) (hl : xs.length = R * R) (h : Acc R xs) : inTab R xs = true := by
  have hc := conn_bx xs R hR
  have hh := headOk_bx xs R h0 hR
  unfold headOk at hh
  simp only [Bool.and_eq_true, List.all_eq_true, List.any_eq_true, List.mem_range, decide_eq_true_eq, List.contains_iff_mem] at hh
  obtain ⟨⟨hP, hcov⟩, hlt⟩ := hh
  have hf : ∃ f : Nat → Nat × List Nat, ∀ r, r < R → (f r).1 < 12 ∧ (f r).2.length = frk (f r).1 ∧ likeB (f r).1 xs R (f r).2 = true ∧ (f r).2.Nodup ∧ ∀ x, x ∈ (f r).2 ↔ x ∈ conn (bx xs R) R r := by
    refine ⟨fun r => if hr : r < R then (Classical.choose (h r hr), Classical.choose (Classical.choose_spec (h r hr))) else (0, []), fun r hr => ?_⟩
    simp only [dif_pos hr]
    exact Classical.choose_spec (Classical.choose_spec (h r hr))
  obtain ⟨f, hf⟩ := hf
  -- the choice is one of those listed
  have hch : ∀ hs : List Nat, (∀ q, q ∈ hs → q < R) → hs.map f ∈ allCh R (hs.map (partOf (bx xs R) R)) := by
    intro hs
    induction hs with
    | nil => intro _; simp [allCh]
    | cons q t ih =>
      intro hq
      rw [List.map_cons, List.map_cons, allCh, List.mem_flatMap]
      refine ⟨f q, ?_, List.mem_map.2 ⟨_, ih (fun z hz => hq z (by simp [hz])), rfl⟩⟩
      have hqR := hq q (by simp)
      obtain ⟨h1, h2, h3, h4, h5⟩ := hf q hqR
      have h6 : ∀ x, x ∈ partOf (bx xs R) R q ↔ x ∈ (f q).2 := fun x => by
        rw [partOf, List.mem_filter, List.mem_range, List.contains_iff_mem, h5]
        exact ⟨fun z => z.2, fun z => ⟨hc.lt q hqR x z, z⟩⟩
      have h7 : (partOf (bx xs R) R q).Nodup := List.Nodup.sublist List.filter_sublist List.nodup_range
      have h8 : (partOf (bx xs R) R q).length = (f q).2.length := by
        have e := (List.perm_ext_iff_of_nodup h7 h4).2 h6
        exact e.length_eq
      rw [chs, List.mem_flatMap]
      refine ⟨(f q).1, List.mem_range.2 h1, ?_⟩
      rw [if_pos (by rw [h8, h2]), List.mem_map]
      refine ⟨(f q).2, ?_, rfl⟩
      rw [List.mem_filter]
      refine ⟨mem_allLists R _ _ h2 (fun x hx => hc.lt q hqR x ((h5 x).1 hx)), ?_⟩
      simp only [Bool.and_eq_true, decide_eq_true_eq, List.all_eq_true, List.contains_iff_mem]
      exact ⟨⟨h4, fun x hx => (h6 x).1 hx⟩, fun x hx => (h6 x).2 hx⟩
  have hent : ∀ (r c : Nat), r < R → c < R → ∀ hs : List Nat, (∀ q, q ∈ hs → q < R) →
      (ent r c (hs.map f) = gi xs (r * R + c) ∨ (ent r c (hs.map f) = 0 ∧ ∀ q, q ∈ hs → ¬ (r ∈ conn (bx xs R) R q ∧ c ∈ conn (bx xs R) R q))) := by
    intro r c hr hcR hs
    induction hs with
    | nil => intro _; exact Or.inr ⟨rfl, fun q hq => by simp at hq⟩
    | cons q t ih =>
      intro hq
      obtain ⟨h1, h2, h3, h4, h5⟩ := hf q (hq q (by simp))
      rw [List.map_cons, ent]
      split
      · next h6 =>
        rw [Bool.and_eq_true, List.contains_iff_mem, List.contains_iff_mem] at h6
        obtain ⟨i1, i2⟩ := ni_idxOf h6.1
        obtain ⟨j1, j2⟩ := ni_idxOf h6.2
        have h7 := likeB_at h3 i1 j1
        rw [i2, j2] at h7
        exact Or.inl h7.symm
      · next h6 =>
        rw [Bool.and_eq_true, List.contains_iff_mem, List.contains_iff_mem, h5, h5] at h6
        rcases ih (fun z hz => hq z (by simp [hz])) with h7 | ⟨h7, h8⟩
        · exact Or.inl h7
        · refine Or.inr ⟨h7, fun z hz => ?_⟩
          rcases List.mem_cons.1 hz with rfl | hz
          · exact h6
          · exact h8 z hz
  have hbld : bld R ((heads (bx xs R) R).map f) = xs := by
    refine List.ext_getElem (by simp [bld, hl]) (fun e he1 he2 => ?_)
    have he : e < R * R := by simpa [bld] using he1
    simp only [bld, List.getElem_map, List.getElem_range]
    have hr : e / R < R := Nat.div_lt_of_lt_mul he
    have hcR : e % R < R := Nat.mod_lt _ h0
    have ee : e / R * R + e % R = e := by rw [Nat.mul_comm]; exact Nat.div_add_mod e R
    have hg : gi xs e = xs[e] := by simp [gi, he2]
    rcases hent (e / R) (e % R) hr hcR _ hlt with h1 | ⟨h1, h2⟩
    · rw [h1, ee, hg]
    · obtain ⟨q, hq1, hq2⟩ := hcov (e / R) hr
      have h3 := h2 q hq1
      have hqR := hlt q hq1
      have h4 : bx xs R (e / R) (e % R) = false := by
        rcases hb : bx xs R (e / R) (e % R) with _ | _
        · rfl
        · exact absurd ⟨hq2, hc.closed q hqR _ hq2 _ hcR hb⟩ h3
      have h5 : e / R ≠ e % R := fun e2 => h3 ⟨hq2, e2 ▸ hq2⟩
      unfold bx at h4
      rw [decide_eq_true hr, decide_eq_true hcR] at h4
      simp only [Bool.and_eq_false_iff, Bool.or_eq_false_iff, bne_eq_false_iff_eq, Bool.and_true] at h4
      rcases h4 with h4 | h4
      · exact absurd h4 h5
      · rw [h1, ← hg, ← ee, h4.1]
  have h9 := built_in R h0 (by omega)
  rw [List.all_eq_true] at h9
  have h10 := h9 _ hP
  rw [List.all_eq_true] at h10
  have h11 := h10 _ (hch (heads (bx xs R) R) hlt)
  rwa [hbld] at h11

theorem gi_set (xs : List Int) (k j : Nat) (v : Int) : gi (xs.set k v) j = if k = j ∧ k < xs.length then v else gi xs j := by
  unfold gi
  rw [List.getD_eq_getElem?_getD, List.getD_eq_getElem?_getD, List.getElem?_set]
  by_cases h : k = j
  · subst h
    by_cases h2 : k < xs.length <;> simp [h2]
  · simp [h]
theorem slF_length (k : Nat) (σ : List Nat) (ls : List Int) : ∀ i, (slF k σ ls i).length = ls.length
  | 0 => rfl
  | i + 1 => by rw [slF, List.length_set, slF_length k σ ls i]
theorem slF_ne (k : Nat) (σ : List Nat) (ls : List Int) (r : Nat) (hr : r < ls.length) : ∀ i, i ≤ σ.length → (gi (slF k σ ls i) r ≠ 0 ↔ (r ∈ σ.take i ∨ gi ls r ≠ 0))
  | 0, _ => by simp [slF]
  | i + 1, hi => by
    have e : ni σ i = σ[i] := by simp [ni, show i < σ.length by omega]
    rw [slF, gi_set, slF_length, List.take_succ_eq_append_getElem (by omega), List.mem_append, List.mem_singleton]
    by_cases h : ni σ i = r
    · rw [if_pos ⟨h, by omega⟩]
      exact ⟨fun _ => Or.inl (Or.inr (by rw [← e, h])), fun _ => lenM_pos _ _⟩
    · rw [if_neg (fun h2 => h h2.1), slF_ne k σ ls r hr i (by omega)]
      have h3 : ¬ r = σ[i] := fun e2 => h (by rw [e, e2])
      simp [h3]
theorem learnM_ok {xs : List Int} {R : Nat} {rows σ : List Nat} {k : Nat} (h : learnM xs R rows = some (k, σ)) : k < 12 ∧ frk k = rows.length ∧ likeB k xs R σ = true ∧ rows.Perm σ := by
  obtain ⟨q, hq, h2⟩ := List.exists_of_findSome?_eq_some h
  rw [List.mem_range] at hq
  split at h2
  · next h3 =>
    rw [Option.map_eq_some_iff] at h2
    obtain ⟨τ, h4, h5⟩ := h2
    obtain ⟨rfl, rfl⟩ : q = k ∧ τ = σ := by simpa using h5
    have h6 := orderM_ok q xs R rows.length [] rows τ rfl h4
    exact ⟨hq, h3, h6.1, by simpa using h6.2⟩
  · cases h2
theorem wrapS_acc {xs : List Int} {R : Nat} (hR : R ≤ 4) : ∀ i ns ls, i ≤ R → wrapS xs R i = some (ns, ls) → ls.length = R ∧ (∀ r, r < R → gi ls r ≠ 0 → ∃ k σ, k < 12 ∧ σ.length = frk k ∧ likeB k xs R σ = true ∧ σ.Nodup ∧ ∀ x, x ∈ σ ↔ x ∈ conn (bx xs R) R r) ∧ ∀ r, r < i → gi ls r ≠ 0 := by
  intro i
  induction i with
  | zero =>
    intro ns ls _ h
    cases h
    exact ⟨by simp, fun r hr h => absurd (by simp [gi, hr]) h, fun r hr => by omega⟩
  | succ i ih =>
    intro ns ls hi h
    rw [wrapS] at h
    rcases h1 : wrapS xs R i with _ | ⟨ns1, ls1⟩
    · rw [h1] at h; cases h
    · rw [h1] at h
      simp only at h
      obtain ⟨a1, a2, a3⟩ := ih ns1 ls1 (by omega) h1
      split at h
      · next h2 =>
        rcases h3 : learnM xs R (conn (bx xs R) R i) with _ | ⟨k, σ⟩
        · rw [h3] at h; cases h
        · rw [h3] at h
          cases h
          have hc := conn_bx xs R hR
          obtain ⟨b1, b2, b3, b4⟩ := learnM_ok h3
          have hne := fun r (hr : r < R) => slF_ne k σ ls1 r (by omega) σ.length (Nat.le_refl _)
          simp only [List.take_length] at hne
          refine ⟨by rw [slF_length, a1], fun r hr hg => ?_, fun r hr => ?_⟩
          · rcases (hne r hr).1 hg with h4 | h4
            · have h5 := b4.mem_iff.2 h4
              refine ⟨k, σ, b1, by rw [b2, b4.length_eq], b3, b4.nodup_iff.1 (hc.nodup i (by omega)), fun x => ?_⟩
              rw [← b4.mem_iff]
              constructor
              · intro hx
                exact (hc.same i (by omega) r h5 x (hc.lt i (by omega) x hx)).2 hx
              · intro hx
                exact (hc.same i (by omega) r h5 x (hc.lt r hr x hx)).1 hx
            · exact a2 r hr h4
          · by_cases e : r = i
            · subst e
              exact (hne r (by omega)).2 (Or.inl (b4.mem_iff.1 (hc.self r (by omega))))
            · exact (hne r (by omega)).2 (Or.inr (a3 r (by omega)))
      · next h2 =>
        cases h
        refine ⟨a1, a2, fun r hr => ?_⟩
        by_cases e : r = i
        · subst e; exact h2
        · exact a3 r (by omega)
theorem wrapS_in {xs : List Int} {R : Nat} (h0 : 0 < R) (hR : R ≤ 4) (hl : xs.length = R * R) {v : List Nat × List Int} (h : wrapS xs R R = some v) : inTab R xs = true := by
  obtain ⟨ns, ls⟩ := v
  obtain ⟨a1, a2, a3⟩ := wrapS_acc hR R ns ls (Nat.le_refl _) h
  exact acc_in h0 hR hl (fun r hr => a2 r hr (a3 r hr))

/-- The names of the families, in the order of the text. -/
def nameKey : Nat → Nat
  | 3 => 0 | 4 => 1 | 6 => 2 | 9 => 3 | 5 => 4 | 7 => 5 | 10 => 6 | 8 => 7 | 11 => 8 | 0 => 9 | 1 => 10 | _ => 11
def insN (k : Nat) : List Nat → List Nat
  | [] => [k]
  | a :: t => if nameKey k < nameKey a then k :: a :: t else a :: insN k t
def sortN (l : List Nat) : List Nat := l.foldl (fun acc k => insN k acc) []
theorem tab_wrap : ∀ R, 0 < R → R < 5 → (tab R).all (fun t => (wrapS t.1 R R).map (fun v => (sortN v.1, v.2)) == some t.2) = true := by
  intro R h0 h1
  match R, h0, h1 with
  | 1, _, _ => decide +kernel
  | 2, _, _ => decide +kernel
  | 3, _, _ => decide +kernel
  | 4, _, _ => decide +kernel
/-- The families in the order of the specification's names. -/
def spN : List Nat := [3, 4, 6, 9, 5, 7, 10, 8, 11, 0, 1, 2]
def rngB (xs : List Int) (R : Nat) : Bool := (List.range (R * R)).all fun e => decide (-3 ≤ gi xs e ∧ gi xs e ≤ 2) && (gi xs e == 0 || gi xs (e % R * R + e / R) != 0)
def stepB (k : Nat) (xs : List Int) (R : Nat) (next : List Nat) (q : Nat) : Bool :=
  (List.range (q + 1)).all fun j => gi xs (ni next q * R + ni next j) == elM k (q + 1) (j + 1) && gi xs (ni next j * R + ni next q) == elM k (j + 1) (q + 1)
def fitsM (k : Nat) (xs : List Int) (R : Nat) (rows : List Nat) : Nat → List Nat → Bool
  | 0, _ => true
  | m + 1, used => (List.range rows.length).any fun i => !used.contains (ni rows i) && stepB k xs R (used ++ [ni rows i]) used.length && fitsM k xs R rows m (used ++ [ni rows i])
/-- The last family, in the order of the names, that fits. -/
def foundM (xs : List Int) (R : Nat) (rows : List Nat) : Nat → Option Nat
  | 0 => none
  | q + 1 => if frk (ni spN q) = rows.length ∧ fitsM (ni spN q) xs R rows rows.length [] = true then some (ni spN q) else foundM xs R rows q
/-- What is done and what is found, of the specification, ahead of row i. -/
def specS (xs : List Int) (R : Nat) : Nat → Option (List Nat × List Nat)
  | 0 => some ([], [])
  | i + 1 => match specS xs R i with
    | none => none
    | some (done, ns) => if done.contains i then some (done, ns) else
        match foundM xs R (conn (bx xs R) R i) 12 with
        | none => none
        | some k => some (done ++ conn (bx xs R) R i, insN k ns)
def specM (xs : List Int) (R : Nat) : Option (List Nat) := if rngB xs R then (specS xs R R).map (·.2) else none

theorem gi_app (l : List Nat) (x q : Nat) : ni (l ++ [x]) q = if q < l.length then ni l q else if q = l.length then x else 0 := by
  unfold ni
  rw [List.getD_eq_getElem?_getD, List.getElem?_append]
  by_cases h : q < l.length
  · simp [h]
  · rw [if_neg h, if_neg h]
    by_cases h2 : q = l.length
    · simp [h2]
    · rw [if_neg h2]
      have : q - l.length ≠ 0 := by omega
      rcases h3 : q - l.length with _ | z
      · omega
      · simp
theorem fitsM_ok (k : Nat) (xs : List Int) (R : Nat) (rows : List Nat) : ∀ (m : Nat) (used : List Nat), likeB k xs R used = true → used.Nodup → (∀ x, x ∈ used → x ∈ rows) → used.length + m = rows.length → fitsM k xs R rows m used = true → ∃ σ : List Nat, likeB k xs R σ = true ∧ σ.Nodup ∧ (∀ x, x ∈ σ → x ∈ rows) ∧ σ.length = rows.length
  | 0, used, h1, h2, h3, h4, _ => ⟨used, h1, h2, h3, by omega⟩
  | m + 1, used, h1, h2, h3, h4, h5 => by
    rw [fitsM, List.any_eq_true] at h5
    obtain ⟨i, hi, h6⟩ := h5
    rw [List.mem_range] at hi
    simp only [Bool.and_eq_true, Bool.not_eq_true'] at h6
    obtain ⟨⟨h70, h8⟩, h9⟩ := h6
    have h7 : ni rows i ∉ used := fun hm => by rw [List.contains_iff_mem.2 hm] at h70; cases h70
    have hm : ni rows i ∈ rows := by
      have e : ni rows i = rows[i] := by simp [ni, hi]
      rw [e]; exact List.getElem_mem _
    refine fitsM_ok k xs R rows m _ ?_ ?_ ?_ (by simp; omega) h9
    · unfold stepB at h8
      rw [List.all_eq_true] at h8
      unfold likeB
      simp only [List.all_eq_true, List.mem_range, List.length_append, List.length_singleton, beq_iff_eq]
      intro a ha b hb
      by_cases ea : a = used.length
      · subst ea
        have h10 := h8 b (List.mem_range.2 hb)
        simp only [Bool.and_eq_true, beq_iff_eq] at h10
        exact h10.1
      · by_cases eb : b = used.length
        · subst eb
          have h10 := h8 a (List.mem_range.2 ha)
          simp only [Bool.and_eq_true, beq_iff_eq] at h10
          exact h10.2
        · rw [gi_app, gi_app, if_pos (by omega), if_pos (by omega)]
          exact likeB_at h1 (by omega) (by omega)
    · rw [List.nodup_append]
      refine ⟨h2, by simp, fun a ha b hb => ?_⟩
      rw [List.mem_singleton] at hb
      subst hb
      intro e; subst e; exact h7 ha
    · intro x hx
      rcases List.mem_append.1 hx with h | h
      · exact h3 x h
      · rw [List.mem_singleton] at h; subst h; exact hm
theorem foundM_ok {xs : List Int} {R : Nat} {rows : List Nat} : ∀ {q k : Nat}, q ≤ 12 → foundM xs R rows q = some k → k < 12 ∧ frk k = rows.length ∧ fitsM k xs R rows rows.length [] = true
  | 0, k, _, h => by cases h
  | q + 1, k, hq, h => by
    rw [foundM] at h
    split at h
    · next h1 =>
      cases h
      have : ∀ q, q < 12 → ni spN q < 12 := by decide
      exact ⟨this q (by omega), h1.1, h1.2⟩
    · exact foundM_ok (by omega) h
theorem specS_acc {xs : List Int} {R : Nat} (hR : R ≤ 4) : ∀ i done ns, i ≤ R → specS xs R i = some (done, ns) → (∀ r, r ∈ done → r < R ∧ ∃ k σ, k < 12 ∧ σ.length = frk k ∧ likeB k xs R σ = true ∧ σ.Nodup ∧ ∀ x, x ∈ σ ↔ x ∈ conn (bx xs R) R r) ∧ ∀ r, r < i → r ∈ done := by
  intro i
  induction i with
  | zero =>
    intro done ns _ h
    cases h
    exact ⟨fun r hr => by simp at hr, fun r hr => by omega⟩
  | succ i ih =>
    intro done ns hi h
    rw [specS] at h
    rcases h1 : specS xs R i with _ | ⟨d1, n1⟩
    · rw [h1] at h; cases h
    · rw [h1] at h
      simp only at h
      obtain ⟨a1, a2⟩ := ih d1 n1 (by omega) h1
      split at h
      · next h2 =>
        cases h
        refine ⟨a1, fun r hr => ?_⟩
        by_cases e : r = i
        · subst e; exact List.contains_iff_mem.1 h2
        · exact a2 r (by omega)
      · next h2 =>
        rcases h3 : foundM xs R (conn (bx xs R) R i) 12 with _ | k
        · rw [h3] at h; cases h
        · rw [h3] at h
          cases h
          have hc := conn_bx xs R hR
          obtain ⟨b1, b2, b3⟩ := foundM_ok (by omega) h3
          obtain ⟨σ, c1, c2, c3, c4⟩ := fitsM_ok k xs R _ _ [] (by rfl) (by simp) (by simp) (by simp) b3
          have c5 := nodup_sub c2 c3 (by omega)
          refine ⟨fun r hr => ?_, fun r hr => ?_⟩
          · rcases List.mem_append.1 hr with h4 | h4
            · exact a1 r h4
            · have hrR := hc.lt i (by omega) r h4
              refine ⟨hrR, k, σ, b1, by omega, c1, c2, fun x => ?_⟩
              constructor
              · intro hx
                exact (hc.same i (by omega) r h4 x (hc.lt i (by omega) x (c3 x hx))).2 (c3 x hx)
              · intro hx
                exact c5 x ((hc.same i (by omega) r h4 x (hc.lt r hrR x hx)).1 hx)
          · by_cases e : r = i
            · subst e
              exact List.mem_append.2 (Or.inr (hc.self r (by omega)))
            · exact List.mem_append.2 (Or.inl (a2 r (by omega)))
theorem specM_in {xs : List Int} {R : Nat} (h0 : 0 < R) (hR : R ≤ 4) (hl : xs.length = R * R) {v : List Nat} (h : specM xs R = some v) : inTab R xs = true := by
  unfold specM at h
  split at h
  · rw [Option.map_eq_some_iff] at h
    obtain ⟨⟨done, ns⟩, h1, _⟩ := h
    obtain ⟨a1, a2⟩ := specS_acc hR R done ns (Nat.le_refl _) h1
    exact acc_in h0 hR hl (fun r hr => (a1 r (a2 r hr)).2)
  · cases h
theorem tab_spec : ∀ R, 0 < R → R < 5 → (tab R).all (fun t => specM t.1 R == some t.2.1) = true := by
  intro R h0 h1
  match R, h0, h1 with
  | 1, _, _ => decide +kernel
  | 2, _, _ => decide +kernel
  | 3, _, _ => decide +kernel
  | 4, _, _ => decide +kernel
/-- The row of the table. -/
def tabGet (R : Nat) (xs : List Int) : Option (List Nat × List Int) := ((tab R).find? fun t => t.1 == xs).map (·.2)
theorem tabGet_mem {R : Nat} {xs : List Int} {v : List Nat × List Int} (h : tabGet R xs = some v) : (xs, v) ∈ tab R := by
  unfold tabGet at h
  rw [Option.map_eq_some_iff] at h
  obtain ⟨t, h1, rfl⟩ := h
  have h2 := List.find?_some h1
  have h3 := List.mem_of_find?_eq_some h1
  have h4 : t.1 = xs := eq_of_beq h2
  rw [← h4]; exact h3
theorem tabGet_none {R : Nat} {xs : List Int} (h : tabGet R xs = none) : inTab R xs = false := by
  unfold tabGet at h
  rw [Option.map_eq_none_iff, List.find?_eq_none] at h
  rcases h1 : inTab R xs with _ | _
  · rfl
  · obtain ⟨t, h2, h3⟩ := inTab_iff.1 h1
    exact absurd (by simp [h3]) (h t h2)
theorem wrapS_tab {xs : List Int} {R : Nat} (h0 : 0 < R) (hR : R ≤ 4) (hl : xs.length = R * R) : (wrapS xs R R).map (fun v => (sortN v.1, v.2)) = tabGet R xs := by
  rcases h : tabGet R xs with _ | v
  · rcases h1 : wrapS xs R R with _ | v
    · rfl
    · have := tabGet_none h
      rw [wrapS_in h0 hR hl h1] at this
      cases this
  · have h1 := tab_wrap R h0 (by omega)
    rw [List.all_eq_true] at h1
    exact eq_of_beq (h1 _ (tabGet_mem h))
theorem specM_tab {xs : List Int} {R : Nat} (h0 : 0 < R) (hR : R ≤ 4) (hl : xs.length = R * R) : specM xs R = (tabGet R xs).map (·.1) := by
  rcases h : tabGet R xs with _ | v
  · rcases h1 : specM xs R with _ | v
    · rfl
    · have := tabGet_none h
      rw [specM_in h0 hR hl h1] at this
      cases this
  · have h1 := tab_spec R h0 (by omega)
    rw [List.all_eq_true] at h1
    exact eq_of_beq (h1 _ (tabGet_mem h))
/-- The lengths as the specification spreads them: one column, one row of the part, the division by the least. -/
def lnJ (xs : List Int) (R r : Nat) (d : List Int) : Nat → List Int
  | 0 => d
  | j + 1 => if gi (lnJ xs R r d j) j = 0 ∧ gi xs (r * R + j) ≠ 0 then (lnJ xs R r d j).set j ((gi (lnJ xs R r d j) r * gi xs (r * R + j)).tdiv (gi xs (j * R + r))) else lnJ xs R r d j
def lnK (xs : List Int) (R : Nat) (rows : List Nat) (d : List Int) : Nat → List Int × Int
  | 0 => (d, 6)
  | k + 1 => (lnJ xs R (ni rows k) (lnK xs R rows d k).1 R, if gi (lnJ xs R (ni rows k) (lnK xs R rows d k).1 R) (ni rows k) < (lnK xs R rows d k).2 then gi (lnJ xs R (ni rows k) (lnK xs R rows d k).1 R) (ni rows k) else (lnK xs R rows d k).2)
def lnD (rows : List Nat) (l : Int) (d : List Int) : Nat → List Int
  | 0 => d
  | k + 1 => (lnD rows l d k).set (ni rows k) ((gi (lnD rows l d k) (ni rows k)).tdiv l)
def lnS (xs : List Int) (R : Nat) : Nat → List Int
  | 0 => List.replicate R 0
  | i + 1 => if gi (lnS xs R i) i = 0 then
      lnD (conn (bx xs R) R i) (lnK xs R (conn (bx xs R) R i) ((lnS xs R i).set i 6) (conn (bx xs R) R i).length).2 (lnK xs R (conn (bx xs R) R i) ((lnS xs R i).set i 6) (conn (bx xs R) R i).length).1 (conn (bx xs R) R i).length
    else lnS xs R i
def smallL (l : List Int) : Bool := l.all fun x => decide (-100 ≤ x ∧ x ≤ 100)
/-- All that stands on the way is small, and nothing is divided by 0. -/
def lnOk (xs : List Int) (R : Nat) : Bool :=
  (List.range R).all fun i => smallL (lnS xs R i) && (gi (lnS xs R i) i != 0 ||
    (List.range ((conn (bx xs R) R i).length + 1)).all (fun k =>
      smallL (lnK xs R (conn (bx xs R) R i) ((lnS xs R i).set i 6) k).1 && decide (0 < (lnK xs R (conn (bx xs R) R i) ((lnS xs R i).set i 6) k).2) && decide ((lnK xs R (conn (bx xs R) R i) ((lnS xs R i).set i 6) k).2 ≤ 6) &&
      (List.range (R + 1)).all (fun j => smallL (lnJ xs R (ni (conn (bx xs R) R i) k) (lnK xs R (conn (bx xs R) R i) ((lnS xs R i).set i 6) k).1 j)) &&
      smallL (lnD (conn (bx xs R) R i) (lnK xs R (conn (bx xs R) R i) ((lnS xs R i).set i 6) (conn (bx xs R) R i).length).2 (lnK xs R (conn (bx xs R) R i) ((lnS xs R i).set i 6) (conn (bx xs R) R i).length).1 k)))
theorem tab_len : ∀ R, 0 < R → R < 5 → (tab R).all (fun t => lnS t.1 R R == t.2.2 && lnOk t.1 R && rngB t.1 R && decide (t.1.length = R * R) && decide (t.2.2.length = R) && t.2.2.all (fun x => decide (1 ≤ x ∧ x ≤ 3)) && decide (t.2.1.length ≤ R) && decide (1 ≤ t.2.1.length)) = true := by
  intro R h0 h1
  match R, h0, h1 with
  | 1, _, _ => decide +kernel
  | 2, _, _ => decide +kernel
  | 3, _, _ => decide +kernel
  | 4, _, _ => decide +kernel
end Go.Proofs.YtlnpaplbcocmkaaGreat
