/-
  Positive roots: how both texts find them. Plain mathematics.
-/
import Derived.Test.YtlnpaplbcocmkaaGreatCar
namespace Go.Proofs.YtlnpaplbcocmkaaGreat
set_option linter.unusedVariables false
set_option linter.unusedSimpArgs false

/-- Part of a row's product with a list. -/
def wgS (xs ys : List Int) (R i : Nat) : Nat → Int
  | 0 => 0
  | j + 1 => wgS xs ys R i j + gi xs (i * R + j) * gi ys j
/-- The product of the matrix with a list, as far as row i, number j. -/
def wgP (xs ys : List Int) (R i j : Nat) : List Int := (List.range R).map fun e => if e < i then wgS xs ys R e R else if e = i then wgS xs ys R i j else 0
/-- The product of the matrix with a list. -/
def wgL (xs ys : List Int) (R : Nat) : List Int := (List.range R).map fun e => wgS xs ys R e R
def gl (l : List (List Int)) (k : Nat) : List Int := l.getD k []
/-- A simple reflection. -/
def rfl5 (xs : List Int) (R i : Nat) (y : List Int) : List Int := y.set i (gi y i - wgS xs y R i R)
def bas (R i : Nat) : List Int := (List.replicate R 0).set i 1
def allPos (x : List Int) : Bool := x.all fun n => decide (0 ≤ n)
def pickR (pr : Bool) (xs : List Int) (R : Nat) (r : List Int) (i : Nat) : Bool := if pr then decide (0 ≤ gi (rfl5 xs R i r) i) else allPos (rfl5 xs R i r)
def stepR (pr : Bool) (xs : List Int) (R : Nat) (l : List (List Int)) (r : List Int) : Nat → List (List Int)
  | 0 => l
  | i + 1 => if pickR pr xs R r i && !(stepR pr xs R l r i).contains (rfl5 xs R i r) then stepR pr xs R l r i ++ [rfl5 xs R i r] else stepR pr xs R l r i
def growR (pr : Bool) (xs : List Int) (R : Nat) : Nat → List (List Int)
  | 0 => (List.range R).map (bas R)
  | k + 1 => if k < (growR pr xs R k).length then stepR pr xs R (growR pr xs R k) (gl (growR pr xs R k) k) R else growR pr xs R k
def htS (x : List Int) : Int := x.foldl (· + ·) 0
def lexB : List Int → List Int → Bool
  | a :: x, b :: y => if a = b then lexB x y else decide (b < a)
  | _, _ => false
/-- Ahead of another one: less height, or lexicographically greater. -/
def lessR (x y : List Int) : Bool := if htS x = htS y then lexB x y else decide (htS x < htS y)
def atR (x : List Int) (l : List (List Int)) : Nat → Nat
  | 0 => 0
  | n + 1 => if lessR x (gl l n) then atR x l n else n + 1
def insR (x : List Int) (l : List (List Int)) : List (List Int) := l.take (atR x l l.length) ++ x :: l.drop (atR x l l.length)
def srtR (l : List (List Int)) : Nat → List (List Int)
  | 0 => []
  | k + 1 => insR (gl l k) (srtR l k)
def fullR (xs : List Int) (R : Nat) : List (List Int) := growR true xs R 24
/-- The positive roots. -/
def posR (xs : List Int) (R : Nat) : List (List Int) := srtR (fullR xs R) (fullR xs R).length
def rowOkR (R : Nat) (x : List Int) : Bool := decide (x.length = R) && x.all (fun n => decide (0 ≤ n ∧ n ≤ 6))
/-- The inner product of two lists, as far as row i. -/
def innS (xs ls x y : List Int) (R : Nat) : Nat → Int
  | 0 => 0
  | i + 1 => innS xs ls x y R i + gi x i * gi ls i * wgS xs y R i R
def srtB (l : List (List Int)) : Nat → Bool
  | 0 => true
  | k + 1 => srtB l k && (List.range k).all fun i => lessR (gl l i) (gl l k)
def rtsB (xs ls : List Int) (R : Nat) (l : List (List Int)) : Bool :=
  decide (l.length ≤ 24) && l.all (fun r => rowOkR R r && decide (2 ≤ innS xs ls r r R R ∧ innS xs ls r r R R ≤ 6) && r.any (fun x => x != 0) && decide (1 ≤ htS r ∧ htS r ≤ 12)) && srtB l l.length
/-- The list ends, and what stands in it is small and in order. -/
def chkR (xs ls : List Int) (R : Nat) : Nat → List (List Int) → Nat → Bool
  | 0, l, k => decide (l.length ≤ k) && rtsB xs ls R (srtR l l.length)
  | f + 1, l, k => if l.length ≤ k then rtsB xs ls R (srtR l l.length) else chkR xs ls R f (stepR true xs R l (gl l k) R) (k + 1)
def rootsB (xs ls : List Int) (R : Nat) : Bool := chkR xs ls R 24 ((List.range R).map (bas R)) 0
theorem gl_lt {l : List (List Int)} {k : Nat} (h : k < l.length) : gl l k = l[k] := by simp [gl, List.getD_eq_getElem?_getD, h]
theorem gl_mem {l : List (List Int)} {k : Nat} (h : k < l.length) : gl l k ∈ l := by rw [gl_lt h]; exact List.getElem_mem h
theorem mem_gl {l : List (List Int)} {x : List Int} (h : x ∈ l) : ∃ k, k < l.length ∧ gl l k = x := by
  obtain ⟨k, hk, rfl⟩ := List.mem_iff_getElem.1 h
  exact ⟨k, hk, gl_lt hk⟩
theorem stepR_len (pr : Bool) (xs : List Int) (R : Nat) (l : List (List Int)) (r : List Int) : ∀ i, l.length ≤ (stepR pr xs R l r i).length ∧ (stepR pr xs R l r i).length ≤ l.length + i
  | 0 => ⟨Nat.le_refl _, Nat.le_refl _⟩
  | i + 1 => by
    have ih := stepR_len pr xs R l r i
    rw [stepR]
    split
    · simp only [List.length_append, List.length_singleton]; omega
    · omega
theorem stepR_pre (pr : Bool) (xs : List Int) (R : Nat) (l : List (List Int)) (r : List Int) : ∀ i q, q < l.length → gl (stepR pr xs R l r i) q = gl l q
  | 0, q, h => rfl
  | i + 1, q, h => by
    have h1 := (stepR_len pr xs R l r i).1
    have ih := stepR_pre pr xs R l r i q h
    rw [stepR]
    split
    · rw [gl_lt (by simp; omega), List.getElem_append_left (by omega), ← gl_lt (by omega)]; exact ih
    · exact ih
theorem growR_stop {pr : Bool} {xs : List Int} {R k : Nat} (h : (growR pr xs R k).length ≤ k) : ∀ d, growR pr xs R (k + d) = growR pr xs R k
  | 0 => rfl
  | d + 1 => by
    have ihd := growR_stop h d
    rw [← Nat.add_assoc, growR, if_neg (by rw [ihd]; omega), ihd]
theorem growR_mem {pr : Bool} {xs : List Int} {R k : Nat} {x : List Int} (h : x ∈ growR pr xs R k) : ∀ d, x ∈ growR pr xs R (k + d)
  | 0 => h
  | d + 1 => by
    have ih := growR_mem h d
    rw [← Nat.add_assoc, growR]
    split
    · obtain ⟨q, hq, rfl⟩ := mem_gl ih
      rw [← stepR_pre pr xs R _ (gl (growR pr xs R (k + d)) (k + d)) R q hq]
      exact gl_mem (Nat.lt_of_lt_of_le hq (stepR_len _ _ _ _ _ _).1)
    · exact ih
theorem chk_grow (xs ls : List Int) (R : Nat) : ∀ f k, chkR xs ls R f (growR true xs R k) k = true → (growR true xs R (k + f)).length ≤ k + f ∧ rtsB xs ls R (srtR (growR true xs R (k + f)) (growR true xs R (k + f)).length) = true := by
  intro f
  induction f with
  | zero =>
    intro k h
    simp only [chkR, Bool.and_eq_true, decide_eq_true_eq] at h
    exact h
  | succ f ih =>
    intro k h
    rw [chkR] at h
    by_cases hk : (growR true xs R k).length ≤ k
    · rw [if_pos hk] at h
      rw [growR_stop hk (f + 1)]
      exact ⟨by omega, h⟩
    · rw [if_neg hk] at h
      have e : stepR true xs R (growR true xs R k) (gl (growR true xs R k) k) R = growR true xs R (k + 1) := by rw [growR, if_pos (by omega)]
      rw [e] at h
      rw [show k + (f + 1) = k + 1 + f by omega]
      exact ih (k + 1) h
theorem gi_set5 (l : List Int) (i q : Nat) (v : Int) : gi (l.set i v) q = if i = q ∧ i < l.length then v else gi l q := by
  simp only [gi, List.getD_eq_getElem?_getD, List.getElem?_set]
  by_cases e : i = q
  · subst e
    by_cases h : i < l.length <;> simp [h]
  · simp [e]
theorem pick_same {xs : List Int} {R i : Nat} {r : List Int} (hi : i < r.length) (h : ∀ e, 0 ≤ gi r e) : pickR false xs R r i = pickR true xs R r i := by
  simp only [pickR, Bool.false_eq_true, if_false, if_true]
  have hl : (rfl5 xs R i r).length = r.length := by simp [rfl5]
  by_cases h1 : 0 ≤ gi (rfl5 xs R i r) i
  · rw [decide_eq_true h1, allPos, List.all_eq_true]
    intro y hy
    obtain ⟨e, he, rfl⟩ := List.mem_iff_getElem.1 hy
    have e1 : (rfl5 xs R i r)[e] = gi (rfl5 xs R i r) e := by simp [gi, he]
    rw [e1]
    apply decide_eq_true
    by_cases e2 : i = e
    · subst e2; exact h1
    · rw [rfl5, gi_set5, if_neg (by omega)]; exact h e
  · rw [decide_eq_false h1]
    rcases h2 : allPos (rfl5 xs R i r) with _ | _
    · rfl
    · rw [allPos, List.all_eq_true] at h2
      exfalso; apply h1
      have := of_decide_eq_true (h2 _ (List.getElem_mem (show i < (rfl5 xs R i r).length by omega)))
      rwa [show gi (rfl5 xs R i r) i = (rfl5 xs R i r)[i] by simp [gi, hl, hi]]
theorem step_same {xs : List Int} {R : Nat} {r : List Int} (hl : r.length = R) (h : ∀ e, 0 ≤ gi r e) (l : List (List Int)) : ∀ i, i ≤ R → stepR false xs R l r i = stepR true xs R l r i
  | 0, _ => rfl
  | i + 1, hi => by rw [stepR, stepR, step_same hl h l i (by omega), pick_same (by omega) h]
theorem insR_perm (x : List Int) (l : List (List Int)) : (insR x l).Perm (x :: l) := by
  unfold insR
  have h := (List.perm_middle (a := x) (l₁ := l.take (atR x l l.length)) (l₂ := l.drop (atR x l l.length)))
  rwa [List.take_append_drop] at h
theorem srtR_perm (l : List (List Int)) : ∀ k, k ≤ l.length → (srtR l k).Perm (l.take k)
  | 0, _ => by simp [srtR]
  | k + 1, h => by
    rw [srtR]
    refine (insR_perm _ _).trans ?_
    have ih := srtR_perm l k (by omega)
    rw [List.take_add_one, show l[k]? = some (gl l k) by rw [gl_lt (by omega)]; simp [show k < l.length by omega]]
    exact ((List.Perm.cons _ ih).trans (List.perm_append_singleton _ _).symm)
theorem srtR_full (l : List (List Int)) : (srtR l l.length).Perm l := by
  have := srtR_perm l l.length (Nat.le_refl _)
  rwa [List.take_length] at this
theorem srtB_at {l : List (List Int)} : ∀ {k : Nat}, srtB l k = true → ∀ i j, i < j → j < k → lessR (gl l i) (gl l j) = true
  | 0, _, i, j, _, h => by omega
  | k + 1, h, i, j, h1, h2 => by
    simp only [srtB, Bool.and_eq_true, List.all_eq_true, List.mem_range] at h
    by_cases e : j = k
    · subst e; exact h.2 i h1
    · exact srtB_at h.1 i j h1 (by omega)
/-- What is known of the positive roots of a Cartan matrix. -/
structure RootsOk (xs ls : List Int) (R : Nat) : Prop where
  len : ∀ pr k, (growR pr xs R k).length ≤ 24
  rows : ∀ pr k x, x ∈ growR pr xs R k → x.length = R ∧ ∀ e, 0 ≤ gi x e ∧ gi x e ≤ 6
  stop : ∀ pr k, (growR pr xs R k).length ≤ k → growR pr xs R k = fullR xs R
  pos : ∀ r, r ∈ posR xs R → 2 ≤ innS xs ls r r R R ∧ innS xs ls r r R R ≤ 6 ∧ (∃ e, e < R ∧ gi r e ≠ 0) ∧ 1 ≤ htS r ∧ htS r ≤ 12
  sorted : ∀ i j, i < j → j < (posR xs R).length → lessR (gl (posR xs R) i) (gl (posR xs R) j) = true
  perm : (posR xs R).Perm (fullR xs R)
theorem rowOk_out {R : Nat} {x : List Int} (h : rowOkR R x = true) : x.length = R ∧ ∀ e, 0 ≤ gi x e ∧ gi x e ≤ 6 := by
  simp only [rowOkR, Bool.and_eq_true, decide_eq_true_eq, List.all_eq_true] at h
  refine ⟨h.1, fun e => ?_⟩
  by_cases he : e < x.length
  · rw [show gi x e = x[e] by simp [gi, he]]
    exact h.2 _ (List.getElem_mem he)
  · rw [show gi x e = 0 by simp [gi, List.getD_eq_getElem?_getD, he]]; omega
theorem rootsOk_of {xs ls : List Int} {R : Nat} (h : rootsB xs ls R = true) : RootsOk xs ls R := by
  have h1 := chk_grow xs ls R 24 0 h
  rw [Nat.zero_add] at h1
  obtain ⟨h1, hp⟩ := h1
  simp only [rtsB, Bool.and_eq_true, List.all_eq_true, decide_eq_true_eq] at hp
  have hperm := srtR_full (growR true xs R 24)
  have hrow : ∀ x, x ∈ growR true xs R 24 → x.length = R ∧ ∀ e, 0 ≤ gi x e ∧ gi x e ≤ 6 := fun x hx => rowOk_out (hp.1.2 x (hperm.mem_iff.2 hx)).1.1.1
  have hrows : ∀ k x, x ∈ growR true xs R k → x.length = R ∧ ∀ e, 0 ≤ gi x e ∧ gi x e ≤ 6 := fun k x hx => by
    by_cases hk : k ≤ 24
    · have := growR_mem hx (24 - k)
      rw [show k + (24 - k) = 24 by omega] at this
      exact hrow x this
    · have := growR_stop h1 (k - 24)
      rw [show 24 + (k - 24) = k by omega] at this
      rw [this] at hx
      exact hrow x hx
  have hsame : ∀ k, growR false xs R k = growR true xs R k := by
    intro k
    induction k with
    | zero => rfl
    | succ k ih =>
      rw [growR, growR, ih]
      by_cases hk : k < (growR true xs R k).length
      · rw [if_pos hk, if_pos hk]
        have := hrows k _ (gl_mem hk)
        exact step_same this.1 (fun e => (this.2 e).1) _ R (Nat.le_refl _)
      · rw [if_neg hk, if_neg hk]
  have hpr : ∀ pr k, growR pr xs R k = growR true xs R k := fun pr k => by
    cases pr
    · exact hsame k
    · rfl
  have hmono : ∀ k d, (growR true xs R k).length ≤ (growR true xs R (k + d)).length := by
    intro k d
    induction d with
    | zero => exact Nat.le_refl _
    | succ d ih =>
      rw [← Nat.add_assoc, growR]
      split
      · exact Nat.le_trans ih (stepR_len _ _ _ _ _ _).1
      · exact ih
  refine ⟨fun pr k => ?_, fun pr k x hx => hrows k x (by rw [← hpr pr k]; exact hx), fun pr k hk => ?_, fun r hr => ?_, srtB_at hp.2, srtR_full _⟩
  · rw [hpr]
    by_cases hk : k ≤ 24
    · have := hmono k (24 - k)
      rw [show k + (24 - k) = 24 by omega] at this
      omega
    · have := growR_stop h1 (k - 24)
      rw [show 24 + (k - 24) = k by omega] at this
      rw [this]; exact h1
  · rw [hpr] at hk ⊢
    by_cases h24 : k ≤ 24
    · have := growR_stop hk (24 - k)
      rw [show k + (24 - k) = 24 by omega] at this
      exact this.symm
    · have := growR_stop h1 (k - 24)
      rwa [show 24 + (k - 24) = k by omega] at this
  · obtain ⟨⟨⟨a0, a1⟩, a3⟩, a4⟩ := hp.1.2 r hr
    refine ⟨a1.1, a1.2, ?_, a4⟩
    rw [List.any_eq_true] at a3
    obtain ⟨x, hx, hne⟩ := a3
    obtain ⟨e, he, rfl⟩ := List.mem_iff_getElem.1 hx
    have hr2 := (rowOk_out a0).1
    exact ⟨e, by omega, by rw [show gi r e = r[e] by simp [gi, he]]; simpa using hne⟩
theorem fullR_len {xs ls : List Int} {R : Nat} (h : RootsOk xs ls R) : R ≤ (fullR xs R).length ∧ (fullR xs R).length ≤ 24 := by
  refine ⟨?_, h.len true 24⟩
  have key : ∀ k, R ≤ (growR true xs R k).length := by
    intro k
    induction k with
    | zero => simp [growR]
    | succ k ih =>
      rw [growR]
      split
      · exact Nat.le_trans ih (stepR_len _ _ _ _ _ _).1
      · exact ih
  exact key 24
theorem posR_len {xs ls : List Int} {R : Nat} (h : RootsOk xs ls R) : (posR xs R).length = (fullR xs R).length := h.perm.length_eq
theorem posR_row {xs ls : List Int} {R : Nat} (h : RootsOk xs ls R) {x : List Int} (hx : x ∈ posR xs R) : x.length = R ∧ ∀ e, 0 ≤ gi x e ∧ gi x e ≤ 6 := h.rows true 24 x (h.perm.mem_iff.1 hx)
/-- A list in an ascending order is the one of its kind. -/
theorem lexB_irrefl : ∀ x : List Int, lexB x x = false
  | [] => rfl
  | a :: x => by rw [lexB, if_pos rfl]; exact lexB_irrefl x
theorem lexB_asymm : ∀ x y : List Int, lexB x y = true → lexB y x = false
  | [], _, h => by simp [lexB] at h
  | _ :: _, [], h => by simp [lexB] at h
  | a :: x, b :: y, h => by
    rw [lexB] at h ⊢
    by_cases e : a = b
    · subst e; rw [if_pos rfl] at h ⊢; exact lexB_asymm x y h
    · rw [if_neg e] at h; rw [if_neg (Ne.symm e)]
      have := of_decide_eq_true h
      exact decide_eq_false (by omega)
theorem lessR_asymm {x y : List Int} (h : lessR x y = true) : lessR y x = false := by
  unfold lessR at h ⊢
  by_cases e : htS x = htS y
  · rw [if_pos e] at h; rw [if_pos e.symm]; exact lexB_asymm x y h
  · rw [if_neg e] at h; rw [if_neg (Ne.symm e)]
    have := of_decide_eq_true h
    exact decide_eq_false (by omega)
end Go.Proofs.YtlnpaplbcocmkaaGreat
