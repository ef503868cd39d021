/-
  Reflections keep the roots; images of weights and of lattice elements stay small. Plain mathematics.
-/
import Derived.Test.YtlnpaplbcocmkaaGreatClk
import Derived.Test.YtlnpaplbcocmkaaGreatCln
import Derived.Test.YtlnpaplbcocmkaaGreatWrd
namespace Go.Proofs.YtlnpaplbcocmkaaGreat
set_option linter.unusedVariables false
set_option linter.unusedSimpArgs false
set_option maxRecDepth 100000

theorem negL_negL (x : List Int) : negL (negL x) = x := by
  apply List.ext_getElem
  · simp [negL]
  · intro i h1 h2; simp [negL]
theorem wgS_negC (xs y : List Int) (R i : Nat) : ∀ j, wgS xs (negL y) R i j = - wgS xs y R i j
  | 0 => by simp [wgS]
  | j + 1 => by rw [wgS, wgS, wgS_negC xs y R i j, gi_negL, Int.mul_neg, Int.neg_add]
theorem sysB_neg (L : List (List Int)) (x : List Int) : sysB L (negL x) = sysB L x := by
  rw [sysB, sysB, negL_negL, Bool.or_comm]
theorem rfl5_negL (xs : List Int) (R i : Nat) (x : List Int) : rfl5 xs R i (negL x) = negL (rfl5 xs R i x) := by
  rw [rfl5, rfl5, wgS_negC, gi_negL]
  apply List.ext_getElem
  · simp [negL]
  · intro e h1 h2
    simp only [negL, List.getElem_set, List.getElem_map]
    split
    · omega
    · rfl
/-- What a reflection makes of a root is one. -/
structure RClo (xs : List Int) (R : Nat) : Prop where
  pos : ∀ x i, i < R → x ∈ posR xs R → x ≠ bas R i → rfl5 xs R i x ∈ posR xs R
  own : ∀ i, i < R → rfl5 xs R i (bas R i) = negL (bas R i)
  nn : ∀ x, x ∈ posR xs R → ∀ e, 0 ≤ gi x e
  turn : ∀ x i, i < R → sysB (posR xs R) x = true → sysB (posR xs R) (rfl5 xs R i x) = true
  base : ∀ i, i < R → sysB (posR xs R) (bas R i) = true
  row : ∀ x, sysB (posR xs R) x = true → x.length = R ∧ ∀ e, -6 ≤ gi x e ∧ gi x e ≤ 6
theorem sysB_perm {L M : List (List Int)} (h : L.Perm M) (x : List Int) : sysB L x = sysB M x := by
  have key : ∀ y : List Int, L.contains y = M.contains y := fun y => by
    rw [Bool.eq_iff_iff, List.contains_iff_mem, List.contains_iff_mem]
    exact h.mem_iff
  rw [sysB, sysB, key, key]
theorem rclo_of {xs ls : List Int} {R : Nat} (hok : RootsOk xs ls R) (h : chkP (clsB xs R) xs R 24 ((List.range R).map (bas R)) 0 = true) : RClo xs R := by
  have h1 := chkP_grow (clsB xs R) xs R 24 0 h
  rw [Nat.zero_add] at h1
  simp only [clsB, List.all_eq_true, List.mem_range] at h1
  have hm : ∀ {x}, x ∈ posR xs R ↔ x ∈ growR true xs R 24 := fun {x} => hok.perm.mem_iff
  have hb : ∀ i, i < R → bas R i ∈ posR xs R := fun i hi => by
    rw [hm]
    have : bas R i ∈ growR true xs R 0 := by
      rw [growR]; exact List.mem_map.2 ⟨i, List.mem_range.2 hi, rfl⟩
    have := growR_mem this 24
    rwa [Nat.zero_add] at this
  have hpos : ∀ x i, i < R → x ∈ posR xs R → x ≠ bas R i → rfl5 xs R i x ∈ posR xs R := fun x i hi hx hne => by
    have := h1 x (hm.1 hx) i hi
    rw [if_neg (by simpa using hne), List.contains_iff_mem] at this
    exact hm.2 this
  have hown : ∀ i, i < R → rfl5 xs R i (bas R i) = negL (bas R i) := fun i hi => by
    have := h1 _ (hm.1 (hb i hi)) i hi
    rw [if_pos (by simp)] at this
    exact eq_of_beq this
  have key : ∀ x i, i < R → x ∈ posR xs R → sysB (posR xs R) (rfl5 xs R i x) = true := fun x i hi hx => by
    by_cases e : x = bas R i
    · subst e
      rw [hown i hi, sysB_neg, sysB, Bool.or_eq_true]
      left; rw [List.contains_iff_mem]; exact hb i hi
    · rw [sysB, Bool.or_eq_true]
      left; rw [List.contains_iff_mem]; exact hpos x i hi hx e
  refine ⟨hpos, hown, fun x hx e => ((posR_row hok hx).2 e).1, fun x i hi hx => ?_, fun i hi => ?_, fun x hx => ?_⟩
  · rw [sysB, Bool.or_eq_true, List.contains_iff_mem, List.contains_iff_mem] at hx
    rcases hx with hx | hx
    · exact key x i hi hx
    · have := key _ i hi hx
      rw [rfl5_negL, sysB_neg] at this
      exact this
  · rw [sysB, Bool.or_eq_true]
    left; rw [List.contains_iff_mem]; exact hb i hi
  · rw [sysB, Bool.or_eq_true, List.contains_iff_mem, List.contains_iff_mem] at hx
    rcases hx with hx | hx
    · have := posR_row hok hx; exact ⟨this.1, fun e => by have := this.2 e; omega⟩
    · have := posR_row hok hx
      rw [negL_length] at this
      exact ⟨this.1, fun e => by have := this.2 e; rw [gi_negL] at this; omega⟩
/-- The sum of two lists' products is moved by a change at one place. -/
theorem dot_set (x w : List Int) (i : Nat) (v : Int) (hi : i < x.length) : ∀ n, dotS (x.set i v) w n = dotS x w n + (if i < n then (v - gi x i) * gi w i else 0)
  | 0 => by simp [dotS]
  | n + 1 => by
    rw [dotS, dotS, dot_set x w i v hi n, gi_set5]
    by_cases e : i = n
    · subst e
      rw [if_neg (show ¬ i < i by omega), if_pos (show i = i ∧ i < x.length from ⟨rfl, hi⟩), if_pos (show i < i + 1 by omega), Int.sub_mul]; omega
    · rw [if_neg (show ¬ (i = n ∧ i < x.length) by omega)]
      by_cases h : i < n
      · rw [if_pos h, if_pos (by omega)]; omega
      · rw [if_neg h, if_neg (by omega)]; omega
theorem dot_bas (w : List Int) (R i : Nat) (hi : i < R) : ∀ n, dotS (bas R i) w n = if i < n then gi w i else 0
  | 0 => by simp [dotS]
  | n + 1 => by
    rw [dotS, dot_bas w R i hi n, bas, gi_set5]
    by_cases e : i = n
    · subst e
      rw [if_neg (show ¬ i < i by omega), if_pos (show i = i ∧ i < (List.replicate R (0 : Int)).length from ⟨rfl, by simpa using hi⟩), if_pos (show i < i + 1 by omega)]; omega
    · rw [if_neg (show ¬ (i = n ∧ i < (List.replicate R (0 : Int)).length) from fun h => e h.1)]
      have h0 : gi (List.replicate R (0 : Int)) n = 0 := by
        simp only [gi, List.getD_eq_getElem?_getD, List.getElem?_replicate]
        split <;> rfl
      rw [h0]
      by_cases h : i < n
      · rw [if_pos h, if_pos (by omega)]; omega
      · rw [if_neg h, if_neg (by omega)]; omega
theorem dot_small {x w : List Int} {A C : Int} (hx : ∀ k, -A ≤ gi x k ∧ gi x k ≤ A) (hw : ∀ k, -C ≤ gi w k ∧ gi w k ≤ C) : ∀ n : Nat, -(A * C * n) ≤ dotS x w n ∧ dotS x w n ≤ A * C * n
  | 0 => by simp [dotS]
  | n + 1 => by
    have ih := dot_small hx hw n
    have h1 := mul_bnd (hx n).1 (hx n).2 (hw n).1 (hw n).2
    rw [dotS]
    have h2 : A * C * ((n + 1 : Nat) : Int) = A * C * (n : Int) + A * C := by rw [Int.natCast_add, Int.mul_add]; simp
    rw [h2]
    omega
/-- A weight of which all coroots make little. -/
structure ImB (xs : List Int) (R : Nat) (B : Int) (w : List Int) : Prop where
  len : w.length = R
  dot : ∀ x, sysB (posR (trn xs R) R) x = true → -B ≤ dotS x w R ∧ dotS x w R ≤ B
theorem imB_start {xs w : List Int} {R : Nat} {C : Int} (hR : R ≤ 4) (hc : RClo (trn xs R) R) (hl : w.length = R) (hC : 0 ≤ C) (hw : ∀ k, -C ≤ gi w k ∧ gi w k ≤ C) : ImB xs R (24 * C) w := by
  refine ⟨hl, fun x hx => ?_⟩
  have h1 := dot_small (A := 6) (hc.row x hx).2 hw R
  have h2 : 6 * C * (R : Int) ≤ 24 * C := by
    have : (R : Int) ≤ 4 := by omega
    have := Int.mul_le_mul_of_nonneg_left this (show 0 ≤ 6 * C by omega)
    omega
  omega
theorem imB_turn {xs w : List Int} {R i : Nat} {B : Int} (hc : RClo (trn xs R) R) (h : ImB xs R B w) (hi : i < R) : ImB xs R B (turnM xs R i w) := by
  refine ⟨turnM_len _ _ _ _, fun x hx => ?_⟩
  have h1 := h.dot _ (hc.turn x i hi hx)
  have h2 : dotS (rfl5 (trn xs R) R i x) w R = dotS x (turnM xs R i w) R := by
    rw [dot_turn xs x w R i R (Nat.le_refl _), rfl5, dot_set _ _ _ _ (by rw [(hc.row x hx).1]; exact hi), if_pos hi, col_wg hi R (Nat.le_refl _), Int.mul_comm (gi w i)]
    rw [show gi x i - colS xs x R i R - gi x i = - colS xs x R i R by omega, Int.neg_mul]
    omega
  rw [h2] at h1
  exact h1
theorem imB_ent {xs w : List Int} {R : Nat} {B : Int} (hc : RClo (trn xs R) R) (hB : 0 ≤ B) (h : ImB xs R B w) : ∀ k, -B ≤ gi w k ∧ gi w k ≤ B := by
  intro k
  by_cases hk : k < R
  · have h1 := h.dot _ (hc.base k hk)
    rw [dot_bas w R k hk R, if_pos hk] at h1
    exact h1
  · have : gi w k = 0 := by
      simp only [gi, List.getD_eq_getElem?_getD, List.getElem?_eq_none (show w.length ≤ k by rw [h.len]; omega), Option.getD_none]
    omega
theorem imB_lat {xs w : List Int} {R : Nat} {B : Int} (hc : RClo (trn xs R) R) (hB : 0 ≤ B) (hB1 : B ≤ 1000) (h : ImB xs R B w) : latB R w = true :=
  latB_yes h.len (fun e _ => by have := imB_ent hc hB h e; omega)
/-- What a word makes of a weight: its last letter first. -/
def actM (xs : List Int) (R : Nat) (word w : List Int) : List Int := word.foldr (fun i a => turnM xs R i.toNat a) w
theorem imB_act {xs w : List Int} {R : Nat} {B : Int} (hc : RClo (trn xs R) R) (h : ImB xs R B w) : ∀ word : List Int, rowB R word = true → ImB xs R B (actM xs R word w)
  | [], _ => h
  | i :: l, hr => by
    rw [rowB, List.all_cons, Bool.and_eq_true] at hr
    have h1 := of_decide_eq_true hr.1
    exact imB_turn hc (imB_act hc h l hr.2) (by omega)
theorem trn_tab {R : Nat} {xs : List Int} {v : List Nat × List Int} (h0 : 0 < R) (hR : R ≤ 4) (h : tabGet R xs = some v) : ∃ u, tabGet R (trn xs R) = some u := by
  have h1 := List.all_eq_true.1 (tab_closB R h0 (by omega)) _ (tabGet_mem h)
  rw [closB, Bool.and_eq_true] at h1
  exact Option.isSome_iff_exists.1 h1.2
theorem rclo_tab {R : Nat} {xs : List Int} {v : List Nat × List Int} (h0 : 0 < R) (hR : R ≤ 4) (h : tabGet R xs = some v) : RClo xs R := by
  have h1 := List.all_eq_true.1 (tab_closB R h0 (by omega)) _ (tabGet_mem h)
  rw [closB, Bool.and_eq_true] at h1
  exact rclo_of (rootsOk_tab h0 hR h) h1.1
theorem rclo_trn {R : Nat} {xs : List Int} {v : List Nat × List Int} (h0 : 0 < R) (hR : R ≤ 4) (h : tabGet R xs = some v) : RClo (trn xs R) R := by
  obtain ⟨u, hu⟩ := trn_tab h0 hR h
  exact rclo_tab h0 hR hu
/-- A sum of lists with these coefficients, at one place. -/
def lcS (c : List Int) (V : Nat → List Int) (k : Nat) : Nat → Int
  | 0 => 0
  | j + 1 => lcS c V k j + gi c j * gi (V j) k
def lwS (xs c : List Int) (V : Nat → List Int) (R i n : Nat) : Nat → Int
  | 0 => 0
  | j + 1 => lwS xs c V R i n j + gi c j * wgS xs (V j) R i n
theorem lw_zero (xs c : List Int) (V : Nat → List Int) (R i : Nat) : ∀ m, lwS xs c V R i 0 m = 0
  | 0 => rfl
  | m + 1 => by rw [lwS, lw_zero xs c V R i m, wgS, Int.mul_zero]; rfl
theorem lw_succ (xs c : List Int) (V : Nat → List Int) (R i n : Nat) : ∀ m, lwS xs c V R i (n + 1) m = lwS xs c V R i n m + gi xs (i * R + n) * lcS c V n m
  | 0 => by simp [lwS, lcS]
  | m + 1 => by
    rw [lwS, lwS, lcS, lw_succ xs c V R i n m, wgS, Int.mul_add, Int.mul_add, Int.mul_left_comm (gi c m)]
    omega
theorem wg_lc {xs c y : List Int} {V : Nat → List Int} {R i : Nat} (h : ∀ k, k < R → gi y k = lcS c V k R) : ∀ n, n ≤ R → wgS xs y R i n = lwS xs c V R i n R
  | 0, _ => by rw [wgS, lw_zero]
  | n + 1, hn => by rw [wgS, lw_succ, wg_lc h n (by omega), h n (by omega)]
theorem lc_turn (xs c : List Int) (V : Nat → List Int) (R i k : Nat) (hV : ∀ j, i < (V j).length) : ∀ m, lcS c (fun j => rfl5 xs R i (V j)) k m = lcS c V k m - (if i = k then lwS xs c V R i R m else 0)
  | 0 => by simp [lcS, lwS]
  | m + 1 => by
    rw [lcS, lcS, lwS, lc_turn xs c V R i k hV m, rfl5, gi_set5]
    by_cases e : i = k
    · subst e
      rw [if_pos (show i = i ∧ i < (V m).length from ⟨rfl, hV m⟩)]
      simp only [if_true, Int.mul_sub]
      omega
    · rw [if_neg (show ¬ (i = k ∧ i < (V m).length) from fun h => e h.1)]
      simp only [if_neg e]
      omega
theorem gi_bas (R j k : Nat) (hj : j < R) : gi (bas R j) k = if j = k then 1 else 0 := by
  rw [bas, gi_set5]
  have h0 : gi (List.replicate R (0 : Int)) k = 0 := by
    simp only [gi, List.getD_eq_getElem?_getD, List.getElem?_replicate]
    split <;> rfl
  by_cases e : j = k
  · rw [if_pos ⟨e, by simpa using hj⟩, if_pos e]
  · rw [if_neg (by omega), if_neg e, h0]
theorem lc_start (c : List Int) (R k : Nat) : ∀ m, m ≤ R → lcS c (bas R) k m = if k < m then gi c k else 0
  | 0, _ => by simp [lcS]
  | m + 1, hm => by
    rw [lcS, lc_start c R k m (by omega), gi_bas R m k (by omega)]
    by_cases e : m = k
    · subst e; rw [if_neg (by omega), if_pos rfl, if_pos (by omega)]; omega
    · rw [if_neg e]
      by_cases h : k < m
      · rw [if_pos h, if_pos (by omega)]; omega
      · rw [if_neg h, if_neg (by omega)]; omega
theorem lc_bnd {c : List Int} {V : Nat → List Int} {R k : Nat} {C : Int} (hc : ∀ j, -C ≤ gi c j ∧ gi c j ≤ C) (hV : ∀ j, j < R → -6 ≤ gi (V j) k ∧ gi (V j) k ≤ 6) : ∀ m : Nat, m ≤ R → -(C * 6 * m) ≤ lcS c V k m ∧ lcS c V k m ≤ C * 6 * m
  | 0, _ => by simp [lcS]
  | m + 1, hm => by
    have ih := lc_bnd hc hV m (by omega)
    have h1 := mul_bnd (hc m).1 (hc m).2 (hV m (by omega)).1 (hV m (by omega)).2
    rw [lcS]
    have h2 : C * 6 * ((m + 1 : Nat) : Int) = C * 6 * (m : Int) + C * 6 := by rw [Int.natCast_add, Int.mul_add]; simp
    rw [h2]
    omega
/-- A lattice element that reflections made of c. -/
structure LcB (xs : List Int) (R : Nat) (c y : List Int) : Prop where
  len : y.length = R
  sum : ∃ V : Nat → List Int, (∀ j, j < R → sysB (posR xs R) (V j) = true) ∧ (∀ j, (V j).length = R) ∧ ∀ k, k < R → gi y k = lcS c V k R
theorem lcB_start {xs c : List Int} {R : Nat} (hc : RClo xs R) (hl : c.length = R) : LcB xs R c c :=
  ⟨hl, bas R, hc.base, fun j => by simp [bas], fun k hk => by rw [lc_start c R k R (Nat.le_refl _), if_pos hk]⟩
theorem lcB_turn {xs c y : List Int} {R i : Nat} (hc : RClo xs R) (h : LcB xs R c y) (hi : i < R) : LcB xs R c (rfl5 xs R i y) := by
  obtain ⟨hl, V, h1, h2, h3⟩ := h
  refine ⟨by simp [rfl5, hl], fun j => rfl5 xs R i (V j), fun j hj => hc.turn _ i hi (h1 j hj), fun j => by simp [rfl5, h2], fun k hk => ?_⟩
  rw [lc_turn xs c V R i k (fun j => by rw [h2]; exact hi), rfl5, gi_set5, wg_lc h3 R (Nat.le_refl _)]
  by_cases e : i = k
  · subst e; rw [if_pos ⟨rfl, by omega⟩, if_pos rfl, h3 i hi]
  · rw [if_neg (by omega), if_neg e, h3 k hk]; omega
theorem lcB_bnd {xs c y : List Int} {R : Nat} (hR : R ≤ 4) (hc : RClo xs R) (h : LcB xs R c y) (hb : ∀ j, -1000 ≤ gi c j ∧ gi c j ≤ 1000) : ∀ k, -24000 ≤ gi y k ∧ gi y k ≤ 24000 := by
  intro k
  obtain ⟨hl, V, h1, h2, h3⟩ := h
  by_cases hk : k < R
  · have := lc_bnd (V := V) (k := k) hb (fun j hj => (hc.row _ (h1 j hj)).2 k) R (Nat.le_refl _)
    rw [h3 k hk]
    omega
  · have : gi y k = 0 := by
      simp only [gi, List.getD_eq_getElem?_getD, List.getElem?_eq_none (show y.length ≤ k by omega), Option.getD_none]
    omega
/-- What a word makes of a lattice element: its last letter first. -/
def actR (xs : List Int) (R : Nat) (word x : List Int) : List Int := word.foldr (fun i a => rfl5 xs R i.toNat a) x
end Go.Proofs.YtlnpaplbcocmkaaGreat
