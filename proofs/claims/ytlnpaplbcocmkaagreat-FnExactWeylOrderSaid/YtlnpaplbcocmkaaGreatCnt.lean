/-
  How many coroots make less than 0 of the images of the ones. Plain mathematics.
-/
import Derived.Test.YtlnpaplbcocmkaaGreatClo
namespace Go.Proofs.YtlnpaplbcocmkaaGreat
set_option linter.unusedVariables false
set_option linter.unusedSimpArgs false
set_option maxRecDepth 100000

theorem gi_lt5 {x : List Int} {e : Nat} (h : e < x.length) : gi x e = x[e] := by simp [gi, h]
/-- A list without repetition within another one of its length is that one in some order. -/
theorem perm_of_sub {α : Type} [DecidableEq α] : ∀ {a b : List α}, a.Nodup → (∀ y, y ∈ a → y ∈ b) → b.length ≤ a.length → a.Perm b
  | [], b, _, _, hl => by
    have : b = [] := List.eq_nil_of_length_eq_zero (by simpa using hl)
    rw [this]
  | x :: a, b, hn, hs, hl => by
    rw [List.nodup_cons] at hn
    have hx := hs x (List.mem_cons_self)
    have hp := List.perm_cons_erase hx
    refine List.Perm.trans (List.Perm.cons x (perm_of_sub hn.2 (fun y hy => ?_) ?_)) hp.symm
    · have hy2 := hs y (List.mem_cons_of_mem _ hy)
      have := hp.mem_iff.1 hy2
      rcases List.mem_cons.1 this with e | h
      · subst e; exact absurd hy hn.1
      · exact h
    · have := hp.length_eq
      simp only [List.length_cons] at this hl
      omega
theorem wg_set (xs x : List Int) (R i : Nat) (v : Int) (hi : i < x.length) : ∀ n, wgS xs (x.set i v) R i n = wgS xs x R i n + (if i < n then gi xs (i * R + i) * (v - gi x i) else 0)
  | 0 => by simp [wgS]
  | n + 1 => by
    rw [wgS, wgS, wg_set xs x R i v hi n, gi_set5]
    by_cases e : i = n
    · subst e
      rw [if_neg (by omega), if_pos ⟨rfl, hi⟩, if_pos (by omega), Int.mul_sub]; omega
    · rw [if_neg (show ¬ (i = n ∧ i < x.length) by omega)]
      by_cases h : i < n
      · rw [if_pos h, if_pos (by omega)]; omega
      · rw [if_neg h, if_neg (by omega)]; omega
theorem wg_bas (xs : List Int) (R i j : Nat) (hj : j < R) : ∀ n, wgS xs (bas R j) R i n = if j < n then gi xs (i * R + j) else 0
  | 0 => by simp [wgS]
  | n + 1 => by
    rw [wgS, wg_bas xs R i j hj n, gi_bas R j n hj]
    by_cases e : j = n
    · subst e; rw [if_neg (by omega), if_pos rfl, if_pos (by omega)]; omega
    · rw [if_neg e]
      by_cases h : j < n
      · rw [if_pos h, if_pos (by omega)]; omega
      · rw [if_neg h, if_neg (by omega)]; omega
theorem rclo_two {xs : List Int} {R i : Nat} (hc : RClo xs R) (hi : i < R) : gi xs (i * R + i) = 2 := by
  have h := congrArg (fun l => gi l i) (hc.own i hi)
  simp only [rfl5, gi_negL] at h
  rw [gi_set5, if_pos ⟨rfl, by simpa [bas] using hi⟩, wg_bas xs R i i hi R, if_pos hi, gi_bas R i i hi, if_pos rfl] at h
  omega
/-- A reflection undoes itself. -/
theorem rfl5_twice {xs x : List Int} {R i : Nat} (hc : RClo xs R) (hi : i < R) (hl : x.length = R) : rfl5 xs R i (rfl5 xs R i x) = x := by
  have h2 := rclo_two hc hi
  apply List.ext_getElem
  · simp [rfl5]
  · intro e h1 h3
    have hg : gi (rfl5 xs R i (rfl5 xs R i x)) e = gi x e := by
      rw [rfl5, gi_set5, rfl5, wg_set xs x R i _ (by omega) R, if_pos hi, h2, gi_set5, gi_set5]
      by_cases c : i = e
      · subst c
        rw [if_pos ⟨rfl, by rw [List.length_set]; omega⟩, if_pos ⟨rfl, by omega⟩]; omega
      · rw [if_neg (by omega), if_neg (by omega)]
    rw [gi_lt5 h1, gi_lt5 h3] at hg
    exact hg
/-- The positive roots but one are moved among themselves. -/
theorem roots_split {xs : List Int} {R i : Nat} (hc : RClo xs R) (hnd : (posR xs R).Nodup) (hi : i < R) : ∃ L', (posR xs R).Perm (bas R i :: L') ∧ (L'.map (rfl5 xs R i)).Perm L' ∧ (∀ x, x ∈ L' → x ∈ posR xs R) := by
  have hm : bas R i ∈ posR xs R := by
    have := hc.base i hi
    rw [sysB, Bool.or_eq_true, List.contains_iff_mem, List.contains_iff_mem] at this
    rcases this with h | h
    · exact h
    · have h1 := hc.nn _ h i
      rw [gi_negL, gi_bas R i i hi, if_pos rfl] at h1
      omega
  have hlen : ∀ x, x ∈ posR xs R → x.length = R := fun x hx => (hc.row x (by rw [sysB, Bool.or_eq_true]; left; rw [List.contains_iff_mem]; exact hx)).1
  have hpos := fun x => hc.pos x i hi
  have hnn := hc.nn
  have hown := hc.own i hi
  have htw : ∀ x : List Int, x.length = R → rfl5 xs R i (rfl5 xs R i x) = x := fun x hl => rfl5_twice hc hi hl
  have hbb : gi (bas R i) i = 1 := by rw [gi_bas R i i hi, if_pos rfl]
  clear hc
  generalize posR xs R = P at *
  generalize rfl5 xs R i = f at *
  generalize bas R i = b at *
  have hp := List.perm_cons_erase hm
  have hnd2 := hp.nodup_iff.1 hnd
  rw [List.nodup_cons] at hnd2
  have hsub : ∀ x, x ∈ P.erase b → x ∈ P := fun x hx => List.mem_of_mem_erase hx
  have hne : ∀ x, x ∈ P.erase b → x ≠ b := fun x hx e => hnd2.1 (e ▸ hx)
  have hinto : ∀ x, x ∈ P.erase b → f x ∈ P.erase b := fun x hx => by
    have h1 := hpos x (hsub x hx) (hne x hx)
    rw [List.Nodup.mem_erase_iff hnd]
    refine ⟨fun e => ?_, h1⟩
    have h2 := congrArg f e
    rw [htw x (hlen x (hsub x hx)), hown] at h2
    have h3 := hnn x (hsub x hx) i
    rw [h2, gi_negL, hbb] at h3
    omega
  have hnd3 : ((P.erase b).map f).Nodup := by
    rw [List.Nodup, List.pairwise_map]
    refine List.Pairwise.imp_of_mem ?_ hnd2.2
    intro a c ha hb hab e
    apply hab
    rw [← htw a (hlen a (hsub a ha)), e, htw c (hlen c (hsub c hb))]
  refine ⟨P.erase b, hp, perm_of_sub hnd3 (fun y hy => ?_) (by simp), hsub⟩
  obtain ⟨x, hx, rfl⟩ := List.mem_map.1 hy
  exact hinto x hx
theorem dot_rfl {xs x w : List Int} {R i : Nat} (hi : i < R) (hl : x.length = R) : dotS x (turnM xs R i w) R = dotS (rfl5 (trn xs R) R i x) w R := by
  rw [dot_turn xs x w R i R (Nat.le_refl _), rfl5, dot_set _ _ _ _ (by omega), if_pos hi, col_wg hi R (Nat.le_refl _), Int.mul_comm (gi w i)]
  rw [show gi x i - colS xs x R i R - gi x i = - colS xs x R i R by omega, Int.neg_mul]
  omega
theorem dot_neg (x w : List Int) : ∀ n, dotS (negL x) w n = - dotS x w n
  | 0 => by simp [dotS]
  | n + 1 => by rw [dotS, dotS, dot_neg x w n, gi_negL, Int.neg_mul]; omega
/-- As much as coroots make of a weight, whatever the sign. -/
def absD (L : List (List Int)) (R : Nat) (w : List Int) : List Nat := L.map fun x => (dotS x w R).natAbs
/-- How many coroots make less than 0 of a weight. -/
def negC (L : List (List Int)) (R : Nat) (w : List Int) : Nat := L.countP fun x => decide (dotS x w R < 0)
theorem absD_turn {xs w : List Int} {R i : Nat} (hc : RClo (trn xs R) R) (hnd : (posR (trn xs R) R).Nodup) (hi : i < R) : (absD (posR (trn xs R) R) R (turnM xs R i w)).Perm (absD (posR (trn xs R) R) R w) := by
  obtain ⟨L', hp, hq, hs⟩ := roots_split hc hnd hi
  have hlen : ∀ x, x ∈ posR (trn xs R) R → x.length = R := fun x hx => (hc.row x (by rw [sysB, Bool.or_eq_true]; left; rw [List.contains_iff_mem]; exact hx)).1
  have h1 : (dotS (bas R i) (turnM xs R i w) R).natAbs = (dotS (bas R i) w R).natAbs := by
    rw [dot_rfl hi (by simp [bas]), hc.own i hi, dot_neg, Int.natAbs_neg]
  have h2 : L'.map (fun x => (dotS x (turnM xs R i w) R).natAbs) = (L'.map (rfl5 (trn xs R) R i)).map (fun x => (dotS x w R).natAbs) := by
    rw [List.map_map]
    refine List.map_congr_left (fun x hx => ?_)
    rw [dot_rfl hi (hlen x (hs x hx))]; rfl
  refine (hp.map _).trans (List.Perm.trans ?_ (hp.map _).symm)
  rw [List.map_cons, List.map_cons, h1, h2]
  exact List.Perm.cons _ (hq.map _)
theorem negC_turn {xs w : List Int} {R i : Nat} (hc : RClo (trn xs R) R) (hnd : (posR (trn xs R) R).Nodup) (hi : i < R) : negC (posR (trn xs R) R) R (turnM xs R i w) + (if gi w i < 0 then 1 else 0) = negC (posR (trn xs R) R) R w + (if 0 < gi w i then 1 else 0) := by
  obtain ⟨L', hp, hq, hs⟩ := roots_split hc hnd hi
  have hlen : ∀ x, x ∈ posR (trn xs R) R → x.length = R := fun x hx => (hc.row x (by rw [sysB, Bool.or_eq_true]; left; rw [List.contains_iff_mem]; exact hx)).1
  have h0 : dotS (bas R i) w R = gi w i := by rw [dot_bas w R i hi R, if_pos hi]
  have h1 : dotS (bas R i) (turnM xs R i w) R = - gi w i := by rw [dot_rfl hi (by simp [bas]), hc.own i hi, dot_neg, h0]
  have h2 : L'.countP (fun x => decide (dotS x (turnM xs R i w) R < 0)) = (L'.map (rfl5 (trn xs R) R i)).countP (fun x => decide (dotS x w R < 0)) := by
    rw [List.countP_map]
    refine List.countP_congr (fun x hx => ?_)
    rw [dot_rfl hi (hlen x (hs x hx))]; exact Iff.rfl
  rw [negC, negC, hp.countP_eq, hp.countP_eq, List.countP_cons, List.countP_cons, h0, h1, h2, hq.countP_eq]
  simp only [decide_eq_true_eq]
  generalize L'.countP (fun x => decide (dotS x w R < 0)) = N
  (repeat' split) <;> omega
/-- A weight in the orbit of the ones, told by what coroots make of it. -/
structure Img (xs : List Int) (R : Nat) (w : List Int) : Prop where
  len : w.length = R
  abs : (absD (posR (trn xs R) R) R w).Perm ((posR (trn xs R) R).map fun x => (htS x).natAbs)
theorem dot_ones (x : List Int) (R : Nat) (hl : x.length = R) : ∀ n, n ≤ R → dotS x (List.replicate R 1) n = htS (x.take n)
  | 0, _ => by simp [dotS, htS]
  | n + 1, hn => by
    rw [dotS, dot_ones x R hl n (by omega), htS_take x n (by omega)]
    have : gi (List.replicate R (1 : Int)) n = 1 := by simp [gi, List.getD_eq_getElem?_getD, show n < R by omega]
    rw [this, Int.mul_one]
/-- What is known of the coroots. -/
structure CoOk (xs : List Int) (R : Nat) : Prop where
  clo : RClo (trn xs R) R
  nd : (posR (trn xs R) R).Nodup
  ht : ∀ x, x ∈ posR (trn xs R) R → 1 ≤ htS x ∧ htS x ≤ 12
theorem CoOk.mem {xs : List Int} {R : Nat} (h : CoOk xs R) {i : Nat} (hi : i < R) : bas R i ∈ posR (trn xs R) R := by
  have := h.clo.base i hi
  rw [sysB, Bool.or_eq_true, List.contains_iff_mem, List.contains_iff_mem] at this
  rcases this with h2 | h2
  · exact h2
  · have h1 := h.clo.nn _ h2 i
    rw [gi_negL, gi_bas R i i hi, if_pos rfl] at h1
    omega
theorem CoOk.len {xs : List Int} {R : Nat} (h : CoOk xs R) {x : List Int} (hx : x ∈ posR (trn xs R) R) : x.length = R :=
  (h.clo.row x (by rw [sysB, Bool.or_eq_true]; left; rw [List.contains_iff_mem]; exact hx)).1
theorem img_ones {xs : List Int} {R : Nat} (h : CoOk xs R) : Img xs R (List.replicate R 1) := by
  refine ⟨by simp, ?_⟩
  rw [absD, List.map_congr_left (fun x hx => by rw [dot_ones x R (h.len hx) R (Nat.le_refl _), List.take_of_length_le (by rw [h.len hx]; exact Nat.le_refl _)])]
theorem img_turn {xs w : List Int} {R i : Nat} (h : CoOk xs R) (hw : Img xs R w) (hi : i < R) : Img xs R (turnM xs R i w) :=
  ⟨turnM_len _ _ _ _, (absD_turn h.clo h.nd hi).trans hw.abs⟩
theorem img_dot {xs w x : List Int} {R : Nat} (h : CoOk xs R) (hw : Img xs R w) (hx : x ∈ posR (trn xs R) R) : dotS x w R ≠ 0 ∧ -12 ≤ dotS x w R ∧ dotS x w R ≤ 12 := by
  have h1 : (dotS x w R).natAbs ∈ absD (posR (trn xs R) R) R w := List.mem_map.2 ⟨x, hx, rfl⟩
  obtain ⟨y, hy, e⟩ := List.mem_map.1 (hw.abs.mem_iff.1 h1)
  have h2 := h.ht y hy
  omega
theorem img_ent {xs w : List Int} {R i : Nat} (h : CoOk xs R) (hw : Img xs R w) (hi : i < R) : gi w i ≠ 0 ∧ -12 ≤ gi w i ∧ gi w i ≤ 12 := by
  have := img_dot h hw (h.mem hi)
  rwa [dot_bas w R i hi R, if_pos hi] at this
theorem img_bnd {xs w : List Int} {R : Nat} (h : CoOk xs R) (hw : Img xs R w) : ∀ k, -12 ≤ gi w k ∧ gi w k ≤ 12 := by
  intro k
  by_cases hk : k < R
  · exact (img_ent h hw hk).2
  · have : gi w k = 0 := by
      simp only [gi, List.getD_eq_getElem?_getD, List.getElem?_eq_none (show w.length ≤ k by rw [hw.len]; omega), Option.getD_none]
    omega
theorem sum_tight {α : Type} {f g : α → Nat} : ∀ {l : List α}, (∀ x, x ∈ l → g x ≤ f x) → (l.map f).sum = (l.map g).sum → ∀ x, x ∈ l → f x = g x
  | [], _, _, x, hx => by cases hx
  | a :: l, h, e, x, hx => by
    rw [List.map_cons, List.map_cons, List.sum_cons, List.sum_cons] at e
    have h1 := h a List.mem_cons_self
    have h2 : (l.map g).sum ≤ (l.map f).sum := by
      clear e hx h1
      induction l with
      | nil => exact Nat.le_refl _
      | cons b l ih =>
        rw [List.map_cons, List.map_cons, List.sum_cons, List.sum_cons]
        have h3 := h b (by simp)
        have h4 := ih (fun x hx => h x (by
          rcases List.mem_cons.1 hx with e | e
          · rw [e]; exact List.mem_cons_self
          · exact List.mem_cons_of_mem _ (List.mem_cons_of_mem _ e)))
        omega
    rcases List.mem_cons.1 hx with e1 | e1
    · subst e1; omega
    · exact sum_tight (fun y hy => h y (List.mem_cons_of_mem _ hy)) (by omega) x e1
theorem dot_ge {x w : List Int} {R : Nat} (hx : ∀ e, 0 ≤ gi x e) (hl : x.length = R) (hw : ∀ k, k < R → 1 ≤ gi w k) : ∀ n, n ≤ R → htS (x.take n) ≤ dotS x w n
  | 0, _ => by simp [dotS, htS]
  | n + 1, hn => by
    have ih := dot_ge hx hl hw n (by omega)
    rw [dotS, htS_take x n (by omega)]
    have := Int.mul_le_mul_of_nonneg_left (hw n (by omega)) (hx n)
    omega
theorem dot_nn {x w : List Int} (hx : ∀ e, 0 ≤ gi x e) (hw : ∀ k, 0 ≤ gi w k) : ∀ n, 0 ≤ dotS x w n
  | 0 => by simp [dotS]
  | n + 1 => by
    have ih := dot_nn hx hw n
    rw [dotS]
    have := Int.mul_nonneg (hx n) (hw n)
    omega
/-- No coroot makes less than 0 of a weight of which no number is. -/
theorem negC_nn {xs w : List Int} {R : Nat} (h : CoOk xs R) (hw : ∀ k, 0 ≤ gi w k) : negC (posR (trn xs R) R) R w = 0 := by
  rw [negC, List.countP_eq_zero]
  intro x hx
  have := dot_nn (h.clo.nn x hx) hw R
  simp; omega
/-- The weight of ones is the only one of its orbit of which no coroot makes less than 0. -/
theorem img_zero {xs w : List Int} {R : Nat} (h : CoOk xs R) (hw : Img xs R w) (h0 : negC (posR (trn xs R) R) R w = 0) : w = List.replicate R 1 := by
  rw [negC, List.countP_eq_zero] at h0
  have hp : ∀ x, x ∈ posR (trn xs R) R → 1 ≤ dotS x w R := fun x hx => by
    have h1 := h0 x hx
    have h2 := (img_dot h hw hx).1
    simp at h1
    omega
  have hent : ∀ k, k < R → 1 ≤ gi w k := fun k hk => by
    have := hp _ (h.mem hk)
    rwa [dot_bas w R k hk R, if_pos hk] at this
  have hsum : ((posR (trn xs R) R).map fun x => (dotS x w R).natAbs).sum = ((posR (trn xs R) R).map fun x => (htS x).natAbs).sum := hw.abs.sum_nat
  have hge : ∀ x, x ∈ posR (trn xs R) R → (htS x).natAbs ≤ (dotS x w R).natAbs := fun x hx => by
    have h1 := dot_ge (h.clo.nn x hx) (h.len hx) hent R (Nat.le_refl _)
    rw [List.take_of_length_le (by rw [h.len hx]; exact Nat.le_refl _)] at h1
    have h2 := h.ht x hx
    omega
  have heq := sum_tight hge hsum
  apply List.ext_getElem
  · simp [hw.len]
  · intro k h1 h2
    have hk : k < R := by rw [hw.len] at h1; exact h1
    have h3 := heq _ (h.mem hk)
    have h4 := h.ht _ (h.mem hk)
    have h5 : htS (bas R k) = 1 := by
      have := dot_ones (bas R k) R (by simp [bas]) R (Nat.le_refl _)
      rw [List.take_of_length_le (by simp [bas]), dot_bas _ R k hk R, if_pos hk] at this
      rw [← this]; simp [gi, List.getD_eq_getElem?_getD, hk]
    rw [dot_bas w R k hk R, if_pos hk, h5] at h3
    have h6 := hent k hk
    rw [gi_lt5 h1] at h3 h6
    rw [List.getElem_replicate]
    omega
theorem turn_twice {xs w : List Int} {R i : Nat} (h : CoOk xs R) (hi : i < R) (hl : w.length = R) : turnM xs R i (turnM xs R i w) = w := by
  have h2 := rclo_two h.clo hi
  rw [gi_trn hi hi] at h2
  apply List.ext_getElem
  · simp [turnM, hl]
  · intro k h1 h3
    rw [← gi_lt5 h1, ← gi_lt5 h3, gi_turnM (by omega), gi_turnM (by omega), gi_turnM hi, h2]
    rw [show gi w i - gi w i * 2 = - gi w i by omega, Int.neg_mul]
    omega
theorem gi_turn_own {xs w : List Int} {R i : Nat} (h : CoOk xs R) (hi : i < R) : gi (turnM xs R i w) i = - gi w i := by
  have h2 := rclo_two h.clo hi
  rw [gi_trn hi hi] at h2
  rw [gi_turnM hi, h2]; omega
end Go.Proofs.YtlnpaplbcocmkaaGreat
