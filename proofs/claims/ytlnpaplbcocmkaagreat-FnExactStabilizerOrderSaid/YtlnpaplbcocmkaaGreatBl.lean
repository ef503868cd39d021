/-
  How many coroots make less than 0 of the images of the ones. Plain mathematics.
-/
import Derived.Test.YtlnpaplbcocmkaaGreatClo
namespace Go.Proofs.YtlnpaplbcocmkaaGreat
set_option linter.unusedVariables false
set_option linter.unusedSimpArgs false
set_option maxRecDepth 100000

theorem gi_lt5 {x : List Int} {e : Nat} (h : e < x.length) : gi x e = x[e] := by simp [gi, h]
/-- A list without repetition within another one of its length is that one in some order. -/
theorem perm_of_sub {α : Type} [DecidableEq α] : ∀ {a b : List α}, a.Nodup → (∀ y, y ∈ a → y ∈ b) → b.length ≤ a.length → a.Perm b
  | [], b, _, _, hl => by
    have : b = [] := List.eq_nil_of_length_eq_zero (by simpa using hl)
    rw [this]
  | x :: a, b, hn, hs, hl => by
    rw [List.nodup_cons] at hn
    have hx := hs x (List.mem_cons_self)
    have hp := List.perm_cons_erase hx
    refine List.Perm.trans (List.Perm.cons x (perm_of_sub hn.2 (fun y hy => ?_) ?_)) hp.symm
    · have hy2 := hs y (List.mem_cons_of_mem _ hy)
      have := hp.mem_iff.1 hy2
      rcases List.mem_cons.1 this with e | h
      · subst e; exact absurd hy hn.1
      · exact h
    · have := hp.length_eq
      simp only [List.length_cons] at this hl
      omega
theorem wg_set (xs x : List Int) (R i : Nat) (v : Int) (hi : i < x.length) : ∀ n, wgS xs (x.set i v) R i n = wgS xs x R i n + (if i < n then gi xs (i * R + i) * (v - gi x i) else 0)
  | 0 => by simp [wgS]
  | n + 1 => by
    rw [wgS, wgS, wg_set xs x R i v hi n, gi_set5]
    by_cases e : i = n
    · subst e
      rw [if_neg (by omega), if_pos ⟨rfl, hi⟩, if_pos (by omega), Int.mul_sub]; omega
    · rw [if_neg (show ¬ (i = n ∧ i < x.length) by omega)]
      by_cases h : i < n
      · rw [if_pos h, if_pos (by omega)]; omega
      · rw [if_neg h, if_neg (by omega)]; omega
theorem wg_bas (xs : List Int) (R i j : Nat) (hj : j < R) : ∀ n, wgS xs (bas R j) R i n = if j < n then gi xs (i * R + j) else 0
  | 0 => by simp [wgS]
  | n + 1 => by
    rw [wgS, wg_bas xs R i j hj n, gi_bas R j n hj]
    by_cases e : j = n
    · subst e; rw [if_neg (by omega), if_pos rfl, if_pos (by omega)]; omega
    · rw [if_neg e]
      by_cases h : j < n
      · rw [if_pos h, if_pos (by omega)]; omega
      · rw [if_neg h, if_neg (by omega)]; omega
theorem rclo_two {xs : List Int} {R i : Nat} (hc : RClo xs R) (hi : i < R) : gi xs (i * R + i) = 2 := by
  have h := congrArg (fun l => gi l i) (hc.own i hi)
  simp only [rfl5, gi_negL] at h
  rw [gi_set5, if_pos ⟨rfl, by simpa [bas] using hi⟩, wg_bas xs R i i hi R, if_pos hi, gi_bas R i i hi, if_pos rfl] at h
  omega
/-- A reflection undoes itself. -/
theorem rfl5_twice {xs x : List Int} {R i : Nat} (hc : RClo xs R) (hi : i < R) (hl : x.length = R) : rfl5 xs R i (rfl5 xs R i x) = x := by
  have h2 := rclo_two hc hi
  apply List.ext_getElem
  · simp [rfl5]
  · intro e h1 h3
    have hg : gi (rfl5 xs R i (rfl5 xs R i x)) e = gi x e := by
      rw [rfl5, gi_set5, rfl5, wg_set xs x R i _ (by omega) R, if_pos hi, h2, gi_set5, gi_set5]
      by_cases c : i = e
      · subst c
        rw [if_pos ⟨rfl, by rw [List.length_set]; omega⟩, if_pos ⟨rfl, by omega⟩]; omega
      · rw [if_neg (by omega), if_neg (by omega)]
    rw [gi_lt5 h1, gi_lt5 h3] at hg
    exact hg
/-- The positive roots but one are moved among themselves. -/
theorem roots_split {xs : List Int} {R i : Nat} (hc : RClo xs R) (hnd : (posR xs R).Nodup) (hi : i < R) : ∃ L', (posR xs R).Perm (bas R i :: L') ∧ (L'.map (rfl5 xs R i)).Perm L' ∧ (∀ x, x ∈ L' → x ∈ posR xs R) := by
  have hm : bas R i ∈ posR xs R := by
    have := hc.base i hi
    rw [sysB, Bool.or_eq_true, List.contains_iff_mem, List.contains_iff_mem] at this
    rcases this with h | h
    · exact h
    · have h1 := hc.nn _ h i
      rw [gi_negL, gi_bas R i i hi, if_pos rfl] at h1
      omega
  have hlen : ∀ x, x ∈ posR xs R → x.length = R := fun x hx => (hc.row x (by rw [sysB, Bool.or_eq_true]; left; rw [List.contains_iff_mem]; exact hx)).1
  have hpos := fun x => hc.pos x i hi
  have hnn := hc.nn
  have hown := hc.own i hi
  have htw : ∀ x : List Int, x.length = R → rfl5 xs R i (rfl5 xs R i x) = x := fun x hl => rfl5_twice hc hi hl
  have hbb : gi (bas R i) i = 1 := by rw [gi_bas R i i hi, if_pos rfl]
  clear hc
  generalize posR xs R = P at *
  generalize rfl5 xs R i = f at *
  generalize bas R i = b at *
  have hp := List.perm_cons_erase hm
  have hnd2 := hp.nodup_iff.1 hnd
  rw [List.nodup_cons] at hnd2
  have hsub : ∀ x, x ∈ P.erase b → x ∈ P := fun x hx => List.mem_of_mem_erase hx
  have hne : ∀ x, x ∈ P.erase b → x ≠ b := fun x hx e => hnd2.1 (e ▸ hx)
  have hinto : ∀ x, x ∈ P.erase b → f x ∈ P.erase b := fun x hx => by
    have h1 := hpos x (hsub x hx) (hne x hx)
    rw [List.Nodup.mem_erase_iff hnd]
    refine ⟨fun e => ?_, h1⟩
    have h2 := congrArg f e
    rw [htw x (hlen x (hsub x hx)), hown] at h2
    have h3 := hnn x (hsub x hx) i
    rw [h2, gi_negL, hbb] at h3
    omega
  have hnd3 : ((P.erase b).map f).Nodup := by
    rw [List.Nodup, List.pairwise_map]
    refine List.Pairwise.imp_of_mem ?_ hnd2.2
    intro a c ha hb hab e
    apply hab
    rw [← htw a (hlen a (hsub a ha)), e, htw c (hlen c (hsub c hb))]
  refine ⟨P.erase b, hp, perm_of_sub hnd3 (fun y hy => ?_) (by simp), hsub⟩
  obtain ⟨x, hx, rfl⟩ := List.mem_map.1 hy
  exact hinto x hx
theorem dot_rfl {xs x w : List Int} {R i : Nat} (hi : i < R) (hl : x.length = R) : dotS x (turnM xs R i w) R = dotS (rfl5 (trn xs R) R i x) w R := by
  rw [dot_turn xs x w R i R (Nat.le_refl _), rfl5, dot_set _ _ _ _ (by omega), if_pos hi, col_wg hi R (Nat.le_refl _), Int.mul_comm (gi w i)]
  rw [show gi x i - colS xs x R i R - gi x i = - colS xs x R i R by omega, Int.neg_mul]
  omega
theorem dot_neg (x w : List Int) : ∀ n, dotS (negL x) w n = - dotS x w n
  | 0 => by simp [dotS]
  | n + 1 => by rw [dotS, dotS, dot_neg x w n, gi_negL, Int.neg_mul]; omega
/-- As much as coroots make of a weight, whatever the sign. -/
def absD (L : List (List Int)) (R : Nat) (w : List Int) : List Nat := L.map fun x => (dotS x w R).natAbs
/-- How many coroots make less than 0 of a weight. -/
def negC (L : List (List Int)) (R : Nat) (w : List Int) : Nat := L.countP fun x => decide (dotS x w R < 0)
theorem absD_turn {xs w : List Int} {R i : Nat} (hc : RClo (trn xs R) R) (hnd : (posR (trn xs R) R).Nodup) (hi : i < R) : (absD (posR (trn xs R) R) R (turnM xs R i w)).Perm (absD (posR (trn xs R) R) R w) := by
  obtain ⟨L', hp, hq, hs⟩ := roots_split hc hnd hi
  have hlen : ∀ x, x ∈ posR (trn xs R) R → x.length = R := fun x hx => (hc.row x (by rw [sysB, Bool.or_eq_true]; left; rw [List.contains_iff_mem]; exact hx)).1
  have h1 : (dotS (bas R i) (turnM xs R i w) R).natAbs = (dotS (bas R i) w R).natAbs := by
    rw [dot_rfl hi (by simp [bas]), hc.own i hi, dot_neg, Int.natAbs_neg]
  have h2 : L'.map (fun x => (dotS x (turnM xs R i w) R).natAbs) = (L'.map (rfl5 (trn xs R) R i)).map (fun x => (dotS x w R).natAbs) := by
    rw [List.map_map]
    refine List.map_congr_left (fun x hx => ?_)
    rw [dot_rfl hi (hlen x (hs x hx))]; rfl
  refine (hp.map _).trans (List.Perm.trans ?_ (hp.map _).symm)
  rw [List.map_cons, List.map_cons, h1, h2]
  exact List.Perm.cons _ (hq.map _)
theorem negC_turn {xs w : List Int} {R i : Nat} (hc : RClo (trn xs R) R) (hnd : (posR (trn xs R) R).Nodup) (hi : i < R) : negC (posR (trn xs R) R) R (turnM xs R i w) + (if gi w i < 0 then 1 else 0) = negC (posR (trn xs R) R) R w + (if 0 < gi w i then 1 else 0) := by
  obtain ⟨L', hp, hq, hs⟩ := roots_split hc hnd hi
  have hlen : ∀ x, x ∈ posR (trn xs R) R → x.length = R := fun x hx => (hc.row x (by rw [sysB, Bool.or_eq_true]; left; rw [List.contains_iff_mem]; exact hx)).1
  have h0 : dotS (bas R i) w R = gi w i := by rw [dot_bas w R i hi R, if_pos hi]
  have h1 : dotS (bas R i) (turnM xs R i w) R = - gi w i := by rw [dot_rfl hi (by simp [bas]), hc.own i hi, dot_neg, h0]
  have h2 : L'.countP (fun x => decide (dotS x (turnM xs R i w) R < 0)) = (L'.map (rfl5 (trn xs R) R i)).countP (fun x => decide (dotS x w R < 0)) := by
    rw [List.countP_map]
    refine List.countP_congr (fun x hx => ?_)
    rw [dot_rfl hi (hlen x (hs x hx))]; exact Iff.rfl
  rw [negC, negC, hp.countP_eq, hp.countP_eq, List.countP_cons, List.countP_cons, h0, h1, h2, hq.countP_eq]
  simp only [decide_eq_true_eq]
  generalize L'.countP (fun x => decide (dotS x w R < 0)) = N
  (repeat' split) <;> omega
/-- A weight in the orbit of the ones, told by what coroots make of it. -/
structure Img (xs : List Int) (R : Nat) (w : List Int) : Prop where
  len : w.length = R
  abs : (absD (posR (trn xs R) R) R w).Perm ((posR (trn xs R) R).map fun x => (htS x).natAbs)
theorem dot_ones (x : List Int) (R : Nat) (hl : x.length = R) : ∀ n, n ≤ R → dotS x (List.replicate R 1) n = htS (x.take n)
  | 0, _ => by simp [dotS, htS]
  | n + 1, hn => by
    rw [dotS, dot_ones x R hl n (by omega), htS_take x n (by omega)]
    have : gi (List.replicate R (1 : Int)) n = 1 := by simp [gi, List.getD_eq_getElem?_getD, show n < R by omega]
    rw [this, Int.mul_one]
/-- What is known of the coroots. -/
structure CoOk (xs : List Int) (R : Nat) : Prop where
  clo : RClo (trn xs R) R
  nd : (posR (trn xs R) R).Nodup
  ht : ∀ x, x ∈ posR (trn xs R) R → 1 ≤ htS x ∧ htS x ≤ 12
theorem CoOk.mem {xs : List Int} {R : Nat} (h : CoOk xs R) {i : Nat} (hi : i < R) : bas R i ∈ posR (trn xs R) R := by
  have := h.clo.base i hi
  rw [sysB, Bool.or_eq_true, List.contains_iff_mem, List.contains_iff_mem] at this
  rcases this with h2 | h2
  · exact h2
  · have h1 := h.clo.nn _ h2 i
    rw [gi_negL, gi_bas R i i hi, if_pos rfl] at h1
    omega
theorem CoOk.len {xs : List Int} {R : Nat} (h : CoOk xs R) {x : List Int} (hx : x ∈ posR (trn xs R) R) : x.length = R :=
  (h.clo.row x (by rw [sysB, Bool.or_eq_true]; left; rw [List.contains_iff_mem]; exact hx)).1
theorem img_ones {xs : List Int} {R : Nat} (h : CoOk xs R) : Img xs R (List.replicate R 1) := by
  refine ⟨by simp, ?_⟩
  rw [absD, List.map_congr_left (fun x hx => by rw [dot_ones x R (h.len hx) R (Nat.le_refl _), List.take_of_length_le (by rw [h.len hx]; exact Nat.le_refl _)])]
theorem img_turn {xs w : List Int} {R i : Nat} (h : CoOk xs R) (hw : Img xs R w) (hi : i < R) : Img xs R (turnM xs R i w) :=
  ⟨turnM_len _ _ _ _, (absD_turn h.clo h.nd hi).trans hw.abs⟩
theorem img_dot {xs w x : List Int} {R : Nat} (h : CoOk xs R) (hw : Img xs R w) (hx : x ∈ posR (trn xs R) R) : dotS x w R ≠ 0 ∧ -12 ≤ dotS x w R ∧ dotS x w R ≤ 12 := by
  have h1 : (dotS x w R).natAbs ∈ absD (posR (trn xs R) R) R w := List.mem_map.2 ⟨x, hx, rfl⟩
  obtain ⟨y, hy, e⟩ := List.mem_map.1 (hw.abs.mem_iff.1 h1)
  have h2 := h.ht y hy
  omega
theorem img_ent {xs w : List Int} {R i : Nat} (h : CoOk xs R) (hw : Img xs R w) (hi : i < R) : gi w i ≠ 0 ∧ -12 ≤ gi w i ∧ gi w i ≤ 12 := by
  have := img_dot h hw (h.mem hi)
  rwa [dot_bas w R i hi R, if_pos hi] at this
theorem img_bnd {xs w : List Int} {R : Nat} (h : CoOk xs R) (hw : Img xs R w) : ∀ k, -12 ≤ gi w k ∧ gi w k ≤ 12 := by
  intro k
  by_cases hk : k < R
  · exact (img_ent h hw hk).2
  · have : gi w k = 0 := by
      simp only [gi, List.getD_eq_getElem?_getD, List.getElem?_eq_none (show w.length ≤ k by rw [hw.len]; omega), Option.getD_none]
    omega
theorem sum_tight {α : Type} {f g : α → Nat} : ∀ {l : List α}, (∀ x, x ∈ l → g x ≤ f x) → (l.map f).sum = (l.map g).sum → ∀ x, x ∈ l → f x = g x
  | [], _, _, x, hx => by cases hx
  | a :: l, h, e, x, hx => by
    rw [List.map_cons, List.map_cons, List.sum_cons, List.sum_cons] at e
    have h1 := h a List.mem_cons_self
    have h2 : (l.map g).sum ≤ (l.map f).sum := by
      clear e hx h1
      induction l with
      | nil => exact Nat.le_refl _
      | cons b l ih =>
        rw [List.map_cons, List.map_cons, List.sum_cons, List.sum_cons]
        have h3 := h b (by simp)
        have h4 := ih (fun x hx => h x (by
          rcases List.mem_cons.1 hx with e | e
          · rw [e]; exact List.mem_cons_self
          · exact List.mem_cons_of_mem _ (List.mem_cons_of_mem _ e)))
        omega
    rcases List.mem_cons.1 hx with e1 | e1
    · subst e1; omega
    · exact sum_tight (fun y hy => h y (List.mem_cons_of_mem _ hy)) (by omega) x e1
theorem dot_ge {x w : List Int} {R : Nat} (hx : ∀ e, 0 ≤ gi x e) (hl : x.length = R) (hw : ∀ k, k < R → 1 ≤ gi w k) : ∀ n, n ≤ R → htS (x.take n) ≤ dotS x w n
  | 0, _ => by simp [dotS, htS]
  | n + 1, hn => by
    have ih := dot_ge hx hl hw n (by omega)
    rw [dotS, htS_take x n (by omega)]
    have := Int.mul_le_mul_of_nonneg_left (hw n (by omega)) (hx n)
    omega
theorem dot_nn {x w : List Int} (hx : ∀ e, 0 ≤ gi x e) (hw : ∀ k, 0 ≤ gi w k) : ∀ n, 0 ≤ dotS x w n
  | 0 => by simp [dotS]
  | n + 1 => by
    have ih := dot_nn hx hw n
    rw [dotS]
    have := Int.mul_nonneg (hx n) (hw n)
    omega
/-- No coroot makes less than 0 of a weight of which no number is. -/
theorem negC_nn {xs w : List Int} {R : Nat} (h : CoOk xs R) (hw : ∀ k, 0 ≤ gi w k) : negC (posR (trn xs R) R) R w = 0 := by
  rw [negC, List.countP_eq_zero]
  intro x hx
  have := dot_nn (h.clo.nn x hx) hw R
  simp; omega
/-- The weight of ones is the only one of its orbit of which no coroot makes less than 0. -/
theorem img_zero {xs w : List Int} {R : Nat} (h : CoOk xs R) (hw : Img xs R w) (h0 : negC (posR (trn xs R) R) R w = 0) : w = List.replicate R 1 := by
  rw [negC, List.countP_eq_zero] at h0
  have hp : ∀ x, x ∈ posR (trn xs R) R → 1 ≤ dotS x w R := fun x hx => by
    have h1 := h0 x hx
    have h2 := (img_dot h hw hx).1
    simp at h1
    omega
  have hent : ∀ k, k < R → 1 ≤ gi w k := fun k hk => by
    have := hp _ (h.mem hk)
    rwa [dot_bas w R k hk R, if_pos hk] at this
  have hsum : ((posR (trn xs R) R).map fun x => (dotS x w R).natAbs).sum = ((posR (trn xs R) R).map fun x => (htS x).natAbs).sum := hw.abs.sum_nat
  have hge : ∀ x, x ∈ posR (trn xs R) R → (htS x).natAbs ≤ (dotS x w R).natAbs := fun x hx => by
    have h1 := dot_ge (h.clo.nn x hx) (h.len hx) hent R (Nat.le_refl _)
    rw [List.take_of_length_le (by rw [h.len hx]; exact Nat.le_refl _)] at h1
    have h2 := h.ht x hx
    omega
  have heq := sum_tight hge hsum
  apply List.ext_getElem
  · simp [hw.len]
  · intro k h1 h2
    have hk : k < R := by rw [hw.len] at h1; exact h1
    have h3 := heq _ (h.mem hk)
    have h4 := h.ht _ (h.mem hk)
    have h5 : htS (bas R k) = 1 := by
      have := dot_ones (bas R k) R (by simp [bas]) R (Nat.le_refl _)
      rw [List.take_of_length_le (by simp [bas]), dot_bas _ R k hk R, if_pos hk] at this
      rw [← this]; simp [gi, List.getD_eq_getElem?_getD, hk]
    rw [dot_bas w R k hk R, if_pos hk, h5] at h3
    have h6 := hent k hk
    rw [gi_lt5 h1] at h3 h6
    rw [List.getElem_replicate]
    omega
theorem turn_twice {xs w : List Int} {R i : Nat} (h : CoOk xs R) (hi : i < R) (hl : w.length = R) : turnM xs R i (turnM xs R i w) = w := by
  have h2 := rclo_two h.clo hi
  rw [gi_trn hi hi] at h2
  apply List.ext_getElem
  · simp [turnM, hl]
  · intro k h1 h3
    rw [← gi_lt5 h1, ← gi_lt5 h3, gi_turnM (by omega), gi_turnM (by omega), gi_turnM hi, h2]
    rw [show gi w i - gi w i * 2 = - gi w i by omega, Int.neg_mul]
    omega
theorem gi_turn_own {xs w : List Int} {R i : Nat} (h : CoOk xs R) (hi : i < R) : gi (turnM xs R i w) i = - gi w i := by
  have h2 := rclo_two h.clo hi
  rw [gi_trn hi hi] at h2
  rw [gi_turnM hi, h2]; omega
end Go.Proofs.YtlnpaplbcocmkaaGreat

/-
  Which elements lie below others: what does not depend on the way down. Plain mathematics.
-/
namespace Go.Proofs.YtlnpaplbcocmkaaGreat
set_option linter.unusedVariables false
set_option linter.unusedSimpArgs false
set_option maxRecDepth 100000

/-- A weight less x times a column and y times another one. -/
def cmbC (xs : List Int) (R i j : Nat) (w : List Int) (x y : Int) : List Int := (List.range R).map fun k => gi w k - x * gi xs (k * R + i) - y * gi xs (k * R + j)
theorem gi_cmb {xs w : List Int} {R i j k : Nat} {x y : Int} (h : k < R) : gi (cmbC xs R i j w x y) k = gi w k - x * gi xs (k * R + i) - y * gi xs (k * R + j) := by simp [cmbC, gi, h]
theorem cmb_zero {xs w : List Int} {R i j : Nat} (h : w.length = R) : cmbC xs R i j w 0 0 = w := by
  apply List.ext_getElem
  · simp [cmbC, h]
  · intro k h1 h2
    simp [cmbC, gi, h2]
theorem turn_cmb1 {xs w : List Int} {R i j : Nat} {x y : Int} : turnM xs R i (cmbC xs R i j w x y) = cmbC xs R i j w (x + gi (cmbC xs R i j w x y) i) y := by
  rw [turnM, cmbC]
  refine List.map_congr_left (fun k hk => ?_)
  have hk := List.mem_range.1 hk
  rw [← cmbC, gi_cmb hk, Int.add_mul]
  omega
theorem turn_cmb2 {xs w : List Int} {R i j : Nat} {x y : Int} : turnM xs R j (cmbC xs R i j w x y) = cmbC xs R i j w x (y + gi (cmbC xs R i j w x y) j) := by
  rw [turnM, cmbC]
  refine List.map_congr_left (fun k hk => ?_)
  have hk := List.mem_range.1 hk
  rw [← cmbC, gi_cmb hk, Int.add_mul]
  omega
/-- A turn where it makes more of a weight. -/
def upT (xs : List Int) (R i : Nat) (w : List Int) : List Int := if gi w i < 0 then turnM xs R i w else w
/-- Turns of two rows by turns, counted by columns; p, q: the two numbers; a, b: the two numbers of the matrix. -/
def dih (p q a b : Int) : Nat → Bool → Int → Int → Int × Int
  | 0, _, x, y => (x, y)
  | n + 1, true, x, y => dih p q a b n false (if p - 2 * x - b * y < 0 then x + (p - 2 * x - b * y) else x) y
  | n + 1, false, x, y => dih p q a b n true x (if q - a * x - 2 * y < 0 then y + (q - a * x - 2 * y) else y)
/-- All of these turns make more. -/
def dihN (p q a b : Int) : Nat → Bool → Int → Int → Prop
  | 0, _, _, _ => True
  | n + 1, true, x, y => p - 2 * x - b * y < 0 ∧ dihN p q a b n false (x + (p - 2 * x - b * y)) y
  | n + 1, false, x, y => q - a * x - 2 * y < 0 ∧ dihN p q a b n true x (y + (q - a * x - 2 * y))
/-- The rows by turns. -/
def alt (i j : Nat) : Nat → Bool → List Nat
  | 0, _ => []
  | n + 1, true => i :: alt i j n false
  | n + 1, false => j :: alt i j n true
/-- How often two rows stand by turns in the longest word of both. -/
def mOf (a b : Int) : Nat := if a * b = 0 then 2 else if a * b = 1 then 3 else if a * b = 2 then 4 else 6
def typeB (a b : Int) : Bool := (a == 0 && b == 0) || (a == -1 && b == -1) || (a == -1 && b == -2) || (a == -2 && b == -1) || (a == -1 && b == -3) || (a == -3 && b == -1)
set_option maxHeartbeats 4000000 in
theorem dih_braid {p q a b : Int} (h : typeB a b = true) : dih p q a b (mOf a b) true 0 0 = dih p q a b (mOf a b) false 0 0 := by
  simp only [typeB, Bool.or_eq_true, Bool.and_eq_true, beq_iff_eq] at h
  rcases h with ((((⟨rfl, rfl⟩ | ⟨rfl, rfl⟩) | ⟨rfl, rfl⟩) | ⟨rfl, rfl⟩) | ⟨rfl, rfl⟩) | ⟨rfl, rfl⟩
  · refine Prod.ext ?_ ?_ <;> simp only [mOf, dih, Int.mul_zero, Int.zero_mul, Int.sub_zero, if_true] <;> (repeat' (first | omega | split))
  · refine Prod.ext ?_ ?_ <;> simp only [show mOf (-1) (-1) = 3 from rfl, dih] <;> (repeat' (first | omega | split))
  · refine Prod.ext ?_ ?_ <;> simp only [show mOf (-1) (-2) = 4 from rfl, dih] <;> (repeat' (first | omega | split))
  · refine Prod.ext ?_ ?_ <;> simp only [show mOf (-2) (-1) = 4 from rfl, dih] <;> (repeat' (first | omega | split))
  · refine Prod.ext ?_ ?_ <;> simp only [show mOf (-1) (-3) = 6 from rfl, dih] <;> (repeat' (first | omega | split))
  · refine Prod.ext ?_ ?_ <;> simp only [show mOf (-3) (-1) = 6 from rfl, dih] <;> (repeat' (first | omega | split))
theorem dih_neg {p q a b : Int} (h : typeB a b = true) (hp : p < 0) (hq : q < 0) : dihN p q a b (mOf a b) true 0 0 ∧ dihN p q a b (mOf a b) false 0 0 := by
  simp only [typeB, Bool.or_eq_true, Bool.and_eq_true, beq_iff_eq] at h
  rcases h with ((((⟨rfl, rfl⟩ | ⟨rfl, rfl⟩) | ⟨rfl, rfl⟩) | ⟨rfl, rfl⟩) | ⟨rfl, rfl⟩) | ⟨rfl, rfl⟩
  · simp only [show mOf 0 0 = 2 from rfl, dihN]; (repeat' (first | trivial | apply And.intro)) <;> omega
  · simp only [show mOf (-1) (-1) = 3 from rfl, dihN]; (repeat' (first | trivial | apply And.intro)) <;> omega
  · simp only [show mOf (-1) (-2) = 4 from rfl, dihN]; (repeat' (first | trivial | apply And.intro)) <;> omega
  · simp only [show mOf (-2) (-1) = 4 from rfl, dihN]; (repeat' (first | trivial | apply And.intro)) <;> omega
  · simp only [show mOf (-1) (-3) = 6 from rfl, dihN]; (repeat' (first | trivial | apply And.intro)) <;> omega
  · simp only [show mOf (-3) (-1) = 6 from rfl, dihN]; (repeat' (first | trivial | apply And.intro)) <;> omega
def prsB (xs : List Int) (R : Nat) : Bool := (List.range R).all fun i => (List.range R).all fun j => i == j || typeB (gi xs (j * R + i)) (gi xs (i * R + j))
theorem prs_1 : tab1.all (fun t => prsB t.1 1) = true := by decide +kernel
theorem prs_2 : tab2.all (fun t => prsB t.1 2) = true := by decide +kernel
theorem prs_3 : tab3.all (fun t => prsB t.1 3) = true := by decide +kernel
theorem prs_4 : tab4.all (fun t => prsB t.1 4) = true := by decide +kernel
theorem prs_tab {R : Nat} {xs : List Int} {v : List Nat × List Int} (h0 : 0 < R) (hR : R ≤ 4) (h : tabGet R xs = some v) : ∀ i j, i < R → j < R → i ≠ j → typeB (gi xs (j * R + i)) (gi xs (i * R + j)) = true := by
  have h1 : (tab R).all (fun t => prsB t.1 R) = true := by
    match R, h0, hR with
    | 1, _, _ => exact prs_1
    | 2, _, _ => exact prs_2
    | 3, _, _ => exact prs_3
    | 4, _, _ => exact prs_4
  have h2 := List.all_eq_true.1 h1 _ (tabGet_mem h)
  simp only [prsB, List.all_eq_true, List.mem_range, Bool.or_eq_true, beq_iff_eq] at h2
  intro i j hi hj hne
  rcases h2 i hi j hj with e | e
  · exact absurd e hne
  · exact e
/-- Turns by turns, as columns count them. -/
theorem alt_dih {xs w : List Int} {R i j : Nat} (hi : i < R) (hj : j < R) (hii : gi xs (i * R + i) = 2) (hjj : gi xs (j * R + j) = 2) : ∀ (n : Nat) (t : Bool) (x y : Int), (alt i j n t).foldl (fun u k => upT xs R k u) (cmbC xs R i j w x y) = cmbC xs R i j w (dih (gi w i) (gi w j) (gi xs (j * R + i)) (gi xs (i * R + j)) n t x y).1 (dih (gi w i) (gi w j) (gi xs (j * R + i)) (gi xs (i * R + j)) n t x y).2
  | 0, _, _, _ => rfl
  | n + 1, true, x, y => by
    rw [alt, List.foldl_cons, dih]
    have hc : gi (cmbC xs R i j w x y) i = gi w i - 2 * x - gi xs (i * R + j) * y := by rw [gi_cmb hi, hii, Int.mul_comm x, Int.mul_comm y]
    have e : upT xs R i (cmbC xs R i j w x y) = cmbC xs R i j w (if gi w i - 2 * x - gi xs (i * R + j) * y < 0 then x + (gi w i - 2 * x - gi xs (i * R + j) * y) else x) y := by
      rw [upT, turn_cmb1, hc]
      split <;> rfl
    rw [e]
    exact alt_dih hi hj hii hjj n false _ y
  | n + 1, false, x, y => by
    rw [alt, List.foldl_cons, dih]
    have hc : gi (cmbC xs R i j w x y) j = gi w j - gi xs (j * R + i) * x - 2 * y := by rw [gi_cmb hj, hjj, Int.mul_comm x, Int.mul_comm y]
    have e : upT xs R j (cmbC xs R i j w x y) = cmbC xs R i j w x (if gi w j - gi xs (j * R + i) * x - 2 * y < 0 then y + (gi w j - gi xs (j * R + i) * x - 2 * y) else y) := by
      rw [upT, turn_cmb2, hc]
      split <;> rfl
    rw [e]
    exact alt_dih hi hj hii hjj n true x _
/-- Rows that lead from a weight to the ones, each at a number below 0. -/
inductive Desc (xs : List Int) (R : Nat) : List Int → List Nat → Prop where
  | nil : Desc xs R (List.replicate R 1) []
  | cons : ∀ {v : List Int} {i : Nat} {p : List Nat}, i < R → gi v i < 0 → Desc xs R (turnM xs R i v) p → Desc xs R v (i :: p)
theorem desc_alt {xs w : List Int} {R i j : Nat} {r : List Nat} (hi : i < R) (hj : j < R) (hii : gi xs (i * R + i) = 2) (hjj : gi xs (j * R + j) = 2) : ∀ (n : Nat) (t : Bool) (x y : Int), dihN (gi w i) (gi w j) (gi xs (j * R + i)) (gi xs (i * R + j)) n t x y → Desc xs R ((alt i j n t).foldl (fun u k => upT xs R k u) (cmbC xs R i j w x y)) r → Desc xs R (cmbC xs R i j w x y) (alt i j n t ++ r)
  | 0, _, _, _, _, hd => hd
  | n + 1, true, x, y, h, hd => by
    have hc : gi (cmbC xs R i j w x y) i = gi w i - 2 * x - gi xs (i * R + j) * y := by rw [gi_cmb hi, hii, Int.mul_comm x, Int.mul_comm y]
    have hn : gi (cmbC xs R i j w x y) i < 0 := by rw [hc]; exact h.1
    have e : upT xs R i (cmbC xs R i j w x y) = cmbC xs R i j w (x + (gi w i - 2 * x - gi xs (i * R + j) * y)) y := by rw [upT, if_pos hn, turn_cmb1, hc]
    rw [alt, List.foldl_cons, e] at hd
    refine Desc.cons hi hn ?_
    rw [turn_cmb1, hc]
    exact desc_alt hi hj hii hjj n false _ y h.2 hd
  | n + 1, false, x, y, h, hd => by
    have hc : gi (cmbC xs R i j w x y) j = gi w j - gi xs (j * R + i) * x - 2 * y := by rw [gi_cmb hj, hjj, Int.mul_comm x, Int.mul_comm y]
    have hn : gi (cmbC xs R i j w x y) j < 0 := by rw [hc]; exact h.1
    have e : upT xs R j (cmbC xs R i j w x y) = cmbC xs R i j w x (y + (gi w j - gi xs (j * R + i) * x - 2 * y)) := by rw [upT, if_pos hn, turn_cmb2, hc]
    rw [alt, List.foldl_cons, e] at hd
    refine Desc.cons hj hn ?_
    rw [turn_cmb2, hc]
    exact desc_alt hi hj hii hjj n true x _ h.2 hd
theorem upT_img {xs w : List Int} {R i : Nat} (h : CoOk xs R) (hw : Img xs R w) (hi : i < R) : Img xs R (upT xs R i w) := by
  rw [upT]; split
  · exact img_turn h hw hi
  · exact hw
theorem alt_lt {i j R : Nat} (hi : i < R) (hj : j < R) : ∀ (n : Nat) (t : Bool) (k : Nat), k ∈ alt i j n t → k < R
  | 0, _, _, h => by cases h
  | n + 1, true, k, h => by
    rw [alt] at h
    rcases List.mem_cons.1 h with e | e
    · omega
    · exact alt_lt hi hj n false k e
  | n + 1, false, k, h => by
    rw [alt] at h
    rcases List.mem_cons.1 h with e | e
    · omega
    · exact alt_lt hi hj n true k e
theorem fold_img {xs : List Int} {R : Nat} (h : CoOk xs R) : ∀ (p : List Nat) (w : List Int), (∀ k, k ∈ p → k < R) → Img xs R w → Img xs R (p.foldl (fun u k => upT xs R k u) w)
  | [], _, _, hw => hw
  | i :: p, w, hp, hw => fold_img h p _ (fun k hk => hp k (List.mem_cons_of_mem _ hk)) (upT_img h hw (hp i List.mem_cons_self))
/-- An image that is not the ones has a number below 0. -/
theorem img_has {xs w : List Int} {R : Nat} (h : CoOk xs R) (hw : Img xs R w) (hn : negC (posR (trn xs R) R) R w ≠ 0) : ∃ i, i < R ∧ gi w i < 0 := by
  apply Classical.byContradiction
  intro hc
  refine hn (negC_nn (xs := xs) (R := R) (w := w) h (fun k => ?_))
  by_cases hk : k < R
  · apply Classical.byContradiction
    intro h2
    exact hc ⟨k, hk, by omega⟩
  · have : gi w k = 0 := by simp only [gi, List.getD_eq_getElem?_getD, List.getElem?_eq_none (show w.length ≤ k by rw [hw.len]; omega), Option.getD_none]
    omega
theorem negC_down {xs w : List Int} {R i : Nat} (h : CoOk xs R) (hi : i < R) (hn : gi w i < 0) : negC (posR (trn xs R) R) R (turnM xs R i w) + 1 = negC (posR (trn xs R) R) R w := by
  have := negC_turn h.clo h.nd hi (w := w)
  rw [if_pos hn, if_neg (by omega)] at this
  omega
theorem desc_ex {xs : List Int} {R : Nat} (h : CoOk xs R) : ∀ (n : Nat) (w : List Int), negC (posR (trn xs R) R) R w = n → Img xs R w → ∃ p, Desc xs R w p := by
  intro n
  induction n with
  | zero => intro w hn hw; exact ⟨[], by rw [img_zero h hw hn]; exact Desc.nil⟩
  | succ n ih =>
    intro w hn hw
    obtain ⟨i, hi, hneg⟩ := img_has h hw (by omega)
    have h1 := negC_down h hi hneg
    obtain ⟨p, hp⟩ := ih _ (by omega) (img_turn h hw hi)
    exact ⟨i :: p, Desc.cons hi hneg hp⟩
theorem ones_no {xs : List Int} {R : Nat} (h : CoOk xs R) : negC (posR (trn xs R) R) R (List.replicate R 1) = 0 := by
  refine negC_nn (xs := xs) (R := R) (w := List.replicate R 1) h (fun k => ?_)
  simp only [gi, List.getD_eq_getElem?_getD, List.getElem?_replicate]
  split <;> simp
theorem desc_zero {xs w : List Int} {R : Nat} {p : List Nat} (h : CoOk xs R) (hn : negC (posR (trn xs R) R) R w = 0) (hd : Desc xs R w p) : p = [] := by
  cases hd with
  | nil => rfl
  | cons hi hneg _ => have := negC_down h hi hneg; omega
/-- Whatever way leads down from an image, the turns that make more of a weight come to the same. -/
theorem desc_same {xs : List Int} {R : Nat} (h : CoOk xs R) (hpr : ∀ i j, i < R → j < R → i ≠ j → typeB (gi xs (j * R + i)) (gi xs (i * R + j)) = true) : ∀ (n : Nat) (v : List Int) (p q : List Nat), negC (posR (trn xs R) R) R v = n → Img xs R v → Desc xs R v p → Desc xs R v q → ∀ u : List Int, u.length = R → p.foldl (fun u k => upT xs R k u) u = q.foldl (fun u k => upT xs R k u) u := by
  intro n
  induction n with
  | zero => intro v p q hn hv hp hq u hu; rw [desc_zero h hn hp, desc_zero h hn hq]
  | succ n ih =>
    intro v p q hn hv hp hq u hu
    cases hp with
    | nil => rw [ones_no h] at hn; omega
    | @cons _ i p' hi hni hp' =>
      cases hq with
      | nil => rw [ones_no h] at hn; omega
      | @cons _ j q' hj hnj hq' =>
        have hui : ∀ k, (upT xs R k u).length = R := fun k => by
          rw [upT]; split
          · exact turnM_len _ _ _ _
          · exact hu
        have d1 := negC_down h hi hni
        have d2 := negC_down h hj hnj
        by_cases e : i = j
        · subst e
          rw [List.foldl_cons, List.foldl_cons]
          exact ih _ p' q' (by omega) (img_turn h hv hi) hp' hq' _ (hui i)
        · have hii : gi xs (i * R + i) = 2 := by have := rclo_two h.clo hi; rwa [gi_trn hi hi] at this
          have hjj : gi xs (j * R + j) = 2 := by have := rclo_two h.clo hj; rwa [gi_trn hj hj] at this
          have ht := hpr i j hi hj e
          obtain ⟨m, hm⟩ : ∃ m, mOf (gi xs (j * R + i)) (gi xs (i * R + j)) = m + 1 := by
            refine ⟨mOf (gi xs (j * R + i)) (gi xs (i * R + j)) - 1, ?_⟩
            have : 1 ≤ mOf (gi xs (j * R + i)) (gi xs (i * R + j)) := by
              unfold mOf; (repeat' split) <;> omega
            omega
          have hz : cmbC xs R i j v 0 0 = v := cmb_zero hv.len
          have hzu : cmbC xs R i j u 0 0 = u := cmb_zero hu
          have hbv : (alt i j (m + 1) true).foldl (fun u k => upT xs R k u) v = (alt i j (m + 1) false).foldl (fun u k => upT xs R k u) v := by
            have h1 := alt_dih (w := v) hi hj hii hjj (m + 1) true 0 0
            have h2 := alt_dih (w := v) hi hj hii hjj (m + 1) false 0 0
            rw [hz] at h1 h2
            rw [h1, h2, ← hm, dih_braid ht]
          have hbu : (alt i j (m + 1) true).foldl (fun u k => upT xs R k u) u = (alt i j (m + 1) false).foldl (fun u k => upT xs R k u) u := by
            have h1 := alt_dih (w := u) hi hj hii hjj (m + 1) true 0 0
            have h2 := alt_dih (w := u) hi hj hii hjj (m + 1) false 0 0
            rw [hzu] at h1 h2
            rw [h1, h2, ← hm, dih_braid ht]
          have hng := dih_neg ht hni hnj
          rw [hm] at hng
          have hiv := fold_img h (alt i j (m + 1) true) v (fun k hk => alt_lt hi hj _ _ k hk) hv
          obtain ⟨r, hr⟩ := desc_ex h _ _ rfl hiv
          have p1 : Desc xs R v (alt i j (m + 1) true ++ r) := by
            have := desc_alt (w := v) (r := r) hi hj hii hjj (m + 1) true 0 0 hng.1 (by rw [hz]; exact hr)
            rwa [hz] at this
          have p2 : Desc xs R v (alt i j (m + 1) false ++ r) := by
            have := desc_alt (w := v) (r := r) hi hj hii hjj (m + 1) false 0 0 hng.2 (by rw [hz, ← hbv]; exact hr)
            rwa [hz] at this
          have e1 : (i :: p').foldl (fun u k => upT xs R k u) u = (alt i j (m + 1) true ++ r).foldl (fun u k => upT xs R k u) u := by
            rw [alt, List.cons_append] at p1 ⊢
            cases p1 with
            | cons _ _ p1 =>
              rw [List.foldl_cons, List.foldl_cons]
              exact ih _ p' _ (by omega) (img_turn h hv hi) hp' p1 _ (hui i)
          have e2 : (j :: q').foldl (fun u k => upT xs R k u) u = (alt i j (m + 1) false ++ r).foldl (fun u k => upT xs R k u) u := by
            rw [alt, List.cons_append] at p2 ⊢
            cases p2 with
            | cons _ _ p2 =>
              rw [List.foldl_cons, List.foldl_cons]
              exact ih _ q' _ (by omega) (img_turn h hv hj) hq' p2 _ (hui j)
          rw [e1, e2, List.foldl_append, List.foldl_append, hbu]
end Go.Proofs.YtlnpaplbcocmkaaGreat

/-
  Which elements lie below others: the model.
-/
namespace Go.Proofs.YtlnpaplbcocmkaaGreat
set_option linter.unusedVariables false
set_option linter.unusedSimpArgs false

theorem lessR_ne {x y : List Int} (h : lessR x y = true) : x ≠ y := by
  intro e; subst e
  have := lessR_asymm h
  rw [h] at this; cases this
theorem posR_nodup {xs ls : List Int} {R : Nat} (hok : RootsOk xs ls R) : (posR xs R).Nodup := by
  rw [List.Nodup, List.pairwise_iff_getElem]
  intro i j hi hj hij
  have h := hok.sorted i j hij hj
  rw [gl_lt hi, gl_lt hj] at h
  exact lessR_ne h
theorem coOk_tab {R : Nat} {xs : List Int} {v : List Nat × List Int} (h0 : 0 < R) (hR : R ≤ 4) (h : tabGet R xs = some v) : CoOk xs R := by
  obtain ⟨u, hu⟩ := trn_tab h0 hR h
  have hok := rootsOk_tab h0 hR hu
  exact ⟨rclo_tab h0 hR hu, posR_nodup hok, fun x hx => (hok.pos x hx).2.2.2⟩
theorem img_act {xs : List Int} {R : Nat} (h : CoOk xs R) : ∀ x : List Int, rowB R x = true → Img xs R (actM xs R x (List.replicate R 1))
  | [], _ => img_ones h
  | i :: l, hr => by
    rw [rowB, List.all_cons, Bool.and_eq_true] at hr
    have h1 := of_decide_eq_true hr.1
    exact img_turn h (img_act h l hr.2) (by omega)
theorem img_lat {xs w : List Int} {R : Nat} (h : CoOk xs R) (hw : Img xs R w) : latB R w = true :=
  latB_yes hw.len (fun e _ => by have := img_bnd h hw e; omega)
/-- The word of an image leads down. -/
theorem climb_desc {xs hh : List Int} {R : Nat} (hR : R ≤ 4) (hc : Climbs xs hh R) (h : CoOk xs R) : ∀ (n : Nat) (v d : List Int) (rows : List Nat), negC (posR (trn xs R) R) R v = n → Img xs R v → climbO xs R v = some (d, rows) → Desc xs R v rows := by
  intro n
  induction n with
  | zero =>
    intro v d rows hn hv ho
    have e := img_zero h hv hn
    subst e
    have hnn : negI (List.replicate R (1 : Int)) = (List.replicate R (1 : Int)).length := negI_none (fun e he => by
      simp only [gi, List.getD_eq_getElem?_getD, List.getElem?_replicate]
      split <;> simp)
    rw [climbO_end (img_lat h hv) (by rw [hnn]; simp)] at ho
    injection ho with ho
    injection ho with h1 h2
    subst h2
    exact Desc.nil
  | succ n ih =>
    intro v d rows hn hv ho
    have hl := img_lat h hv
    by_cases hi : negI v < R
    · have hneg := negI_lt (w := v) (by rw [hv.len]; exact hi)
      rw [climbO_step hR hc hl hi] at ho
      obtain ⟨q, hq, e⟩ := Option.map_eq_some_iff.1 ho
      injection e with e1 e2
      subst e2
      have hd := negC_down h hi hneg
      exact Desc.cons hi hneg (ih _ q.1 q.2 (by omega) (img_turn h hv hi) (by rw [hq]))
    · obtain ⟨i, hiR, hneg⟩ := img_has h hv (by omega)
      have h2 : negI v = v.length := by
        have := List.findIdx_le_length (p := fun n => decide (n < 0)) (xs := v)
        have h3 := hv.len
        unfold negI at hi ⊢
        omega
      have h4 := negI_before (w := v) (k := i) (by rw [h2, hv.len]; exact hiR) (by rw [hv.len]; exact hiR)
      omega
/-- Whether an image lies below another one. -/
def belB (xs : List Int) (R : Nat) (u v : List Int) : Bool := match climbO xs R v with
  | some p => decide (p.2.foldl (fun u k => upT xs R k u) u = List.replicate R 1)
  | none => false
structure BOk (xs hh : List Int) (R : Nat) : Prop where
  le : R ≤ 4
  cl : Climbs xs hh R
  co : CoOk xs R
  pr : ∀ i j, i < R → j < R → i ≠ j → typeB (gi xs (j * R + i)) (gi xs (i * R + j)) = true
theorem climb_img {xs hh v : List Int} {R : Nat} (h : BOk xs hh R) (hv : Img xs R v) : ∃ d rows, climbO xs R v = some (d, rows) := by
  have key : ∀ (N : Nat) (w : List Int), climbN hh w R < N → Img xs R w → ∃ d rows, climbO xs R w = some (d, rows) := by
    intro N
    induction N with
    | zero => intro w hN; exact absurd hN (Nat.not_lt_zero _)
    | succ N ih =>
      intro w hN hw
      have hl := img_lat h.co hw
      have hb := latB_bnd hl
      by_cases hn : negI w < R
      · have h1 := climbN_lt h.le h.cl hn (negI_lt (by omega)) hb.2
        obtain ⟨d, rows, h2⟩ := ih (turnM xs R (negI w) w) (by omega) (img_turn h.co hw hn)
        exact ⟨d, negI w :: rows, by rw [climbO_step h.le h.cl hl hn, h2]; rfl⟩
      · exact ⟨w, [], climbO_end hl hn⟩
  exact key _ v (Nat.lt_succ_self _) hv
theorem belB_rows {xs hh u v d : List Int} {R : Nat} {rows p : List Nat} (h : BOk xs hh R) (hu : u.length = R) (hv : Img xs R v) (hd : Desc xs R v p) : belB xs R u v = decide (p.foldl (fun u k => upT xs R k u) u = List.replicate R 1) := by
  obtain ⟨d, rows, ho⟩ := climb_img h hv
  have hr := climb_desc h.le h.cl h.co _ v d rows rfl hv ho
  rw [belB, ho]
  show decide (rows.foldl (fun u k => upT xs R k u) u = _) = _
  rw [desc_same h.co h.pr _ v rows p rfl hv hr hd u hu]
theorem belB_step {xs hh u v : List Int} {R i : Nat} (h : BOk xs hh R) (hu : u.length = R) (hv : Img xs R v) (hi : i < R) (hn : gi v i < 0) : belB xs R u v = belB xs R (upT xs R i u) (turnM xs R i v) := by
  have ht := img_turn h.co hv hi
  obtain ⟨p, hp⟩ := desc_ex h.co _ _ rfl ht
  have hl : (upT xs R i u).length = R := by
    rw [upT]; split
    · exact turnM_len _ _ _ _
    · exact hu
  rw [belB_rows (d := []) (rows := []) h hu hv (Desc.cons hi hn hp), belB_rows (d := []) (rows := []) h hl ht hp]
  rfl
theorem belB_end {xs hh u v : List Int} {R : Nat} (h : BOk xs hh R) (hu : u.length = R) (hv : Img xs R v) (hn : ∀ e, e < R → 0 ≤ gi v e) : belB xs R u v = decide (u = v) := by
  have h0 : negC (posR (trn xs R) R) R v = 0 := by
    refine negC_nn (xs := xs) (R := R) (w := v) h.co (fun k => ?_)
    by_cases hk : k < R
    · exact hn k hk
    · have : gi v k = 0 := by simp only [gi, List.getD_eq_getElem?_getD, List.getElem?_eq_none (show v.length ≤ k by rw [hv.len]; omega), Option.getD_none]
      omega
  have e := img_zero h.co hv h0
  subst e
  rw [belB_rows (d := []) (rows := []) h hu hv Desc.nil]
  rfl
def isbO (R : Int) (l x z : List Int) : Bool := match carG R l with | some _ => wordB R.toNat x && (wordB R.toNat z && belB l R.toNat (actM l R.toNat x (List.replicate R.toNat 1)) (actM l R.toNat z (List.replicate R.toNat 1))) | none => false
theorem isbO_eq {l x z : List Int} {K : Nat} {v : List Nat × List Int} (hG : carG (K : Int) l = some v) : isbO K l x z = (wordB K x && (wordB K z && belB l K (actM l K x (List.replicate K 1)) (actM l K z (List.replicate K 1)))) := by
  simp only [isbO, hG, Int.toNat_natCast]
theorem bOk_tab {R : Nat} {xs hh : List Int} {v : List Nat × List Int} (h0 : 0 < R) (hR : R ≤ 4) (h : tabGet R xs = some v) (hc : Climbs xs hh R) : BOk xs hh R := ⟨hR, hc, coOk_tab h0 hR h, prs_tab h0 hR h⟩
theorem negC_lt {xs w : List Int} {R i : Nat} (h : CoOk xs R) (hi : i < R) (hn : gi w i < 0) : negC (posR (trn xs R) R) R (turnM xs R i w) < negC (posR (trn xs R) R) R w := by
  have := negC_down h hi hn
  omega
theorem fold_take {xs u : List Int} {R k : Nat} {rows : List Nat} (hk : k < rows.length) : (rows.take (k + 1)).foldl (fun u k => upT xs R k u) u = upT xs R (rows.getD k 0) ((rows.take k).foldl (fun u k => upT xs R k u) u) := by
  rw [List.take_succ_eq_append_getElem hk, List.foldl_append]
  simp [List.getD_eq_getElem?_getD, hk]
theorem desc_lt {xs v : List Int} {R : Nat} {p : List Nat} (h : Desc xs R v p) : ∀ k, k < p.length → p.getD k 0 < R := by
  induction h with
  | nil => intro k hk; simp at hk
  | @cons v i p hi hn hp ih =>
    intro k hk
    cases k with
    | zero => exact hi
    | succ k => simp only [List.length_cons] at hk; simpa using ih k (by omega)
end Go.Proofs.YtlnpaplbcocmkaaGreat

/-
  The dominant weight of an orbit is one only. Plain mathematics.
-/
namespace Go.Proofs.YtlnpaplbcocmkaaGreat
set_option linter.unusedVariables false
set_option linter.unusedSimpArgs false
set_option maxRecDepth 100000

/-- The turns of a word, each where it makes more of a weight. -/
def upsW (xs : List Int) (R : Nat) (p : List Nat) (u : List Int) : List Int := p.foldl (fun u k => upT xs R k u) u
theorem upT_len {xs u : List Int} {R i : Nat} (h : u.length = R) : (upT xs R i u).length = R := by
  rw [upT]; split
  · exact turnM_len _ _ _ _
  · exact h
theorem upsW_len {xs : List Int} {R : Nat} : ∀ {p : List Nat} {u : List Int}, u.length = R → (upsW xs R p u).length = R
  | [], _, h => h
  | i :: p, u, h => upsW_len (p := p) (u := upT xs R i u) (upT_len h)
theorem upsW_app {xs u : List Int} {R : Nat} {p q : List Nat} : upsW xs R (p ++ q) u = upsW xs R q (upsW xs R p u) := by rw [upsW, List.foldl_append]; rfl
theorem upT_nn {xs u : List Int} {R i : Nat} (h : CoOk xs R) (hi : i < R) : 0 ≤ gi (upT xs R i u) i := by
  rw [upT]; split
  · next hn => rw [gi_turn_own h hi]; omega
  · omega
theorem upT_id {xs u : List Int} {R i : Nat} (hn : 0 ≤ gi u i) : upT xs R i u = u := by rw [upT, if_neg (by omega)]
theorem upsW_id {xs u : List Int} {R : Nat} (hn : ∀ k, 0 ≤ gi u k) : ∀ p, upsW xs R p u = u
  | [] => rfl
  | i :: p => by
    show upsW xs R p (upT xs R i u) = u
    rw [upT_id (hn i)]; exact upsW_id hn p
theorem neg_turn {xs w : List Int} {R i : Nat} : negL (turnM xs R i w) = turnM xs R i (negL w) := by
  apply List.ext_getElem
  · simp [turnM, negL]
  · intro k h1 h2
    rw [← gi_lt5 h1, ← gi_lt5 h2]
    have hk : k < R := by rw [turnM_len] at h2; exact h2
    rw [gi_negL, gi_turnM hk, gi_turnM hk, gi_negL, gi_negL, Int.neg_mul]; omega
theorem negL_ones (R : Nat) : negL (List.replicate R 1) = List.replicate R (-1) := by simp [negL]
theorem dot_negR (x w : List Int) : ∀ n, dotS x (negL w) n = - dotS x w n
  | 0 => rfl
  | n + 1 => by rw [dotS, dotS, dot_negR x w n, gi_negL, Int.mul_neg]; omega
theorem img_neg {xs w : List Int} {R : Nat} (hw : Img xs R w) : Img xs R (negL w) := ⟨by rw [negL_length, hw.len], by
  have e : absD (posR (trn xs R) R) R (negL w) = absD (posR (trn xs R) R) R w := by
    rw [absD, absD]
    refine List.map_congr_left (fun x _ => ?_)
    rw [dot_negR, Int.natAbs_neg]
  rw [e]; exact hw.abs⟩
theorem img_low {xs : List Int} {R : Nat} (h : CoOk xs R) : Img xs R (List.replicate R (-1)) := by rw [← negL_ones]; exact img_neg (img_ones h)
theorem gi_low {R i : Nat} (hi : i < R) : gi (List.replicate R (-1 : Int)) i < 0 := by simp [gi, hi]
theorem gi_one {R i : Nat} (hi : i < R) : gi (List.replicate R (1 : Int)) i = 1 := by simp [gi, hi]
/-- A way down, gone back from the least weight. -/
theorem desc_rev {xs : List Int} {R : Nat} (h : CoOk xs R) {v : List Int} {p : List Nat} (hd : Desc xs R v p) : v.length = R → ∀ {q : List Nat}, Desc xs R (negL v) q → Desc xs R (List.replicate R (-1)) (p.reverse ++ q) := by
  induction hd with
  | nil => intro _ q hq; rw [negL_ones] at hq; simpa using hq
  | @cons v i p hi hn hd ih =>
    intro hl q hq
    rw [List.reverse_cons, List.append_assoc]
    refine ih (turnM_len _ _ _ _) (q := [i] ++ q) ?_
    refine Desc.cons hi ?_ ?_
    · rw [gi_negL, gi_turn_own h hi]; omega
    · rw [← neg_turn, turn_twice h hi hl]; exact hq
theorem desc_start {xs : List Int} {R i : Nat} (h : CoOk xs R) (hi : i < R) : ∃ p, Desc xs R (List.replicate R (-1)) (i :: p) := by
  obtain ⟨p, hp⟩ := desc_ex h _ _ rfl (img_turn h (img_low h) hi)
  exact ⟨p, Desc.cons hi (gi_low hi) hp⟩
theorem desc_last {xs : List Int} {R i : Nat} (h : CoOk xs R) (hi : i < R) : ∃ p, Desc xs R (List.replicate R (-1)) (p ++ [i]) := by
  have h1 := img_neg (img_turn h (img_ones h) hi)
  obtain ⟨p, hp⟩ := desc_ex h _ _ rfl h1
  refine ⟨p.reverse, desc_rev h hp h1.len ?_⟩
  have e : negL (negL (turnM xs R i (List.replicate R 1))) = turnM xs R i (List.replicate R 1) := negL_negL _
  rw [e]
  refine Desc.cons hi ?_ ?_
  · rw [gi_turn_own h hi, gi_one hi]; omega
  · rw [turn_twice h hi (by simp)]; exact Desc.nil
def Prs (xs : List Int) (R : Nat) : Prop := ∀ i j, i < R → j < R → i ≠ j → typeB (gi xs (j * R + i)) (gi xs (i * R + j)) = true
/-- From the least weight on, a word makes any weight dominant. -/
theorem top_nn {xs u : List Int} {R : Nat} {q : List Nat} (h : CoOk xs R) (hpr : Prs xs R) (hq : Desc xs R (List.replicate R (-1)) q) (hu : u.length = R) : ∀ k, 0 ≤ gi (upsW xs R q u) k := fun k => by
  by_cases hk : k < R
  · obtain ⟨p, hp⟩ := desc_last h hk
    have e : upsW xs R q u = upsW xs R (p ++ [k]) u := desc_same h hpr _ _ q (p ++ [k]) rfl (img_low h) hq hp u hu
    rw [e, upsW_app]
    exact upT_nn h hk
  · have := upsW_len (xs := xs) (p := q) hu
    simp only [gi, List.getD_eq_getElem?_getD, List.getElem?_eq_none (show (upsW xs R q u).length ≤ k by omega), Option.getD_none]
    exact Int.le_refl _
theorem top_up {xs u : List Int} {R i : Nat} {q : List Nat} (h : CoOk xs R) (hpr : Prs xs R) (hq : Desc xs R (List.replicate R (-1)) q) (hi : i < R) (hu : u.length = R) : upsW xs R q (upT xs R i u) = upsW xs R q u := by
  obtain ⟨p, hp⟩ := desc_start h hi
  have e1 : upsW xs R q (upT xs R i u) = upsW xs R (i :: p) (upT xs R i u) := desc_same h hpr _ _ q (i :: p) rfl (img_low h) hq hp _ (upT_len hu)
  have e2 : upsW xs R q u = upsW xs R (i :: p) u := desc_same h hpr _ _ q (i :: p) rfl (img_low h) hq hp u hu
  rw [e1, e2]
  show upsW xs R p (upT xs R i (upT xs R i u)) = upsW xs R p (upT xs R i u)
  rw [upT_id (upT_nn h hi)]
theorem turn_zero {xs u : List Int} {R i : Nat} (hu : u.length = R) (h0 : gi u i = 0) : turnM xs R i u = u := by
  apply List.ext_getElem
  · simp [turnM, hu]
  · intro k h1 h2
    rw [← gi_lt5 h1, ← gi_lt5 h2, gi_turnM (by omega), h0]; omega
theorem top_turn {xs u : List Int} {R i : Nat} {q : List Nat} (h : CoOk xs R) (hpr : Prs xs R) (hq : Desc xs R (List.replicate R (-1)) q) (hi : i < R) (hu : u.length = R) : upsW xs R q (turnM xs R i u) = upsW xs R q u := by
  rcases (show gi u i < 0 ∨ gi u i = 0 ∨ 0 < gi u i by omega) with hn | hn | hn
  · have e : upT xs R i u = turnM xs R i u := by rw [upT, if_pos hn]
    rw [← e]; exact top_up h hpr hq hi hu
  · rw [turn_zero hu hn]
  · have e : upT xs R i (turnM xs R i u) = u := by rw [upT, if_pos (by rw [gi_turn_own h hi]; omega), turn_twice h hi hu]
    rw [← top_up h hpr hq hi (turnM_len xs R i u), e]
/-- The second weight has no other signs than the first one. -/
def Cpt (xs : List Int) (R : Nat) (u v : List Int) : Prop := ∀ x, x ∈ posR (trn xs R) R → (dotS x u R < 0 → dotS x v R ≤ 0) ∧ (0 < dotS x u R → 0 ≤ dotS x v R)
theorem cpt_turn {xs u v : List Int} {R i : Nat} (h : CoOk xs R) (hc : Cpt xs R u v) (hi : i < R) : Cpt xs R (turnM xs R i u) (turnM xs R i v) := fun x hx => by
  rw [dot_rfl hi (h.len hx), dot_rfl hi (h.len hx)]
  by_cases e : x = bas R i
  · subst e
    rw [h.clo.own i hi, dot_neg, dot_neg]
    have := hc _ hx
    omega
  · exact hc _ (h.clo.pos x i hi hx e)
theorem cpt_ent {xs u v : List Int} {R i : Nat} (h : CoOk xs R) (hc : Cpt xs R u v) (hi : i < R) : (gi u i < 0 → gi v i ≤ 0) ∧ (0 < gi u i → 0 ≤ gi v i) := by
  have := hc _ (h.mem hi)
  rwa [dot_bas u R i hi R, dot_bas v R i hi R, if_pos hi, if_pos hi] at this
theorem desc_act {xs u : List Int} {R : Nat} {p : List Nat} (h : CoOk xs R) (hd : Desc xs R u p) : ∀ v : List Int, v.length = R → Cpt xs R u v → p.foldl (fun u k => turnM xs R k u) v = upsW xs R p v ∧ Cpt xs R (List.replicate R 1) (upsW xs R p v) := by
  induction hd with
  | nil => exact fun v _ hc => ⟨rfl, hc⟩
  | @cons u i p hi hn hd ih =>
    intro v hv hc
    have e : upT xs R i v = turnM xs R i v := by
      rw [upT]; split
      · rfl
      · have := (cpt_ent h hc hi).1 hn
        rw [turn_zero hv (by omega)]
    have := ih (turnM xs R i v) (turnM_len _ _ _ _) (cpt_turn h hc hi)
    show p.foldl (fun u k => turnM xs R k u) (turnM xs R i v) = upsW xs R p (upT xs R i v) ∧ Cpt xs R (List.replicate R 1) (upsW xs R p (upT xs R i v))
    rw [e]; exact this
/-- The longest word makes of the opposite of a dominant weight what makes it dominant again. -/
theorem dual_act {xs w : List Int} {R : Nat} {rows : List Nat} (h : CoOk xs R) (hpr : Prs xs R) (hd : Desc xs R (List.replicate R (-1)) rows) (hw : w.length = R) (hnn : ∀ k, 0 ≤ gi w k) : rows.reverse.foldl (fun u k => turnM xs R k u) (negL w) = upsW xs R rows (negL w) := by
  have h1 : Desc xs R (List.replicate R (-1)) rows.reverse := by
    have := desc_rev h hd (by simp) (q := []) (by rw [← negL_ones, negL_negL]; exact Desc.nil)
    simpa using this
  have hc : Cpt xs R (List.replicate R (-1)) (negL w) := fun x hx => by
    rw [← negL_ones, dot_negR, dot_negR]
    have e1 := dot_nn (h.clo.nn x hx) hnn R
    have e2 := dot_nn (w := List.replicate R 1) (h.clo.nn x hx) (fun k => by simp only [gi, List.getD_eq_getElem?_getD, List.getElem?_replicate]; split <;> simp) R
    omega
  rw [(desc_act h h1 (negL w) (by rw [negL_length, hw]) hc).1]
  exact desc_same h hpr _ _ rows.reverse rows rfl (img_low h) h1 hd _ (by rw [negL_length, hw])
/-- What a weight climbs to. -/
theorem climb_top {xs : List Int} {R : Nat} {q : List Nat} (h : CoOk xs R) (hpr : Prs xs R) (hq : Desc xs R (List.replicate R (-1)) q) : ∀ (f : Nat) (w d : List Int) (rows : List Nat), climbM xs R f w = some (d, rows) → d.length = R ∧ (∀ k, 0 ≤ gi d k) ∧ upsW xs R q w = d
  | 0, _, _, _, e => by cases e
  | f + 1, w, d, rows, e => by
    rw [climbM] at e
    rcases hl : latB R w with _ | _
    · rw [hl] at e; cases e
    · rw [hl, if_pos rfl] at e
      obtain ⟨hlen, _⟩ := latB_bnd hl
      by_cases hn : negI w < R
      · rw [if_pos hn] at e
        obtain ⟨p, hp, e2⟩ := Option.map_eq_some_iff.1 e
        injection e2 with e2 e3
        have := climb_top h hpr hq f _ d p.2 (by rw [hp, ← e2])
        refine ⟨this.1, this.2.1, ?_⟩
        rw [← top_turn h hpr hq hn hlen]; exact this.2.2
      · rw [if_neg hn] at e
        injection e with e
        injection e with e1 e2
        subst e1
        have h0 : ∀ k, 0 ≤ gi w k := fun k => by
          by_cases hk : k < R
          · have h2 : negI w = w.length := by
              have := List.findIdx_le_length (p := fun n => decide (n < 0)) (xs := w)
              unfold negI at hn ⊢
              omega
            exact negI_before (w := w) (k := k) (by rw [h2]; omega) (by omega)
          · simp only [gi, List.getD_eq_getElem?_getD, List.getElem?_eq_none (show w.length ≤ k by omega), Option.getD_none]
            exact Int.le_refl _
        exact ⟨hlen, h0, upsW_id h0 q⟩
end Go.Proofs.YtlnpaplbcocmkaaGreat
