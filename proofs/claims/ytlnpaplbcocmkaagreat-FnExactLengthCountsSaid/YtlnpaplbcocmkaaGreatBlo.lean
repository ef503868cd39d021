/-
  Which elements lie below others: what does not depend on the way down. Plain mathematics.
-/
import Derived.Test.YtlnpaplbcocmkaaGreatCnt
namespace Go.Proofs.YtlnpaplbcocmkaaGreat
set_option linter.unusedVariables false
set_option linter.unusedSimpArgs false
set_option maxRecDepth 100000

/-- A weight less x times a column and y times another one. -/
def cmbC (xs : List Int) (R i j : Nat) (w : List Int) (x y : Int) : List Int := (List.range R).map fun k => gi w k - x * gi xs (k * R + i) - y * gi xs (k * R + j)
theorem gi_cmb {xs w : List Int} {R i j k : Nat} {x y : Int} (h : k < R) : gi (cmbC xs R i j w x y) k = gi w k - x * gi xs (k * R + i) - y * gi xs (k * R + j) := by simp [cmbC, gi, h]
theorem cmb_zero {xs w : List Int} {R i j : Nat} (h : w.length = R) : cmbC xs R i j w 0 0 = w := by
  apply List.ext_getElem
  · simp [cmbC, h]
  · intro k h1 h2
    simp [cmbC, gi, h2]
theorem turn_cmb1 {xs w : List Int} {R i j : Nat} {x y : Int} : turnM xs R i (cmbC xs R i j w x y) = cmbC xs R i j w (x + gi (cmbC xs R i j w x y) i) y := by
  rw [turnM, cmbC]
  refine List.map_congr_left (fun k hk => ?_)
  have hk := List.mem_range.1 hk
  rw [← cmbC, gi_cmb hk, Int.add_mul]
  omega
theorem turn_cmb2 {xs w : List Int} {R i j : Nat} {x y : Int} : turnM xs R j (cmbC xs R i j w x y) = cmbC xs R i j w x (y + gi (cmbC xs R i j w x y) j) := by
  rw [turnM, cmbC]
  refine List.map_congr_left (fun k hk => ?_)
  have hk := List.mem_range.1 hk
  rw [← cmbC, gi_cmb hk, Int.add_mul]
  omega
/-- A turn where it makes more of a weight. -/
def upT (xs : List Int) (R i : Nat) (w : List Int) : List Int := if gi w i < 0 then turnM xs R i w else w
/-- Turns of two rows by turns, counted by columns; p, q: the two numbers; a, b: the two numbers of the matrix. -/
def dih (p q a b : Int) : Nat → Bool → Int → Int → Int × Int
  | 0, _, x, y => (x, y)
  | n + 1, true, x, y => dih p q a b n false (if p - 2 * x - b * y < 0 then x + (p - 2 * x - b * y) else x) y
  | n + 1, false, x, y => dih p q a b n true x (if q - a * x - 2 * y < 0 then y + (q - a * x - 2 * y) else y)
/-- All of these turns make more. -/
def dihN (p q a b : Int) : Nat → Bool → Int → Int → Prop
  | 0, _, _, _ => True
  | n + 1, true, x, y => p - 2 * x - b * y < 0 ∧ dihN p q a b n false (x + (p - 2 * x - b * y)) y
  | n + 1, false, x, y => q - a * x - 2 * y < 0 ∧ dihN p q a b n true x (y + (q - a * x - 2 * y))
/-- The rows by turns. -/
def alt (i j : Nat) : Nat → Bool → List Nat
  | 0, _ => []
  | n + 1, true => i :: alt i j n false
  | n + 1, false => j :: alt i j n true
/-- How often two rows stand by turns in the longest word of both. -/
def mOf (a b : Int) : Nat := if a * b = 0 then 2 else if a * b = 1 then 3 else if a * b = 2 then 4 else 6
def typeB (a b : Int) : Bool := (a == 0 && b == 0) || (a == -1 && b == -1) || (a == -1 && b == -2) || (a == -2 && b == -1) || (a == -1 && b == -3) || (a == -3 && b == -1)
set_option maxHeartbeats 4000000 in
theorem dih_braid {p q a b : Int} (h : typeB a b = true) : dih p q a b (mOf a b) true 0 0 = dih p q a b (mOf a b) false 0 0 := by
  simp only [typeB, Bool.or_eq_true, Bool.and_eq_true, beq_iff_eq] at h
  rcases h with ((((⟨rfl, rfl⟩ | ⟨rfl, rfl⟩) | ⟨rfl, rfl⟩) | ⟨rfl, rfl⟩) | ⟨rfl, rfl⟩) | ⟨rfl, rfl⟩
  · refine Prod.ext ?_ ?_ <;> simp only [mOf, dih, Int.mul_zero, Int.zero_mul, Int.sub_zero, if_true] <;> (repeat' (first | omega | split))
  · refine Prod.ext ?_ ?_ <;> simp only [show mOf (-1) (-1) = 3 from rfl, dih] <;> (repeat' (first | omega | split))
  · refine Prod.ext ?_ ?_ <;> simp only [show mOf (-1) (-2) = 4 from rfl, dih] <;> (repeat' (first | omega | split))
  · refine Prod.ext ?_ ?_ <;> simp only [show mOf (-2) (-1) = 4 from rfl, dih] <;> (repeat' (first | omega | split))
  · refine Prod.ext ?_ ?_ <;> simp only [show mOf (-1) (-3) = 6 from rfl, dih] <;> (repeat' (first | omega | split))
  · refine Prod.ext ?_ ?_ <;> simp only [show mOf (-3) (-1) = 6 from rfl, dih] <;> (repeat' (first | omega | split))
theorem dih_neg {p q a b : Int} (h : typeB a b = true) (hp : p < 0) (hq : q < 0) : dihN p q a b (mOf a b) true 0 0 ∧ dihN p q a b (mOf a b) false 0 0 := by
  simp only [typeB, Bool.or_eq_true, Bool.and_eq_true, beq_iff_eq] at h
  rcases h with ((((⟨rfl, rfl⟩ | ⟨rfl, rfl⟩) | ⟨rfl, rfl⟩) | ⟨rfl, rfl⟩) | ⟨rfl, rfl⟩) | ⟨rfl, rfl⟩
  · simp only [show mOf 0 0 = 2 from rfl, dihN]; (repeat' (first | trivial | apply And.intro)) <;> omega
  · simp only [show mOf (-1) (-1) = 3 from rfl, dihN]; (repeat' (first | trivial | apply And.intro)) <;> omega
  · simp only [show mOf (-1) (-2) = 4 from rfl, dihN]; (repeat' (first | trivial | apply And.intro)) <;> omega
  · simp only [show mOf (-2) (-1) = 4 from rfl, dihN]; (repeat' (first | trivial | apply And.intro)) <;> omega
  · simp only [show mOf (-1) (-3) = 6 from rfl, dihN]; (repeat' (first | trivial | apply And.intro)) <;> omega
  · simp only [show mOf (-3) (-1) = 6 from rfl, dihN]; (repeat' (first | trivial | apply And.intro)) <;> omega
def prsB (xs : List Int) (R : Nat) : Bool := (List.range R).all fun i => (List.range R).all fun j => i == j || typeB (gi xs (j * R + i)) (gi xs (i * R + j))
theorem prs_1 : tab1.all (fun t => prsB t.1 1) = true := by decide +kernel
theorem prs_2 : tab2.all (fun t => prsB t.1 2) = true := by decide +kernel
theorem prs_3 : tab3.all (fun t => prsB t.1 3) = true := by decide +kernel
theorem prs_4 : tab4.all (fun t => prsB t.1 4) = true := by decide +kernel
theorem prs_tab {R : Nat} {xs : List Int} {v : List Nat × List Int} (h0 : 0 < R) (hR : R ≤ 4) (h : tabGet R xs = some v) : ∀ i j, i < R → j < R → i ≠ j → typeB (gi xs (j * R + i)) (gi xs (i * R + j)) = true := by
  have h1 : (tab R).all (fun t => prsB t.1 R) = true := by
    match R, h0, hR with
    | 1, _, _ => exact prs_1
    | 2, _, _ => exact prs_2
    | 3, _, _ => exact prs_3
    | 4, _, _ => exact prs_4
  have h2 := List.all_eq_true.1 h1 _ (tabGet_mem h)
  simp only [prsB, List.all_eq_true, List.mem_range, Bool.or_eq_true, beq_iff_eq] at h2
  intro i j hi hj hne
  rcases h2 i hi j hj with e | e
  · exact absurd e hne
  · exact e
/-- Turns by turns, as columns count them. -/
theorem alt_dih {xs w : List Int} {R i j : Nat} (hi : i < R) (hj : j < R) (hii : gi xs (i * R + i) = 2) (hjj : gi xs (j * R + j) = 2) : ∀ (n : Nat) (t : Bool) (x y : Int), (alt i j n t).foldl (fun u k => upT xs R k u) (cmbC xs R i j w x y) = cmbC xs R i j w (dih (gi w i) (gi w j) (gi xs (j * R + i)) (gi xs (i * R + j)) n t x y).1 (dih (gi w i) (gi w j) (gi xs (j * R + i)) (gi xs (i * R + j)) n t x y).2
  | 0, _, _, _ => rfl
  | n + 1, true, x, y => by
    rw [alt, List.foldl_cons, dih]
    have hc : gi (cmbC xs R i j w x y) i = gi w i - 2 * x - gi xs (i * R + j) * y := by rw [gi_cmb hi, hii, Int.mul_comm x, Int.mul_comm y]
    have e : upT xs R i (cmbC xs R i j w x y) = cmbC xs R i j w (if gi w i - 2 * x - gi xs (i * R + j) * y < 0 then x + (gi w i - 2 * x - gi xs (i * R + j) * y) else x) y := by
      rw [upT, turn_cmb1, hc]
      split <;> rfl
    rw [e]
    exact alt_dih hi hj hii hjj n false _ y
  | n + 1, false, x, y => by
    rw [alt, List.foldl_cons, dih]
    have hc : gi (cmbC xs R i j w x y) j = gi w j - gi xs (j * R + i) * x - 2 * y := by rw [gi_cmb hj, hjj, Int.mul_comm x, Int.mul_comm y]
    have e : upT xs R j (cmbC xs R i j w x y) = cmbC xs R i j w x (if gi w j - gi xs (j * R + i) * x - 2 * y < 0 then y + (gi w j - gi xs (j * R + i) * x - 2 * y) else y) := by
      rw [upT, turn_cmb2, hc]
      split <;> rfl
    rw [e]
    exact alt_dih hi hj hii hjj n true x _
/-- Rows that lead from a weight to the ones, each at a number below 0. -/
inductive Desc (xs : List Int) (R : Nat) : List Int → List Nat → Prop where
  | nil : Desc xs R (List.replicate R 1) []
  | cons : ∀ {v : List Int} {i : Nat} {p : List Nat}, i < R → gi v i < 0 → Desc xs R (turnM xs R i v) p → Desc xs R v (i :: p)
theorem desc_alt {xs w : List Int} {R i j : Nat} {r : List Nat} (hi : i < R) (hj : j < R) (hii : gi xs (i * R + i) = 2) (hjj : gi xs (j * R + j) = 2) : ∀ (n : Nat) (t : Bool) (x y : Int), dihN (gi w i) (gi w j) (gi xs (j * R + i)) (gi xs (i * R + j)) n t x y → Desc xs R ((alt i j n t).foldl (fun u k => upT xs R k u) (cmbC xs R i j w x y)) r → Desc xs R (cmbC xs R i j w x y) (alt i j n t ++ r)
  | 0, _, _, _, _, hd => hd
  | n + 1, true, x, y, h, hd => by
    have hc : gi (cmbC xs R i j w x y) i = gi w i - 2 * x - gi xs (i * R + j) * y := by rw [gi_cmb hi, hii, Int.mul_comm x, Int.mul_comm y]
    have hn : gi (cmbC xs R i j w x y) i < 0 := by rw [hc]; exact h.1
    have e : upT xs R i (cmbC xs R i j w x y) = cmbC xs R i j w (x + (gi w i - 2 * x - gi xs (i * R + j) * y)) y := by rw [upT, if_pos hn, turn_cmb1, hc]
    rw [alt, List.foldl_cons, e] at hd
    refine Desc.cons hi hn ?_
    rw [turn_cmb1, hc]
    exact desc_alt hi hj hii hjj n false _ y h.2 hd
  | n + 1, false, x, y, h, hd => by
    have hc : gi (cmbC xs R i j w x y) j = gi w j - gi xs (j * R + i) * x - 2 * y := by rw [gi_cmb hj, hjj, Int.mul_comm x, Int.mul_comm y]
    have hn : gi (cmbC xs R i j w x y) j < 0 := by rw [hc]; exact h.1
    have e : upT xs R j (cmbC xs R i j w x y) = cmbC xs R i j w x (y + (gi w j - gi xs (j * R + i) * x - 2 * y)) := by rw [upT, if_pos hn, turn_cmb2, hc]
    rw [alt, List.foldl_cons, e] at hd
    refine Desc.cons hj hn ?_
    rw [turn_cmb2, hc]
    exact desc_alt hi hj hii hjj n true x _ h.2 hd
theorem upT_img {xs w : List Int} {R i : Nat} (h : CoOk xs R) (hw : Img xs R w) (hi : i < R) : Img xs R (upT xs R i w) := by
  rw [upT]; split
  · exact img_turn h hw hi
  · exact hw
theorem alt_lt {i j R : Nat} (hi : i < R) (hj : j < R) : ∀ (n : Nat) (t : Bool) (k : Nat), k ∈ alt i j n t → k < R
  | 0, _, _, h => by cases h
  | n + 1, true, k, h => by
    rw [alt] at h
    rcases List.mem_cons.1 h with e | e
    · omega
    · exact alt_lt hi hj n false k e
  | n + 1, false, k, h => by
    rw [alt] at h
    rcases List.mem_cons.1 h with e | e
    · omega
    · exact alt_lt hi hj n true k e
theorem fold_img {xs : List Int} {R : Nat} (h : CoOk xs R) : ∀ (p : List Nat) (w : List Int), (∀ k, k ∈ p → k < R) → Img xs R w → Img xs R (p.foldl (fun u k => upT xs R k u) w)
  | [], _, _, hw => hw
  | i :: p, w, hp, hw => fold_img h p _ (fun k hk => hp k (List.mem_cons_of_mem _ hk)) (upT_img h hw (hp i List.mem_cons_self))
/-- An image that is not the ones has a number below 0. -/
theorem img_has {xs w : List Int} {R : Nat} (h : CoOk xs R) (hw : Img xs R w) (hn : negC (posR (trn xs R) R) R w ≠ 0) : ∃ i, i < R ∧ gi w i < 0 := by
  apply Classical.byContradiction
  intro hc
  refine hn (negC_nn (xs := xs) (R := R) (w := w) h (fun k => ?_))
  by_cases hk : k < R
  · apply Classical.byContradiction
    intro h2
    exact hc ⟨k, hk, by omega⟩
  · have : gi w k = 0 := by simp only [gi, List.getD_eq_getElem?_getD, List.getElem?_eq_none (show w.length ≤ k by rw [hw.len]; omega), Option.getD_none]
    omega
theorem negC_down {xs w : List Int} {R i : Nat} (h : CoOk xs R) (hi : i < R) (hn : gi w i < 0) : negC (posR (trn xs R) R) R (turnM xs R i w) + 1 = negC (posR (trn xs R) R) R w := by
  have := negC_turn h.clo h.nd hi (w := w)
  rw [if_pos hn, if_neg (by omega)] at this
  omega
theorem desc_ex {xs : List Int} {R : Nat} (h : CoOk xs R) : ∀ (n : Nat) (w : List Int), negC (posR (trn xs R) R) R w = n → Img xs R w → ∃ p, Desc xs R w p := by
  intro n
  induction n with
  | zero => intro w hn hw; exact ⟨[], by rw [img_zero h hw hn]; exact Desc.nil⟩
  | succ n ih =>
    intro w hn hw
    obtain ⟨i, hi, hneg⟩ := img_has h hw (by omega)
    have h1 := negC_down h hi hneg
    obtain ⟨p, hp⟩ := ih _ (by omega) (img_turn h hw hi)
    exact ⟨i :: p, Desc.cons hi hneg hp⟩
theorem ones_no {xs : List Int} {R : Nat} (h : CoOk xs R) : negC (posR (trn xs R) R) R (List.replicate R 1) = 0 := by
  refine negC_nn (xs := xs) (R := R) (w := List.replicate R 1) h (fun k => ?_)
  simp only [gi, List.getD_eq_getElem?_getD, List.getElem?_replicate]
  split <;> simp
theorem desc_zero {xs w : List Int} {R : Nat} {p : List Nat} (h : CoOk xs R) (hn : negC (posR (trn xs R) R) R w = 0) (hd : Desc xs R w p) : p = [] := by
  cases hd with
  | nil => rfl
  | cons hi hneg _ => have := negC_down h hi hneg; omega
/-- Whatever way leads down from an image, the turns that make more of a weight come to the same. -/
theorem desc_same {xs : List Int} {R : Nat} (h : CoOk xs R) (hpr : ∀ i j, i < R → j < R → i ≠ j → typeB (gi xs (j * R + i)) (gi xs (i * R + j)) = true) : ∀ (n : Nat) (v : List Int) (p q : List Nat), negC (posR (trn xs R) R) R v = n → Img xs R v → Desc xs R v p → Desc xs R v q → ∀ u : List Int, u.length = R → p.foldl (fun u k => upT xs R k u) u = q.foldl (fun u k => upT xs R k u) u := by
  intro n
  induction n with
  | zero => intro v p q hn hv hp hq u hu; rw [desc_zero h hn hp, desc_zero h hn hq]
  | succ n ih =>
    intro v p q hn hv hp hq u hu
    cases hp with
    | nil => rw [ones_no h] at hn; omega
    | @cons _ i p' hi hni hp' =>
      cases hq with
      | nil => rw [ones_no h] at hn; omega
      | @cons _ j q' hj hnj hq' =>
        have hui : ∀ k, (upT xs R k u).length = R := fun k => by
          rw [upT]; split
          · exact turnM_len _ _ _ _
          · exact hu
        have d1 := negC_down h hi hni
        have d2 := negC_down h hj hnj
        by_cases e : i = j
        · subst e
          rw [List.foldl_cons, List.foldl_cons]
          exact ih _ p' q' (by omega) (img_turn h hv hi) hp' hq' _ (hui i)
        · have hii : gi xs (i * R + i) = 2 := by have := rclo_two h.clo hi; rwa [gi_trn hi hi] at this
          have hjj : gi xs (j * R + j) = 2 := by have := rclo_two h.clo hj; rwa [gi_trn hj hj] at this
          have ht := hpr i j hi hj e
          obtain ⟨m, hm⟩ : ∃ m, mOf (gi xs (j * R + i)) (gi xs (i * R + j)) = m + 1 := by
            refine ⟨mOf (gi xs (j * R + i)) (gi xs (i * R + j)) - 1, ?_⟩
            have : 1 ≤ mOf (gi xs (j * R + i)) (gi xs (i * R + j)) := by
              unfold mOf; (repeat' split) <;> omega
            omega
          have hz : cmbC xs R i j v 0 0 = v := cmb_zero hv.len
          have hzu : cmbC xs R i j u 0 0 = u := cmb_zero hu
          have hbv : (alt i j (m + 1) true).foldl (fun u k => upT xs R k u) v = (alt i j (m + 1) false).foldl (fun u k => upT xs R k u) v := by
            have h1 := alt_dih (w := v) hi hj hii hjj (m + 1) true 0 0
            have h2 := alt_dih (w := v) hi hj hii hjj (m + 1) false 0 0
            rw [hz] at h1 h2
            rw [h1, h2, ← hm, dih_braid ht]
          have hbu : (alt i j (m + 1) true).foldl (fun u k => upT xs R k u) u = (alt i j (m + 1) false).foldl (fun u k => upT xs R k u) u := by
            have h1 := alt_dih (w := u) hi hj hii hjj (m + 1) true 0 0
            have h2 := alt_dih (w := u) hi hj hii hjj (m + 1) false 0 0
            rw [hzu] at h1 h2
            rw [h1, h2, ← hm, dih_braid ht]
          have hng := dih_neg ht hni hnj
          rw [hm] at hng
          have hiv := fold_img h (alt i j (m + 1) true) v (fun k hk => alt_lt hi hj _ _ k hk) hv
          obtain ⟨r, hr⟩ := desc_ex h _ _ rfl hiv
          have p1 : Desc xs R v (alt i j (m + 1) true ++ r) := by
            have := desc_alt (w := v) (r := r) hi hj hii hjj (m + 1) true 0 0 hng.1 (by rw [hz]; exact hr)
            rwa [hz] at this
          have p2 : Desc xs R v (alt i j (m + 1) false ++ r) := by
            have := desc_alt (w := v) (r := r) hi hj hii hjj (m + 1) false 0 0 hng.2 (by rw [hz, ← hbv]; exact hr)
            rwa [hz] at this
          have e1 : (i :: p').foldl (fun u k => upT xs R k u) u = (alt i j (m + 1) true ++ r).foldl (fun u k => upT xs R k u) u := by
            rw [alt, List.cons_append] at p1 ⊢
            cases p1 with
            | cons _ _ p1 =>
              rw [List.foldl_cons, List.foldl_cons]
              exact ih _ p' _ (by omega) (img_turn h hv hi) hp' p1 _ (hui i)
          have e2 : (j :: q').foldl (fun u k => upT xs R k u) u = (alt i j (m + 1) false ++ r).foldl (fun u k => upT xs R k u) u := by
            rw [alt, List.cons_append] at p2 ⊢
            cases p2 with
            | cons _ _ p2 =>
              rw [List.foldl_cons, List.foldl_cons]
              exact ih _ q' _ (by omega) (img_turn h hv hj) hq' p2 _ (hui j)
          rw [e1, e2, List.foldl_append, List.foldl_append, hbu]
end Go.Proofs.YtlnpaplbcocmkaaGreat
