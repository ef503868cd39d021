/-
  Which elements lie below others: the model.
-/
import Derived.Test.YtlnpaplbcocmkaaGreatBlo
namespace Go.Proofs.YtlnpaplbcocmkaaGreat
set_option linter.unusedVariables false
set_option linter.unusedSimpArgs false

theorem lessR_ne {x y : List Int} (h : lessR x y = true) : x ≠ y := by
  intro e; subst e
  have := lessR_asymm h
  rw [h] at this; cases this
theorem posR_nodup {xs ls : List Int} {R : Nat} (hok : RootsOk xs ls R) : (posR xs R).Nodup := by
  rw [List.Nodup, List.pairwise_iff_getElem]
  intro i j hi hj hij
  have h := hok.sorted i j hij hj
  rw [gl_lt hi, gl_lt hj] at h
  exact lessR_ne h
theorem coOk_tab {R : Nat} {xs : List Int} {v : List Nat × List Int} (h0 : 0 < R) (hR : R ≤ 4) (h : tabGet R xs = some v) : CoOk xs R := by
  obtain ⟨u, hu⟩ := trn_tab h0 hR h
  have hok := rootsOk_tab h0 hR hu
  exact ⟨rclo_tab h0 hR hu, posR_nodup hok, fun x hx => (hok.pos x hx).2.2.2⟩
theorem img_act {xs : List Int} {R : Nat} (h : CoOk xs R) : ∀ x : List Int, rowB R x = true → Img xs R (actM xs R x (List.replicate R 1))
  | [], _ => img_ones h
  | i :: l, hr => by
    rw [rowB, List.all_cons, Bool.and_eq_true] at hr
    have h1 := of_decide_eq_true hr.1
    exact img_turn h (img_act h l hr.2) (by omega)
theorem img_lat {xs w : List Int} {R : Nat} (h : CoOk xs R) (hw : Img xs R w) : latB R w = true :=
  latB_yes hw.len (fun e _ => by have := img_bnd h hw e; omega)
/-- The word of an image leads down. -/
theorem climb_desc {xs hh : List Int} {R : Nat} (hR : R ≤ 4) (hc : Climbs xs hh R) (h : CoOk xs R) : ∀ (n : Nat) (v d : List Int) (rows : List Nat), negC (posR (trn xs R) R) R v = n → Img xs R v → climbO xs R v = some (d, rows) → Desc xs R v rows := by
  intro n
  induction n with
  | zero =>
    intro v d rows hn hv ho
    have e := img_zero h hv hn
    subst e
    have hnn : negI (List.replicate R (1 : Int)) = (List.replicate R (1 : Int)).length := negI_none (fun e he => by
      simp only [gi, List.getD_eq_getElem?_getD, List.getElem?_replicate]
      split <;> simp)
    rw [climbO_end (img_lat h hv) (by rw [hnn]; simp)] at ho
    injection ho with ho
    injection ho with h1 h2
    subst h2
    exact Desc.nil
  | succ n ih =>
    intro v d rows hn hv ho
    have hl := img_lat h hv
    by_cases hi : negI v < R
    · have hneg := negI_lt (w := v) (by rw [hv.len]; exact hi)
      rw [climbO_step hR hc hl hi] at ho
      obtain ⟨q, hq, e⟩ := Option.map_eq_some_iff.1 ho
      injection e with e1 e2
      subst e2
      have hd := negC_down h hi hneg
      exact Desc.cons hi hneg (ih _ q.1 q.2 (by omega) (img_turn h hv hi) (by rw [hq]))
    · obtain ⟨i, hiR, hneg⟩ := img_has h hv (by omega)
      have h2 : negI v = v.length := by
        have := List.findIdx_le_length (p := fun n => decide (n < 0)) (xs := v)
        have h3 := hv.len
        unfold negI at hi ⊢
        omega
      have h4 := negI_before (w := v) (k := i) (by rw [h2, hv.len]; exact hiR) (by rw [hv.len]; exact hiR)
      omega
/-- Whether an image lies below another one. -/
def belB (xs : List Int) (R : Nat) (u v : List Int) : Bool := match climbO xs R v with
  | some p => decide (p.2.foldl (fun u k => upT xs R k u) u = List.replicate R 1)
  | none => false
structure BOk (xs hh : List Int) (R : Nat) : Prop where
  le : R ≤ 4
  cl : Climbs xs hh R
  co : CoOk xs R
  pr : ∀ i j, i < R → j < R → i ≠ j → typeB (gi xs (j * R + i)) (gi xs (i * R + j)) = true
theorem climb_img {xs hh v : List Int} {R : Nat} (h : BOk xs hh R) (hv : Img xs R v) : ∃ d rows, climbO xs R v = some (d, rows) := by
  have key : ∀ (N : Nat) (w : List Int), climbN hh w R < N → Img xs R w → ∃ d rows, climbO xs R w = some (d, rows) := by
    intro N
    induction N with
    | zero => intro w hN; exact absurd hN (Nat.not_lt_zero _)
    | succ N ih =>
      intro w hN hw
      have hl := img_lat h.co hw
      have hb := latB_bnd hl
      by_cases hn : negI w < R
      · have h1 := climbN_lt h.le h.cl hn (negI_lt (by omega)) hb.2
        obtain ⟨d, rows, h2⟩ := ih (turnM xs R (negI w) w) (by omega) (img_turn h.co hw hn)
        exact ⟨d, negI w :: rows, by rw [climbO_step h.le h.cl hl hn, h2]; rfl⟩
      · exact ⟨w, [], climbO_end hl hn⟩
  exact key _ v (Nat.lt_succ_self _) hv
theorem belB_rows {xs hh u v d : List Int} {R : Nat} {rows p : List Nat} (h : BOk xs hh R) (hu : u.length = R) (hv : Img xs R v) (hd : Desc xs R v p) : belB xs R u v = decide (p.foldl (fun u k => upT xs R k u) u = List.replicate R 1) := by
  obtain ⟨d, rows, ho⟩ := climb_img h hv
  have hr := climb_desc h.le h.cl h.co _ v d rows rfl hv ho
  rw [belB, ho]
  show decide (rows.foldl (fun u k => upT xs R k u) u = _) = _
  rw [desc_same h.co h.pr _ v rows p rfl hv hr hd u hu]
theorem belB_step {xs hh u v : List Int} {R i : Nat} (h : BOk xs hh R) (hu : u.length = R) (hv : Img xs R v) (hi : i < R) (hn : gi v i < 0) : belB xs R u v = belB xs R (upT xs R i u) (turnM xs R i v) := by
  have ht := img_turn h.co hv hi
  obtain ⟨p, hp⟩ := desc_ex h.co _ _ rfl ht
  have hl : (upT xs R i u).length = R := by
    rw [upT]; split
    · exact turnM_len _ _ _ _
    · exact hu
  rw [belB_rows (d := []) (rows := []) h hu hv (Desc.cons hi hn hp), belB_rows (d := []) (rows := []) h hl ht hp]
  rfl
theorem belB_end {xs hh u v : List Int} {R : Nat} (h : BOk xs hh R) (hu : u.length = R) (hv : Img xs R v) (hn : ∀ e, e < R → 0 ≤ gi v e) : belB xs R u v = decide (u = v) := by
  have h0 : negC (posR (trn xs R) R) R v = 0 := by
    refine negC_nn (xs := xs) (R := R) (w := v) h.co (fun k => ?_)
    by_cases hk : k < R
    · exact hn k hk
    · have : gi v k = 0 := by simp only [gi, List.getD_eq_getElem?_getD, List.getElem?_eq_none (show v.length ≤ k by rw [hv.len]; omega), Option.getD_none]
      omega
  have e := img_zero h.co hv h0
  subst e
  rw [belB_rows (d := []) (rows := []) h hu hv Desc.nil]
  rfl
def isbO (R : Int) (l x z : List Int) : Bool := match carG R l with | some _ => wordB R.toNat x && (wordB R.toNat z && belB l R.toNat (actM l R.toNat x (List.replicate R.toNat 1)) (actM l R.toNat z (List.replicate R.toNat 1))) | none => false
theorem isbO_eq {l x z : List Int} {K : Nat} {v : List Nat × List Int} (hG : carG (K : Int) l = some v) : isbO K l x z = (wordB K x && (wordB K z && belB l K (actM l K x (List.replicate K 1)) (actM l K z (List.replicate K 1)))) := by
  simp only [isbO, hG, Int.toNat_natCast]
theorem bOk_tab {R : Nat} {xs hh : List Int} {v : List Nat × List Int} (h0 : 0 < R) (hR : R ≤ 4) (h : tabGet R xs = some v) (hc : Climbs xs hh R) : BOk xs hh R := ⟨hR, hc, coOk_tab h0 hR h, prs_tab h0 hR h⟩
theorem negC_lt {xs w : List Int} {R i : Nat} (h : CoOk xs R) (hi : i < R) (hn : gi w i < 0) : negC (posR (trn xs R) R) R (turnM xs R i w) < negC (posR (trn xs R) R) R w := by
  have := negC_down h hi hn
  omega
theorem fold_take {xs u : List Int} {R k : Nat} {rows : List Nat} (hk : k < rows.length) : (rows.take (k + 1)).foldl (fun u k => upT xs R k u) u = upT xs R (rows.getD k 0) ((rows.take k).foldl (fun u k => upT xs R k u) u) := by
  rw [List.take_succ_eq_append_getElem hk, List.foldl_append]
  simp [List.getD_eq_getElem?_getD, hk]
theorem desc_lt {xs v : List Int} {R : Nat} {p : List Nat} (h : Desc xs R v p) : ∀ k, k < p.length → p.getD k 0 < R := by
  induction h with
  | nil => intro k hk; simp at hk
  | @cons v i p hi hn hp ih =>
    intro k hk
    cases k with
    | zero => exact hi
    | succ k => simp only [List.length_cons] at hk; simpa using ih k (by omega)
end Go.Proofs.YtlnpaplbcocmkaaGreat
