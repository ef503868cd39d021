/-
  Orbits of dominant weights: no more weights than images of the ones. Plain mathematics.
-/
import Derived.Test.YtlnpaplbcocmkaaGreatBl
import Derived.Test.YtlnpaplbcocmkaaGreatLs
import Derived.Test.YtlnpaplbcocmkaaGreatSrt5
import Derived.Test.YtlnpaplbcocmkaaGreatRwR5
import Derived.Test.YtlnpaplbcocmkaaGreatRev
import Derived.Test.YtlnpaplbcocmkaaGreatOp
namespace Go.Proofs.YtlnpaplbcocmkaaGreat
set_option linter.unusedVariables false
set_option linter.unusedSimpArgs false
set_option maxRecDepth 100000

/-- The same turns of the ones and of a dominant weight. -/
inductive Pair (xs : List Int) (R : Nat) (d : List Int) : List Int → List Int → Prop where
  | nil : Pair xs R d (List.replicate R 1) d
  | cons : ∀ {u v : List Int} {i : Nat}, i < R → Pair xs R d u v → Pair xs R d (turnM xs R i u) (turnM xs R i v)
theorem pair_img {xs d u v : List Int} {R : Nat} (h : CoOk xs R) (hl : d.length = R) (hp : Pair xs R d u v) : Img xs R u ∧ v.length = R := by
  induction hp with
  | nil => exact ⟨img_ones h, hl⟩
  | cons hi hp ih => exact ⟨img_turn h ih.1 hi, turnM_len _ _ _ _⟩
theorem pair_cpt {xs d u v : List Int} {R : Nat} (h : CoOk xs R) (hd : ∀ k, 0 ≤ gi d k) (hp : Pair xs R d u v) : Cpt xs R u v := by
  induction hp with
  | nil =>
    intro x hx
    have e1 := dot_nn (h.clo.nn x hx) hd R
    have e2 := dot_nn (w := List.replicate R 1) (h.clo.nn x hx) (fun k => by simp only [gi, List.getD_eq_getElem?_getD, List.getElem?_replicate]; split <;> simp) R
    omega
  | cons hi hp ih => exact cpt_turn h ih hi
theorem pair_top {xs d u v : List Int} {R : Nat} {q : List Nat} (h : CoOk xs R) (hpr : Prs xs R) (hq : Desc xs R (List.replicate R (-1)) q) (hl : d.length = R) (hp : Pair xs R d u v) : upsW xs R q v = upsW xs R q d := by
  induction hp with
  | nil => rfl
  | cons hi hp ih => rw [top_turn h hpr hq hi (pair_img h hl hp).2]; exact ih
theorem low_desc {xs : List Int} {R : Nat} (h : CoOk xs R) : ∃ q, Desc xs R (List.replicate R (-1)) q := desc_ex h _ _ rfl (img_low h)
/-- The second weight of a pair is one only. -/
theorem pair_one {xs d : List Int} {R : Nat} (h : CoOk xs R) (hpr : Prs xs R) (hd : ∀ k, 0 ≤ gi d k) (hl : d.length = R) : ∀ (n : Nat) (u v v' : List Int), negC (posR (trn xs R) R) R u = n → Pair xs R d u v → Pair xs R d u v' → v = v' := by
  intro n
  obtain ⟨q, hq⟩ := low_desc h
  induction n with
  | zero =>
    intro u v v' hn hp hp'
    have hu := img_zero h (pair_img h hl hp).1 hn
    have key : ∀ v, Pair xs R d u v → v = d := fun v hp => by
      have hc := pair_cpt h hd hp
      have hvl := (pair_img h hl hp).2
      have hnn : ∀ k, 0 ≤ gi v k := fun k => by
        by_cases hk : k < R
        · exact (cpt_ent h hc hk).2 (by rw [hu, gi_one hk]; omega)
        · simp only [gi, List.getD_eq_getElem?_getD, List.getElem?_eq_none (show v.length ≤ k by omega), Option.getD_none]
          exact Int.le_refl _
      have h1 := pair_top h hpr hq hl hp
      rwa [upsW_id hnn, upsW_id hd] at h1
    rw [key v hp, key v' hp']
  | succ n ih =>
    intro u v v' hn hp hp'
    obtain ⟨i, hi, hneg⟩ := img_has h (pair_img h hl hp).1 (by omega)
    have h1 := negC_down h hi hneg
    have h2 := ih (turnM xs R i u) (turnM xs R i v) (turnM xs R i v') (by omega) (Pair.cons hi hp) (Pair.cons hi hp')
    have h3 := congrArg (turnM xs R i) h2
    rwa [turn_twice h hi (pair_img h hl hp).2, turn_twice h hi (pair_img h hl hp').2] at h3
/-- The entries of an orbit: each goes with an image, its word as long as coroots are below 0. -/
theorem orb_pair {xs d : List Int} {R k : Nat} {l : List (List Int × List Int)} (h : CoOk xs R) (hd : ∀ k, 0 ≤ gi d k) (hl : d.length = R) (ho : OrbOk xs R d k l) : ∀ c, c ∈ l → (∃ u, Pair xs R d u c.1) ∧ negC (posR (trn xs R) R) R c.1 = c.2.length := by
  have key : ∀ n, ∀ c, c ∈ l → c.2.length = n → (∃ u, Pair xs R d u c.1) ∧ negC (posR (trn xs R) R) R c.1 = c.2.length := by
    intro n
    induction n with
    | zero =>
      intro c hc hn
      rcases ho.par c hc with rfl | ⟨j, e, hj, hje, hjc⟩
      · exact ⟨⟨_, Pair.nil⟩, negC_nn h hd⟩
      · have := chl_len hjc; omega
    | succ n ih =>
      intro c hc hn
      rcases ho.par c hc with rfl | ⟨j, e, hj, hje, hjc⟩
      · simp at hn
      · have h1 := chl_len hjc
        obtain ⟨i, hi, hin, rfl⟩ := mem_chl.1 hjc
        have hem : e ∈ l := by
          obtain ⟨h2, h3⟩ := List.getElem?_eq_some_iff.1 hje
          rw [← h3]; exact List.getElem_mem h2
        obtain ⟨⟨u, h2⟩, h3⟩ := ih e hem (by omega)
        have h5 : gi (turnM xs R i e.1) i < 0 := by
          have := negI_lt (w := turnM xs R i e.1) (by rw [hin, turnM_len]; exact hi)
          rwa [hin] at this
        have h6 := negC_down h hi h5
        rw [turn_twice h hi (pair_img h hl h2).2] at h6
        exact ⟨⟨_, Pair.cons hi h2⟩, by simp only [List.length_cons]; omega⟩
  exact fun c hc => key _ c hc rfl
noncomputable def pairU (xs : List Int) (R : Nat) (d v : List Int) : List Int := open Classical in if h : ∃ u, Pair xs R d u v then Classical.choose h else []
theorem pairU_at {xs d v : List Int} {R : Nat} (h : ∃ u, Pair xs R d u v) : Pair xs R d (pairU xs R d v) v := by
  rw [pairU, dif_pos h]; exact Classical.choose_spec h
theorem orbd_bnd {xs d : List Int} {R k : Nat} {l : List (List Int × List Int)} (hR : R ≤ 4) (h : CoOk xs R) (hpr : Prs xs R) (hd : ∀ k, 0 ≤ gi d k) (hl : d.length = R) (ho : OrbOk xs R d k l) : l.length ≤ 390625 := by
  have hp : ∀ c, c ∈ l → Pair xs R d (pairU xs R d c.1) c.1 := fun c hc => pairU_at (orb_pair h hd hl ho c hc).1
  have hnd : ((l.map (·.1)).map (pairU xs R d)).Nodup := by
    have h1 := ho.nd
    rw [List.Nodup, List.pairwise_map]
    refine List.Pairwise.imp_of_mem ?_ h1
    intro a b ha hb hab e
    obtain ⟨c, hc, rfl⟩ := List.mem_map.1 ha
    obtain ⟨c', hc', rfl⟩ := List.mem_map.1 hb
    have h2 := hp c hc
    have h3 := hp c' hc'
    rw [e] at h2
    exact hab (pair_one h hpr hd hl _ _ _ _ rfl h2 h3)
  have h1 := nodup_le (b := cube R) hnd (fun y hy => by
    obtain ⟨v, hv, rfl⟩ := List.mem_map.1 hy
    obtain ⟨c, hc, rfl⟩ := List.mem_map.1 hv
    have hi := (pair_img h hl (hp c hc)).1
    have hb := img_bnd h hi
    generalize pairU xs R d c.1 = u at hi hb ⊢
    rw [← hi.len]
    refine mem_cube fun x hx => ?_
    obtain ⟨e, he, rfl⟩ := List.mem_iff_getElem.1 hx
    have := hb e
    rwa [gi_lt5 he] at this)
  rw [List.length_map, List.length_map, cube_len] at h1
  have : 25 ^ R ≤ 25 ^ 4 := Nat.pow_le_pow_right (by omega) hR
  omega
theorem negC_dom {xs v : List Int} {R : Nat} (h : CoOk xs R) (hl : v.length = R) (hn : negC (posR (trn xs R) R) R v = 0) : ∀ k, 0 ≤ gi v k := fun k => by
  by_cases hk : k < R
  · have h1 := List.countP_eq_zero.1 hn _ (h.mem hk)
    rw [dot_bas v R k hk R, if_pos hk] at h1
    simpa using h1
  · simp only [gi, List.getD_eq_getElem?_getD, List.getElem?_eq_none (show v.length ≤ k by omega), Option.getD_none]
    exact Int.le_refl _
/-- Behind all entries each weight is there that climbs to the dominant one. -/
theorem orbd_all {xs d : List Int} {R k : Nat} {l : List (List Int × List Int)} {q : List Nat} (h : CoOk xs R) (hpr : Prs xs R) (hq : Desc xs R (List.replicate R (-1)) q) (hd : ∀ k, 0 ≤ gi d k) (ho : OrbOk xs R d k l) (hk : k = l.length) : ∀ n v, v.length = R → negC (posR (trn xs R) R) R v = n → upsW xs R q v = d → ∃ p, (v, p) ∈ l := by
  intro n
  induction n with
  | zero =>
    intro v hv hn ht
    rw [upsW_id (negC_dom h hv hn)] at ht
    subst ht
    obtain ⟨h1, h2⟩ := List.getElem?_eq_some_iff.1 ho.head
    exact ⟨[], by rw [← h2]; exact List.getElem_mem h1⟩
  | succ n ih =>
    intro v hv hn ht
    have hlt : negI v < v.length := by
      apply Classical.byContradiction
      intro hc
      have h0 : ∀ k, 0 ≤ gi v k := fun k => by
        by_cases hk : k < R
        · exact negI_before (w := v) (k := k) (by omega) (by omega)
        · simp only [gi, List.getD_eq_getElem?_getD, List.getElem?_eq_none (show v.length ≤ k by omega), Option.getD_none]
          exact Int.le_refl _
      have := negC_nn (xs := xs) (R := R) (w := v) h h0
      omega
    have hi : negI v < R := by omega
    have h1 := negC_down h hi (negI_lt hlt)
    obtain ⟨p, hp⟩ := ih _ (turnM_len xs R (negI v) v) (by omega) (by rw [top_turn h hpr hq hi hv]; exact ht)
    exact ⟨_, orb_closed h ho hk hv hi rfl hp⟩
end Go.Proofs.YtlnpaplbcocmkaaGreat

/-
  The orbit of a weight, as both texts find it. Plain mathematics.
-/
namespace Go.Proofs.YtlnpaplbcocmkaaGreat
set_option linter.unusedVariables false
set_option linter.unusedSimpArgs false
set_option maxRecDepth 100000

/-- The orbit that the program finds, at the end. -/
def orbF (xs : List Int) (R : Nat) (d : List Int) : List (List Int × List Int) := orbL xs R d 390626
theorem orbL_stop {xs d : List Int} {R N : Nat} (h : (orbL xs R d N).length ≤ N) : ∀ k, orbL xs R d (N + k) = orbL xs R d N
  | 0 => rfl
  | k + 1 => by
    have ih := orbL_stop h k
    rw [← Nat.add_assoc, orbL, ih, List.getElem?_eq_none (by omega), List.append_nil]
theorem orbF_at {xs d : List Int} {R N : Nat} (h : (orbL xs R d N).length = N) (hN : N ≤ 390625) : orbL xs R d N = orbF xs R d := by
  have := orbL_stop (xs := xs) (d := d) (R := R) (N := N) (by omega) (390626 - N)
  rw [orbF, show 390626 = N + (390626 - N) by omega, this]
/-- Lists in descending order, each once. -/
def srtA (l : List (List Int)) : List (List Int) := l.foldr insA []
theorem srtA_ok : ∀ l : List (List Int), (srtA l).Pairwise (fun a b => abvB a b = true) ∧ ∀ v, v ∈ srtA l ↔ v ∈ l
  | [] => ⟨List.Pairwise.nil, fun v => by simp [srtA]⟩
  | x :: l => by
    obtain ⟨h1, h2⟩ := srtA_ok l
    refine ⟨insA_sorted h1, fun v => ?_⟩
    show v ∈ insA x (srtA l) ↔ _
    rw [mem_insA, h2, List.mem_cons]
theorem sortA_one {a b : List (List Int)} (ha : a.Pairwise (fun a b => abvB a b = true)) (hb : b.Pairwise (fun a b => abvB a b = true)) (h : ∀ v, v ∈ a ↔ v ∈ b) : a = b := by
  have hp : a.Perm b := by
    have h1 := nodup_le (sorted_nodup hb) (fun y hy => (h y).2 hy)
    exact perm_of_sub (sorted_nodup ha) (fun y hy => (h y).1 hy) h1
  refine List.Perm.eq_of_pairwise (le := fun a b => abvB a b = true) (fun x y hx hy h1 h2 => ?_) ha hb hp
  have := abv_trans h1 h2
  rw [abv_irr] at this; cases this
/-- The orbit of a weight. -/
def orbO (xs : List Int) (R : Nat) (w : List Int) : List (List Int) := match climbO xs R w with
  | some (d, _) => if ((orbF xs R d).map (·.1)).all (latB R) && decide ((orbF xs R d).length ≤ 1200) then srtA ((orbF xs R d).map (·.1)) else []
  | none => []
/-- What is known of the orbit that a dominant weight has. -/
structure OrbE (xs : List Int) (R : Nat) (d : List Int) (q : List Nat) : Prop where
  le : (orbF xs R d).length ≤ 390625
  nd : ((orbF xs R d).map (·.1)).Nodup
  mem : ∀ v, v ∈ (orbF xs R d).map (·.1) ↔ v.length = R ∧ upsW xs R q v = d
theorem orbE_of {xs d : List Int} {R : Nat} {q : List Nat} (hR : R ≤ 4) (h : CoOk xs R) (hpr : Prs xs R) (hq : Desc xs R (List.replicate R (-1)) q) (hd : ∀ k, 0 ≤ gi d k) (hl : d.length = R) : OrbE xs R d q := by
  have hb : ∀ k, k ≤ (orbL xs R d k).length → (orbL xs R d k).length ≤ 390625 := fun k hk => orbd_bnd hR h hpr hd hl (orb_ok h hd hl k hk)
  obtain ⟨N, hN⟩ : ∃ N, (orbL xs R d N).length = N := by
    apply Classical.byContradiction
    intro hc
    have key : ∀ k, k < (orbL xs R d k).length := by
      intro k
      induction k with
      | zero => show 0 < ([(d, [])] : List (List Int × List Int)).length; simp
      | succ k ih =>
        have h1 : (orbL xs R d k).length ≤ (orbL xs R d (k + 1)).length := by rw [orbL]; simp
        have h2 : (orbL xs R d (k + 1)).length ≠ k + 1 := fun e => hc ⟨_, e⟩
        omega
    have := key 390626
    have := hb 390626 (by omega)
    omega
  have hN2 : N ≤ 390625 := by have := hb N (by omega); omega
  have e := orbF_at hN hN2
  have ho := orb_ok h hd hl N (by omega)
  rw [e] at ho hN
  refine ⟨by omega, ho.nd, fun v => ⟨fun hv => ?_, fun ⟨h1, h2⟩ => ?_⟩⟩
  · obtain ⟨c, hc, rfl⟩ := List.mem_map.1 hv
    obtain ⟨⟨u, hu⟩, _⟩ := orb_pair h hd hl ho c hc
    refine ⟨(pair_img h hl hu).2, ?_⟩
    rw [pair_top h hpr hq hl hu, upsW_id hd]
  · obtain ⟨p, hp⟩ := orbd_all h hpr hq hd ho hN.symm _ v h1 rfl h2
    exact List.mem_map.2 ⟨_, hp, rfl⟩
/-- What the specification knows of its orbit behind k weights and i rows of the next one. -/
structure OrbS (xs : List Int) (R : Nat) (q : List Nat) (w : List Int) (k i : Nat) (T L : List (List Int)) : Prop where
  sr : L.Pairwise (fun a b => abvB a b = true)
  eqv : ∀ v, v ∈ L ↔ v ∈ T
  nd : T.Nodup
  head : w ∈ T
  lat : ∀ v, v ∈ T → latB R v = true ∧ upsW xs R q v = upsW xs R q w
  row : ∀ j v, j < k → T[j]? = some v → ∀ e, e < R → turnM xs R e v ∈ T
  now : ∀ v, T[k]? = some v → ∀ e, e < i → turnM xs R e v ∈ T
  small : L.length ≤ 1200
theorem orbS_start {xs w : List Int} {R : Nat} {q : List Nat} (hw : latB R w = true) : OrbS xs R q w 0 0 [w] [w] where
  sr := by simp
  eqv := fun v => Iff.rfl
  nd := by simp
  head := by simp
  lat := fun v hv => by rw [List.mem_singleton] at hv; subst hv; exact ⟨hw, rfl⟩
  row := fun j v hj => by omega
  now := fun v _ e he => by omega
  small := by simp
theorem orbS_len {xs w : List Int} {R k i : Nat} {q : List Nat} {T L : List (List Int)} (h : OrbS xs R q w k i T L) : T.length = L.length := by
  have h1 := nodup_le h.nd (fun y hy => (h.eqv y).2 hy)
  have h2 := nodup_le (sorted_nodup h.sr) (fun y hy => (h.eqv y).1 hy)
  omega
theorem orbS_next {xs w : List Int} {R k : Nat} {q : List Nat} {T L : List (List Int)} (h : OrbS xs R q w k R T L) : OrbS xs R q w (k + 1) 0 T L where
  sr := h.sr
  eqv := h.eqv
  nd := h.nd
  head := h.head
  lat := h.lat
  row := fun j v hj hv e he => by
    by_cases e' : j = k
    · subst e'; exact h.now v hv e he
    · exact h.row j v (by omega) hv e he
  now := fun v _ e he => by omega
  small := h.small
theorem orbS_old {xs w v : List Int} {R k i : Nat} {q : List Nat} {T L : List (List Int)} (h : OrbS xs R q w k i T L) (hv : T[k]? = some v) (hx : turnM xs R i v ∈ L) : OrbS xs R q w k (i + 1) T L where
  sr := h.sr
  eqv := h.eqv
  nd := h.nd
  head := h.head
  lat := h.lat
  row := h.row
  now := fun u hu e he => by
    rw [hv] at hu; injection hu with hu; subst hu
    by_cases e' : e = i
    · subst e'; exact (h.eqv _).1 hx
    · exact h.now v hv e (by omega)
  small := h.small
theorem orbS_new {xs w v : List Int} {R k i : Nat} {q : List Nat} {T L : List (List Int)} (hc : CoOk xs R) (hpr : Prs xs R) (hq : Desc xs R (List.replicate R (-1)) q) (h : OrbS xs R q w k i T L) (hi : i < R) (hv : T[k]? = some v) (hx : turnM xs R i v ∉ L) (hl : latB R (turnM xs R i v) = true) (hs : (insA (turnM xs R i v) L).length ≤ 1200) : OrbS xs R q w k (i + 1) (T ++ [turnM xs R i v]) (insA (turnM xs R i v) L) where
  sr := insA_sorted h.sr
  eqv := fun u => by rw [mem_insA, List.mem_append, List.mem_singleton, h.eqv]; exact Or.comm
  nd := by
    rw [List.nodup_append]
    refine ⟨h.nd, by simp, fun a ha b hb => ?_⟩
    rw [List.mem_singleton] at hb
    subst hb
    rintro rfl
    exact hx ((h.eqv _).2 ha)
  head := List.mem_append_left _ h.head
  lat := fun u hu => by
    rcases List.mem_append.1 hu with hu | hu
    · exact h.lat u hu
    · rw [List.mem_singleton] at hu
      subst hu
      have hm := (h.lat v (List.mem_of_getElem? hv))
      exact ⟨hl, by rw [top_turn hc hpr hq hi (latB_bnd hm.1).1]; exact hm.2⟩
  row := fun j u hj hu e he => by
    rw [List.getElem?_append_left (by have := (List.getElem?_eq_some_iff.1 hv).1; omega)] at hu
    exact List.mem_append_left _ (h.row j u hj hu e he)
  now := fun u hu e he => by
    rw [List.getElem?_append_left (List.getElem?_eq_some_iff.1 hv).1, hv] at hu
    injection hu with hu
    subst hu
    by_cases e' : e = i
    · subst e'; exact List.mem_append_right _ (List.mem_singleton.2 rfl)
    · exact List.mem_append_left _ (h.now v hv e (by omega))
  small := hs
/-- Behind all weights, the orbit is complete. -/
theorem orbS_done {xs hh w : List Int} {R k : Nat} {q : List Nat} {T L : List (List Int)} (hR : R ≤ 4) (hcl : Climbs xs hh R) (hc : CoOk xs R) (hpr : Prs xs R) (hq : Desc xs R (List.replicate R (-1)) q) (h : OrbS xs R q w k 0 T L) (hk : k = T.length) : orbO xs R w = L := by
  have hcd : ∀ v, v ∈ T → ∀ e, e < R → turnM xs R e v ∈ T := fun v hv e he => by
    obtain ⟨j, hj, rfl⟩ := List.mem_iff_getElem.1 hv
    exact h.row j _ (by omega) (List.getElem?_eq_getElem hj) e he
  have hup : ∀ n v, v ∈ T → negC (posR (trn xs R) R) R v = n → ∃ d rows, climbO xs R v = some (d, rows) ∧ d ∈ T := by
    intro n
    induction n with
    | zero =>
      intro v hv hn
      have hl := (h.lat v hv).1
      have hlen := (latB_bnd hl).1
      have hnn := negC_dom hc hlen hn
      exact ⟨v, [], climbO_end hl (by rw [negI_dom hnn]; omega), hv⟩
    | succ n ih =>
      intro v hv hn
      have hl := (h.lat v hv).1
      have hlen := (latB_bnd hl).1
      by_cases hi : negI v < R
      · have hneg := negI_lt (w := v) (by omega)
        have h1 := negC_down hc hi hneg
        obtain ⟨d, rows, h2, h3⟩ := ih _ (hcd v hv _ hi) (by omega)
        exact ⟨d, negI v :: rows, by rw [climbO_step hR hcl hl hi, h2]; rfl, h3⟩
      · exact ⟨v, [], climbO_end hl hi, hv⟩
  obtain ⟨d, rows, hw, hdT⟩ := hup _ w h.head rfl
  obtain ⟨hdl, hdn, hdt⟩ := climb_top hc hpr hq _ w d rows hw
  have hE := orbE_of hR hc hpr hq hdn hdl
  have hback : ∀ n v, v.length = R → negC (posR (trn xs R) R) R v = n → upsW xs R q v = d → v ∈ T := by
    intro n
    induction n with
    | zero =>
      intro v hl hn ht
      rw [upsW_id (negC_dom hc hl hn)] at ht
      rw [ht]; exact hdT
    | succ n ih =>
      intro v hl hn ht
      have hlt : ∃ i, i < R ∧ gi v i < 0 := by
        apply Classical.byContradiction
        intro hcon
        have : ∀ k, 0 ≤ gi v k := fun k => by
          by_cases hk : k < R
          · apply Classical.byContradiction
            intro h2
            exact hcon ⟨k, hk, by omega⟩
          · simp only [gi, List.getD_eq_getElem?_getD, List.getElem?_eq_none (show v.length ≤ k by omega), Option.getD_none]
            exact Int.le_refl _
        have := negC_nn (xs := xs) (R := R) (w := v) hc this
        omega
      obtain ⟨i, hi, hneg⟩ := hlt
      have h1 := negC_down hc hi hneg
      have h2 := ih (turnM xs R i v) (turnM_len _ _ _ _) (by omega) (by rw [top_turn hc hpr hq hi hl]; exact ht)
      have h3 := hcd _ h2 i hi
      rwa [turn_twice hc hi hl] at h3
  have hmem : ∀ v, v ∈ (orbF xs R d).map (·.1) ↔ v ∈ T := fun v => by
    rw [hE.mem]
    constructor
    · rintro ⟨h1, h2⟩; exact hback _ v h1 rfl h2
    · intro hv
      have := h.lat v hv
      exact ⟨(latB_bnd this.1).1, by rw [this.2, hdt]⟩
  have hall : ((orbF xs R d).map (·.1)).all (latB R) = true := List.all_eq_true.2 fun v hv => (h.lat v ((hmem v).1 hv)).1
  have hlen : (orbF xs R d).length ≤ 1200 := by
    have h1 := nodup_le hE.nd (fun y hy => (hmem y).1 hy)
    rw [List.length_map] at h1
    have h2 := orbS_len h
    have h3 := h.small
    omega
  rw [orbO, hw]
  simp only [hall, Bool.true_and, decide_eq_true hlen, if_true]
  refine sortA_one (srtA_ok _).1 h.sr fun v => ?_
  rw [(srtA_ok _).2, hmem, h.eqv]
/-- A weight that is too large ends it. -/
theorem orbS_out {xs w v : List Int} {R k i : Nat} {q : List Nat} {T L : List (List Int)} (hR : R ≤ 4) (hc : CoOk xs R) (hpr : Prs xs R) (hq : Desc xs R (List.replicate R (-1)) q) (h : OrbS xs R q w k i T L) (hi : i < R) (hv : T[k]? = some v) (hl : latB R (turnM xs R i v) = false) : orbO xs R w = [] := by
  rw [orbO]
  rcases e : climbO xs R w with _ | ⟨d, rows⟩
  · rfl
  · obtain ⟨hdl, hdn, hdt⟩ := climb_top hc hpr hq _ w d rows e
    have hE := orbE_of hR hc hpr hq hdn hdl
    have hm := h.lat v (List.mem_of_getElem? hv)
    have h1 : turnM xs R i v ∈ (orbF xs R d).map (·.1) := (hE.mem _).2 ⟨turnM_len _ _ _ _, by rw [top_turn hc hpr hq hi (latB_bnd hm.1).1, hm.2, hdt]⟩
    have h2 : ((orbF xs R d).map (·.1)).all (latB R) = false := by
      rw [List.all_eq_false]
      exact ⟨_, h1, by rw [hl]; simp⟩
    simp only [h2, Bool.false_and]
    rfl
/-- Too many of them, too. -/
theorem orbS_many {xs w v : List Int} {R k i : Nat} {q : List Nat} {T L : List (List Int)} (hR : R ≤ 4) (hc : CoOk xs R) (hpr : Prs xs R) (hq : Desc xs R (List.replicate R (-1)) q) (h : OrbS xs R q w k i T L) (hi : i < R) (hv : T[k]? = some v) (hs : 1200 < (insA (turnM xs R i v) L).length) : orbO xs R w = [] := by
  rw [orbO]
  rcases e : climbO xs R w with _ | ⟨d, rows⟩
  · rfl
  · obtain ⟨hdl, hdn, hdt⟩ := climb_top hc hpr hq _ w d rows e
    have hE := orbE_of hR hc hpr hq hdn hdl
    have hm := h.lat v (List.mem_of_getElem? hv)
    have h1 : ∀ y, y ∈ insA (turnM xs R i v) L → y ∈ (orbF xs R d).map (·.1) := fun y hy => by
      rcases mem_insA.1 hy with rfl | hy
      · exact (hE.mem _).2 ⟨turnM_len _ _ _ _, by rw [top_turn hc hpr hq hi (latB_bnd hm.1).1, hm.2, hdt]⟩
      · have := h.lat y ((h.eqv y).1 hy)
        exact (hE.mem _).2 ⟨(latB_bnd this.1).1, by rw [this.2, hdt]⟩
    have h2 := nodup_le (sorted_nodup (insA_sorted (x := turnM xs R i v) h.sr)) h1
    rw [List.length_map] at h2
    have h3 : decide ((orbF xs R d).length ≤ 1200) = false := decide_eq_false (by omega)
    simp only [h3, Bool.and_false]
    rfl
end Go.Proofs.YtlnpaplbcocmkaaGreat

/-
  Lists sorted by the library, with any comparison.
-/
namespace Go.Proofs.YtlnpaplbcocmkaaGreat
open Go.ChangeShapes Go.WideShapes Go.ChangeAt Go.RowKit
set_option linter.unusedVariables false
set_option linter.unusedSimpArgs false

theorem sorted_any {R : Nat} {lsv : List Int → List Int → Bool} (hto : ∀ x y : List Int, x.length = y.length → lsv x y = false → lsv y x = false → x = y) : ∀ (l m : List (List Int)), (∀ x, x ∈ l → x.length = R) → l.Perm m → l.Pairwise (fun a b => lsv b a = false) → m.Pairwise (fun a b => lsv b a = false) → l = m := by
  intro l m hR hp h1 h2
  refine List.Perm.eq_of_pairwise (le := fun a b => lsv b a = false) (fun a b ha hb ab ba => ?_) h1 h2 hp
  exact hto _ _ (by rw [hR a ha, hR b (hp.mem_iff.2 hb)]) ba ab
/-- Rows in a slice of the call's own, with the blocks that hold them. -/
def RowsB (w : World) (ob base : Nat) (v : Value) (es : List (Option Addr × List Int)) : Prop := ∃ us : List Value, w.ownsRow ob 22 1 v es.length us ∧ us.length = es.length ∧ ∀ i, i < es.length → ∃ c, us[i]? = some (.slice (es.getD i (none, [])).1 (es.getD i (none, [])).2.length c) ∧ Own w base w.heap.size (es.getD i (none, [])).1 (es.getD i (none, [])).2.length (es.getD i (none, [])).2
theorem rowsB_nil (w : World) (ob base : Nat) : RowsB w ob base (.slice none 0 0) [] :=
  ⟨[], ⟨rfl, .inl ⟨rfl, rfl⟩⟩, rfl, fun i hi => absurd hi (Nat.not_lt_zero _)⟩
theorem RowsB.ext {w w' : World} {ob base : Nat} {v : Value} {es : List (Option Addr × List Int)} (h : RowsB w ob base v es) (hE : Ext w w') : RowsB w' ob base v es := by
  obtain ⟨us, h1, h2, h3⟩ := h
  refine ⟨us, ownsRow_ext h1 hE, h2, fun i hi => ?_⟩
  obtain ⟨c, e1, e2⟩ := h3 i hi
  exact ⟨c, e1, (e2.ext hE).mono (Nat.le_refl _) hE.le⟩
theorem RowsB.blk {w : World} {ob base : Nat} {v : Value} {es : List (Option Addr × List Int)} (h : RowsB w ob base v es) : ∀ z, v.ownBlock = some z → ob ≤ z ∧ z < w.heap.size := by
  obtain ⟨us, h1, _⟩ := h
  exact World.ownsRow.lt h1
theorem RowsB.shape {w : World} {ob base : Nat} {v : Value} {es : List (Option Addr × List Int)} (h : RowsB w ob base v es) : ∃ a c, v = .slice a es.length c := by
  obtain ⟨us, h1, _⟩ := h
  rcases h1.2 with ⟨e1, e2⟩ | ⟨g, cap, cur, e1, _⟩
  · rw [e2]; exact ⟨_, _, e1⟩
  · exact ⟨_, _, e1⟩
theorem getD_map2 {α β : Type} (f : α → β) (l : List α) (i : Nat) (d : α) (d' : β) (hi : i < l.length) : (l.map f).getD i d' = f (l.getD i d) := by
  simp [List.getD_eq_getElem?_getD, hi]
/-- append of one row. -/
theorem wpList_appendRowB {w : World} {ops : Array Oper} {rest : List Oper} {o : Oper} {a : Act} {Q : Exit → Act → World → Prop} (hgd : o.guard = none) (s x : Operand)
    (ho : o.op = .call { callee := .builtin .append, args := #[s, x], argTypes := #[35, 35] })
    (ob base : Nat) (v : Value) (es : List (Option Addr × List Int)) (y : List Int) (A0 : Option Addr) (c0 c g n0 : Nat) (hg0 : g = w.heap.size) (hn0 : y.length = n0) (hs : a.eval s = v) (hx : a.eval x = .slice (some ⟨g, 0, none⟩) 1 c) (hown : RowsB w ob base v es) (hrow : Own w base w.heap.size A0 n0 y) (hb : es.length + 1 ≤ 1048577) (hbase : ob ≤ w.heap.size)
    (h : ∀ a' c' w', RowsB w' ob base (.slice a' (es.length + 1) c') (es ++ [(A0, y)]) → w.grownBy w' v.ownBlock → wpList Tryz.prog ops Q rest (a.put o.dst (.slice a' (es.length + 1) c')) w') : wpList Tryz.prog ops Q (o :: rest) a (w.alloc (.cells #[.slice A0 n0 c0] 22)) := by
  subst hg0 hn0
  obtain ⟨i0, hi0, hz0, hz1, hz2⟩ := info_parts Tryz.infoInts
  obtain ⟨vs, h1, h2, h3⟩ := RowsB.ext hown ((Ext.refl w).alloc (.cells #[.slice A0 y.length c0] 22))
  have hrow2 := hrow.ext ((Ext.refl w).alloc (.cells #[.slice A0 y.length c0] 22))
  refine Go.wpList_append_own_at _ hgd s x 35 ho ob 22 i0 (.slice none 0 0) 1 24 Tryz.underlying35 hi0 hz0 hz1 hz2 rfl (by decide) v es.length vs hs h1 ⟨w.heap.size, 0, none⟩ 1 c [.slice A0 y.length c0] hx rfl (fun j u hu => ?_) (fun u hu => by simp at hu; subst hu; rfl) (by unfold maxLen; omega) (by omega) (by simp; omega) (fun v' w' g1 g2 _ g3 => ?_)
  · obtain rfl : j = 0 := by have := (List.getElem?_eq_some_iff.1 hu).1; simp at this; omega
    simp at hu
    subst hu
    rw [show (⟨w.heap.size, 0, none⟩ : Addr).add 0 = ⟨w.heap.size, 0, none⟩ from rfl, World.cell?_alloc_at _ _ _ _ rfl]
    rfl
  · have hty : ∀ z, v.ownBlock = some z → ∃ cur y9, (w.alloc (.cells #[.slice A0 y.length c0] 22)).heap[z]? = some (.cells cur 22 y9) := by
      intro z hz
      rcases h1.2 with ⟨e1, _⟩ | ⟨g, cap, cur, e1, _, hg, _⟩
      · subst e1; simp [Value.ownBlock] at hz
      · subst e1
        simp [Value.ownBlock] at hz
        subst hz
        exact ⟨cur, _, hg⟩
    have hR : RowsB w' ob base v' (es ++ [(A0, y)]) := by
      refine ⟨vs ++ [.slice A0 y.length c0], by simpa using g1, by simp [h2], fun i hi => ?_⟩
      by_cases e : i < es.length
      · obtain ⟨c', y0, h6⟩ := h3 i e
        have e2 : (es ++ [(A0, y)]).getD i (none, []) = es.getD i (none, []) := by simp [List.getD_eq_getElem?_getD, List.getElem?_append_left e]
        rw [e2]
        refine ⟨c', ?_, ?_⟩
        · rw [List.getElem?_append_left (by omega)]; exact y0
        · exact (own_other h6 g2 hty).mono (Nat.le_refl _) g2.size
      · obtain rfl : i = es.length := by simp at hi; omega
        have e2 : (es ++ [(A0, y)]).getD es.length (none, []) = (A0, y) := by simp [List.getD_eq_getElem?_getD]
        rw [e2]
        refine ⟨c0, ?_, ?_⟩
        · rw [List.getElem?_append_right (by omega)]; simp [h2]
        · exact (own_other hrow2 g2 hty).mono (Nat.le_refl _) (by have := g2.size; simp at this; omega)
    obtain ⟨a', c', e9⟩ := hR.shape
    rw [List.length_append, List.length_singleton] at e9
    subst e9
    exact h a' c' w' hR (grownBy_alloc g2)
set_option maxRecDepth 100000 in
set_option maxHeartbeats 1600000 in
theorem sort_any (F : Nat) (cfv : List Int → List Int → Int) (lsv : List Int → List Int → Bool) (R ob base : Nat) (v : Value) (L M : List (List Int)) (w : World) (us : List Value) (A : Nat → Option Addr) (h1 : w.ownsRow ob 22 1 v L.length us) (h2 : us.length = L.length) (h3 : ∀ i, i < L.length → ∃ c, us[i]? = some (.slice (A i) (row L i).length c) ∧ Own w base w.heap.size (A i) (row L i).length (row L i)) (h0 : 0 < L.length) (h9 : L.length ≤ 1048576) (hR : R ≤ 1024) (hrow : ∀ x, x ∈ L → x.length = R) (eg : ∀ args w, (callFunc F args).run Tryz.prog w = .ok (.enter F args) w) (hcl9 : ∀ x y, decide (cfv x y < 0) = lsv x y) (hir : ∀ x, lsv x x = false) (htr : ∀ x y z, lsv x y = true → lsv y z = true → lsv x z = true) (hnt : ∀ x y z : List Int, x.length = y.length → y.length = z.length → lsv x y = false → lsv y z = false → lsv x z = false) (hto : ∀ x y : List Int, x.length = y.length → lsv x y = false → lsv y x = false → x = y) (hcf : ∀ (c c' : Nat) (a a' : Option Addr) (xs ys : List Int) (w : World), xs ∈ L → ys ∈ L → Reads w a R xs → Reads w a' R ys → Calls Tryz.prog F #[.slice a R c, .slice a' R c'] w fun e w' => e = .returned (.int .i64 (cfv xs ys)) ∧ ∃ os, w' = Go.Sort.grow w os) (hM : M.Perm L) (hMs : M.Pairwise (fun a b => lsv b a = false)) :
    Calls Tryz.prog 65 #[v, .func (.func F) #[] #[]] w fun e w' => e = .returned (.tuple #[]) ∧ w.grownBy w' v.ownBlock ∧ ∃ (ix : List Nat) (us' : List Value), ix.Perm (List.range L.length) ∧ ix.map (row L) = M ∧ w'.ownsRow ob 22 1 v L.length us' ∧ us'.length = L.length ∧ ∀ i, i < L.length → ∃ c, us'[i]? = some (.slice (A (ix.getD i 0)) (row L (ix.getD i 0)).length c) ∧ Own w' base w'.heap.size (A (ix.getD i 0)) (row L (ix.getD i 0)).length (row L (ix.getD i 0)) := by
  obtain ⟨N, hN⟩ : ∃ N, L.length = N := ⟨_, rfl⟩
  rw [hN] at h1 h2 h3 h0 h9
  rcases h1 with ⟨hl, ⟨e1, e2⟩ | ⟨g, cap, cur, rfl, hbase, hb, hn, hc, hcs, htk⟩⟩
  · omega
  have hg : g < w.heap.size := (Array.getElem?_eq_some_iff.1 hb).1
  rw [Nat.mul_one] at htk hcs
  let cl : Nat → Nat := fun i => min i (N - 1)
  have hcl : ∀ i, cl i < N := fun i => by show min i (N - 1) < N; omega
  have hcl2 : ∀ i, i < N → cl i = i := fun i hi => by show min i (N - 1) = i; omega
  let enc : Nat → Value := fun i => us.getD (cl i) (.slice none 0 0)
  have henc : ∀ i, ∃ c, enc i = .slice (A (cl i)) (row L (cl i)).length c ∧ Own w base w.heap.size (A (cl i)) (row L (cl i)).length (row L (cl i)) := fun i => by
    obtain ⟨c, x0, h6⟩ := h3 (cl i) (hcl i)
    exact ⟨c, by show us.getD (cl i) _ = _; rw [List.getD_eq_getElem?_getD, x0]; rfl, h6⟩
  have hOne : Go.Proofs.OneCell enc := fun x => by
    obtain ⟨c, e, _⟩ := henc x
    rw [e]; rfl
  let cf : Nat → Nat → Int := fun i j => cfv (row L (cl i)) (row L (cl j))
  have hlt : ∀ i j, Go.Proofs.ltOf cf i j = lsv (row L (cl i)) (row L (cl j)) := fun i j => hcl9 _ _
  have hlen : ∀ i, (row L (cl i)).length = R := fun i => hrow _ (row_mem (by rw [hN]; exact hcl i))
  have hO : Go.Sort.SWO (Go.Proofs.ltOf cf) := ⟨fun x => by rw [hlt]; exact hir _, fun x y z a b => by rw [hlt] at *; exact htr _ _ _ a b, fun x y z a b => by rw [hlt] at *; exact hnt _ _ _ (by rw [hlen, hlen]) (by rw [hlen, hlen]) a b⟩
  have hty : ∀ z, (some g : Option Nat) = some z → ∃ cur y, w.heap[z]? = some (.cells cur 22 y) := fun z hz => by
    injection hz with hz; subst hz; exact ⟨cur, _, hb⟩
  have hcmp : Go.Proofs.CmpLays1 Tryz.prog F #[] enc cf g 0 (Array.range N).size w := fun m os dk _ x y => by
    obtain ⟨c1, e1, o1⟩ := henc x
    obtain ⟨c2, e2, o2⟩ := henc y
    have hgw : w.grownBy (Go.Proofs.sortWorld enc w g 0 m dk os) (some g) := grownBy_sorted5 dk
    have p1 := (own_other o1 hgw hty).reads
    have p2 := (own_other o2 hgw hty).reads
    show Calls Tryz.prog F #[enc x, enc y] _ _
    rw [e1, e2]
    rw [hlen] at p1 p2 ⊢
    rw [hlen]
    refine (hcf c1 c2 _ _ (row L (cl x)) (row L (cl y)) _ (row_mem (by rw [hN]; exact hcl x)) (row_mem (by rw [hN]; exact hcl y)) p1 p2).mono ?_
    rintro e w2 ⟨rfl, os2, rfl⟩
    exact ⟨rfl, 0, os2, rfl⟩
  have hH : Go.Sort.Holds enc w g 0 (Array.range N) := fun j hj => by
    have hj2 : j < N := by simpa using hj
    refine ⟨?_, frozen_of_row w g _ _ _ hb⟩
    rw [Nat.zero_add, cell_of_row w g j _ _ _ hb, ← Array.getElem?_toList]
    have e1 : (cur.toList.take N)[j]? = us[j]? := by rw [htk]
    rw [List.getElem?_take, if_pos hj2] at e1
    have e2 : (Array.range N)[j]! = j := by rw [getElem!_pos _ j hj]; simp
    rw [e1, e2]
    show _ = some (us.getD (cl j) _)
    rw [hcl2 j hj2, List.getD_eq_getElem?_getD, List.getElem?_eq_getElem (by omega)]
    rfl
  have hs := Tryz.sortRows_con enc hOne cf hO F #[] g 0 cap (Array.range N) w eg hcmp hH hg (by simp; omega)
  rw [show (Array.range N).size = N by simp] at hs
  refine hs.mono ?_
  rintro e w' ⟨rfl, d', n, os, hp, hsd, rfl⟩
  obtain ⟨hp1, _, hp3⟩ := hp
  have hsz : d'.size = N := by rw [hp1]; simp
  have hperm : d'.toList.Perm (List.range N) := by
    have e1 : d'.extract 0 N = d' := by rw [← hsz]; exact Array.extract_size
    have e2 : (Array.range N).extract 0 N = Array.range N := by
      have h8 : (Array.range N).size = N := by simp
      have h9 := Array.extract_size (xs := Array.range N)
      rwa [h8] at h9
    rw [e1, e2] at hp3
    simpa using hp3
  have hLp : (d'.toList.map (row L)).Perm L := by
    have := hperm.map (row L)
    rwa [← hN, map_row_range] at this
  have hpair : (d'.toList.map (row L)).Pairwise (fun a b => lsv b a = false) := by
    rw [List.pairwise_iff_getElem]
    intro i j hi hj hij
    have hi2 : i < N := by simpa [hsz] using hi
    have hj2 : j < N := by simpa [hsz] using hj
    have := hsd i j (Nat.zero_le _) hij hj2
    rw [hlt, getElem!_pos d' i (by omega), getElem!_pos d' j (by omega)] at this
    rw [hcl2 _ (perm_range_lt hperm (by simp)), hcl2 _ (perm_range_lt hperm (by simp))] at this
    simpa using this
  have hLM : d'.toList.map (row L) = M := sorted_any (R := R) hto _ _ (fun x hx => hrow x (hLp.mem_iff.1 hx)) (hLp.trans hM.symm) hpair hMs
  have hML : M.length = N := by rw [← hLM]; simp [hsz]
  have hgw : w.grownBy (Go.Proofs.sortWorld enc w g 0 n d' os) (some g) := grownBy_sorted5 d'
  have hrM : ∀ i, i < N → row M i = row L (d'.toList.getD i 0) := fun i hi => by
    rw [← hLM]
    simp [row, List.getD_eq_getElem?_getD, hsz, hi]
  have hdi : ∀ i, i < N → d'.toList.getD i 0 < N := fun i hi => by
    rw [List.getD_eq_getElem?_getD, List.getElem?_eq_getElem (by simp [hsz, hi])]
    exact perm_range_lt hperm (List.getElem_mem _)
  rw [hN]
  refine ⟨rfl, hgw, d'.toList, d'.toList.map enc, hperm, hLM, ?_, by simp [hsz], fun i hi2 => ?_⟩
  · refine ⟨by simp [hsz], .inr ⟨g, cap, _, rfl, hbase, heap_sorted5 d' hb, hn, hc, by simp [Go.Sort.putCells, hcs], ?_⟩⟩
    have := take_putCells5 (enc := enc) cur d' (by omega)
    rw [hsz] at this
    rw [Nat.mul_one]; exact this
  · obtain ⟨c, e1, o1⟩ := henc (d'.toList.getD i 0)
    rw [hcl2 _ (hdi i hi2)] at e1 o1
    refine ⟨c, ?_, (own_other o1 hgw hty).mono (Nat.le_refl _) hgw.size⟩
    rw [← e1, List.getElem?_map, List.getElem?_eq_getElem (by simp [hsz, hi2])]
    simp [List.getD_eq_getElem?_getD, hsz, hi2]

set_option maxRecDepth 100000 in
set_option maxHeartbeats 1600000 in
theorem sort_rowsB (F : Nat) (cfv : List Int → List Int → Int) (lsv : List Int → List Int → Bool) (R ob base : Nat) (v : Value) (es : List (Option Addr × List Int)) (L M : List (List Int)) (w : World) (h : RowsB w ob base v es) (hL : es.map (·.2) = L) (h0 : 0 < L.length) (h9 : L.length ≤ 1048576) (hR : R ≤ 1024) (hrow : ∀ x, x ∈ L → x.length = R) (eg : ∀ args w, (callFunc F args).run Tryz.prog w = .ok (.enter F args) w) (hcl9 : ∀ x y, decide (cfv x y < 0) = lsv x y) (hir : ∀ x, lsv x x = false) (htr : ∀ x y z, lsv x y = true → lsv y z = true → lsv x z = true) (hnt : ∀ x y z : List Int, x.length = y.length → y.length = z.length → lsv x y = false → lsv y z = false → lsv x z = false) (hto : ∀ x y : List Int, x.length = y.length → lsv x y = false → lsv y x = false → x = y) (hcf : ∀ (c c' : Nat) (a a' : Option Addr) (xs ys : List Int) (w : World), xs ∈ L → ys ∈ L → Reads w a R xs → Reads w a' R ys → Calls Tryz.prog F #[.slice a R c, .slice a' R c'] w fun e w' => e = .returned (.int .i64 (cfv xs ys)) ∧ ∃ os, w' = Go.Sort.grow w os) (hM : M.Perm L) (hMs : M.Pairwise (fun a b => lsv b a = false)) :
    Calls Tryz.prog 65 #[v, .func (.func F) #[] #[]] w fun e w' => e = .returned (.tuple #[]) ∧ w.grownBy w' v.ownBlock ∧ ∃ es', es'.Perm es ∧ es'.map (·.2) = M ∧ RowsB w' ob base v es' := by
  obtain ⟨us, h1, h2, h3⟩ := h
  have hl : es.length = L.length := by rw [← hL, List.length_map]
  have hr : ∀ i, i < L.length → row L i = (es.getD i (none, [])).2 := fun i hi => by
    rw [← hL]; simp [row, List.getD_eq_getElem?_getD, show i < es.length by omega]
  rw [hl] at h1 h2
  refine (sort_any F cfv lsv R ob base v L M w us (fun i => (es.getD i (none, [])).1) h1 h2 (fun i hi => by rw [hr i hi]; exact h3 i (by omega)) h0 h9 hR hrow eg hcl9 hir htr hnt hto hcf hM hMs).mono ?_
  rintro e w' ⟨rfl, hg, ix, us', hp, hm, o1, o2, o3⟩
  have hlt : ∀ k, k ∈ ix → k < L.length := fun k hk => List.mem_range.1 (hp.mem_iff.1 hk)
  have hil : ix.length = L.length := by rw [hp.length_eq, List.length_range]
  have hes : (List.range L.length).map (fun i => es.getD i (none, [])) = es := by
    apply List.ext_getElem
    · simp [hl]
    · intro k k1 k2
      simp [List.getD_eq_getElem?_getD, k2]
  have hgd : ∀ i, i < L.length → (ix.map fun i => es.getD i (none, [])).getD i (none, []) = es.getD (ix.getD i 0) (none, []) := fun i hi => by
    have : i < ix.length := by omega
    simp [List.getD_eq_getElem?_getD, this]
  refine ⟨rfl, hg, ix.map fun i => es.getD i (none, []), ?_, ?_, us', ?_, ?_, fun i hi => ?_⟩
  · have := hp.map (fun i => es.getD i (none, []))
    rwa [hes] at this
  · rw [← hm, List.map_map]
    refine List.map_congr_left (fun k hk => ?_)
    exact (hr k (hlt k hk)).symm
  · rw [List.length_map, hil]; exact o1
  · rw [List.length_map, hil]; exact o2
  · have hi2 : i < L.length := by rw [List.length_map, hil] at hi; exact hi
    have hix : ix.getD i 0 < L.length := by
      have h8 : i < ix.length := by omega
      rw [List.getD_eq_getElem?_getD, List.getElem?_eq_getElem h8, Option.getD_some]
      exact hlt _ (List.getElem_mem _)
    obtain ⟨c, e1, e2⟩ := o3 i hi2
    rw [hgd i hi2]
    rw [hr _ hix] at e1 e2
    exact ⟨c, e1, e2⟩
/-- The blocks of rows are all apart. -/
def ApartB (es : List (Option Addr × List Int)) : Prop := es.Pairwise fun a b => ∀ z, blk a.1 = some z → blk b.1 ≠ some z
theorem ApartB.perm {es es' : List (Option Addr × List Int)} (h : ApartB es) (hp : es.Perm es') : ApartB es' :=
  (List.Perm.pairwise_iff (fun {a b} h z h1 h2 => h z h2 h1) hp).1 h
theorem RowsB.toR {w : World} {ob base lo hi : Nat} {v : Value} {es : List (Option Addr × List Int)} {L : List (List Int)} (h : RowsB w ob base v es) (hL : es.map (·.2) = L) (ha : ApartB es) (hlo : lo ≤ base) (hob : lo ≤ ob) (hsz : w.heap.size ≤ hi) (ht : L.flatten.length ≤ 1048576) : ∃ a c, v = .slice a L.length c ∧ RowsR w lo hi a L.length L := by
  obtain ⟨us, h1, h2, h3⟩ := h
  have hl : es.length = L.length := by rw [← hL, List.length_map]
  have hr : ∀ i, i < L.length → row L i = (es.getD i (none, [])).2 := fun i hi => by
    rw [← hL]; simp [row, List.getD_eq_getElem?_getD, show i < es.length by omega]
  rw [hl] at h1 h2
  rcases h1 with ⟨hl, ⟨e1, e2⟩ | ⟨g, cap, cur, rfl, hb, hg, hn, hc, hcs, htk⟩⟩
  · refine ⟨none, 0, by rw [e1, e2], rfl, ht, .inl e2⟩
  · refine ⟨some ⟨g, 0, none⟩, cap, rfl, rfl, ht, .inr ⟨g, cur, fun i => (es.getD i (none, [])).1, fun i => (match us[i]? with | some (.slice _ _ c) => c | _ => 0), rfl, by omega, by have := (Array.getElem?_eq_some_iff.1 hg).1; omega, hg, fun i hi => ?_, fun i j b hi hj hne e e2 => ?_⟩⟩
    · obtain ⟨c, x0, h6⟩ := h3 i (by omega)
      rw [hr i hi]
      refine ⟨?_, h6.mono hlo hsz⟩
      dsimp only
      rw [x0, ← Array.getElem?_toList]
      have : (cur.toList.take (L.length * 1))[i]? = us[i]? := by rw [htk]
      rw [List.getElem?_take, if_pos (by omega)] at this
      rw [this, x0]
    · have hi' : i < es.length := by omega
      have hj' : j < es.length := by omega
      have ei : es.getD i (none, []) = es[i] := by simp [List.getD_eq_getElem?_getD, hi']
      have ej : es.getD j (none, []) = es[j] := by simp [List.getD_eq_getElem?_getD, hj']
      simp only [ei, ej] at e e2
      rcases Nat.lt_or_gt_of_ne hne with h5 | h5
      · exact List.pairwise_iff_getElem.1 ha i j hi' hj' h5 b e e2
      · exact List.pairwise_iff_getElem.1 ha j i hj' hi' h5 b e2 e
end Go.Proofs.YtlnpaplbcocmkaaGreat

/-
  OrbitOf, by the specification.
-/
namespace Go.Proofs.YtlnpaplbcocmkaaGreat
open Go.ChangeShapes Go.WideShapes Go.ChangeAt Go.RowKit
set_option linter.unusedVariables false
set_option linter.unusedSimpArgs false

theorem rowsP_toR {w : World} {lo lo' hi' : Nat} {v : Value} {L : List (List Int)} (h : RowsP w lo v L) (hlo : lo' ≤ lo) (hsz : w.heap.size ≤ hi') (ht : L.flatten.length ≤ 1048576) : ∃ a c, v = .slice a L.length c ∧ RowsR w lo' hi' a L.length L := by
  obtain ⟨us, B, h1, h2, h3, h4⟩ := h
  rcases h1 with ⟨hl, ⟨e1, e2⟩ | ⟨g, cap, cur, rfl, hb, hg, hn, hc, hcs, htk⟩⟩
  · refine ⟨none, 0, by rw [e1, e2], rfl, ht, .inl e2⟩
  · refine ⟨some ⟨g, 0, none⟩, cap, rfl, rfl, ht, .inr ⟨g, cur, fun i => some ⟨B i, 0, none⟩, fun i => (match us[i]? with | some (.slice _ _ c) => c | _ => 0), rfl, by omega, by have := (Array.getElem?_eq_some_iff.1 hg).1; omega, hg, fun i hi => ?_, fun i j b hi hj hne e e2 => ?_⟩⟩
    · obtain ⟨c, x0, h6⟩ := h3 i hi
      refine ⟨?_, h6.mono hlo hsz⟩
      dsimp only
      rw [x0, ← Array.getElem?_toList]
      have : (cur.toList.take (L.length * 1))[i]? = us[i]? := by rw [htk]
      rw [List.getElem?_take, if_pos (by omega)] at this
      rw [this, x0]
    · simp only [blk] at e e2
      injection e with e
      injection e2 with e2
      exact h4 i j hi hj hne (e.trans e2.symm)
theorem flat_len {L : List (List Int)} {R : Nat} (h : ∀ x, x ∈ L → x.length = R) : L.flatten.length = L.length * R := by
  induction L with
  | nil => simp
  | cons x L ih => rw [List.flatten_cons, List.length_append, ih (fun y hy => h y (List.mem_cons_of_mem _ hy)), h x List.mem_cons_self, List.length_cons, Nat.succ_mul]; omega
/-- A slice of one row. -/
theorem rowsP_one {w : World} {lo b n c : Nat} {y : List Int} (hn : y.length = n) (hy : Own w lo w.heap.size (some ⟨b, 0, none⟩) n y) (hlo : lo ≤ w.heap.size) : RowsP (w.alloc (.cells #[.slice (some ⟨b, 0, none⟩) n c] 22)) lo (.slice (some ⟨w.heap.size, 0, none⟩) 1 1) [y] := by
  subst hn
  have X := (Ext.refl w).alloc (.cells #[.slice (some ⟨b, 0, none⟩) y.length c] 22)
  refine ⟨[.slice (some ⟨b, 0, none⟩) y.length c], fun _ => b, World.ownsRow_lit w #[.slice (some ⟨b, 0, none⟩) y.length c] 1 hlo (by unfold maxLen; omega) (by simp), rfl, fun i hi => ?_, fun i j hi hj hne => ?_⟩
  · obtain rfl : i = 0 := by simpa using hi
    exact ⟨c, rfl, (hy.ext X).mono (Nat.le_refl _) X.le⟩
  · simp at hi hj; omega
theorem rowsB_one {w : World} {lo b n c : Nat} {y : List Int} (hn : y.length = n) (hy : Own w lo w.heap.size (some ⟨b, 0, none⟩) n y) (hlo : lo ≤ w.heap.size) : RowsB (w.alloc (.cells #[.slice (some ⟨b, 0, none⟩) n c] 22)) lo lo (.slice (some ⟨w.heap.size, 0, none⟩) 1 1) [(some ⟨b, 0, none⟩, y)] := by
  subst hn
  have X := (Ext.refl w).alloc (.cells #[.slice (some ⟨b, 0, none⟩) y.length c] 22)
  refine ⟨[.slice (some ⟨b, 0, none⟩) y.length c], World.ownsRow_lit w #[.slice (some ⟨b, 0, none⟩) y.length c] 1 hlo (by unfold maxLen; omega) (by simp), rfl, fun i hi => ?_⟩
  obtain rfl : i = 0 := by simpa using hi
  exact ⟨c, rfl, (hy.ext X).mono (Nat.le_refl _) X.le⟩
theorem RowsB.cell {w : World} {ob base g c : Nat} {es : List (Option Addr × List Int)} (h : RowsB w ob base (.slice (some ⟨g, 0, none⟩) es.length c) es) {i : Nat} (hi : i < es.length) : g < w.heap.size ∧ ∃ av y cy, es[i]? = some (av, y) ∧ w.cell? ⟨g, i, none⟩ = some (.slice av y.length cy) ∧ Own w base w.heap.size av y.length y := by
  obtain ⟨us, h1, h2, h3⟩ := h
  obtain ⟨c', e1, e2⟩ := h3 i hi
  have e3 := World.ownsRow.cellAt h1 i (by omega)
  refine ⟨(World.ownsRow.lt h1 g rfl).2, _, _, c', ?_, by rw [e3, e1], e2⟩
  rw [List.getElem?_eq_getElem hi, List.getD_eq_getElem?_getD, List.getElem?_eq_getElem hi]
  rfl
theorem RowsP.keepB {w w' : World} {lo g n c : Nat} {L : List (List Int)} {r : Option Nat} (h : RowsP w lo (.slice (some ⟨g, 0, none⟩) n c) L) (hg : w.grownBy w' r) (hne : ∀ k, r = some k → k ≠ g) (hty : ∀ k, r = some k → ∃ cur z, w.heap[k]? = some (.cells cur 22 z)) : RowsP w' lo (.slice (some ⟨g, 0, none⟩) n c) L := by
  obtain ⟨us, B, h1, h2, h3, h4⟩ := h
  refine ⟨us, B, World.ownsRow.kept h1 hg (.inr fun e => hne g e.symm rfl), h2, fun i hi => ?_, h4⟩
  obtain ⟨c, e1, e2⟩ := h3 i hi
  exact ⟨c, e1, (own_other e2 hg hty).mono (Nat.le_refl _) hg.size⟩
theorem RowsB.typ {w : World} {ob base : Nat} {v : Value} {es : List (Option Addr × List Int)} (h : RowsB w ob base v es) : ∀ k, v.ownBlock = some k → ∃ cur z, w.heap[k]? = some (.cells cur 22 z) := by
  intro z hz
  obtain ⟨us, h1, _⟩ := h
  rcases h1.2 with ⟨e1, _⟩ | ⟨g, cap, cur, e1, _, hg, _⟩
  · subst e1; simp [Value.ownBlock] at hz
  · subst e1
    simp [Value.ownBlock] at hz
    subst hz
    exact ⟨cur, _, hg⟩
theorem RowsB.addr {w : World} {ob base n c : Nat} {a : Option Addr} {es : List (Option Addr × List Int)} (h : RowsB w ob base (.slice a n c) es) (h0 : 0 < es.length) : ∃ g, a = some ⟨g, 0, none⟩ := by
  obtain ⟨us, h1, _⟩ := h
  rcases h1.2 with ⟨e1, e2⟩ | ⟨g, cap, cur, e1, _⟩
  · omega
  · injection e1 with e1; exact ⟨g, e1⟩
theorem insA_mem {x : List Int} {L : List (List Int)} (hs : L.Pairwise (fun a b => abvB a b = true)) (h : (insA x L).length = L.length + 1) : x ∉ L := by
  intro hx
  have h1 := nodup_le (sorted_nodup (insA_sorted (x := x) hs)) (b := L) (fun y hy => by
    rcases mem_insA.1 hy with rfl | hy
    · exact hx
    · exact hy)
  omega
def obO (R : Int) (l x : List Int) : List (List Int) := match carG R l with
  | some _ => orbO l R.toNat x
  | none => []
theorem orbO_len {xs hh x : List Int} {R : Nat} : ∀ v, v ∈ orbO xs R x → v.length = R := by
  intro v hv
  rw [orbO] at hv
  split at hv
  · split at hv
    · next h =>
      rw [Bool.and_eq_true, List.all_eq_true] at h
      exact (latB_bnd (h.1 v ((srtA_ok _).2 v |>.1 hv))).1
    · cases hv
  · cases hv
theorem orbO_le {xs x : List Int} {R : Nat} {q : List Nat} (hR : R ≤ 4) (h : CoOk xs R) (hpr : Prs xs R) (hq : Desc xs R (List.replicate R (-1)) q) : (orbO xs R x).length ≤ 1200 := by
  rw [orbO]
  rcases e : climbO xs R x with _ | ⟨d, rows⟩
  · simp
  · simp only
    split
    · next hc =>
      rw [Bool.and_eq_true, decide_eq_true_eq] at hc
      have h1 := nodup_le (sorted_nodup (srtA_ok ((orbF xs R d).map (·.1))).1) (fun y hy => ((srtA_ok _).2 y).1 hy)
      rw [List.length_map] at h1
      omega
    · simp

set_option maxRecDepth 100000 in
set_option maxHeartbeats 12800000 in
theorem l6Orbit_spec (R da od n cD b0 o0 cx : Nat) (xs hh x : List Int) (q : List Nat) (w : World) (hr : Reads w (some ⟨da, od, none⟩) n xs) (hn : n = R * R) (hR0 : 1 ≤ R) (hR : R ≤ 4) (hxb : ∀ e, -3 ≤ gi xs e ∧ gi xs e ≤ 3) (hcl : Climbs xs hh R) (hco : CoOk xs R) (hpr : Prs xs R) (hq : Desc xs R (List.replicate R (-1)) q) (hx : Reads w (some ⟨b0, o0, none⟩) R x) (hlx : latB R x = true) :
    Calls Tryz.prog 85 #[.agg #[.int .i64 (R : Nat), .slice (some ⟨da, od, none⟩) n cD], .slice (some ⟨b0, o0, none⟩) R cx] w fun e w' => ∃ a c ok, e = .returned (.tuple #[.slice a (orbO xs R x).length c, .bool ok]) ∧ RowsR w' w.heap.size w'.heap.size a (orbO xs R x).length (orbO xs R x) ∧ Ext w w' := by
  have HR := Lib.hid hr
  have HN := Lib.hid hn
  have HXB := Lib.hid hxb
  have HX := Lib.hid hx
  have HXL : Hid (x.length = R) := (latB_bnd hlx).1
  have HST := Lib.hid (orbS_start (xs := xs) (q := q) hlx)
  have HNX : Hid (∀ k T L, OrbS xs R q x k R T L → OrbS xs R q x (k + 1) 0 T L) := fun k T L h => orbS_next h
  have HOLD : Hid (∀ k i T L v, OrbS xs R q x k i T L → T[k]? = some v → turnM xs R i v ∈ L → OrbS xs R q x k (i + 1) T L) := fun k i T L v h h1 h2 => orbS_old h h1 h2
  have HNEW : Hid (∀ k i T L v, OrbS xs R q x k i T L → i < R → T[k]? = some v → turnM xs R i v ∉ L → latB R (turnM xs R i v) = true → (insA (turnM xs R i v) L).length ≤ 1200 → OrbS xs R q x k (i + 1) (T ++ [turnM xs R i v]) (insA (turnM xs R i v) L)) := fun k i T L v h hi h1 h2 h3 h4 => orbS_new hco hpr hq h hi h1 h2 h3 h4
  have HDONE : Hid (∀ k T L, OrbS xs R q x k 0 T L → k = T.length → orbO xs R x = L) := fun k T L h h1 => orbS_done hR hcl hco hpr hq h h1
  have HOUT : Hid (∀ k i T L v, OrbS xs R q x k i T L → i < R → T[k]? = some v → latB R (turnM xs R i v) = false → orbO xs R x = []) := fun k i T L v h hi h1 h2 => orbS_out hR hco hpr hq h hi h1 h2
  have HMANY : Hid (∀ k i T L v, OrbS xs R q x k i T L → i < R → T[k]? = some v → 1200 < (insA (turnM xs R i v) L).length → orbO xs R x = []) := fun k i T L v h hi h1 h2 => orbS_many hR hco hpr hq h hi h1 h2
  have HBX := Lib.hid (cells_new w #[.int .i64 (R : Nat), .slice (some ⟨da, od, none⟩) n cD] 27)
  have X0 := Lib.hid ((Ext.refl w).alloc (.cells #[.int .i64 (R : Nat), .slice (some ⟨da, od, none⟩) n cD] 27))
  clear hr hn hxb hcl hco hpr hq hx hlx
  go_enter Tryz.func85, Tryz.ntmps85
  go_wp2_with fail
  refine (l1Ints_g _ R cx x _ (HX.out.ext X0.out) (by omega) (fun h => by cases h)).mono ?_
  rintro e w1 ⟨v1, rfl, hG1, h1⟩
  obtain ⟨g1, c1, rfl, _⟩ := Grows.addr5 hG1 (by omega)
  obtain ⟨ax1, cx1, e1, hO1⟩ := hG1.shape
  injection e1 with e1 _ e2
  subst e1
  subst e2
  have HO1 : Hid (Own w1 (w.heap.size + 1) w1.heap.size (some ⟨g1, 0, none⟩) R x) := hO1.mono (by simp) (Nat.le_refl _)
  have HE1 := Lib.hid (X0.out.trans h1)
  have HB1 := Lib.hid (HBX.out.ext h1)
  have hsz1 := HB1.out.1
  clear hG1 hO1 h1 HBX X0
  have HP1 : Hid (RowsP (w1.alloc (.cells #[.slice (some ⟨g1, 0, none⟩) R c1] 22)) (w.heap.size + 1) (.slice (some ⟨w1.heap.size, 0, none⟩) 1 1) [x]) := rowsP_one HXL.out HO1.out HB1.out.1
  have X1 := Lib.hid ((Ext.refl w1).alloc (.cells #[.slice (some ⟨g1, 0, none⟩) R c1] 22))
  go_wp2_with fail
  refine (l1Ints_g _ R cx x _ (HX.out.ext (HE1.out.trans X1.out)) (by omega) (fun h => by cases h)).mono ?_
  rintro e w2 ⟨v2, rfl, hG2, h2⟩
  obtain ⟨g2, c2, rfl, _⟩ := Grows.addr5 hG2 (by omega)
  obtain ⟨ax1, cx1, e1, hO1⟩ := hG2.shape
  injection e1 with e1 _ e2
  subst e1
  subst e2
  have X2 := Lib.hid ((Ext.refl w2).alloc (.cells #[.slice (some ⟨g2, 0, none⟩) R c2] 22))
  have HE2 := Lib.hid ((HE1.out.trans X1.out).trans h2)
  have HP2 := Lib.hid ((HP1.out.ext h2).ext X2.out)
  have HT2 : Hid (RowsB (w2.alloc (.cells #[.slice (some ⟨g2, 0, none⟩) R c2] 22)) (w.heap.size + 1) (w.heap.size + 1) (.slice (some ⟨w2.heap.size, 0, none⟩) 1 1) [(some ⟨g2, 0, none⟩, x)]) := rowsB_one HXL.out (hO1.mono (Nat.le_trans hsz1 X1.out.le) (Nat.le_refl _)) (Nat.le_trans (Nat.le_trans hsz1 X1.out.le) h2.le)
  have HE3 := Lib.hid (HE2.out.trans X2.out)
  have HB3 := Lib.hid (((HB1.out.ext X1.out).ext h2).ext X2.out)
  clear hG2 hO1 h2 HP1 HO1 HB1
  go_wp2_with fail
  generalize (w2.alloc (.cells #[.slice (some ⟨g2, 0, none⟩) R c2] 22)) = W3 at *
  go_loopw [8, 6, 7, 9, 10, 11, 12] (fun z v6 v7 _ _ _ _ wr => ∃ (k gL cL gT cT : Nat) (es : List (Option Addr × List Int)) (L : List (List Int)), k ≤ es.length ∧ z = .int .i64 k ∧ v6 = .slice (some ⟨gL, 0, none⟩) L.length cL ∧ v7 = .slice (some ⟨gT, 0, none⟩) es.length cT ∧ Hid (OrbS xs R q x k 0 (es.map (·.2)) L) ∧ Hid (RowsP wr (w.heap.size + 1) (.slice (some ⟨gL, 0, none⟩) L.length cL) L) ∧ Hid (RowsB wr (w.heap.size + 1) (w.heap.size + 1) (.slice (some ⟨gT, 0, none⟩) es.length cT) es) ∧ Hid (Ext w wr) ∧ Hid (Cells wr w.heap.size [.int .i64 (R : Nat), .slice (some ⟨da, od, none⟩) n cD])) (fun z _ _ _ _ _ _ _ => 1201 - (intOf z).toNat)
  case atStart => exact ⟨0, _, _, _, _, [(some ⟨g2, 0, none⟩, x)], [x], by omega, rfl, rfl, rfl, HST, HP2, HT2, HE3, HB3⟩
  case round =>
    clear HST HP2 HT2 HE3 HB3
    obtain ⟨k, gL, cL, gT, cT, es, L, hk, rfl, rfl, rfl, hS, hP, hT, hE, hB⟩ := hrel
    have hlen := orbS_len hS.out
    rw [List.length_map] at hlen
    have hsm := hS.out.small
    have hes12 : es.length ≤ 1200 := by omega
    clear hlen
    by_cases hlt : k < es.length
    · have hltI : (k : Int) < (es.length : Int) := by omega
      go_wp2_with fail
      obtain ⟨wo, rfl⟩ : ∃ wo : World, wo = wr := ⟨_, rfl⟩
      go_loopw [9, 6, 7, 10, 11, 12] (fun z v6 v7 _ _ _ wr => ∃ (i gL cL gT cT : Nat) (es : List (Option Addr × List Int)) (L : List (List Int)), i ≤ R ∧ k < es.length ∧ z = .int .i64 i ∧ v6 = .slice (some ⟨gL, 0, none⟩) L.length cL ∧ v7 = .slice (some ⟨gT, 0, none⟩) es.length cT ∧ Hid (OrbS xs R q x k i (es.map (·.2)) L) ∧ Hid (RowsP wr (w.heap.size + 1) (.slice (some ⟨gL, 0, none⟩) L.length cL) L) ∧ Hid (RowsB wr (w.heap.size + 1) (w.heap.size + 1) (.slice (some ⟨gT, 0, none⟩) es.length cT) es) ∧ Hid (Ext w wr) ∧ Hid (Cells wr w.heap.size [.int .i64 (R : Nat), .slice (some ⟨da, od, none⟩) n cD])) (fun z _ _ _ _ _ _ => R - (intOf z).toNat)
      case atStart => exact ⟨0, _, _, _, _, es, L, by omega, hlt, rfl, rfl, rfl, hS, hP, hT, hE, hB⟩
      case round =>
        clear hS hP hT hE hB hltI hlt hes12 hsm hk
        obtain ⟨i, gL, cL, gT, cT, es, L, hi, hkE, rfl, rfl, rfl, hS, hP, hT, hE, hB⟩ := hrel
        have hlen := orbS_len hS.out
        rw [List.length_map] at hlen
        have hsm := hS.out.small
        have hes12 : es.length ≤ 1200 := by omega
        clear hlen
        have lB := hB.out.1
        have q0 := hB.out.2 0 _ rfl
        have q1 := hB.out.2 1 _ rfl
        by_cases hli : i < R
        · have hliI : (i : Int) < (R : Int) := by omega
          have hkI : (k : Int) < (es.length : Int) := by omega
          obtain ⟨lg, av, y, cy, hes, hcell, hown⟩ := hT.out.cell hkE
          have hTk : (es.map (·.2))[k]? = some y := by rw [List.getElem?_map, hes]; rfl
          have hly := (hS.out.lat y (List.mem_of_getElem? hTk)).1
          have hyb := latB_bnd hly
          rw [hyb.1] at hcell hown
          have HTK := Lib.hid hTk
          have HYB := Lib.hid hyb
          have HOY := Lib.hid hown.reads
          have HREF : Hid (∀ w1, Ext wr w1 → Calls Tryz.prog 104 #[.agg #[.int .i64 (R : Nat), .slice (some ⟨da, od, none⟩) n cD], .int .i64 i, .slice av R cy] w1 fun e w' => ∃ b c9, e = .returned (.slice (some ⟨b, 0, none⟩) R c9) ∧ R ≤ c9 ∧ w1.heap.size ≤ b ∧ b < w'.heap.size ∧ Has w' b (turnM xs R i y) ∧ Ext w1 w') := fun w1 h => l6Reflect_spec R da od n cD R cy i xs y _ w1 (HR.out.ext (hE.out.trans h)) HN.out hR0 hR (HOY.out.ext h) rfl hli HXB.out (fun e => by have := HYB.out.2 e; omega)
          have hzL : (turnM xs R i y).length = R := turnM_len _ _ _ _
          have hrl : Hid (∀ j, j < L.length → (row L j).length ≤ 1024) := fun j hj => by
            have h1 := (hS.out.eqv _).1 (row_mem hj)
            have := (latB_bnd (hS.out.lat _ h1).1).1
            omega
          clear hes hown hyb hly hTk
          go_wp2_with fail
          refine wp_region_held_drew (S := (fun w' => Ext wr w' ∧ (∀ b o, b < wr.heap.size → w'.cell? ⟨b, o, none⟩ = wr.cell? ⟨b, o, none⟩))) (by kernel_rfl) (ext2 (Ext.refl wr).drew) (fun hHeld => ?_)
          refine wpAnyH_take (i := 0) (v := ?v1) rfl (by kernel_rfl) (by kernel_rfl) (by kernel_rfl) (fun _ _ _ h => h) (Or.inl ⟨by rfl, ?hy1⟩) hHeld ?rest1
          case hy1 => (intro wz hSw; (try dsimp only at hSw); go_simp; (try with_reducible rfl))
          (try simp only [Act.put, List.getElem_toArray, List.getElem_cons_succ, List.getElem_cons_zero]); (try simp only [List.setIfInBounds_toArray]); (try simp only [List.set_cons_succ]); (try simp only [List.set_cons_zero])
          refine wpAnyH_take (i := 1) (v := ?v2) rfl (by kernel_rfl) (by kernel_rfl) (by kernel_rfl) (fun _ _ _ h => h) (Or.inl ⟨by rfl, ?hy2⟩) hHeld ?rest2
          case hy2 => (intro wz hSw; (try dsimp only at hSw); go_simp; (try with_reducible rfl))
          (try simp only [Act.put, List.getElem_toArray, List.getElem_cons_succ, List.getElem_cons_zero]); (try simp only [List.setIfInBounds_toArray]); (try simp only [List.set_cons_succ]); (try simp only [List.set_cons_zero])
          refine wpAnyH_take (i := 2) (v := ?v3) rfl (by kernel_rfl) (by kernel_rfl) (by kernel_rfl) (fun _ _ _ h => h) (Or.inl ⟨by rfl, ?hy3⟩) hHeld ?rest3
          case hy3 => (intro wz hSw; (try dsimp only at hSw); go_simp; (try with_reducible rfl))
          (try simp only [Act.put, List.getElem_toArray, List.getElem_cons_succ, List.getElem_cons_zero]); (try simp only [List.setIfInBounds_toArray]); (try simp only [List.set_cons_succ]); (try simp only [List.set_cons_zero])
          refine wpAnyH_take (i := 3) (v := ?v4) rfl (by kernel_rfl) (by kernel_rfl) (by kernel_rfl) (fun _ _ _ h => h) (Or.inl ⟨by rfl, ?hy4⟩) hHeld ?rest4
          case hy4 => (intro wz hSw; (try dsimp only at hSw); go_simp; (try with_reducible rfl))
          (try simp only [Act.put, List.getElem_toArray, List.getElem_cons_succ, List.getElem_cons_zero]); (try simp only [List.setIfInBounds_toArray]); (try simp only [List.set_cons_succ]); (try simp only [List.set_cons_zero])
          refine wpAnyH_take (i := 4) (v := ?v5) rfl (by kernel_rfl) (by kernel_rfl) (by kernel_rfl) (fun _ _ _ h => h) (Or.inl ⟨by rfl, ?hy5⟩) hHeld ?rest5
          case hy5 => (intro wz hSw; (try dsimp only at hSw); go_simp; (try with_reducible rfl))
          (try simp only [Act.put, List.getElem_toArray, List.getElem_cons_succ, List.getElem_cons_zero]); (try simp only [List.setIfInBounds_toArray]); (try simp only [List.set_cons_succ]); (try simp only [List.set_cons_zero])
          refine wpAnyH_take (i := 5) (v := ?v6) rfl (by kernel_rfl) (by kernel_rfl) (by kernel_rfl) (fun _ _ _ h => h) (Or.inl ⟨by rfl, ?hy6⟩) hHeld ?rest6
          case hy6 => (intro wz hSw; (try dsimp only at hSw); go_simp; (try with_reducible rfl))
          (try simp only [Act.put, List.getElem_toArray, List.getElem_cons_succ, List.getElem_cons_zero]); (try simp only [List.setIfInBounds_toArray]); (try simp only [List.set_cons_succ]); (try simp only [List.set_cons_zero])
          refine wpAnyH_ready (rs := [6]) (by kernel_rfl) (by simp) ?_
          refine AllReadyH.cons rfl (fun K' hK => ?_) AllReadyH.nil
          go_simp
          refine (HREF.out _ (And.left hHeld)).mono ?_
          rintro e w2 ⟨b2, c2, rfl, hc2, hb2, hb22, hh2, hE2⟩
          have X2 := (And.left hHeld).trans hE2
          have hb3 := Nat.le_trans (And.left hHeld).le hb2
          dsimp only
          refine hK.out _ _ (ext2 X2) (fun hHeld => ?_)
          clear hK
          refine wpAnyH_take (i := 7) (v := ?v7) rfl (by kernel_rfl) (by kernel_rfl) (by kernel_rfl) (fun _ _ _ h => h) (Or.inl ⟨by rfl, ?hy7⟩) hHeld ?rest7
          case hy7 => (intro wz hSw; (try dsimp only at hSw); go_simp; (try with_reducible rfl))
          (try simp only [Act.put, List.getElem_toArray, List.getElem_cons_succ, List.getElem_cons_zero]); (try simp only [List.setIfInBounds_toArray]); (try simp only [List.set_cons_succ]); (try simp only [List.set_cons_zero])
          refine wpAnyH_done (by kernel_rfl) ?_ _
          clear hHeld
          have HE2 := Lib.hid (hE.out.trans X2)
          have HB2 := Lib.hid (hB.out.ext X2)
          have HH2 := Lib.hid hh2
          have lBw : w.heap.size + 1 ≤ wr.heap.size := hB.out.1
          have lB := HB2.out.1
          have q0 := HB2.out.2 0 _ rfl
          have q1 := HB2.out.2 1 _ rfl
          clear HREF hh2 hE2 hcell
          go_wp2_with fail
          clear lB q0 q1
          refine (l5Lattice_spec R da od n cD b2 0 R c2 (turnM xs R i y) w2 (HH2.out.reads hzL) hR (by omega)).mono ?_
          rintro e w3 ⟨rfl, h3⟩
          have HX3 := Lib.hid (X2.trans h3)
          have HE3 := Lib.hid (HE2.out.trans h3)
          have HB3 := Lib.hid (HB2.out.ext h3)
          have HH3 := Lib.hid (HH2.out.ext h3)
          have hb23 := Nat.lt_of_lt_of_le hb22 h3.le
          clear h3 HB2 HH2 HE2 X2
          rcases hL : latB R (turnM xs R i y) with _ | _
          · have HF := Lib.hid (HOUT.out k i _ L y hS.out hli HTK.out hL)
            go_wp2
            go_ret2
            rw [HF.out]
            exact ⟨_, _, _, rfl, ⟨rfl, by simp, .inl rfl⟩, HE3.out⟩
          · have HLT := Lib.hid hL
            clear hL
            go_wp2_with fail
            refine (l6Insert_fr (w.heap.size + 1) gL L.length cL b2 c2 R L (turnM xs R i y) wr w3 hP.out rfl HX3.out lBw hb3 hb23 HH3.out hzL hrl.out (by omega) (by omega)).mono ?_
            rintro e w4 ⟨g4, c4, fr, rfl, hP4, h4, hfr⟩
            have HE4 := Lib.hid (HE3.out.trans h4)
            have HB4 := Lib.hid (HB3.out.ext h4)
            have HX4 := Lib.hid (HX3.out.trans h4)
            have HH4 := Lib.hid (HH3.out.ext h4)
            have HP4 := Lib.hid hP4
            have hb24 := Nat.lt_of_lt_of_le hb23 h4.le
            have hle4 := h4.le
            have hle3 := HX3.out.le
            clear hP4 HE3 HB3 HH3
            rcases hfr with ⟨rfl, hin⟩ | ⟨rfl, hin, hnew⟩
            · have HS5 : Hid (OrbS xs R q x k (i + 1) (es.map (·.2)) L) := HOLD.out k i _ L y hS.out HTK.out (by rw [← hin]; exact mem_insA.2 (.inl rfl))
              have HP5 := Lib.hid (hP.out.ext HX4.out)
              have HT5 := Lib.hid (hT.out.ext HX4.out)
              have hng : ¬ (1200 < (L.length : Int)) := by omega
              have hng2 : (1200 < (L.length : Int)) = False := eq_false hng
              clear h4 HP4
              go_wp2
              exact ⟨⟨i + 1, gL, cL, gT, cT, es, L, by omega, hkE, by first | rfl | simp, rfl, rfl, HS5, HP5, HT5, HE4, HB4⟩, by (simp [intOf]) <;> omega⟩
            · have hni : turnM xs R i y ∉ L := insA_mem hS.out.sr hin
              have HT4 := Lib.hid (hT.out.ext HX4.out)
              have HOW : Hid (Own w4 (w.heap.size + 1) w4.heap.size (some ⟨b2, 0, none⟩) R (turnM xs R i y)) := HH4.out.own (by omega) hb24 hzL
              have hgT := lg
              have HIN := Lib.hid hin
              clear h4 hT
              by_cases hbig : 1200 < L.length + 1
              · have HF := Lib.hid (HMANY.out k i _ L y hS.out hli HTK.out (by omega))
                have hbT : (1200 < ((L.length : Nat) : Int) + 1) = True := eq_true (by omega)
                have hbT2 : (1200 < L.length + 1) = True := eq_true hbig
                go_wp2_with (at_builtin; refine wpList_appendRowB rfl (.tmp 50) (.tmp 52) rfl (w.heap.size + 1) (w.heap.size + 1) (.slice (some ⟨gT, 0, none⟩) es.length cT) es (turnM xs R i y) (some ⟨b2, 0, none⟩) c2 1 w4.heap.size R rfl hzL rfl rfl HT4.out HOW.out (by omega) (Nat.le_trans lBw HX4.out.le) ?_; intro a5 c5 w5 hT5 hg5; have HT5 := Lib.hid hT5; have HG5 := Lib.hid hg5; clear hT5 hg5)
                have E5 := Lib.hid (HE4.out.grown HG5.out (fun z hz => by have := (HT4.out.blk z hz).1; omega))
                go_ret2
                rw [HF.out]
                exact ⟨_, _, _, rfl, ⟨rfl, by simp, .inl rfl⟩, E5.out⟩
              · have hbT : (1200 < ((L.length : Nat) : Int) + 1) = False := eq_false (by omega)
                have hbT2 : (1200 < L.length + 1) = False := eq_false hbig
                have HS5 : Hid (OrbS xs R q x k (i + 1) ((es ++ [(some (⟨b2, 0, none⟩ : Addr), turnM xs R i y)]).map (·.2)) (insA (turnM xs R i y) L)) := by
                  rw [Hid, List.map_append]
                  exact HNEW.out k i _ L y hS.out hli HTK.out hni HLT.out (by omega)
                go_wp2_with (at_builtin; refine wpList_appendRowB rfl (.tmp 50) (.tmp 52) rfl (w.heap.size + 1) (w.heap.size + 1) (.slice (some ⟨gT, 0, none⟩) es.length cT) es (turnM xs R i y) (some ⟨b2, 0, none⟩) c2 1 w4.heap.size R rfl hzL rfl rfl HT4.out HOW.out (by omega) (Nat.le_trans lBw HX4.out.le) ?_; intro a5 c5 w5 hT5 hg5; have HT5 := Lib.hid hT5; have HG5 := Lib.hid hg5; clear hT5 hg5)
                have E5 := Lib.hid (HE4.out.grown HG5.out (fun z hz => by have := (HT4.out.blk z hz).1; omega))
                obtain ⟨gT5, rfl⟩ := HT5.out.addr (by simp)
                have HP5 : Hid (RowsP w5 (w.heap.size + 1) (.slice (some ⟨g4, 0, none⟩) (insA (turnM xs R i y) L).length c4) (insA (turnM xs R i y) L)) := HP4.out.keepB HG5.out (fun z hz => by simp [Value.ownBlock] at hz; omega) HT4.out.typ
                have HB5 : Hid (Cells w5 w.heap.size [.int .i64 (R : Nat), .slice (some ⟨da, od, none⟩) n cD]) := HB4.out.grown HG5.out (fun z hz => by have := (HT4.out.blk z hz).1; omega)
                have HT6 : Hid (RowsB w5 (w.heap.size + 1) (w.heap.size + 1) (.slice (some ⟨gT5, 0, none⟩) (es ++ [(some (⟨b2, 0, none⟩ : Addr), turnM xs R i y)]).length c5) (es ++ [(some (⟨b2, 0, none⟩ : Addr), turnM xs R i y)])) := by rw [List.length_append, List.length_singleton]; exact HT5.out
                exact ⟨⟨i + 1, g4, c4, gT5, c5, es ++ [(some (⟨b2, 0, none⟩ : Addr), turnM xs R i y)], insA (turnM xs R i y) L, by omega, by simp; omega, by first | rfl | simp, by rw [HIN.out], by simp, HS5, HP5, HT6, E5, HB5⟩, by (simp [intOf]) <;> omega⟩
        · obtain rfl : i = R := by omega
          have HS5 := Lib.hid (HNX.out k _ L hS.out)
          go_wp2
          exact ⟨⟨k + 1, gL, cL, gT, cT, es, L, by omega, by first | rfl | simp, rfl, rfl, HS5, hP, hT, hE, hB⟩, by (simp [intOf]) <;> omega⟩
    · obtain rfl : k = es.length := by omega
      have HF := Lib.hid (HDONE.out _ _ L hS.out (by rw [List.length_map]))
      have HFL : Hid (L.flatten.length ≤ 1048576) := by
        rw [Hid, flat_len (R := R) (fun v hv => (latB_bnd (hS.out.lat v ((hS.out.eqv v).1 hv)).1).1)]
        have : L.length * R ≤ 1200 * 4 := Nat.mul_le_mul hsm hR
        omega
      go_wp2
      go_ret2
      rw [HF.out]
      obtain ⟨a9, c9, e9, hR9⟩ := rowsP_toR hP.out (Nat.le_succ _) (Nat.le_refl _) HFL.out
      injection e9 with e91 e92 e93
      subst e91
      exact ⟨_, cL, _, rfl, hR9, hE.out⟩

set_option maxRecDepth 100000 in
set_option maxHeartbeats 3200000 in
theorem orbitOf_spec {R : Int} {a0 oa n bx ox nx : Nat} {l x : List Int} {w : World} {i : List (List Int)} (hT : Reads w (some ⟨a0, oa, none⟩) n l) (hm0 : n ≤ 1048576) (hx : Reads w (some ⟨bx, ox, none⟩) nx x) (hmx : nx ≤ 1048576) (hM : obO R l x = i) :
    Calls Tryz.prog 43 #[.agg #[.int .i64 R, .slice (some ⟨a0, oa, none⟩) n n], .slice (some ⟨bx, ox, none⟩) nx nx] w fun e w' => ∃ v, e = .returned v ∧ Rrows w w' v i ∧ Ext w w' := by
  subst hM
  have HT := Lib.hid hT
  have Hx := Lib.hid hx
  rcases hG : carG R l with _ | v
  · have HF : Hid (obO R l x = []) := by rw [Hid, obO, hG]
    clear hT hx
    go_enter Tryz.func43, Tryz.ntmps43
    go_wp2_with fail
    refine (isCartan_no (HT.out.ext ((Ext.refl w).alloc _)) hm0 hG).mono ?_
    rintro e w2 ⟨rfl, hE⟩
    go_wp2
    go_ret
    exact ⟨_, rfl, ⟨_, _, _, rfl, by rw [HF.out]; exact ⟨rfl, by simp, .inl rfl⟩, by omega⟩, ((Ext.refl w).alloc _).trans hE⟩
  · obtain ⟨K, rfl, hK1, hK4, hlK, ht⟩ := carG_some hG
    have hnK : Hid (n = K * K) := by rw [Hid, ← hT.len]; exact hlK
    obtain ⟨hh, hcl⟩ := climbs_tab (show 0 < K by omega) hK4 ht
    have HCL := Lib.hid hcl
    have HXB := Lib.hid (lenOk_tab (by omega) hK4 ht).xb
    have HCO := Lib.hid (coOk_tab hK1 hK4 ht)
    have HPR : Hid (Prs l K) := prs_tab hK1 hK4 ht
    obtain ⟨q, hq⟩ := low_desc HCO.out
    have HQ := Lib.hid hq
    have HF : Hid (obO K l x = orbO l K x) := by rw [Hid, obO, hG]; rfl
    clear hT hx hcl hq
    go_enter Tryz.func43, Tryz.ntmps43
    go_wp2_with fail
    refine (isCartan_yes (HT.out.ext ((Ext.refl w).alloc _)) hm0 hG).mono ?_
    rintro e w3 ⟨rfl, hE⟩
    have HE3 := Lib.hid (((Ext.refl w).alloc _).trans hE)
    have HB3 := Lib.hid ((cells_new w #[.int .i64 (K : Nat), .slice (some ⟨a0, oa, none⟩) n n] 27).ext hE)
    have lB := HB3.out.1
    have q0 := HB3.out.2 0 _ rfl
    have q1 := HB3.out.2 1 _ rfl
    clear hE
    go_wp2_with fail
    clear lB q0 q1
    refine (l5Lattice_spec K a0 oa n n bx ox nx nx x _ (Hx.out.ext HE3.out) hK4 hmx).mono ?_
    rintro e w4 ⟨rfl, h4⟩
    have HE4 := Lib.hid (HE3.out.trans h4)
    have HB4 := Lib.hid (HB3.out.ext h4)
    clear h4 HB3 HE3
    have lB := HB4.out.1
    have q0 := HB4.out.2 0 _ rfl
    have q1 := HB4.out.2 1 _ rfl
    rcases hL : latB K x with _ | _
    · have HF : Hid (obO K l x = []) := by rw [Hid, HF.out, orbO, climbO_no hL]
      go_wp2
      go_ret
      exact ⟨_, rfl, ⟨_, _, _, rfl, by rw [HF.out]; exact ⟨rfl, by simp, .inl rfl⟩, by omega⟩, HE4.out⟩
    · have HLB := Lib.hid (latB_bnd hL)
      have HNX : Hid (nx = K) := by rw [Hid, ← Hx.out.len]; exact HLB.out.1
      have HLT := Lib.hid hL
      have hnx := HNX.out
      subst hnx
      have HSP := Lib.hid (l6Orbit_spec nx a0 oa n n bx ox nx l hh x q w4 (HT.out.ext HE4.out) hnK.out hK1 hK4 HXB.out HCL.out HCO.out HPR.out HQ.out (Hx.out.ext HE4.out) HLT.out)
      have HSM : Hid ((orbO l nx x).length ≤ 1200) := orbO_le hK4 HCO.out HPR.out HQ.out
      clear hL
      go_wp2_with fail
      refine HSP.out.mono ?_
      rintro e w5 ⟨a5, c5, ok, rfl, hR5, h5⟩
      have HR5 := Lib.hid hR5
      have HE5 := Lib.hid (HE4.out.trans h5)
      have hle4 := HE4.out.le
      have hsm := HSM.out
      clear hR5 h5
      go_wp2
      go_ret
      exact ⟨_, rfl, ⟨_, _, _, rfl, by rw [HF.out]; exact HR5.out.mono hle4 (Nat.le_refl _), by omega⟩, HE5.out⟩
end Go.Proofs.YtlnpaplbcocmkaaGreat

/-
  OrbitOf, by the program.
-/
namespace Go.Proofs.YtlnpaplbcocmkaaGreat
open Go.ChangeShapes Go.WideShapes Go.ChangeAt Go.RowKit
set_option linter.unusedVariables false
set_option linter.unusedSimpArgs false

theorem lex_abv : ∀ {x y : List Int}, lexB x y = true → abvB x y = true
  | a :: x, b :: y, h => by
    rw [lexB] at h
    rw [abvB]
    split
    · next e => rw [if_pos e] at h; exact lex_abv h
    · next e => rw [if_neg e] at h; exact h
  | [], _, h => by simp [lexB] at h
  | _ :: _, [], h => by simp [lexB] at h
theorem abv_lex {x y : List Int} (h : abvB x y = true) : lexB y x = false := by
  rcases e : lexB y x with _ | _
  · rfl
  · have := abv_trans h (lex_abv e)
    rw [abv_irr] at this; cases this
theorem srtA_perm {l : List (List Int)} (h : l.Nodup) : (srtA l).Perm l := by
  obtain ⟨h1, h2⟩ := srtA_ok l
  exact perm_of_sub (sorted_nodup h1) (fun y hy => (h2 y).1 hy) (nodup_le h (fun y hy => (h2 y).2 hy))
theorem srtA_desc (l : List (List Int)) : (srtA l).Pairwise (fun a b => lexB b a = false) := (srtA_ok l).1.imp (fun h => abv_lex h)
theorem climb_lat {xs : List Int} {R : Nat} : ∀ (f : Nat) (w d : List Int) (rows : List Nat), climbM xs R f w = some (d, rows) → latB R d = true
  | 0, _, _, _, e => by cases e
  | f + 1, w, d, rows, e => by
    rw [climbM] at e
    rcases hl : latB R w with _ | _
    · rw [hl] at e; cases e
    · rw [hl, if_pos rfl] at e
      by_cases hn : negI w < R
      · rw [if_pos hn] at e
        obtain ⟨p, hp, e2⟩ := Option.map_eq_some_iff.1 e
        injection e2 with e2 e3
        exact climb_lat f _ d p.2 (by rw [hp, ← e2])
      · rw [if_neg hn] at e
        injection e with e
        injection e with e1 e2
        subst e1; exact hl
/-- What the program's orbit asks of its entries. -/
theorem orbd_all9 {xs d : List Int} {R : Nat} (hR : R ≤ 4) (h : CoOk xs R) (hpr : Prs xs R) (h24 : (posR (trn xs R) R).length ≤ 24) (hd : ∀ k, 0 ≤ gi d k) (hl : latB R d = true) : ∀ k, k ≤ (orbL xs R d k).length → (orbL xs R d k).length ≤ 390625 ∧ ∀ c, c ∈ orbL xs R d k → c.1.length = R ∧ (∀ e, -1000000 ≤ gi c.1 e ∧ gi c.1 e ≤ 1000000) ∧ c.2.length ≤ 24 := fun k hk => by
  obtain ⟨hdl, hdb⟩ := latB_bnd hl
  have ho := orb_ok h hd hdl k hk
  refine ⟨orbd_bnd hR h hpr hd hdl ho, fun c hc => ?_⟩
  obtain ⟨⟨u, hu⟩, hn⟩ := orb_pair h hd hdl ho c hc
  have hI : ImB xs R (24 * 1000) c.1 := by
    have : ∀ u v, Pair xs R d u v → ImB xs R (24 * 1000) v := fun u v hp => by
      induction hp with
      | nil => exact imB_start hR h.clo hdl (by omega) hdb
      | cons hi _ ih => exact imB_turn h.clo ih hi
    exact this u _ hu
  refine ⟨(pair_img h hdl hu).2, fun e => by have := imB_ent h.clo (by omega) hI e; omega, ?_⟩
  have : negC (posR (trn xs R) R) R c.1 ≤ (posR (trn xs R) R).length := List.countP_le_length
  omega
theorem WordV.form2 {w : World} {lo B : Nat} {v : Value} {p : List Int} (h : WordV w lo B v p) : ∃ a c, v = .slice a p.length c := by
  rcases h with ⟨e, e2⟩ | ⟨c, e, _⟩
  · subst e2; exact ⟨_, _, e⟩
  · exact ⟨_, _, e⟩
theorem OrbM.shape2 {w : World} {lo : Nat} {v : Value} {l : List (List Int × List Int)} (h : OrbM w lo v l) (h0 : 0 < l.length) : ∃ (g c : Nat) (B W : Nat → Nat), v = .slice (some ⟨g, 0, none⟩) l.length c ∧ lo ≤ g ∧ g < w.heap.size ∧ (∀ k, k < l.length → ∃ c u, w.cell? ⟨g, k * 2, none⟩ = some (.slice (some ⟨B k, 0, none⟩) (entO l k).1.length c) ∧ w.cell? ⟨g, k * 2 + 1, none⟩ = some u ∧ Own w lo w.heap.size (some ⟨B k, 0, none⟩) (entO l k).1.length (entO l k).1 ∧ WordV w lo (W k) u (entO l k).2) ∧ (∀ i j, i < l.length → j < l.length → i ≠ j → B i ≠ B j) ∧ ∀ i j, i < l.length → j < l.length → i ≠ j → (entO l i).2 ≠ [] → (entO l j).2 ≠ [] → W i ≠ W j := by
  obtain ⟨us, B, W, h1, h2, h3, h4⟩ := h
  rcases h1.2 with ⟨e1, e2⟩ | ⟨g, cap, cur, e1, hb, hg, hn, hc, hcs, htk⟩
  · omega
  · refine ⟨g, cap, B, W, e1, hb, (Array.getElem?_eq_some_iff.1 hg).1, fun k hk => ?_, h3, h4⟩
    obtain ⟨⟨c, h5⟩, h6, u, h7, h8⟩ := h2 k hk
    have key : ∀ j x, j < l.length * 2 → us[j]? = some x → w.cell? ⟨g, j, none⟩ = some x := fun j x hj hx => by
      rw [cell_of_row w g j _ _ _ hg, ← Array.getElem?_toList]
      have : (cur.toList.take (l.length * 2))[j]? = us[j]? := by rw [htk]
      rw [List.getElem?_take, if_pos hj] at this
      rw [this, hx]
    exact ⟨c, u, key _ _ (by omega) (by rw [Nat.mul_comm]; exact h5), key _ _ (by omega) (by rw [Nat.mul_comm]; exact h7), h6, h8⟩
set_option maxRecDepth 100000 in
theorem desc_fn (n c c' : Nat) (a a' : Option Addr) (xs ys : List Int) (w : World) (hx : Reads w a n xs) (hy : Reads w a' n ys) (hn : n ≤ 1024) :
    Calls Tryz.prog 87 #[.slice a n c, .slice a' n c'] w fun e w' => e = .returned (.int .i64 (cmpL ys xs)) ∧ ∃ os, w' = Go.Sort.grow w os := by
  have HC := Lib.hid (compare_list n c' c a' a ys xs w hy hx hn)
  clear hx hy
  go_enter Tryz.func87, Tryz.ntmps87
  go_wp2_with fail
  refine HC.out.mono ?_
  rintro e w2 ⟨rfl, rfl⟩
  go_wp2
  go_ret
  exact ⟨rfl, #[], by rw [Go.Sort.grow_empty]⟩
/-- The weights of the first k entries, with their blocks. -/
def esO (B : Nat → Nat) (L : List (List Int × List Int)) (k : Nat) : List (Option Addr × List Int) := (List.range k).map fun i => (some ⟨B i, 0, none⟩, (entO L i).1)
theorem esO_len (B : Nat → Nat) (L : List (List Int × List Int)) (k : Nat) : (esO B L k).length = k := by simp [esO]
theorem esO_succ (B : Nat → Nat) (L : List (List Int × List Int)) (k : Nat) : esO B L k ++ [(some ⟨B k, 0, none⟩, (entO L k).1)] = esO B L (k + 1) := by simp [esO, List.range_succ]
theorem esO_all (B : Nat → Nat) (L : List (List Int × List Int)) : (esO B L L.length).map (·.2) = L.map (·.1) := by
  apply List.ext_getElem
  · simp [esO]
  · intro i h1 h2
    have hi : i < L.length := by simpa using h2
    simp [esO, entO_lt hi]
theorem esO_nd {B : Nat → Nat} {L : List (List Int × List Int)} (h : ∀ i j, i < L.length → j < L.length → i ≠ j → B i ≠ B j) : ApartB (esO B L L.length) := by
  rw [ApartB, esO, List.pairwise_map]
  refine List.Pairwise.imp_of_mem ?_ List.nodup_range
  intro a b ha hb hne z h1 h2
  simp only [blk] at h1 h2
  injection h1 with h1
  injection h2 with h2
  exact h a b (List.mem_range.1 ha) (List.mem_range.1 hb) hne (h1.trans h2.symm)
set_option maxRecDepth 100000 in
set_option maxHeartbeats 6400000 in
theorem orbitOf_impl {R : Int} {a0 oa n bx ox nx : Nat} {l x : List Int} {w : World} {i : List (List Int)} (hT : Reads w (some ⟨a0, oa, none⟩) n l) (hm0 : n ≤ 1048576) (hx : Reads w (some ⟨bx, ox, none⟩) nx x) (hmx : nx ≤ 1048576) (hM : obO R l x = i) :
    Calls Tryz.prog 44 #[.agg #[.int .i64 R, .slice (some ⟨a0, oa, none⟩) n n], .slice (some ⟨bx, ox, none⟩) nx nx] w fun e w' => ∃ v, e = .returned v ∧ Rrows w w' v i ∧ Ext w w' := by
  subst hM
  have HT := Lib.hid hT
  have Hx := Lib.hid hx
  rcases hG : carG R l with _ | v
  · have HF : Hid (obO R l x = []) := by rw [Hid, obO, hG]
    clear hT hx
    go_enter Tryz.func44, Tryz.ntmps44
    go_wp2_with fail
    refine (wrapCartan_no (HT.out.ext ((Ext.refl w).alloc _)) hm0 hG).mono ?_
    rintro e w2 ⟨rfl, hE⟩
    go_wp2
    go_ret
    exact ⟨_, rfl, ⟨_, _, _, rfl, by rw [HF.out]; exact ⟨rfl, by simp, .inl rfl⟩, by omega⟩, ((Ext.refl w).alloc _).trans hE⟩
  · obtain ⟨K, rfl, hK1, hK4, hlK, ht⟩ := carG_some hG
    have hnK : Hid (n = K * K) := by rw [Hid, ← hT.len]; exact hlK
    obtain ⟨hh, hcl⟩ := climbs_tab (show 0 < K by omega) hK4 ht
    have HCL := Lib.hid hcl
    have HXB := Lib.hid (lenOk_tab (by omega) hK4 ht).xb
    have HCO := Lib.hid (coOk_tab hK1 hK4 ht)
    have H24 := Lib.hid (co24_tab hK1 hK4 ht)
    have HPR : Hid (Prs l K) := prs_tab hK1 hK4 ht
    obtain ⟨q, hq⟩ := low_desc HCO.out
    have HQ := Lib.hid hq
    have HF : Hid (obO K l x = orbO l K x) := by rw [Hid, obO, hG]; rfl
    have HLE : Hid ((orbO l K x).length ≤ 1200) := orbO_le hK4 HCO.out HPR.out HQ.out
    clear hT hx hcl hq
    go_enter Tryz.func44, Tryz.ntmps44
    go_wp2_with fail
    refine (wrapCartan_yes (HT.out.ext ((Ext.refl w).alloc _)) hK1 hK4 ht hlK).mono ?_
    rintro e w2 ⟨BC, LB, ns, rfl, hns, hW⟩
    have HE2 := Lib.hid (((Ext.refl w).alloc _).trans hW.ext)
    obtain ⟨xa, xn, xc, hbox, hstr⟩ := hW.box
    have HBX := Lib.hid hbox
    clear hW hns hbox hstr
    go_wp2_with fail
    refine (raised_impl BC K a0 oa n n nx nx bx ox _ _ l hh x _ HBX.out (HT.out.ext HE2.out) hnK.out hK1 hK4 HXB.out HCL.out (Hx.out.ext HE2.out) hmx).mono ?_
    rintro e w3 ⟨h3, ⟨hO, rfl⟩ | ⟨d, rows, b, c9, v9, hO, rfl, hc9, hb, hb2, hhd, hdl, hGr, hz9, hrl⟩⟩
    · have HE3 := Lib.hid (HE2.out.trans h3)
      have HF : Hid (obO K l x = []) := by rw [Hid, HF.out, orbO, hO]
      clear hO h3
      go_wp2
      go_ret
      exact ⟨_, rfl, ⟨_, _, _, rfl, by rw [HF.out]; exact ⟨rfl, by simp, .inl rfl⟩, by omega⟩, HE3.out⟩
    · have HE3 := Lib.hid (HE2.out.trans h3)
      have HBX3 := Lib.hid (HBX.out.ext h3)
      obtain ⟨hdl2, hdn, hdt⟩ := climb_top HCO.out HPR.out HQ.out _ x d rows hO
      have hdlat := climb_lat _ x d rows hO
      have HOE := Lib.hid (orbE_of hK4 HCO.out HPR.out HQ.out hdn hdl)
      have HO9 := Lib.hid (orbd_all9 hK4 HCO.out HPR.out H24.out hdn hdlat)
      have HSELF : Hid (upsW l K q d = d) := upsW_id hdn q
      have HOO : Hid (orbO l K x = if ((orbF l K d).map (·.1)).all (latB K) && decide ((orbF l K d).length ≤ 1200) then srtA ((orbF l K d).map (·.1)) else []) := by simp only [Hid, orbO, hO]
      have hle2 := HE2.out.le
      have HOW : Hid (Own w3 w.heap.size w3.heap.size (some ⟨b, 0, none⟩) K d) := hhd.own (by omega) hb2 hdl
      have hle3 := HE3.out.le
      obtain ⟨o9, n9, k9, rfl⟩ : ∃ o9 n9 k9, v9 = .slice o9 n9 k9 := by obtain ⟨a, c, e, _⟩ := hGr.shape; exact ⟨_, _, _, e⟩
      clear hO h3 hhd hGr hdn hdt hdlat hdl2 HBX
      go_wp2_with fail
      refine (orbit_impl BC K a0 oa n n b c9 w.heap.size _ _ l d w3 HBX3.out (HT.out.ext HE3.out) hnK.out hK1 hK4 HXB.out hdl HOW.out hle3 HO9.out).mono ?_
      rintro e w4 ⟨g, c, N, rfl, hN, hM4, h4⟩
      have HE4 := Lib.hid (HE3.out.trans h4)
      have HBX4 := Lib.hid (HBX3.out.ext h4)
      have hNle : N ≤ 390625 := by have := (HO9.out N (by omega)).1; omega
      have hLF := orbF_at hN hNle
      have HENT : Hid (∀ k, k < (orbL l K d N).length → (entO (orbL l K d N) k).1.length = K) := fun k hk => ((HO9.out N (by omega)).2 _ (by rw [entO_lt hk]; exact List.getElem_mem hk)).1
      rw [hLF] at hM4 hN HENT
      have h0N : 0 < (orbF l K d).length := by
        have h1 := (HOE.out.mem d).2 ⟨hdl, HSELF.out⟩
        rw [← List.length_map (f := (·.1))]
        exact List.length_pos_of_mem h1
      have HND : Hid (((orbF l K d).map (·.1)).Nodup) := HOE.out.nd
      obtain ⟨FL, hFL⟩ : ∃ FL, orbF l K d = FL := ⟨_, rfl⟩
      rw [hFL] at hM4 hN HENT HND HOO h0N
      obtain ⟨g1, c1, B, W, e1, hg1, hlg, hcell, hBd, _⟩ := hM4.shape2 h0N
      injection e1 with e1 e9 e2
      clear e9
      injection e1 with e1
      injection e1 with e1
      subst e1
      subst e2
      have HCELL : Hid (∀ k, k < N → ∃ ck ua un uc, w4.cell? ⟨g, k * 2, none⟩ = some (.slice (some ⟨B k, 0, none⟩) K ck) ∧ w4.cell? ⟨g, k * 2 + 1, none⟩ = some (.slice ua un uc) ∧ Own w4 w.heap.size w4.heap.size (some ⟨B k, 0, none⟩) K (entO FL k).1) := fun k hk => by
        obtain ⟨ck, u, p0, p1, p2, p3⟩ := hcell k (by omega)
        rw [HENT.out k (by omega)] at p0 p2
        obtain ⟨ua, uc, rfl⟩ := p3.form2
        exact ⟨ck, ua, _, uc, p0, p1, p2⟩
      have HBD := Lib.hid hBd
      have HENT2 : Hid (∀ k, k < N → (entO FL k).1.length = K) := fun k hk => HENT.out k (by omega)
      have HFL1 : Hid (∀ k, k < N → latB K (entO FL k).1 = false → obO K l x = []) := fun k hk h => by
        rw [HF.out, HOO.out]
        have h2 : (FL.map (·.1)).all (latB K) = false := by
          rw [List.all_eq_false]
          refine ⟨_, List.mem_map.2 ⟨FL[k]'(by omega), List.getElem_mem _, rfl⟩, ?_⟩
          rw [entO_lt (by omega)] at h
          rw [h]; simp
        rw [h2]; rfl
      have HFL2 : Hid (1200 < N → obO K l x = []) := fun h => by
        rw [HF.out, HOO.out, decide_eq_false (show ¬ FL.length ≤ 1200 by omega), Bool.and_false]; rfl
      have HFL3 : Hid (N ≤ 1200 → (∀ k, k < N → latB K (entO FL k).1 = true) → obO K l x = srtA (FL.map (·.1))) := fun h h2 => by
        have h3 : (FL.map (·.1)).all (latB K) = true := List.all_eq_true.2 fun y hy => by
          obtain ⟨c, hc, rfl⟩ := List.mem_map.1 hy
          obtain ⟨j, hj, rfl⟩ := List.mem_iff_getElem.1 hc
          have := h2 j (by omega)
          rwa [entO_lt hj] at this
        rw [HF.out, HOO.out, h3, decide_eq_true (show FL.length ≤ 1200 by omega)]; rfl
      have HNL := Lib.hid hN
      have HRB0 : Hid (RowsB w4 w4.heap.size w.heap.size (.slice none 0 0) (esO B FL 0)) := rowsB_nil w4 _ _
      have hle4 := HE4.out.le
      have hN0 : 0 < N := by omega
      clear hcell hM4 h4 HOE HOO HSELF hFL hLF HBX3 HOW HO9 HENT hBd hN h0N HE3 hdl hb hb2 hz9 hrl
      go_wp2_with fail
      go_loopw [32, 9, 11] (fun z v _ wr => ∃ (k cv : Nat) (va : Option Addr), k ≤ N ∧ k ≤ 1200 ∧ z = .int .i64 k ∧ v = .slice va k cv ∧ Hid (RowsB wr w4.heap.size w.heap.size (.slice va k cv) (esO B FL k)) ∧ Hid (Ext w4 wr) ∧ Hid (∀ j, j < k → latB K (entO FL j).1 = true)) (fun z _ _ _ => N - (intOf z).toNat)
      case atStart => exact ⟨0, 0, none, by omega, by omega, rfl, rfl, HRB0, Ext.refl _, fun j hj => by omega⟩
      case round =>
        clear HRB0
        obtain ⟨k, cv, va, hk, hk12, rfl, rfl, hRB, hE, hA⟩ := hrel
        by_cases hlt : k < N
        · have hltI : (k : Int) < (N : Int) := by omega
          obtain ⟨ck, ua, un, uc, p0, p1, p2⟩ := HCELL.out k hlt
          have hx0 := (hE.out.cells g (k * 2) hlg).trans p0
          have hx1 := (hE.out.cells g (k * 2 + 1) hlg).trans p1
          have lgw := Nat.lt_of_lt_of_le hlg hE.out.le
          have X1 := Lib.hid ((Ext.refl wr).alloc (.cells #[.slice (some ⟨B k, 0, none⟩) K ck, .slice ua un uc] 72))
          have HOWN := Lib.hid ((p2.ext (hE.out.trans X1.out)).mono (Nat.le_refl _) (hE.out.trans X1.out).le)
          have HCALL := Lib.hid (hasWeight_impl BC K a0 oa n n (B k) 0 K ck _ _ (entO FL k).1 _ (HBX4.out.ext (hE.out.trans X1.out)) HOWN.out.reads hK4 (by omega))
          have HBB := Lib.hid (cells_new wr #[.slice (some ⟨B k, 0, none⟩) K ck, .slice ua un uc] 72)
          have b0 := HBB.out.2 0 _ rfl
          have lb := HBB.out.1
          clear p0 p1 p2
          go_wp2_with fail
          refine HCALL.out.mono ?_
          rintro e w5 ⟨rfl, h5⟩
          have HE5 := Lib.hid ((hE.out.trans X1.out).trans h5)
          have HRB5 := Lib.hid (hRB.out.ext (X1.out.trans h5))
          have HOWN5 := Lib.hid ((HOWN.out.ext h5).mono (Nat.le_refl _) h5.le)
          have hb5 := HBB.out.ext h5
          have b0 := hb5.2 0 _ rfl
          have lb := hb5.1
          clear hx0 hx1 lgw HCALL h5 hb5 HBB HOWN hRB X1
          rcases hL : latB K (entO FL k).1 with _ | _
          · have HF9 := Lib.hid (HFL1.out k hlt hL)
            go_wp2
            go_ret
            exact ⟨_, rfl, ⟨_, _, _, rfl, by rw [HF9.out]; exact ⟨rfl, by simp, .inl rfl⟩, by omega⟩, HE4.out.trans HE5.out⟩
          · have HLT := Lib.hid hL
            clear hL
            by_cases hk2 : k = 1200
            · have HF9 := Lib.hid (HFL2.out (by omega))
              clear HRB5 HOWN5 hA HCELL HFL1 HFL2 HFL3 HLT hk hk12 hlt hltI HENT2 HBD HND HNL
              subst hk2
              go_wp2
              go_ret
              exact ⟨_, rfl, ⟨_, _, _, rfl, by rw [HF9.out]; exact ⟨rfl, by simp, .inl rfl⟩, by omega⟩, HE4.out.trans HE5.out⟩
            · have hkT : ((k : Int) == 1200) = false := beq_eq_false_iff_ne.2 (by omega)
              have hkl : (esO B FL k).length = k := esO_len B FL k
              have HL1 := Lib.hid (HENT2.out k hlt)
              have hle5 := HE5.out.le
              go_wp2_with (at_builtin; refine wpList_appendRowB rfl (.tmp 46) (.tmp 49) rfl w4.heap.size w.heap.size (.slice va k cv) (esO B FL k) (entO FL k).1 (some ⟨B k, 0, none⟩) ck 1 w5.heap.size K rfl HL1.out rfl rfl HRB5.out HOWN5.out (by omega) hle5 ?_; intro a6 c6 w6 hR6 hg6; have HR6 := Lib.hid hR6; have HG6 := Lib.hid hg6; clear hR6 hg6)
              have E6 := Lib.hid (HE5.out.grown HG6.out (fun z hz => (HRB5.out.blk z hz).1))
              have HR7 : Hid (RowsB w6 w4.heap.size w.heap.size (.slice a6 (k + 1) c6) (esO B FL (k + 1))) := by
                have h := HR6.out
                rw [hkl, esO_succ] at h
                exact h
              have HA7 : Hid (∀ j, j < k + 1 → latB K (entO FL j).1 = true) := fun j hj => by
                by_cases e : j = k
                · subst e; exact HLT.out
                · exact hA.out j (by omega)
              exact ⟨⟨k + 1, c6, a6, by omega, by omega, by first | rfl | simp, by first | rfl | rw [hkl], HR7, E6, HA7⟩, by (simp [intOf]) <;> omega⟩
        · obtain rfl : k = N := by omega
          have HF9 := Lib.hid (HFL3.out hk12 hA.out)
          have HMP : Hid ((srtA (FL.map (·.1))).Perm (FL.map (·.1))) := srtA_perm HND.out
          have HL9 : Hid ((esO B FL k).map (·.2) = FL.map (·.1)) := by rw [Hid, ← HNL.out]; exact esO_all B FL
          have HN9 : Hid (ApartB (esO B FL k)) := by rw [Hid, ← HNL.out]; exact esO_nd (fun i j hi hj => HBD.out i j (by omega) (by omega))
          have HROW : Hid (∀ y, y ∈ FL.map (·.1) → y.length = K) := fun y hy => by
            obtain ⟨c, hc, rfl⟩ := List.mem_map.1 hy
            obtain ⟨j, hj, rfl⟩ := List.mem_iff_getElem.1 hc
            have := HENT2.out j (by rw [← HNL.out]; exact hj)
            rwa [entO_lt hj] at this
          have hll : (FL.map (·.1)).length = k := by rw [List.length_map]; exact HNL.out
          have HSRT := Lib.hid (sort_rowsB 87 (fun x y => cmpL y x) lexB K w4.heap.size w.heap.size (.slice va k cv) (esO B FL k) (FL.map (·.1)) (srtA (FL.map (·.1))) wr hRB.out HL9.out (by omega) (by omega) (by omega) HROW.out (enters_of Tryz.func87 (by kernel_rfl) rfl) (fun x y => cmpL_neg x y) lexB_irrefl lexB_trans lexB_ntrans lexB_total (fun c c' a a' xs ys w1 hxs hys hx hy => desc_fn K c c' a a' xs ys w1 hx hy (by omega)) HMP.out (srtA_desc _))
          have hblk := Lib.hid hRB.out.blk
          go_wp2_with fail
          refine HSRT.out.mono ?_
          rintro e w6 ⟨rfl, hg6, es6, hp6, hm6, hP6⟩
          have HP6 := Lib.hid hP6
          have HA6 := Lib.hid (HN9.out.perm hp6.symm)
          have HM6 := Lib.hid hm6
          have E6 := Lib.hid (hE.out.grown hg6 (fun z hz => (hblk.out z hz).1))
          have E7 := Lib.hid (HE4.out.trans E6.out)
          have HFT : Hid ((srtA (FL.map (·.1))).flatten.length ≤ 1048576) := by
            rw [Hid, flat_len (R := K) (fun y hy => HROW.out y (HMP.out.mem_iff.1 hy)), HMP.out.length_eq, hll]
            have : k * K ≤ 1200 * 4 := Nat.mul_le_mul hk12 hK4
            omega
          have hsl : (srtA (FL.map (·.1))).length = k := by rw [HMP.out.length_eq]; exact hll
          clear hP6 hg6 hp6 hm6
          go_wp2
          go_ret
          obtain ⟨a9, c9, e9, hR9⟩ := RowsB.toR HP6.out HM6.out HA6.out (Nat.le_refl _) hle4 (Nat.le_refl _) HFT.out
          injection e9 with e91 e92 e93
          subst e91
          rw [hsl] at hR9
          exact ⟨_, rfl, ⟨_, _, _, rfl, by rw [HF9.out]; exact hR9, by omega⟩, E7.out⟩
end Go.Proofs.YtlnpaplbcocmkaaGreat

/-
  StabilizerOrder, in both texts.
-/
namespace Go.Proofs.YtlnpaplbcocmkaaGreat
open Go.ChangeShapes Go.WideShapes Go.ChangeAt Go.RowKit
set_option linter.unusedVariables false
set_option linter.unusedSimpArgs false

def stO (R : Int) (l x : List Int) : Int := if (obO R l x).length = 0 then 0 else (woO R l).tdiv ((obO R l x).length : Nat)
theorem obO_none {R : Int} {l x : List Int} (h : carG R l = none) : obO R l x = [] := by rw [obO, h]
theorem woO_some {K : Nat} {l : List Int} {v : List Nat × List Int} (hK1 : 1 ≤ K) (hK4 : K ≤ 4) (hG : carG K l = some v) (ht : tabGet K l = some v) : woO K l = (sumA l K (levN l K) : Nat) ∧ sumA l K (levN l K) ≤ 10156250 := by
  have h1 := coOk_tab hK1 hK4 ht
  have h2 := sumA_bnd (lev_len hK4 h1) (levN l K)
  have h3 : levN l K ≤ 26 := by rw [levN]; have := List.findIdx_le_length (xs := List.range 26) (p := fun k => (levA l K k).isEmpty); simpa using this
  exact ⟨by rw [woO, hG]; rfl, by omega⟩
theorem tdiv_b9 {a b : Int} (ha : 0 ≤ a) (ha2 : a ≤ 10156250) (hb : 1 ≤ b) : 0 ≤ a.tdiv b ∧ a.tdiv b ≤ 10156250 := by
  rw [Int.tdiv_eq_ediv_of_nonneg ha]
  exact ⟨Int.ediv_nonneg ha (by omega), Int.le_trans (Int.ediv_le_self _ ha) ha2⟩

set_option maxRecDepth 100000 in
set_option maxHeartbeats 3200000 in
theorem stabilizerOrder_spec {R : Int} {a0 oa n bx ox nx : Nat} {l x : List Int} {w : World} {i : Int} (hT : Reads w (some ⟨a0, oa, none⟩) n l) (hm0 : n ≤ 1048576) (hx : Reads w (some ⟨bx, ox, none⟩) nx x) (hmx : nx ≤ 1048576) (hM : stO R l x = i) :
    Calls Tryz.prog 45 #[.agg #[.int .i64 R, .slice (some ⟨a0, oa, none⟩) n n], .slice (some ⟨bx, ox, none⟩) nx nx] w fun e w' => e = .returned (.int .i64 i) ∧ Ext w w' := by
  subst hM
  have HT := Lib.hid hT
  have Hx := Lib.hid hx
  have X0 := Lib.hid ((Ext.refl w).alloc (.cells #[.int .i64 R, .slice (some ⟨a0, oa, none⟩) n n] 27))
  have HBX := Lib.hid (cells_new w #[.int .i64 R, .slice (some ⟨a0, oa, none⟩) n n] 27)
  have HOR := Lib.hid (orbitOf_spec (R := R) (HT.out.ext X0.out) hm0 (Hx.out.ext X0.out) hmx rfl)
  have HF0 : Hid ((obO R l x).length = 0 → stO R l x = 0) := fun h => by rw [stO, if_pos h]
  have HF1 : Hid (¬ (obO R l x).length = 0 → stO R l x = (woO R l).tdiv ((obO R l x).length : Nat)) := fun h => by rw [stO, if_neg h]
  have HON : Hid (carG R l = none → (obO R l x).length = 0) := fun h => by rw [obO_none h]; rfl
  obtain ⟨O, hO⟩ : ∃ O, obO R l x = O := ⟨_, rfl⟩
  rw [hO] at HOR HF0 HF1 HON
  clear hT hx hO
  go_enter Tryz.func45, Tryz.ntmps45
  go_wp2_with fail
  refine HOR.out.mono ?_
  rintro e w2 ⟨v2, rfl, ⟨a2, n2, c2, rfl, hR2, hn2⟩, hE2⟩
  have HE2 := Lib.hid (X0.out.trans hE2)
  have HB2 := Lib.hid (HBX.out.ext hE2)
  have HL := Lib.hid hR2.len
  clear hR2 hE2 HOR
  have lB := HB2.out.1
  have q0 := HB2.out.2 0 _ rfl
  have q1 := HB2.out.2 1 _ rfl
  by_cases h0 : n2 = 0
  · have HF := Lib.hid (HF0.out (by rw [HL.out]; exact h0))
    subst h0
    clear HF0 HF1
    go_wp2
    go_ret
    exact ⟨by rw [HF.out]; rfl, HE2.out⟩
  · have HF := Lib.hid (HF1.out (by rw [HL.out]; exact h0))
    have hz1 : (n2 = 0) = False := eq_false h0
    have hz : ((n2 : Int) = 0) = False := eq_false (by omega)
    have hn1 : 1 ≤ n2 := by omega
    rcases hG : carG R l with _ | v
    · have := HON.out hG
      rw [HL.out] at this
      exact absurd this h0
    · have HGG := Lib.hid hG
      obtain ⟨K, rfl, hK1, hK4, hlK, ht⟩ := carG_some hG
      obtain ⟨hw1, hw2⟩ := woO_some hK1 hK4 hG ht
      have HW1 := Lib.hid hw1
      have hnK : Hid (n = K * K) := by rw [Hid, ← HT.out.len]; exact hlK
      have hxb := (lenOk_tab (by omega) hK4 ht).xb
      have HWO := Lib.hid (l6Order_spec (cn := n) (HT.out.ext HE2.out) hnK.out hK1 hK4 hxb (coOk_tab hK1 hK4 ht) (co24_tab hK1 hK4 ht))
      obtain ⟨s, hs⟩ : ∃ s, sumA l K (levN l K) = s := ⟨_, rfl⟩
      rw [hs] at HWO hw2 HW1
      have hb := tdiv_b9 (a := s) (b := n2) (by omega) (by omega) (by omega)
      have hde : (s : Int).tdiv (n2 : Int) = (s : Int) / (n2 : Int) := Int.tdiv_eq_ediv_of_nonneg (by omega)
      have HF : Hid (stO K l x = (s : Int) / (n2 : Int)) := by rw [Hid, HF.out, HL.out, HW1.out, hde]
      rw [hde] at hb
      have v1 : IntKind.i64.wrap ((s : Int) / (n2 : Int)) = (s : Int) / (n2 : Int) := IntWalk.i64_in _ ⟨by omega, by omega⟩
      have v1' : wrap64 ((s : Int) / (n2 : Int)) = (s : Int) / (n2 : Int) := IntWalk.wrap64_in _ ⟨by omega, by omega⟩
      clear hde
      clear hs hG ht hlK hw1 hb HF0 HF1 HON h0 hxb
      go_wp2_with fail
      refine HWO.out.mono ?_
      rintro e w3 ⟨rfl, hE3⟩
      go_wp2
      go_ret
      exact ⟨by rw [HF.out]; rfl, HE2.out.trans hE3⟩

set_option maxRecDepth 100000 in
set_option maxHeartbeats 3200000 in
theorem stabilizerOrder_impl {R : Int} {a0 oa n bx ox nx : Nat} {l x : List Int} {w : World} {i : Int} (hT : Reads w (some ⟨a0, oa, none⟩) n l) (hm0 : n ≤ 1048576) (hx : Reads w (some ⟨bx, ox, none⟩) nx x) (hmx : nx ≤ 1048576) (hM : stO R l x = i) :
    Calls Tryz.prog 46 #[.agg #[.int .i64 R, .slice (some ⟨a0, oa, none⟩) n n], .slice (some ⟨bx, ox, none⟩) nx nx] w fun e w' => e = .returned (.int .i64 i) ∧ Ext w w' := by
  subst hM
  have HT := Lib.hid hT
  have Hx := Lib.hid hx
  have X0 := Lib.hid ((Ext.refl w).alloc (.cells #[.int .i64 R, .slice (some ⟨a0, oa, none⟩) n n] 27))
  have HBX := Lib.hid (cells_new w #[.int .i64 R, .slice (some ⟨a0, oa, none⟩) n n] 27)
  have HOR := Lib.hid (orbitOf_impl (R := R) (HT.out.ext X0.out) hm0 (Hx.out.ext X0.out) hmx rfl)
  have HF0 : Hid ((obO R l x).length = 0 → stO R l x = 0) := fun h => by rw [stO, if_pos h]
  have HF1 : Hid (¬ (obO R l x).length = 0 → stO R l x = (woO R l).tdiv ((obO R l x).length : Nat)) := fun h => by rw [stO, if_neg h]
  have HON : Hid (carG R l = none → (obO R l x).length = 0) := fun h => by rw [obO_none h]; rfl
  obtain ⟨O, hO⟩ : ∃ O, obO R l x = O := ⟨_, rfl⟩
  rw [hO] at HOR HF0 HF1 HON
  clear hT hx hO
  go_enter Tryz.func46, Tryz.ntmps46
  go_wp2_with fail
  refine HOR.out.mono ?_
  rintro e w2 ⟨v2, rfl, ⟨a2, n2, c2, rfl, hR2, hn2⟩, hE2⟩
  have HE2 := Lib.hid (X0.out.trans hE2)
  have HB2 := Lib.hid (HBX.out.ext hE2)
  have HL := Lib.hid hR2.len
  clear hR2 hE2 HOR
  have lB := HB2.out.1
  have q0 := HB2.out.2 0 _ rfl
  have q1 := HB2.out.2 1 _ rfl
  by_cases h0 : n2 = 0
  · have HF := Lib.hid (HF0.out (by rw [HL.out]; exact h0))
    subst h0
    clear HF0 HF1
    go_wp2
    go_ret
    exact ⟨by rw [HF.out]; rfl, HE2.out⟩
  · have HF := Lib.hid (HF1.out (by rw [HL.out]; exact h0))
    have hz1 : (n2 = 0) = False := eq_false h0
    have hz : ((n2 : Int) = 0) = False := eq_false (by omega)
    have hn1 : 1 ≤ n2 := by omega
    rcases hG : carG R l with _ | v
    · have := HON.out hG
      rw [HL.out] at this
      exact absurd this h0
    · have HGG := Lib.hid hG
      obtain ⟨K, rfl, hK1, hK4, hlK, ht⟩ := carG_some hG
      obtain ⟨hw1, hw2⟩ := woO_some hK1 hK4 hG ht
      have HW1 := Lib.hid hw1
      have hnK : Hid (n = K * K) := by rw [Hid, ← HT.out.len]; exact hlK
      have HWO := Lib.hid (weylOrder_impl (HT.out.ext HE2.out) hm0 hw1)
      obtain ⟨s, hs⟩ : ∃ s, sumA l K (levN l K) = s := ⟨_, rfl⟩
      rw [hs] at HWO hw2 HW1
      have hb := tdiv_b9 (a := s) (b := n2) (by omega) (by omega) (by omega)
      have hde : (s : Int).tdiv (n2 : Int) = (s : Int) / (n2 : Int) := Int.tdiv_eq_ediv_of_nonneg (by omega)
      have HF : Hid (stO K l x = (s : Int) / (n2 : Int)) := by rw [Hid, HF.out, HL.out, HW1.out, hde]
      rw [hde] at hb
      have v1 : IntKind.i64.wrap ((s : Int) / (n2 : Int)) = (s : Int) / (n2 : Int) := IntWalk.i64_in _ ⟨by omega, by omega⟩
      have v1' : wrap64 ((s : Int) / (n2 : Int)) = (s : Int) / (n2 : Int) := IntWalk.wrap64_in _ ⟨by omega, by omega⟩
      clear hde
      clear hs hG ht hlK hw1 hb HF0 HF1 HON h0
      go_wp2_with fail
      refine HWO.out.mono ?_
      rintro e w3 ⟨rfl, hE3⟩
      go_wp2
      go_ret
      exact ⟨by rw [HF.out]; rfl, HE2.out.trans hE3⟩
end Go.Proofs.YtlnpaplbcocmkaaGreat
