/-
  The lexicographic order of lists, by the specification.
-/
import Derived.Test.YtlnpaplbcocmkaaGreatRd5
import Derived.Test.YtlnpaplbcocmkaaGreatBl
import Derived.Test.YtlnpaplbcocmkaaGreatPrt
import Derived.Test.YtlnpaplbcocmkaaGreatRw5
import Derived.Test.YtlnpaplbcocmkaaGreatAct
import Derived.Test.YtlnpaplbcocmkaaGreatRsd
import Derived.Test.YtlnpaplbcocmkaaGreatTw6
import Derived.Test.YtlnpaplbcocmkaaGreatRev
namespace Go.Proofs.YtlnpaplbcocmkaaGreat
open Go.ChangeShapes Go.WideShapes Go.ChangeAt Go.RowKit
set_option linter.unusedVariables false
set_option linter.unusedSimpArgs false

/-- A list is lexicographically greater. -/
def abvB : List Int → List Int → Bool
  | a :: x, b :: y => if a = b then abvB x y else decide (b < a)
  | _ :: _, [] => true
  | [], _ => false
theorem abvB_ne : ∀ {x y : List Int} {i : Nat}, i < x.length → i < y.length → (∀ e, e < i → gi x e = gi y e) → gi x i ≠ gi y i → abvB x y = decide (gi y i < gi x i)
  | a :: x, b :: y, 0, _, _, _, hne => by
    have hne : a ≠ b := hne
    rw [abvB, if_neg hne]; rfl
  | a :: x, b :: y, i + 1, h1, h2, he, hne => by
    have h0 : a = b := he 0 (by omega)
    have ih := abvB_ne (x := x) (y := y) (i := i) (by simpa using h1) (by simpa using h2) (fun e h => he (e + 1) (by omega)) hne
    rw [abvB, if_pos h0, ih]; rfl
theorem abvB_eq : ∀ {x y : List Int}, (∀ e, e < x.length → e < y.length → gi x e = gi y e) → abvB x y = decide (y.length < x.length)
  | [], y, _ => by simp [abvB]
  | a :: x, [], _ => by simp [abvB]
  | a :: x, b :: y, he => by
    have h0 : a = b := he 0 (by simp) (by simp)
    have ih := abvB_eq (x := x) (y := y) (fun e h1 h2 => he (e + 1) (by simpa using h1) (by simpa using h2))
    rw [abvB, if_pos h0, ih]
    simp

set_option maxRecDepth 100000 in
set_option maxHeartbeats 3200000 in
theorem l6Above_spec (a a' : Option Addr) (n n' c c' : Nat) (x y : List Int) (w : World) (hx : Reads w a n x) (hy : Reads w a' n' y) (hm : n ≤ 1048576) (hm' : n' ≤ 1048576) :
    Calls Tryz.prog 105 #[.slice a n c, .slice a' n' c'] w fun e w' => e = .returned (.bool (abvB x y)) ∧ Ext w w' := by
  have HX := Lib.hid hx
  have HY := Lib.hid hy
  have HNE : Hid (∀ i, i < n → i < n' → (∀ e, e < i → gi x e = gi y e) → gi x i ≠ gi y i → abvB x y = decide (gi y i < gi x i)) := fun i h1 h2 h3 h4 => abvB_ne (by rw [hx.len]; exact h1) (by rw [hy.len]; exact h2) h3 h4
  have HEQ : Hid ((∀ e, e < n → e < n' → gi x e = gi y e) → abvB x y = decide (n' < n)) := fun h => by
    have := abvB_eq (x := x) (y := y) (fun e h1 h2 => h e (by rw [← hx.len]; exact h1) (by rw [← hy.len]; exact h2))
    rw [this, hx.len, hy.len]
  obtain ⟨A, hA⟩ : ∃ A, abvB x y = A := ⟨_, rfl⟩
  rw [hA] at HNE HEQ
  rw [hA]
  clear hx hy hA
  go_enter Tryz.func105, Tryz.ntmps105
  go_wp2_with fail
  go_loopw [5] (fun z wr => ∃ i : Nat, i ≤ n ∧ i ≤ n' ∧ z = .int .i64 i ∧ Hid (∀ e, e < i → gi x e = gi y e) ∧ Hid (Ext w wr)) (fun z _ => n - (intOf z).toNat)
  case atStart => exact ⟨0, by omega, by omega, rfl, fun e h => by omega, Ext.refl _⟩
  case round =>
    obtain ⟨i, hi, hi', rfl, hE, hX⟩ := hrel
    by_cases h1 : i < n
    · have h1I : (i : Int) < (n : Int) := by omega
      by_cases h2 : i < n'
      · have h2I : (i : Int) < (n' : Int) := by omega
        obtain ⟨bx, ox, rfl, hbx, hxc⟩ := reads5 HX.out (by omega)
        obtain ⟨bY, oY, rfl, hbY, hyc⟩ := reads5 HY.out (by omega)
        have cx := (hX.out.cells bx _ hbx).trans (hxc i h1)
        have cy := (hX.out.cells bY _ hbY).trans (hyc i h2)
        have lx := Nat.lt_of_lt_of_le hbx hX.out.le
        have ly := Nat.lt_of_lt_of_le hbY hX.out.le
        have HN := Lib.hid (HNE.out i h1 h2 hE.out)
        clear hxc hyc
        by_cases hne : gi x i = gi y i
        · have HE2 : Hid (∀ e, e < i + 1 → gi x e = gi y e) := fun e h => by
            by_cases e1 : e = i
            · rw [e1]; exact hne
            · exact hE.out e (by omega)
          rw [hne] at cx
          obtain ⟨q, hq⟩ : ∃ q, gi y i = q := ⟨_, rfl⟩
          rw [hq] at cx cy
          clear hne hq HN hE
          go_wp2_with fail
          go_region
          all_goals
            go_wp2
            exact ⟨⟨i + 1, by omega, by omega, by first | rfl | simp | trivial, HE2, hX.out.drew⟩, by (simp [intOf]) <;> omega⟩
        · have HF := Lib.hid (HN.out hne)
          obtain ⟨p, hp⟩ : ∃ p, gi x i = p := ⟨_, rfl⟩
          obtain ⟨q, hq⟩ : ∃ q, gi y i = q := ⟨_, rfl⟩
          rw [hp] at cx HF hne
          rw [hq] at cy HF hne
          have hb : ((p : Int) != q) = true := by simpa using hne
          have hpq : (p = q) = False := eq_false hne
          clear hp hq HN hE
          go_wp2_with fail
          go_region
          all_goals
            go_wp2_with fail
            go_region
            all_goals
              go_wp2
              go_ret
              exact ⟨ret_bool HF.out.symm, hX.out.drew.drew⟩
      · obtain rfl : n' = i := by omega
        have HF : Hid (A = true) := by rw [Hid, HEQ.out (fun e _ h => hE.out e h)]; exact decide_eq_true h1
        go_wp2
        go_ret
        exact ⟨ret_bool HF.out.symm, hX.out⟩
    · obtain rfl : n = i := by omega
      have HF : Hid (A = false) := by rw [Hid, HEQ.out (fun e h _ => hE.out e h)]; exact decide_eq_false (by omega)
      have h3 : ¬ ((n' : Int) < (n : Int)) := by omega
      go_wp2
      go_ret
      exact ⟨ret_bool HF.out.symm, hX.out⟩
end Go.Proofs.YtlnpaplbcocmkaaGreat

/-
  Orbits of weights, as the program finds them. Plain mathematics.
-/
namespace Go.Proofs.YtlnpaplbcocmkaaGreat
set_option linter.unusedVariables false
set_option linter.unusedSimpArgs false
set_option maxRecDepth 100000

/-- What an entry of an orbit is followed by: each turn whose first number below 0 stands at its row. -/
def chl (xs : List Int) (R : Nat) (e : List Int × List Int) : Nat → List (List Int × List Int)
  | 0 => []
  | i + 1 => chl xs R e i ++ (if negI (turnM xs R i e.1) = i then [(turnM xs R i e.1, (i : Int) :: e.2)] else [])
/-- The orbit as the program finds it, behind so many entries. -/
def orbL (xs : List Int) (R : Nat) (d : List Int) : Nat → List (List Int × List Int)
  | 0 => [(d, [])]
  | k + 1 => orbL xs R d k ++ (match (orbL xs R d k)[k]? with | some e => chl xs R e R | none => [])
theorem mem_chl {xs : List Int} {R : Nat} {e c : List Int × List Int} : ∀ {n : Nat}, c ∈ chl xs R e n ↔ ∃ i, i < n ∧ negI (turnM xs R i e.1) = i ∧ c = (turnM xs R i e.1, (i : Int) :: e.2)
  | 0 => by simp [chl]
  | n + 1 => by
    rw [chl, List.mem_append, mem_chl (n := n)]
    constructor
    · rintro (⟨i, hi, h⟩ | h)
      · exact ⟨i, by omega, h⟩
      · split at h
        · next hn => rw [List.mem_singleton] at h; exact ⟨n, by omega, hn, h⟩
        · cases h
    · rintro ⟨i, hi, hn, rfl⟩
      by_cases e' : i = n
      · subst e'; right; rw [if_pos hn]; exact List.mem_singleton.2 rfl
      · left; exact ⟨i, by omega, hn, rfl⟩
theorem chl_nodup {xs : List Int} {R : Nat} {e : List Int × List Int} : ∀ n, ((chl xs R e n).map (·.1)).Nodup
  | 0 => by simp [chl]
  | n + 1 => by
    rw [chl, List.map_append]
    split
    · next hn =>
      rw [List.map_singleton, List.nodup_append]
      refine ⟨chl_nodup n, by simp, fun a ha b hb => ?_⟩
      rw [List.mem_singleton] at hb
      subst hb
      rintro rfl
      obtain ⟨c, hc, hce⟩ := List.mem_map.1 ha
      obtain ⟨i, hi, hin, rfl⟩ := mem_chl.1 hc
      simp only at hce
      rw [hce, hn] at hin
      omega
    · simpa using chl_nodup n
theorem chl_len {xs : List Int} {R : Nat} {e c : List Int × List Int} {n : Nat} (h : c ∈ chl xs R e n) : c.2.length = e.2.length + 1 := by
  obtain ⟨i, _, _, rfl⟩ := mem_chl.1 h; simp
/-- What is known of the orbit behind k entries. -/
structure OrbOk (xs : List Int) (R : Nat) (d : List Int) (k : Nat) (l : List (List Int × List Int)) : Prop where
  nd : (l.map (·.1)).Nodup
  head : l[0]? = some (d, [])
  par : ∀ c, c ∈ l → c = (d, []) ∨ ∃ j e, j < k ∧ l[j]? = some e ∧ c ∈ chl xs R e R
  chd : ∀ j e, j < k → l[j]? = some e → ∀ c, c ∈ chl xs R e R → c ∈ l
  len : ∀ c, c ∈ l → c.1.length = R
  sr : l.Pairwise fun a b => a.2.length ≤ b.2.length
  up : ∀ c, c ∈ l → ∀ e, l[k]? = some e → c.2.length ≤ e.2.length + 1
  le : k ≤ l.length
theorem orb_start {xs d : List Int} {R : Nat} (hl : d.length = R) : OrbOk xs R d 0 [(d, [])] where
  nd := by simp
  head := rfl
  par := fun c hc => Or.inl (List.mem_singleton.1 hc)
  chd := fun j e hj => by omega
  len := fun c hc => by rw [List.mem_singleton.1 hc]; exact hl
  sr := by simp
  up := fun c hc e he => by rw [List.mem_singleton.1 hc]; simp
  le := by simp
theorem negI_dom {d : List Int} (h : ∀ k, 0 ≤ gi d k) : negI d = d.length := negI_none (fun e _ => h e)
theorem orb_step {xs d : List Int} {R k : Nat} {l : List (List Int × List Int)} {e : List Int × List Int} (h : CoOk xs R) (hd : ∀ k, 0 ≤ gi d k) (ho : OrbOk xs R d k l) (he : l[k]? = some e) : OrbOk xs R d (k + 1) (l ++ chl xs R e R) := by
  obtain ⟨hk, hek⟩ := List.getElem?_eq_some_iff.1 he
  have hem : e ∈ l := by rw [← hek]; exact List.getElem_mem hk
  have hget : ∀ j, j < l.length → (l ++ chl xs R e R)[j]? = l[j]? := fun j hj => List.getElem?_append_left hj
  have hdl : d.length = R := ho.len (d, []) (by
    obtain ⟨h1, h2⟩ := List.getElem?_eq_some_iff.1 ho.head
    rw [← h2]; exact List.getElem_mem h1)
  refine ⟨?_, ?_, ?_, ?_, ?_, ?_, ?_, ?_⟩
  · rw [List.map_append, List.nodup_append]
    refine ⟨ho.nd, chl_nodup R, fun a ha b hb => ?_⟩
    rintro rfl
    obtain ⟨c, hc, rfl⟩ := List.mem_map.1 ha
    obtain ⟨c', hc', hce⟩ := List.mem_map.1 hb
    obtain ⟨i, hi, hin, rfl⟩ := mem_chl.1 hc'
    simp only at hce
    rcases ho.par c hc with rfl | ⟨j, e', hj, hje, hjc⟩
    · rw [hce, negI_dom hd] at hin
      omega
    · obtain ⟨i', hi', hin', rfl⟩ := mem_chl.1 hjc
      simp only at hce
      have hii : i' = i := by rw [← hin', ← hin, hce]
      subst hii
      have hej : e' ∈ l := by
        obtain ⟨h1, h2⟩ := List.getElem?_eq_some_iff.1 hje
        rw [← h2]; exact List.getElem_mem h1
      have h1 := congrArg (turnM xs R i') hce
      rw [turn_twice h hi' (ho.len _ hem), turn_twice h hi' (ho.len _ hej)] at h1
      obtain ⟨h2, h3⟩ := List.getElem?_eq_some_iff.1 hje
      have hp := List.pairwise_iff_getElem.1 ho.nd j k (by simpa using h2) (by simpa using hk) hj
      apply hp
      rw [List.getElem_map, List.getElem_map, h3, hek, h1]
  · rw [hget 0 (by omega)]; exact ho.head
  · intro c hc
    rcases List.mem_append.1 hc with h1 | h1
    · rcases ho.par c h1 with h2 | ⟨j, e', hj, hje, hjc⟩
      · exact Or.inl h2
      · exact Or.inr ⟨j, e', by omega, by rw [hget j (by omega)]; exact hje, hjc⟩
    · exact Or.inr ⟨k, e, by omega, by rw [hget k hk]; exact he, h1⟩
  · intro j e' hj hje c hc
    by_cases ej : j = k
    · subst ej
      rw [hget j hk, he] at hje
      cases hje
      exact List.mem_append.2 (Or.inr hc)
    · rw [hget j (by omega)] at hje
      exact List.mem_append.2 (Or.inl (ho.chd j e' (by omega) hje c hc))
  · intro c hc
    rcases List.mem_append.1 hc with h1 | h1
    · exact ho.len c h1
    · obtain ⟨i, hi, hin, rfl⟩ := mem_chl.1 h1
      exact turnM_len _ _ _ _
  · rw [List.pairwise_append]
    refine ⟨ho.sr, ?_, fun a ha b hb => ?_⟩
    · rw [List.pairwise_iff_getElem]
      intro i j hi hj hij
      rw [chl_len (List.getElem_mem hi), chl_len (List.getElem_mem hj)]
      omega
    · have := ho.up a ha e he
      rw [chl_len hb]; omega
  · intro c hc e' he'
    have hsr : (l ++ chl xs R e R).Pairwise fun a b => a.2.length ≤ b.2.length := by
      rw [List.pairwise_append]
      refine ⟨ho.sr, ?_, fun a ha b hb => ?_⟩
      · rw [List.pairwise_iff_getElem]
        intro i j hi hj hij
        rw [chl_len (List.getElem_mem hi), chl_len (List.getElem_mem hj)]
        omega
      · have := ho.up a ha e he
        rw [chl_len hb]; omega
    obtain ⟨h1, h2⟩ := List.getElem?_eq_some_iff.1 he'
    have h3 := List.pairwise_iff_getElem.1 hsr k (k + 1) (by simp; omega) h1 (by omega)
    rw [h2, List.getElem_append_left hk, hek] at h3
    rcases List.mem_append.1 hc with h4 | h4
    · have := ho.up c h4 e he; omega
    · rw [chl_len h4]; omega
  · simp; omega
/-- Behind all entries: whatever climbs to the start by the first number below 0 is there. -/
theorem orb_closed {xs d w : List Int} {R k i : Nat} {l : List (List Int × List Int)} (h : CoOk xs R) (ho : OrbOk xs R d k l) (hk : k = l.length) (hl : w.length = R) (hi : i < R) (hn : negI w = i) {p : List Int} (hp : (turnM xs R i w, p) ∈ l) : (w, (i : Int) :: p) ∈ l := by
  obtain ⟨j, hj, hje⟩ := List.mem_iff_getElem.1 hp
  refine ho.chd j _ (by omega) (List.getElem?_eq_some_iff.2 ⟨hj, hje⟩) _ (mem_chl.2 ⟨i, hi, ?_, ?_⟩)
  · simp only [turn_twice h hi hl]; exact hn
  · simp only [turn_twice h hi hl]
theorem orb_ok {xs d : List Int} {R : Nat} (h : CoOk xs R) (hd : ∀ k, 0 ≤ gi d k) (hl : d.length = R) : ∀ k, k ≤ (orbL xs R d k).length → OrbOk xs R d k (orbL xs R d k)
  | 0, _ => orb_start hl
  | k + 1, hk => by
    rw [orbL] at hk ⊢
    cases e : (orbL xs R d k)[k]? with
    | none =>
      rw [e] at hk
      simp only [List.append_nil] at hk
      have := List.getElem?_eq_none_iff.1 e
      omega
    | some c =>
      have hlt := (List.getElem?_eq_some_iff.1 e).1
      exact orb_step h hd (orb_ok h hd hl k (by omega)) e
/-- The orbit of the ones: each entry is an image, its word as long as coroots are below 0. -/
theorem orb_img {xs : List Int} {R k : Nat} {l : List (List Int × List Int)} (h : CoOk xs R) (ho : OrbOk xs R (List.replicate R 1) k l) : ∀ c, c ∈ l → Img xs R c.1 ∧ negC (posR (trn xs R) R) R c.1 = c.2.length := by
  have key : ∀ n, ∀ c, c ∈ l → c.2.length = n → Img xs R c.1 ∧ negC (posR (trn xs R) R) R c.1 = c.2.length := by
    intro n
    induction n with
    | zero =>
      intro c hc hn
      rcases ho.par c hc with rfl | ⟨j, e, hj, hje, hjc⟩
      · exact ⟨img_ones h, ones_no h⟩
      · have := chl_len hjc; omega
    | succ n ih =>
      intro c hc hn
      rcases ho.par c hc with rfl | ⟨j, e, hj, hje, hjc⟩
      · simp at hn
      · have h1 := chl_len hjc
        obtain ⟨i, hi, hin, rfl⟩ := mem_chl.1 hjc
        have hem : e ∈ l := by
          obtain ⟨h2, h3⟩ := List.getElem?_eq_some_iff.1 hje
          rw [← h3]; exact List.getElem_mem h2
        obtain ⟨h2, h3⟩ := ih e hem (by omega)
        have h4 := img_turn h h2 hi
        have h5 : gi (turnM xs R i e.1) i < 0 := by
          have := negI_lt (w := turnM xs R i e.1) (by rw [hin, turnM_len]; exact hi)
          rwa [hin] at this
        have h6 := negC_down h hi h5
        rw [turn_twice h hi h2.len] at h6
        exact ⟨h4, by simp only [List.length_cons]; omega⟩
  exact fun c hc => key _ c hc rfl
/-- Behind all entries each image is there. -/
theorem orb_all {xs : List Int} {R k : Nat} {l : List (List Int × List Int)} (h : CoOk xs R) (ho : OrbOk xs R (List.replicate R 1) k l) (hk : k = l.length) : ∀ n w, Img xs R w → negC (posR (trn xs R) R) R w = n → ∃ p, (w, p) ∈ l := by
  intro n
  induction n with
  | zero =>
    intro w hw hn
    rw [img_zero h hw hn]
    obtain ⟨h1, h2⟩ := List.getElem?_eq_some_iff.1 ho.head
    exact ⟨[], by rw [← h2]; exact List.getElem_mem h1⟩
  | succ n ih =>
    intro w hw hn
    obtain ⟨i0, hi0, hg0⟩ := img_has h hw (by omega)
    have hlt : negI w < w.length := by
      apply Classical.byContradiction
      intro hc
      have := negI_before (w := w) (k := i0) (by rw [hw.len] at hc; omega) (by rw [hw.len]; exact hi0)
      omega
    have hi : negI w < R := by rw [← hw.len]; exact hlt
    have h1 := negC_down h hi (negI_lt hlt)
    obtain ⟨p, hp⟩ := ih _ (img_turn h hw hi) (by omega)
    exact ⟨_, orb_closed h ho hk hw.len hi rfl hp⟩
/-- All lists of so many numbers from -12 to 12. -/
def cube : Nat → List (List Int)
  | 0 => [[]]
  | n + 1 => (cube n).flatMap fun t => (List.range 25).map fun k : Nat => ((k : Int) - 12) :: t
theorem cube_len : ∀ n, (cube n).length = 25 ^ n
  | 0 => rfl
  | n + 1 => by
    have : ∀ l : List (List Int), (l.flatMap fun t => (List.range 25).map fun k : Nat => ((k : Int) - 12) :: t).length = l.length * 25 := by
      intro l
      induction l with
      | nil => rfl
      | cons a l ih => rw [List.flatMap_cons, List.length_append, ih]; simp; omega
    rw [cube, this, cube_len n, Nat.pow_succ]
theorem mem_cube : ∀ {w : List Int}, (∀ x, x ∈ w → -12 ≤ x ∧ x ≤ 12) → w ∈ cube w.length
  | [], _ => by simp [cube]
  | a :: w, h => by
    rw [List.length_cons, cube, List.mem_flatMap]
    refine ⟨w, mem_cube fun x hx => h x (List.mem_cons_of_mem _ hx), List.mem_map.2 ⟨(a + 12).toNat, ?_, ?_⟩⟩
    · have := h a List.mem_cons_self
      rw [List.mem_range]; omega
    · have := h a List.mem_cons_self
      congr 1; omega
theorem nodup_le {α : Type} [DecidableEq α] : ∀ {a b : List α}, a.Nodup → (∀ y, y ∈ a → y ∈ b) → a.length ≤ b.length
  | [], _, _, _ => by simp
  | x :: a, b, hn, hs => by
    rw [List.nodup_cons] at hn
    have hx := hs x List.mem_cons_self
    have ih := nodup_le (a := a) (b := b.erase x) hn.2 (fun y hy => by
      have hne : y ≠ x := fun e => hn.1 (e ▸ hy)
      exact (List.mem_erase_of_ne hne).2 (hs y (List.mem_cons_of_mem _ hy)))
    rw [List.length_erase_of_mem hx] at ih
    have := List.length_pos_of_mem hx
    simp; omega
theorem orb_bnd {xs : List Int} {R k : Nat} {l : List (List Int × List Int)} (hR : R ≤ 4) (h : CoOk xs R) (ho : OrbOk xs R (List.replicate R 1) k l) : l.length ≤ 390625 := by
  have h1 := nodup_le (b := cube R) ho.nd (fun y hy => by
    obtain ⟨c, hc, rfl⟩ := List.mem_map.1 hy
    obtain ⟨hi, _⟩ := orb_img h ho c hc
    have hb := img_bnd h hi
    rw [← hi.len]
    refine mem_cube fun x hx => ?_
    obtain ⟨e, he, rfl⟩ := List.mem_iff_getElem.1 hx
    have := hb e
    rwa [gi_lt5 he] at this)
  rw [List.length_map, cube_len] at h1
  have : 25 ^ R ≤ 25 ^ 4 := Nat.pow_le_pow_right (by omega) hR
  omega
/-! The lengths as the specification finds them. -/
theorem abv_trans : ∀ {x y z : List Int}, abvB x y = true → abvB y z = true → abvB x z = true
  | a :: x, b :: y, c :: z, h1, h2 => by
    rw [abvB] at h1 h2 ⊢
    split at h1
    · next e =>
      subst e
      split at h2
      · next e => subst e; rw [if_pos rfl]; exact abv_trans h1 h2
      · next e => rw [if_neg e]; exact h2
    · next e =>
      split at h2
      · next e2 => subst e2; rw [if_neg e]; exact h1
      · next e2 =>
        have h1 := of_decide_eq_true h1
        have h2 := of_decide_eq_true h2
        rw [if_neg (by omega)]; exact decide_eq_true (by omega)
  | a :: x, b :: y, [], _, _ => rfl
  | _ :: _, [], z, _, h2 => by cases z <;> simp [abvB] at h2
  | [], y, z, h1, _ => by cases y <;> simp [abvB] at h1
theorem abv_irr : ∀ (x : List Int), abvB x x = false
  | [] => rfl
  | a :: x => by rw [abvB, if_pos rfl]; exact abv_irr x
theorem abv_total : ∀ {x y : List Int}, abvB y x = false → y ≠ x → abvB x y = true
  | [], [], _, h => absurd rfl h
  | [], b :: y, h, _ => by simp [abvB] at h
  | a :: x, [], _, _ => rfl
  | a :: x, b :: y, h, hne => by
    rw [abvB] at h ⊢
    split at h
    · next e => subst e; rw [if_pos rfl]; exact abv_total h (fun e => hne (by rw [e]))
    · next e =>
      have h := of_decide_eq_false h
      rw [if_neg (Ne.symm e)]; exact decide_eq_true (by omega)
/-- A list put into others in descending order, if it is not among them. -/
def insA (x : List Int) : List (List Int) → List (List Int)
  | [] => [x]
  | y :: l => if abvB y x then y :: insA x l else if y = x then y :: l else x :: y :: l
theorem mem_insA {x w : List Int} : ∀ {l : List (List Int)}, w ∈ insA x l ↔ w = x ∨ w ∈ l
  | [] => by simp [insA]
  | y :: l => by
    rw [insA]
    split
    · rw [List.mem_cons, mem_insA (l := l), List.mem_cons]
      constructor
      · rintro (h | h | h)
        · exact Or.inr (Or.inl h)
        · exact Or.inl h
        · exact Or.inr (Or.inr h)
      · rintro (h | h | h)
        · exact Or.inr (Or.inl h)
        · exact Or.inl h
        · exact Or.inr (Or.inr h)
    · split
      · next e => subst e; rw [List.mem_cons]; exact ⟨fun h => Or.inr h, fun h => h.elim Or.inl id⟩
      · rw [List.mem_cons]
theorem insA_sorted {x : List Int} : ∀ {l : List (List Int)}, l.Pairwise (fun a b => abvB a b = true) → (insA x l).Pairwise (fun a b => abvB a b = true)
  | [], _ => by simp [insA]
  | y :: l, h => by
    rw [List.pairwise_cons] at h
    rw [insA]
    split
    · next e =>
      rw [List.pairwise_cons]
      refine ⟨fun a ha => ?_, insA_sorted h.2⟩
      rcases mem_insA.1 ha with rfl | ha
      · exact e
      · exact h.1 a ha
    · next e =>
      split
      · rw [List.pairwise_cons]; exact h
      · next e2 =>
        have h3 : abvB x y = true := abv_total (by simpa using e) e2
        rw [List.pairwise_cons, List.pairwise_cons]
        refine ⟨fun a ha => ?_, h⟩
        rcases List.mem_cons.1 ha with rfl | ha
        · exact h3
        · exact abv_trans h3 (h.1 a ha)
theorem sorted_nodup {l : List (List Int)} (h : l.Pairwise (fun a b => abvB a b = true)) : l.Nodup :=
  h.imp (fun {a b} hab e => by subst e; rw [abv_irr] at hab; cases hab)
/-- The first n rows' turns of a weight put in. -/
def rowA (xs : List Int) (R : Nat) (w : List Int) (nx : List (List Int)) : Nat → List (List Int)
  | 0 => nx
  | i + 1 => if 0 < gi w i then insA (turnM xs R i w) (rowA xs R w nx i) else rowA xs R w nx i
/-- Those of the first k weights. -/
def nextA (xs : List Int) (R : Nat) (L : List (List Int)) : Nat → List (List Int)
  | 0 => []
  | k + 1 => rowA xs R (gl L k) (nextA xs R L k) R
/-- The weights of a length. -/
def levA (xs : List Int) (R : Nat) : Nat → List (List Int)
  | 0 => [List.replicate R 1]
  | n + 1 => nextA xs R (levA xs R n) (levA xs R n).length
theorem rowA_ok {xs w : List Int} {R : Nat} {nx : List (List Int)} (hs : nx.Pairwise (fun a b => abvB a b = true)) : ∀ n, (rowA xs R w nx n).Pairwise (fun a b => abvB a b = true) ∧ ∀ v, v ∈ rowA xs R w nx n ↔ v ∈ nx ∨ ∃ i, i < n ∧ 0 < gi w i ∧ v = turnM xs R i w
  | 0 => ⟨hs, fun v => by simp [rowA]⟩
  | n + 1 => by
    obtain ⟨h1, h2⟩ := rowA_ok (xs := xs) (w := w) (R := R) hs n
    rw [rowA]
    by_cases hg : 0 < gi w n
    · rw [if_pos hg]
      refine ⟨insA_sorted h1, fun v => ?_⟩
      rw [mem_insA, h2]
      constructor
      · rintro (h | h | ⟨i, hi, h⟩)
        · exact Or.inr ⟨n, by omega, hg, h⟩
        · exact Or.inl h
        · exact Or.inr ⟨i, by omega, h⟩
      · rintro (h | ⟨i, hi, h3, h⟩)
        · exact Or.inr (Or.inl h)
        · by_cases e : i = n
          · subst e; exact Or.inl h
          · exact Or.inr (Or.inr ⟨i, by omega, h3, h⟩)
    · rw [if_neg hg]
      refine ⟨h1, fun v => ?_⟩
      rw [h2]
      constructor
      · rintro (h | ⟨i, hi, h⟩)
        · exact Or.inl h
        · exact Or.inr ⟨i, by omega, h⟩
      · rintro (h | ⟨i, hi, h3, h⟩)
        · exact Or.inl h
        · by_cases e : i = n
          · subst e; exact absurd h3 hg
          · exact Or.inr ⟨i, by omega, h3, h⟩
theorem nextA_ok {xs : List Int} {R : Nat} {L : List (List Int)} : ∀ n, (nextA xs R L n).Pairwise (fun a b => abvB a b = true) ∧ ∀ v, v ∈ nextA xs R L n ↔ ∃ k i, k < n ∧ i < R ∧ 0 < gi (gl L k) i ∧ v = turnM xs R i (gl L k)
  | 0 => ⟨by simp [nextA], fun v => by simp [nextA]⟩
  | n + 1 => by
    obtain ⟨h1, h2⟩ := nextA_ok (xs := xs) (R := R) (L := L) n
    obtain ⟨h3, h4⟩ := rowA_ok (xs := xs) (R := R) (w := gl L n) h1 R
    refine ⟨h3, fun v => ?_⟩
    rw [nextA, h4, h2]
    constructor
    · rintro (⟨k, i, hk, h⟩ | ⟨i, hi, h⟩)
      · exact ⟨k, i, by omega, h⟩
      · exact ⟨n, i, by omega, hi, h⟩
    · rintro ⟨k, i, hk, hi, h⟩
      by_cases e : k = n
      · subst e; exact Or.inr ⟨i, hi, h⟩
      · exact Or.inl ⟨k, i, by omega, hi, h⟩
theorem levA_ok {xs : List Int} {R : Nat} (h : CoOk xs R) : ∀ n, (levA xs R n).Pairwise (fun a b => abvB a b = true) ∧ ∀ v, v ∈ levA xs R n ↔ Img xs R v ∧ negC (posR (trn xs R) R) R v = n
  | 0 => by
    refine ⟨by simp [levA], fun v => ?_⟩
    rw [levA, List.mem_singleton]
    constructor
    · rintro rfl; exact ⟨img_ones h, ones_no h⟩
    · rintro ⟨h1, h2⟩; exact img_zero h h1 h2
  | n + 1 => by
    obtain ⟨_, h2⟩ := levA_ok h n
    obtain ⟨h3, h4⟩ := nextA_ok (xs := xs) (R := R) (L := levA xs R n) (levA xs R n).length
    refine ⟨h3, fun v => ?_⟩
    rw [levA, h4]
    constructor
    · rintro ⟨k, i, hk, hi, hg, rfl⟩
      obtain ⟨h5, h6⟩ := (h2 (gl (levA xs R n) k)).1 (by rw [gl_lt hk]; exact List.getElem_mem hk)
      have h7 := negC_turn h.clo h.nd hi (w := gl (levA xs R n) k)
      rw [if_neg (by omega), if_pos hg] at h7
      exact ⟨img_turn h h5 hi, by omega⟩
    · rintro ⟨h5, h6⟩
      obtain ⟨i, hi, hg⟩ := img_has h h5 (by omega)
      have h7 := negC_down h hi hg
      obtain ⟨k, hk, hke⟩ := List.mem_iff_getElem.1 ((h2 (turnM xs R i v)).2 ⟨img_turn h h5 hi, by omega⟩)
      refine ⟨k, i, hk, hi, ?_, ?_⟩
      · rw [gl_lt hk, hke, gi_turn_own h hi]; omega
      · rw [gl_lt hk, hke, turn_twice h hi h5.len]
/-- The weights of a length are those of the orbit with words so long. -/
theorem lev_orb {xs : List Int} {R k : Nat} {l : List (List Int × List Int)} (h : CoOk xs R) (ho : OrbOk xs R (List.replicate R 1) k l) (hk : k = l.length) (n : Nat) : ((l.filter fun c => c.2.length == n).map (·.1)).Perm (levA xs R n) := by
  obtain ⟨h1, h2⟩ := levA_ok h n
  have hnd : ((l.filter fun c => c.2.length == n).map (·.1)).Nodup := (List.filter_sublist.map _).nodup ho.nd
  have hsub : ∀ y, y ∈ (l.filter fun c => c.2.length == n).map (·.1) ↔ y ∈ levA xs R n := by
    intro y
    rw [h2, List.mem_map]
    constructor
    · rintro ⟨c, hc, rfl⟩
      rw [List.mem_filter, beq_iff_eq] at hc
      obtain ⟨h3, h4⟩ := orb_img h ho c hc.1
      exact ⟨h3, by omega⟩
    · rintro ⟨h3, h4⟩
      obtain ⟨p, hp⟩ := orb_all h ho hk n y h3 h4
      refine ⟨(y, p), List.mem_filter.2 ⟨hp, beq_iff_eq.2 ?_⟩, rfl⟩
      have := (orb_img h ho _ hp).2
      simp only at this ⊢
      omega
  exact perm_of_sub hnd (fun y hy => (hsub y).1 hy) (nodup_le (sorted_nodup h1) (fun y hy => (hsub y).2 hy))
/-- An empty length ends them. -/
theorem lev_end {xs : List Int} {R : Nat} (h : CoOk xs R) {n : Nat} (he : levA xs R n = []) : ∀ m, n ≤ m → levA xs R m = []
  | m, hm => by
    by_cases e : m = n
    · rw [e]; exact he
    · match m, hm, e with
      | 0, hm, e => omega
      | m + 1, hm, e => rw [levA, lev_end h he m (by omega)]; rfl
theorem lev_bnd {xs : List Int} {R n : Nat} (h : CoOk xs R) (hn : (posR (trn xs R) R).length < n) : levA xs R n = [] := by
  obtain ⟨_, h2⟩ := levA_ok h n
  rw [List.eq_nil_iff_forall_not_mem]
  intro v hv
  obtain ⟨_, h3⟩ := (h2 v).1 hv
  have : negC (posR (trn xs R) R) R v ≤ (posR (trn xs R) R).length := List.countP_le_length
  omega
end Go.Proofs.YtlnpaplbcocmkaaGreat

/-
  A list put into others in descending order, by the specification.
-/
namespace Go.Proofs.YtlnpaplbcocmkaaGreat
open Go.ChangeShapes Go.WideShapes Go.ChangeAt Go.RowKit
set_option linter.unusedVariables false
set_option linter.unusedSimpArgs false

/-- Where a list goes in. -/
def atA (x : List Int) : List (List Int) → Nat
  | [] => 0
  | y :: l => if abvB y x then atA x l + 1 else 0
theorem atA_of {x : List Int} : ∀ {l : List (List Int)} {p : Nat}, p ≤ l.length → (∀ e, e < p → abvB (row l e) x = true) → (p < l.length → abvB (row l p) x = false) → atA x l = p
  | [], p, h, _, _ => by simp at h; subst h; rfl
  | y :: l, 0, _, _, h2 => by
    have : abvB y x = false := h2 (by simp)
    rw [atA, this]; rfl
  | y :: l, p + 1, h, h1, h2 => by
    have h3 : abvB y x = true := h1 0 (by omega)
    have ih := atA_of (x := x) (l := l) (p := p) (by simpa using h) (fun e he => h1 (e + 1) (by omega)) (fun hp => h2 (by simpa using hp))
    rw [atA, h3, if_pos rfl, ih]
theorem insA_there {x : List Int} : ∀ {l : List (List Int)}, atA x l < l.length → row l (atA x l) = x → insA x l = l
  | [], h, _ => by simp at h
  | y :: l, h, h2 => by
    rw [insA]
    rcases e : abvB y x with _ | _
    · rw [atA, e] at h2
      have h3 : y = x := h2
      rw [if_neg (by simp), if_pos h3]
    · rw [atA, e, if_pos rfl] at h h2
      rw [if_pos rfl, insA_there (x := x) (l := l) (by simpa using h) h2]
theorem insA_new {x : List Int} : ∀ {l : List (List Int)}, (atA x l < l.length → row l (atA x l) ≠ x) → insA x l = l.take (atA x l) ++ x :: l.drop (atA x l)
  | [], _ => by simp [insA, atA]
  | y :: l, h2 => by
    rw [insA]
    rcases e : abvB y x with _ | _
    · rw [atA, e] at h2 ⊢
      have h3 : y ≠ x := h2 (by simp)
      rw [if_neg (by simp), if_neg h3]; rfl
    · rw [atA, e, if_pos rfl] at h2 ⊢
      rw [if_pos rfl, insA_new (x := x) (l := l) (fun h => h2 (by simpa using h))]; rfl
theorem row_ins {L : List (List Int)} {x : List Int} {p i : Nat} (hp : p ≤ L.length) : row (L.take p ++ x :: L.drop p) i = if i < p then row L i else if i = p then x else row L (i - 1) := by
  simp only [row, List.getD_eq_getElem?_getD, List.getElem?_append, List.length_take, Nat.min_eq_left hp, List.getElem?_take]
  by_cases h : i < p
  · rw [if_pos h, if_pos h, if_pos h]
  · rw [if_neg h, if_neg h]
    by_cases e : i = p
    · subst e; simp
    · rw [if_neg e, show i - p = (i - p - 1) + 1 by omega, List.getElem?_cons_succ, List.getElem?_drop, show p + (i - p - 1) = i - 1 by omega]
theorem getE_ins {us : List Value} {y : Value} {p i : Nat} (hp : p ≤ us.length) : (us.take p ++ y :: us.drop p)[i]? = if i < p then us[i]? else if i = p then some y else us[i - 1]? := by
  simp only [List.getElem?_append, List.length_take, Nat.min_eq_left hp, List.getElem?_take]
  by_cases h : i < p
  · rw [if_pos h, if_pos h, if_pos h]
  · rw [if_neg h, if_neg h]
    by_cases e : i = p
    · subst e; simp
    · rw [if_neg e, show i - p = (i - p - 1) + 1 by omega, List.getElem?_cons_succ, List.getElem?_drop, show p + (i - p - 1) = i - 1 by omega]
/-- Rows of the call's own, with one more among them. -/
theorem rowsP_ins {w w' : World} {lo : Nat} {v : Value} {L : List (List Int)} {us : List Value} {B : Nat → Nat} {bx cx p : Nat} {x : List Int} (hp : p ≤ L.length) (h2 : us.length = L.length) (h3 : ∀ i, i < L.length → ∃ c, us[i]? = some (.slice (some ⟨B i, 0, none⟩) (row L i).length c) ∧ Own w lo w.heap.size (some ⟨B i, 0, none⟩) (row L i).length (row L i)) (h4 : ∀ i j, i < L.length → j < L.length → i ≠ j → B i ≠ B j) (hb : ∀ i, i < L.length → B i ≠ bx) (hE : Ext w w') (hx : Own w' lo w'.heap.size (some ⟨bx, 0, none⟩) x.length x) (ho : w'.ownsRow lo 22 1 v (L.length + 1) (us.take p ++ [.slice (some ⟨bx, 0, none⟩) x.length cx] ++ us.drop p)) : RowsP w' lo v (L.take p ++ x :: L.drop p) := by
  have hl : (L.take p ++ x :: L.drop p).length = L.length + 1 := by simp; omega
  refine ⟨us.take p ++ .slice (some ⟨bx, 0, none⟩) x.length cx :: us.drop p, fun i => if i < p then B i else if i = p then bx else B (i - 1), ?_, ?_, ?_, ?_⟩
  · rw [hl]; simpa using ho
  · rw [hl]; simp; omega
  · intro i hi
    rw [hl] at hi
    rw [getE_ins (by omega), row_ins hp]
    simp only []
    by_cases h : i < p
    · rw [if_pos h, if_pos h, if_pos h]
      obtain ⟨c, e1, e2⟩ := h3 i (by omega)
      exact ⟨c, e1, (e2.ext hE).mono (Nat.le_refl _) hE.le⟩
    · rw [if_neg h, if_neg h, if_neg h]
      by_cases e : i = p
      · rw [if_pos e, if_pos e, if_pos e]; exact ⟨cx, rfl, hx⟩
      · rw [if_neg e, if_neg e, if_neg e]
        obtain ⟨c, e1, e2⟩ := h3 (i - 1) (by omega)
        exact ⟨c, e1, (e2.ext hE).mono (Nat.le_refl _) hE.le⟩
  · intro i j hi hj hne
    rw [hl] at hi hj
    simp only []
    have key : ∀ a b, a < L.length → b < L.length → a ≠ b → B a ≠ B b := h4
    by_cases h1 : i < p
    · rw [if_pos h1]
      by_cases h5 : j < p
      · rw [if_pos h5]; exact h4 i j (by omega) (by omega) hne
      · rw [if_neg h5]
        by_cases e : j = p
        · rw [if_pos e]; exact hb i (by omega)
        · rw [if_neg e]; exact h4 i (j - 1) (by omega) (by omega) (by omega)
    · rw [if_neg h1]
      by_cases e1 : i = p
      · rw [if_pos e1]
        by_cases h5 : j < p
        · rw [if_pos h5]; exact (hb j (by omega)).symm
        · rw [if_neg h5, if_neg (by omega)]; exact (hb (j - 1) (by omega)).symm
      · rw [if_neg e1]
        by_cases h5 : j < p
        · rw [if_pos h5]; exact h4 (i - 1) j (by omega) (by omega) (by omega)
        · rw [if_neg h5]
          by_cases e : j = p
          · rw [if_pos e]; exact hb (i - 1) (by omega)
          · rw [if_neg e]; exact h4 (i - 1) (j - 1) (by omega) (by omega) (by omega)

set_option maxRecDepth 100000 in
set_option maxHeartbeats 12800000 in
theorem l6Insert_fr (lo ga nl co bx cx rx : Nat) (L : List (List Int)) (x : List Int) (w0 w : World) (h : RowsP w0 lo (.slice (some ⟨ga, 0, none⟩) nl co) L) (hn : L.length = nl) (hE0 : Ext w0 w) (hlo : lo ≤ w0.heap.size) (hb : w0.heap.size ≤ bx) (hb2 : bx < w.heap.size) (hx : Has w bx x) (hrx : x.length = rx) (hrl : ∀ i, i < L.length → (row L i).length ≤ 1024) (hxl : rx ≤ 1024) (hnm : nl ≤ 400000) :
    Calls Tryz.prog 64 #[.slice (some ⟨ga, 0, none⟩) nl co, .slice (some ⟨bx, 0, none⟩) rx cx] w fun e w' => ∃ g' c' fr, e = .returned (.tuple #[.slice (some ⟨g', 0, none⟩) (insA x L).length c', .bool fr]) ∧ RowsP w' lo (.slice (some ⟨g', 0, none⟩) (insA x L).length c') (insA x L) ∧ Ext w w' ∧ ((fr = false ∧ insA x L = L) ∨ (fr = true ∧ (insA x L).length = nl + 1 ∧ w.heap.size ≤ g')) := by
  have hP1 := h.ext hE0
  obtain ⟨vs, BK, hO, hvl, hvr, hvB⟩ := h
  rw [hn] at hO
  have HVL : Hid (vs.length = nl) := by rw [Hid, hvl, hn]
  have HVS : Hid (∀ u, u ∈ vs → u.oneCell' = true) := fun u hu => by
    obtain ⟨i, hi, rfl⟩ := List.mem_iff_getElem.1 hu
    obtain ⟨c, e1, _⟩ := hvr i (by omega)
    rw [List.getElem?_eq_getElem hi] at e1
    injection e1 with e1
    rw [e1]; rfl
  have HBN : ∀ i, i < L.length → BK i ≠ bx := fun i hi e => by
    obtain ⟨c, e1, e2⟩ := hvr i hi
    rcases e2.2 with e3 | ⟨b, e3, e4, e5, _⟩
    · cases e3.1
    · injection e3 with e3; injection e3 with e3; omega
  have HOW : Hid (w.ownsRow lo 22 1 (.slice (some ⟨ga, 0, none⟩) nl co) nl vs) := ownsRow_ext hO hE0
  have HLO : Hid (lo ≤ w.heap.size) := by have := hE0.le; show lo ≤ _; omega
  have HX : Hid (Reads w (some ⟨bx, 0, none⟩) rx x) := hx.reads hrx
  have HAT : Hid (∀ p, p ≤ nl → (∀ e, e < p → abvB (row L e) x = true) → (p < nl → abvB (row L p) x = false) → atA x L = p) := fun p h1 h2 h3 => atA_of (by omega) h2 (fun h => h3 (by omega))
  have HTH : Hid (∀ p, atA x L = p → p < nl → row L p = x → insA x L = L) := fun p e h1 h2 => by subst e; exact insA_there (by omega) h2
  have HIL : Hid (∀ p, atA x L = p ∧ p ≤ nl ∧ (p < nl → row L p ≠ x) → (insA x L).length = nl + 1) := fun p ⟨e, h0, h1⟩ => by
    subst e
    rw [insA_new (fun h => h1 (by omega)), ← hn]; simp; omega
  have HFI : Hid (∀ p, atA x L = p ∧ p ≤ nl ∧ (p < nl → row L p ≠ x) → ∀ w3 v, w3.ownsRow lo 22 1 v (nl + 1) (vs.take p ++ [.slice (some ⟨bx, 0, none⟩) rx cx] ++ vs.drop p) → Ext w w3 → RowsP w3 lo v (insA x L)) := fun p ⟨e, h0, h1⟩ w3 v ho hE3 => by
    subst e
    rw [insA_new (fun h => h1 (by omega))]
    rw [← hrx, ← hn] at ho
    have hE9 := hE0.trans hE3
    exact rowsP_ins (by omega) hvl hvr hvB HBN hE9 ((hx.ext hE3).own (by omega) (by have := hE3.le; omega) rfl) ho
  have HRW : Hid (∀ i, i < nl → ∃ b c, w.cell? ⟨ga, i, none⟩ = some (.slice (some ⟨b, 0, none⟩) (row L i).length c) ∧ Reads w (some ⟨b, 0, none⟩) (row L i).length (row L i) ∧ (row L i).length ≤ 1024 ∧ ga < w.heap.size) := fun i hi => by
    obtain ⟨c, e1, e2⟩ := hvr i (by omega)
    obtain ⟨g2, e, _, hlt, hc⟩ := ownsRow_get HOW.out (by omega)
    injection e with e
    injection e with e
    subst e
    exact ⟨BK i, c, by rw [hc i hi, e1], (e2.ext hE0).reads, hrl i (by omega), hlt⟩
  have HP1 : Hid (insA x L = L → RowsP w lo (.slice (some ⟨ga, 0, none⟩) (insA x L).length co) (insA x L)) := fun e => by rw [e, hn]; exact hP1
  have HIL0 : Hid (insA x L = L → (insA x L).length = nl) := fun e => by rw [e, hn]
  clear hvr hvB HBN hrl hx hb hb2 hE0 hlo hO hvl hP1 hrx hn
  go_enter Tryz.func64, Tryz.ntmps64
  go_wp2_with fail
  go_loopw [6] (fun z wr => ∃ e : Nat, e ≤ nl ∧ z = .int .i64 e ∧ Hid (∀ p, p < e → abvB (row L p) x = true) ∧ Hid (Ext w wr)) (fun z _ => nl - (intOf z).toNat)
  case atStart => exact ⟨0, by omega, rfl, fun p h => by omega, Ext.refl _⟩
  case round =>
    obtain ⟨p, hp, rfl, hA, hE⟩ := hrel
    by_cases hlt : p < nl
    · have hltI : (p : Int) < (nl : Int) := by omega
      obtain ⟨b, c, hc, hrd, hrl, lg⟩ := HRW.out p hlt
      have hc2 := (hE.out.cells ga p lg).trans hc
      have lg2 := Nat.lt_of_lt_of_le lg hE.out.le
      have HRD := Lib.hid hrd
      have HC := Lib.hid (l6Above_spec (some ⟨b, 0, none⟩) (some ⟨bx, 0, none⟩) (row L p).length rx c cx (row L p) x wr (hrd.ext hE.out) (HX.out.ext hE.out) (by omega) (by omega))
      have HRL := Lib.hid hrl
      clear hc hrd
      rcases hab : abvB (row L p) x with _ | _
      · rw [hab] at HC
        go_wp2_with fail
        refine HC.out.mono ?_
        rintro e' w2 ⟨rfl, hE2⟩
        have HAB := Lib.hid hab
        have E2 := Lib.hid (hE.out.trans hE2)
        have hc3 := (hE2.cells ga p lg2).trans hc2
        have lg3 := Nat.lt_of_lt_of_le lg2 hE2.le
        have HSM := Lib.hid (l1Same_spec (some ⟨b, 0, none⟩) (some ⟨bx, 0, none⟩) (row L p).length rx c cx (row L p) x w2 (HRD.out.ext E2.out) (HX.out.ext E2.out) (by omega) (by omega))
        have HAE : Hid (atA x L = p) := HAT.out p hp hA.out (fun _ => HAB.out)
        clear hc2 lg2 hE2 HC hab
        rcases hs : sameB (row L p) x with _ | _
        · rw [hs] at HSM
          have hP : Hid (atA x L = p ∧ p ≤ nl ∧ (p < nl → row L p ≠ x)) := ⟨HAE.out, hp, fun _ => of_decide_eq_false hs⟩
          clear hs HAB
          go_wp2_with fail
          refine HSM.out.mono ?_
          rintro e' w3 ⟨rfl, k9, rfl⟩
          have E3 := Lib.hid (E2.out.drewN k9)
          clear hc3 lg3 HSM HRD HRL hrl hE E2 lg HRW hlt hltI
          obtain ⟨wr, hwr⟩ : ∃ wr, w2.drewN k9 = wr := ⟨_, rfl⟩
          rw [hwr] at E3 ⊢
          clear hwr
          have hE := E3
          have OX := Lib.hid (ownsRow_ext HOW.out hE.out)
          have HLOW := Lib.hid (Nat.le_trans HLO.out hE.out.le)
          go_wp2_with fail
          obtain ⟨hnc, hcm⟩ := ownsRow_cap OX.out
          have HCX2 := Lib.hid hcm
          have hpc : p ≤ co := by omega
          have hpnI : (p : Int) ≤ (nl : Int) := by omega
          have hpcI : (p : Int) ≤ (co : Int) := by omega
          clear hcm
          obtain ⟨i1, hi1, hy0, hy1, hy2⟩ := info_parts Tryz.infoInts
          have HTK : Hid (∀ u, u ∈ vs.take p → u.oneCell' = true) := fun u hu => HVS.out u (List.mem_of_mem_take hu)
          have HDR : Hid (∀ u, u ∈ vs.drop p → u.oneCell' = true) := fun u hu => HVS.out u (List.mem_of_mem_drop hu)
          have HINL := Lib.hid (HIL.out p hP.out)
          have HFIN := Lib.hid (HFI.out p hP.out)
          rcases (show co = p ∨ ¬ co = p by omega) with hcp | hcp
          · skip
            have hcp1 : (co = p) = True := eq_true hcp
            have HCP := Lib.hid hcp
            clear hcp
            refine wp_region_held_drew (S := (fun w' => Ext wr w' ∧ (∀ b o, b < wr.heap.size → w'.cell? ⟨b, o, none⟩ = wr.cell? ⟨b, o, none⟩))) (by kernel_rfl) (ext2 (Ext.refl wr).drew) (fun hHeld => ?_)
            refine wpAnyH_take (i := 1) (v := ?v1) rfl (by kernel_rfl) (by kernel_rfl) (by kernel_rfl) (fun _ _ _ h => h) (Or.inl ⟨by rfl, ?hy1⟩) hHeld ?rest1
            case hy1 => (intro wz hSw; (try dsimp only at hSw); go_simp; (try with_reducible rfl))
            (try simp only [Act.put, List.getElem_toArray, List.getElem_cons_succ, List.getElem_cons_zero]); (try simp only [List.setIfInBounds_toArray]); (try simp only [List.set_cons_succ]); (try simp only [List.set_cons_zero])
            refine wpAnyH_take (i := 2) (v := ?v2) rfl (by kernel_rfl) (by kernel_rfl) (by kernel_rfl) (fun _ _ _ h => h) (Or.inl ⟨by rfl, ?hy2⟩) hHeld ?rest2
            case hy2 => (intro wz hSw; (try dsimp only at hSw); go_simp; (try with_reducible rfl))
            (try simp only [Act.put, List.getElem_toArray, List.getElem_cons_succ, List.getElem_cons_zero]); (try simp only [List.setIfInBounds_toArray]); (try simp only [List.set_cons_succ]); (try simp only [List.set_cons_zero])
            refine wpAnyH_take (i := 3) (v := ?v3) rfl (by kernel_rfl) (by kernel_rfl) (by kernel_rfl) (fun _ _ _ h => h) (Or.inl ⟨by rfl, ?hy3⟩) hHeld ?rest3
            case hy3 => (intro wz hSw; (try dsimp only at hSw); go_simp; (try with_reducible rfl))
            (try simp only [Act.put, List.getElem_toArray, List.getElem_cons_succ, List.getElem_cons_zero]); (try simp only [List.setIfInBounds_toArray]); (try simp only [List.set_cons_succ]); (try simp only [List.set_cons_zero])
            refine wpAnyH_take (i := 5) (v := ?v4) rfl (by kernel_rfl) (by kernel_rfl) (by kernel_rfl) (fun _ _ _ h => h) (Or.inl ⟨by rfl, ?hy4⟩) hHeld ?rest4
            case hy4 => (intro wz hSw; (try dsimp only at hSw); go_simp; (try with_reducible rfl))
            (try simp only [Act.put, List.getElem_toArray, List.getElem_cons_succ, List.getElem_cons_zero]); (try simp only [List.setIfInBounds_toArray]); (try simp only [List.set_cons_succ]); (try simp only [List.set_cons_zero])
            refine wpAnyH_take (i := 8) (v := ?v5) rfl (by kernel_rfl) (by kernel_rfl) (by kernel_rfl) (fun _ _ _ h => h) (Or.inl ⟨by rfl, ?hy5⟩) hHeld ?rest5
            case hy5 => (intro wz hSw; (try dsimp only at hSw); go_simp; (try with_reducible rfl))
            (try simp only [Act.put, List.getElem_toArray, List.getElem_cons_succ, List.getElem_cons_zero]); (try simp only [List.setIfInBounds_toArray]); (try simp only [List.set_cons_succ]); (try simp only [List.set_cons_zero])
            refine wpAnyH_take (i := 9) (v := ?v6) rfl (by kernel_rfl) (by kernel_rfl) (by kernel_rfl) (fun _ _ _ h => h) (Or.inl ⟨by rfl, ?hy6⟩) hHeld ?rest6
            case hy6 => (intro wz hSw; (try dsimp only at hSw); go_simp; (try with_reducible rfl))
            (try simp only [Act.put, List.getElem_toArray, List.getElem_cons_succ, List.getElem_cons_zero]); (try simp only [List.setIfInBounds_toArray]); (try simp only [List.set_cons_succ]); (try simp only [List.set_cons_zero])
            refine wpAnyH_take (i := 10) (v := ?v7) rfl (by kernel_rfl) (by kernel_rfl) (by kernel_rfl) (fun _ _ _ h => h) (Or.inl ⟨by rfl, ?hy7⟩) hHeld ?rest7
            case hy7 => (intro wz hSw; (try dsimp only at hSw); go_simp; (try with_reducible rfl))
            (try simp only [Act.put, List.getElem_toArray, List.getElem_cons_succ, List.getElem_cons_zero]); (try simp only [List.setIfInBounds_toArray]); (try simp only [List.set_cons_succ]); (try simp only [List.set_cons_zero])
            refine wpAnyH_ready (rs := [0, 6]) (by kernel_rfl) (by simp) ?_
            refine AllReadyH.cons rfl (fun K' hK => ?_) (AllReadyH.cons rfl (fun K' hK => ?_) AllReadyH.nil)
            · skip
              go_simp
              refine hK.out _ _ (ext2 ((Ext.refl wr).drew.alloc _)) (fun hHeld => ?_)
              clear hK
              obtain ⟨V1, hV1⟩ : ∃ V1, (wr.alloc (.cells #[] 22)).drew = V1 := ⟨_, rfl⟩
              rw [hV1] at hHeld ⊢
              have E1 := And.left hHeld
              have hs1 : Hid (V1.heap.size = wr.heap.size + 1) := by rw [Hid, ← hV1]; simp
              have L1 : V1.ownsRow wr.heap.size 22 1 (.slice (some ⟨wr.heap.size, 0, none⟩) 0 0) 0 [] := by rw [← hV1]; exact ownsRow_ext (World.ownsRow_lit wr #[] 0 (Nat.le_refl _) (by unfold maxLen; omega) (by simp)) ((Ext.refl _).drew)
              clear hV1
              refine wpAnyH_ready (rs := [4, 6]) (by kernel_rfl) (by simp) ?_
              refine AllReadyH.cons rfl (fun K' hK => ?_) (AllReadyH.cons rfl (fun K' hK => ?_) AllReadyH.nil)
              · skip
                refine wp_append_own _ (.tmp 34) (.tmp 37) 35 rfl wr.heap.size 22 i1 (.slice none 0 0) 1 24 Tryz.underlying35 hi1 hy0 hy1 hy2 rfl (by decide) (.slice (some ⟨wr.heap.size, 0, none⟩) 0 0) 0 [] rfl L1 ⟨ga, 0, none⟩ p co (vs.take p) rfl (by rw [List.length_take, HVL.out]; omega) (own_take (ownsRow_ext OX.out E1) HVL.out) HTK.out (by unfold maxLen; omega) (by omega) E1.le ?_
                intro v1 w1 hO1 hg1 _
                have O1 : w1.ownsRow wr.heap.size 22 1 v1 p (vs.take p) := by rw [Nat.zero_add, List.nil_append] at hO1; exact hO1
                have F1 : Ext wr w1 := E1.grown hg1 (fun z hz => (World.ownsRow.lt L1 z hz).1)
                obtain ⟨a1, c1, rfl⟩ := ownsRow_shape O1
                refine hK.out _ _ (ext2 F1) (fun hHeld => ?_)
                clear hK hO1 hg1
                refine wpAnyH_ready (rs := [6]) (by kernel_rfl) (by simp) ?_
                refine AllReadyH.cons rfl (fun K' hK => ?_) AllReadyH.nil
                go_simp
                refine hK.out _ _ (ext2 (F1.alloc _)) (fun hHeld => ?_)
                clear hK
                have q2 := (Ext.refl w1).alloc (.cells #[.slice (some ⟨bx, 0, none⟩) rx cx] 22)
                have S2 : Cells (w1.alloc (.cells #[.slice (some ⟨bx, 0, none⟩) rx cx] 22)) w1.heap.size [.slice (some ⟨bx, 0, none⟩) rx cx] := cells_new w1 #[.slice (some ⟨bx, 0, none⟩) rx cx] 22
                have O2 := ownsRow_ext O1 q2
                obtain ⟨V2, hV2⟩ : ∃ V2, w1.alloc (.cells #[.slice (some ⟨bx, 0, none⟩) rx cx] 22) = V2 := ⟨_, rfl⟩
                rw [hV2] at S2 O2 hHeld ⊢
                clear hV2 q2
                have E2 := And.left hHeld
                refine wpAnyH_ready (rs := [7]) (by kernel_rfl) (by simp) ?_
                refine AllReadyH.cons rfl (fun K' hK => ?_) AllReadyH.nil
                refine wp_append_own _ (.tmp 38) (.tmp 40) 35 rfl wr.heap.size 22 i1 (.slice none 0 0) 1 24 Tryz.underlying35 hi1 hy0 hy1 hy2 rfl (by decide) (.slice a1 p c1) p (vs.take p) rfl O2 ⟨w1.heap.size, 0, none⟩ 1 1 [.slice (some ⟨bx, 0, none⟩) rx cx] rfl rfl (one_news (S2.2 0 _ rfl)) (fun u hu => by rw [List.mem_singleton] at hu; subst hu; rfl) (by unfold maxLen; omega) (by omega) E2.le ?_
                intro v2 w2 hO2 hg2 _
                have F2 : Ext wr w2 := E2.grown hg2 (fun z hz => (World.ownsRow.lt O2 z hz).1)
                obtain ⟨a2, c2, rfl⟩ := ownsRow_shape hO2
                refine hK.out _ _ (ext2 F2) (fun hHeld => ?_)
                clear hK hg2
                refine wpAnyH_ready (rs := [11]) (by kernel_rfl) (by simp) ?_
                refine AllReadyH.cons rfl (fun K' hK => ?_) AllReadyH.nil
                refine wp_append_own _ (.tmp 41) (.tmp 44) 35 rfl wr.heap.size 22 i1 (.slice none 0 0) 1 24 Tryz.underlying35 hi1 hy0 hy1 hy2 rfl (by decide) (.slice a2 (p + 1) c2) (p + 1) (vs.take p ++ [.slice (some ⟨bx, 0, none⟩) rx cx]) rfl hO2 ⟨ga, 0, none⟩ (nl - p) (co - p) (vs.drop p) rfl (by rw [List.length_drop, HVL.out]; omega) (own_drop (ownsRow_ext OX.out F2) HVL.out _ (.inr (by have := HCP.out; omega))) HDR.out (by unfold maxLen; omega) (by omega) F2.le ?_
                intro v3 w3 hO3 hg3 _
                have F3 : Ext wr w3 := F2.grown hg3 (fun z hz => (World.ownsRow.lt hO2 z hz).1)
                rw [show p + 1 + (nl - p) = nl + 1 by omega] at hO3
                obtain ⟨a3, c3', rfl⟩ := ownsRow_shape hO3
                obtain ⟨g3', rfl, _, _, _⟩ := ownsRow_get hO3 (by omega)
                refine hK.out _ _ (ext2 F3) (fun hHeld => ?_)
                clear hK hg3
                refine wpAnyH_take (i := 12) (v := ?v8) rfl (by kernel_rfl) (by kernel_rfl) (by kernel_rfl) (fun _ _ _ h => h) (Or.inl ⟨by rfl, ?hy8⟩) hHeld ?rest8
                case hy8 => (intro wz hSw; (try dsimp only at hSw); go_simp; (try with_reducible rfl))
                (try simp only [Act.put, List.getElem_toArray, List.getElem_cons_succ, List.getElem_cons_zero]); (try simp only [List.setIfInBounds_toArray]); (try simp only [List.set_cons_succ]); (try simp only [List.set_cons_zero])
                refine wpAnyH_take (i := 13) (v := ?v9) rfl (by kernel_rfl) (by kernel_rfl) (by kernel_rfl) (fun _ _ _ h => h) (Or.inl ⟨by rfl, ?hy9⟩) hHeld ?rest9
                case hy9 => (intro wz hSw; (try dsimp only at hSw); go_simp; (try with_reducible rfl))
                (try simp only [Act.put, List.getElem_toArray, List.getElem_cons_succ, List.getElem_cons_zero]); (try simp only [List.setIfInBounds_toArray]); (try simp only [List.set_cons_succ]); (try simp only [List.set_cons_zero])
                refine wpAnyH_done (by kernel_rfl) ?_ _
                clear hHeld
                have O9 := Lib.hid (ownsRow_low hO3 HLOW.out)
                have E8 := Lib.hid (hE.out.trans F3)
                have HG9 : Hid (w.heap.size ≤ g3') := Nat.le_trans hE.out.le (World.ownsRow.lt hO3 g3' rfl).1
                clear hO3
                go_wp2
                go_ret2
                exact ⟨g3', c3', true, by rw [HINL.out]; rfl, by rw [HINL.out]; exact HFIN.out w3 _ O9.out E8.out, E8.out, .inr ⟨rfl, HINL.out, HG9.out⟩⟩
              · skip
                go_simp
                refine hK.out _ _ (ext2 (E1.alloc _)) (fun hHeld => ?_)
                clear hK
                have q2 := (Ext.refl V1).alloc (.cells #[.slice (some ⟨bx, 0, none⟩) rx cx] 22)
                have S2 : Cells (V1.alloc (.cells #[.slice (some ⟨bx, 0, none⟩) rx cx] 22)) V1.heap.size [.slice (some ⟨bx, 0, none⟩) rx cx] := cells_new V1 #[.slice (some ⟨bx, 0, none⟩) rx cx] 22
                have L2 := ownsRow_ext L1 q2
                obtain ⟨V2, hV2⟩ : ∃ V2, V1.alloc (.cells #[.slice (some ⟨bx, 0, none⟩) rx cx] 22) = V2 := ⟨_, rfl⟩
                rw [hV2] at L2 S2 hHeld ⊢
                clear hV2 q2
                have E2 := And.left hHeld
                refine wpAnyH_ready (rs := [4]) (by kernel_rfl) (by simp) ?_
                refine AllReadyH.cons rfl (fun K' hK => ?_) AllReadyH.nil
                refine wp_append_own _ (.tmp 34) (.tmp 37) 35 rfl wr.heap.size 22 i1 (.slice none 0 0) 1 24 Tryz.underlying35 hi1 hy0 hy1 hy2 rfl (by decide) (.slice (some ⟨wr.heap.size, 0, none⟩) 0 0) 0 [] rfl L2 ⟨ga, 0, none⟩ p co (vs.take p) rfl (by rw [List.length_take, HVL.out]; omega) (own_take (ownsRow_ext OX.out E2) HVL.out) HTK.out (by unfold maxLen; omega) (by omega) E2.le ?_
                intro v1 w1 hO1 hg1 _
                have O1 : w1.ownsRow wr.heap.size 22 1 v1 p (vs.take p) := by rw [Nat.zero_add, List.nil_append] at hO1; exact hO1
                have F1 : Ext wr w1 := E2.grown hg1 (fun z hz => (World.ownsRow.lt L2 z hz).1)
                have S3 : Cells w1 V1.heap.size [.slice (some ⟨bx, 0, none⟩) rx cx] := S2.grown hg1 (fun z hz => by simp [Value.ownBlock] at hz; have := hs1.out; omega)
                obtain ⟨a1, c1, rfl⟩ := ownsRow_shape O1
                refine hK.out _ _ (ext2 F1) (fun hHeld => ?_)
                clear hK hO1 hg1
                refine wpAnyH_ready (rs := [7]) (by kernel_rfl) (by simp) ?_
                refine AllReadyH.cons rfl (fun K' hK => ?_) AllReadyH.nil
                refine wp_append_own _ (.tmp 38) (.tmp 40) 35 rfl wr.heap.size 22 i1 (.slice none 0 0) 1 24 Tryz.underlying35 hi1 hy0 hy1 hy2 rfl (by decide) (.slice a1 p c1) p (vs.take p) rfl O1 ⟨V1.heap.size, 0, none⟩ 1 1 [.slice (some ⟨bx, 0, none⟩) rx cx] rfl rfl (one_news (S3.2 0 _ rfl)) (fun u hu => by rw [List.mem_singleton] at hu; subst hu; rfl) (by unfold maxLen; omega) (by omega) F1.le ?_
                intro v2 w2 hO2 hg2 _
                have F2 : Ext wr w2 := F1.grown hg2 (fun z hz => (World.ownsRow.lt O1 z hz).1)
                obtain ⟨a2, c2, rfl⟩ := ownsRow_shape hO2
                refine hK.out _ _ (ext2 F2) (fun hHeld => ?_)
                clear hK hg2
                refine wpAnyH_ready (rs := [11]) (by kernel_rfl) (by simp) ?_
                refine AllReadyH.cons rfl (fun K' hK => ?_) AllReadyH.nil
                refine wp_append_own _ (.tmp 41) (.tmp 44) 35 rfl wr.heap.size 22 i1 (.slice none 0 0) 1 24 Tryz.underlying35 hi1 hy0 hy1 hy2 rfl (by decide) (.slice a2 (p + 1) c2) (p + 1) (vs.take p ++ [.slice (some ⟨bx, 0, none⟩) rx cx]) rfl hO2 ⟨ga, 0, none⟩ (nl - p) (co - p) (vs.drop p) rfl (by rw [List.length_drop, HVL.out]; omega) (own_drop (ownsRow_ext OX.out F2) HVL.out _ (.inr (by have := HCP.out; omega))) HDR.out (by unfold maxLen; omega) (by omega) F2.le ?_
                intro v3 w3 hO3 hg3 _
                have F3 : Ext wr w3 := F2.grown hg3 (fun z hz => (World.ownsRow.lt hO2 z hz).1)
                rw [show p + 1 + (nl - p) = nl + 1 by omega] at hO3
                obtain ⟨a3, c3', rfl⟩ := ownsRow_shape hO3
                obtain ⟨g3', rfl, _, _, _⟩ := ownsRow_get hO3 (by omega)
                refine hK.out _ _ (ext2 F3) (fun hHeld => ?_)
                clear hK hg3
                refine wpAnyH_take (i := 12) (v := ?v10) rfl (by kernel_rfl) (by kernel_rfl) (by kernel_rfl) (fun _ _ _ h => h) (Or.inl ⟨by rfl, ?hy10⟩) hHeld ?rest10
                case hy10 => (intro wz hSw; (try dsimp only at hSw); go_simp; (try with_reducible rfl))
                (try simp only [Act.put, List.getElem_toArray, List.getElem_cons_succ, List.getElem_cons_zero]); (try simp only [List.setIfInBounds_toArray]); (try simp only [List.set_cons_succ]); (try simp only [List.set_cons_zero])
                refine wpAnyH_take (i := 13) (v := ?v11) rfl (by kernel_rfl) (by kernel_rfl) (by kernel_rfl) (fun _ _ _ h => h) (Or.inl ⟨by rfl, ?hy11⟩) hHeld ?rest11
                case hy11 => (intro wz hSw; (try dsimp only at hSw); go_simp; (try with_reducible rfl))
                (try simp only [Act.put, List.getElem_toArray, List.getElem_cons_succ, List.getElem_cons_zero]); (try simp only [List.setIfInBounds_toArray]); (try simp only [List.set_cons_succ]); (try simp only [List.set_cons_zero])
                refine wpAnyH_done (by kernel_rfl) ?_ _
                clear hHeld
                have O9 := Lib.hid (ownsRow_low hO3 HLOW.out)
                have E8 := Lib.hid (hE.out.trans F3)
                have HG9 : Hid (w.heap.size ≤ g3') := Nat.le_trans hE.out.le (World.ownsRow.lt hO3 g3' rfl).1
                clear hO3
                go_wp2
                go_ret2
                exact ⟨g3', c3', true, by rw [HINL.out]; rfl, by rw [HINL.out]; exact HFIN.out w3 _ O9.out E8.out, E8.out, .inr ⟨rfl, HINL.out, HG9.out⟩⟩
            · skip
              go_simp
              refine hK.out _ _ (ext2 ((Ext.refl wr).drew.alloc _)) (fun hHeld => ?_)
              clear hK
              obtain ⟨V1, hV1⟩ : ∃ V1, (wr.alloc (.cells #[.slice (some ⟨bx, 0, none⟩) rx cx] 22)).drew = V1 := ⟨_, rfl⟩
              rw [hV1] at hHeld ⊢
              have E1 := And.left hHeld
              have hs1 : Hid (V1.heap.size = wr.heap.size + 1) := by rw [Hid, ← hV1]; simp
              have S1 : Cells V1 wr.heap.size [.slice (some ⟨bx, 0, none⟩) rx cx] := by rw [← hV1]; exact (cells_new wr #[.slice (some ⟨bx, 0, none⟩) rx cx] 22).ext ((Ext.refl _).drew)
              clear hV1
              refine wpAnyH_ready (rs := [0]) (by kernel_rfl) (by simp) ?_
              refine AllReadyH.cons rfl (fun K' hK => ?_) AllReadyH.nil
              go_simp
              refine hK.out _ _ (ext2 (E1.alloc _)) (fun hHeld => ?_)
              clear hK
              have q2 := (Ext.refl V1).alloc (.cells #[] 22)
              have L2 : (V1.alloc (.cells #[] 22)).ownsRow wr.heap.size 22 1 (.slice (some ⟨V1.heap.size, 0, none⟩) 0 0) 0 [] := World.ownsRow_lit V1 #[] 0 E1.le (by unfold maxLen; omega) (by simp)
              have S2 := S1.ext q2
              obtain ⟨V2, hV2⟩ : ∃ V2, V1.alloc (.cells #[] 22) = V2 := ⟨_, rfl⟩
              rw [hV2] at L2 S2 hHeld ⊢
              clear hV2 q2
              have E2 := And.left hHeld
              refine wpAnyH_ready (rs := [4]) (by kernel_rfl) (by simp) ?_
              refine AllReadyH.cons rfl (fun K' hK => ?_) AllReadyH.nil
              refine wp_append_own _ (.tmp 34) (.tmp 37) 35 rfl wr.heap.size 22 i1 (.slice none 0 0) 1 24 Tryz.underlying35 hi1 hy0 hy1 hy2 rfl (by decide) (.slice (some ⟨V1.heap.size, 0, none⟩) 0 0) 0 [] rfl L2 ⟨ga, 0, none⟩ p co (vs.take p) rfl (by rw [List.length_take, HVL.out]; omega) (own_take (ownsRow_ext OX.out E2) HVL.out) HTK.out (by unfold maxLen; omega) (by omega) E2.le ?_
              intro v1 w1 hO1 hg1 _
              have O1 : w1.ownsRow wr.heap.size 22 1 v1 p (vs.take p) := by rw [Nat.zero_add, List.nil_append] at hO1; exact hO1
              have F1 : Ext wr w1 := E2.grown hg1 (fun z hz => (World.ownsRow.lt L2 z hz).1)
              have S3 : Cells w1 wr.heap.size [.slice (some ⟨bx, 0, none⟩) rx cx] := S2.grown hg1 (fun z hz => by simp [Value.ownBlock] at hz; have := hs1.out; omega)
              obtain ⟨a1, c1, rfl⟩ := ownsRow_shape O1
              refine hK.out _ _ (ext2 F1) (fun hHeld => ?_)
              clear hK hO1 hg1
              refine wpAnyH_ready (rs := [7]) (by kernel_rfl) (by simp) ?_
              refine AllReadyH.cons rfl (fun K' hK => ?_) AllReadyH.nil
              refine wp_append_own _ (.tmp 38) (.tmp 40) 35 rfl wr.heap.size 22 i1 (.slice none 0 0) 1 24 Tryz.underlying35 hi1 hy0 hy1 hy2 rfl (by decide) (.slice a1 p c1) p (vs.take p) rfl O1 ⟨wr.heap.size, 0, none⟩ 1 1 [.slice (some ⟨bx, 0, none⟩) rx cx] rfl rfl (one_news (S3.2 0 _ rfl)) (fun u hu => by rw [List.mem_singleton] at hu; subst hu; rfl) (by unfold maxLen; omega) (by omega) F1.le ?_
              intro v2 w2 hO2 hg2 _
              have F2 : Ext wr w2 := F1.grown hg2 (fun z hz => (World.ownsRow.lt O1 z hz).1)
              obtain ⟨a2, c2, rfl⟩ := ownsRow_shape hO2
              refine hK.out _ _ (ext2 F2) (fun hHeld => ?_)
              clear hK hg2
              refine wpAnyH_ready (rs := [11]) (by kernel_rfl) (by simp) ?_
              refine AllReadyH.cons rfl (fun K' hK => ?_) AllReadyH.nil
              refine wp_append_own _ (.tmp 41) (.tmp 44) 35 rfl wr.heap.size 22 i1 (.slice none 0 0) 1 24 Tryz.underlying35 hi1 hy0 hy1 hy2 rfl (by decide) (.slice a2 (p + 1) c2) (p + 1) (vs.take p ++ [.slice (some ⟨bx, 0, none⟩) rx cx]) rfl hO2 ⟨ga, 0, none⟩ (nl - p) (co - p) (vs.drop p) rfl (by rw [List.length_drop, HVL.out]; omega) (own_drop (ownsRow_ext OX.out F2) HVL.out _ (.inr (by have := HCP.out; omega))) HDR.out (by unfold maxLen; omega) (by omega) F2.le ?_
              intro v3 w3 hO3 hg3 _
              have F3 : Ext wr w3 := F2.grown hg3 (fun z hz => (World.ownsRow.lt hO2 z hz).1)
              rw [show p + 1 + (nl - p) = nl + 1 by omega] at hO3
              obtain ⟨a3, c3', rfl⟩ := ownsRow_shape hO3
              obtain ⟨g3', rfl, _, _, _⟩ := ownsRow_get hO3 (by omega)
              refine hK.out _ _ (ext2 F3) (fun hHeld => ?_)
              clear hK hg3
              refine wpAnyH_take (i := 12) (v := ?v12) rfl (by kernel_rfl) (by kernel_rfl) (by kernel_rfl) (fun _ _ _ h => h) (Or.inl ⟨by rfl, ?hy12⟩) hHeld ?rest12
              case hy12 => (intro wz hSw; (try dsimp only at hSw); go_simp; (try with_reducible rfl))
              (try simp only [Act.put, List.getElem_toArray, List.getElem_cons_succ, List.getElem_cons_zero]); (try simp only [List.setIfInBounds_toArray]); (try simp only [List.set_cons_succ]); (try simp only [List.set_cons_zero])
              refine wpAnyH_take (i := 13) (v := ?v13) rfl (by kernel_rfl) (by kernel_rfl) (by kernel_rfl) (fun _ _ _ h => h) (Or.inl ⟨by rfl, ?hy13⟩) hHeld ?rest13
              case hy13 => (intro wz hSw; (try dsimp only at hSw); go_simp; (try with_reducible rfl))
              (try simp only [Act.put, List.getElem_toArray, List.getElem_cons_succ, List.getElem_cons_zero]); (try simp only [List.setIfInBounds_toArray]); (try simp only [List.set_cons_succ]); (try simp only [List.set_cons_zero])
              refine wpAnyH_done (by kernel_rfl) ?_ _
              clear hHeld
              have O9 := Lib.hid (ownsRow_low hO3 HLOW.out)
              have E8 := Lib.hid (hE.out.trans F3)
              have HG9 : Hid (w.heap.size ≤ g3') := Nat.le_trans hE.out.le (World.ownsRow.lt hO3 g3' rfl).1
              clear hO3
              go_wp2
              go_ret2
              exact ⟨g3', c3', true, by rw [HINL.out]; rfl, by rw [HINL.out]; exact HFIN.out w3 _ O9.out E8.out, E8.out, .inr ⟨rfl, HINL.out, HG9.out⟩⟩
          · skip
            have hcp1 : ¬ p = co := fun h => hcp h.symm
            refine wp_region_held_drew (S := (fun w' => Ext wr w' ∧ (∀ b o, b < wr.heap.size → w'.cell? ⟨b, o, none⟩ = wr.cell? ⟨b, o, none⟩))) (by kernel_rfl) (ext2 (Ext.refl wr).drew) (fun hHeld => ?_)
            refine wpAnyH_take (i := 1) (v := ?v14) rfl (by kernel_rfl) (by kernel_rfl) (by kernel_rfl) (fun _ _ _ h => h) (Or.inl ⟨by rfl, ?hy14⟩) hHeld ?rest14
            case hy14 => (intro wz hSw; (try dsimp only at hSw); go_simp; (try with_reducible rfl))
            (try simp only [Act.put, List.getElem_toArray, List.getElem_cons_succ, List.getElem_cons_zero]); (try simp only [List.setIfInBounds_toArray]); (try simp only [List.set_cons_succ]); (try simp only [List.set_cons_zero])
            refine wpAnyH_take (i := 2) (v := ?v15) rfl (by kernel_rfl) (by kernel_rfl) (by kernel_rfl) (fun _ _ _ h => h) (Or.inl ⟨by rfl, ?hy15⟩) hHeld ?rest15
            case hy15 => (intro wz hSw; (try dsimp only at hSw); go_simp; (try with_reducible rfl))
            (try simp only [Act.put, List.getElem_toArray, List.getElem_cons_succ, List.getElem_cons_zero]); (try simp only [List.setIfInBounds_toArray]); (try simp only [List.set_cons_succ]); (try simp only [List.set_cons_zero])
            refine wpAnyH_take (i := 3) (v := ?v16) rfl (by kernel_rfl) (by kernel_rfl) (by kernel_rfl) (fun _ _ _ h => h) (Or.inl ⟨by rfl, ?hy16⟩) hHeld ?rest16
            case hy16 => (intro wz hSw; (try dsimp only at hSw); go_simp; (try with_reducible rfl))
            (try simp only [Act.put, List.getElem_toArray, List.getElem_cons_succ, List.getElem_cons_zero]); (try simp only [List.setIfInBounds_toArray]); (try simp only [List.set_cons_succ]); (try simp only [List.set_cons_zero])
            refine wpAnyH_take (i := 5) (v := ?v17) rfl (by kernel_rfl) (by kernel_rfl) (by kernel_rfl) (fun _ _ _ h => h) (Or.inl ⟨by rfl, ?hy17⟩) hHeld ?rest17
            case hy17 => (intro wz hSw; (try dsimp only at hSw); go_simp; (try with_reducible rfl))
            (try simp only [Act.put, List.getElem_toArray, List.getElem_cons_succ, List.getElem_cons_zero]); (try simp only [List.setIfInBounds_toArray]); (try simp only [List.set_cons_succ]); (try simp only [List.set_cons_zero])
            refine wpAnyH_take (i := 8) (v := ?v18) rfl (by kernel_rfl) (by kernel_rfl) (by kernel_rfl) (fun _ _ _ h => h) (Or.inl ⟨by rfl, ?hy18⟩) hHeld ?rest18
            case hy18 => (intro wz hSw; (try dsimp only at hSw); go_simp; (try with_reducible rfl))
            (try simp only [Act.put, List.getElem_toArray, List.getElem_cons_succ, List.getElem_cons_zero]); (try simp only [List.setIfInBounds_toArray]); (try simp only [List.set_cons_succ]); (try simp only [List.set_cons_zero])
            refine wpAnyH_take (i := 9) (v := ?v19) rfl (by kernel_rfl) (by kernel_rfl) (by kernel_rfl) (fun _ _ _ h => h) (Or.inl ⟨by rfl, ?hy19⟩) hHeld ?rest19
            case hy19 => (intro wz hSw; (try dsimp only at hSw); go_simp; (try with_reducible rfl))
            (try simp only [Act.put, List.getElem_toArray, List.getElem_cons_succ, List.getElem_cons_zero]); (try simp only [List.setIfInBounds_toArray]); (try simp only [List.set_cons_succ]); (try simp only [List.set_cons_zero])
            refine wpAnyH_take (i := 10) (v := ?v20) rfl (by kernel_rfl) (by kernel_rfl) (by kernel_rfl) (fun _ _ _ h => h) (Or.inl ⟨by rfl, ?hy20⟩) hHeld ?rest20
            case hy20 => (intro wz hSw; (try dsimp only at hSw); go_simp; (try with_reducible rfl))
            (try simp only [Act.put, List.getElem_toArray, List.getElem_cons_succ, List.getElem_cons_zero]); (try simp only [List.setIfInBounds_toArray]); (try simp only [List.set_cons_succ]); (try simp only [List.set_cons_zero])
            refine wpAnyH_ready (rs := [0, 6]) (by kernel_rfl) (by simp) ?_
            refine AllReadyH.cons rfl (fun K' hK => ?_) (AllReadyH.cons rfl (fun K' hK => ?_) AllReadyH.nil)
            · skip
              go_simp
              refine hK.out _ _ (ext2 ((Ext.refl wr).drew.alloc _)) (fun hHeld => ?_)
              clear hK
              obtain ⟨V1, hV1⟩ : ∃ V1, (wr.alloc (.cells #[] 22)).drew = V1 := ⟨_, rfl⟩
              rw [hV1] at hHeld ⊢
              have E1 := And.left hHeld
              have hs1 : Hid (V1.heap.size = wr.heap.size + 1) := by rw [Hid, ← hV1]; simp
              have L1 : V1.ownsRow wr.heap.size 22 1 (.slice (some ⟨wr.heap.size, 0, none⟩) 0 0) 0 [] := by rw [← hV1]; exact ownsRow_ext (World.ownsRow_lit wr #[] 0 (Nat.le_refl _) (by unfold maxLen; omega) (by simp)) ((Ext.refl _).drew)
              clear hV1
              refine wpAnyH_ready (rs := [4, 6]) (by kernel_rfl) (by simp) ?_
              refine AllReadyH.cons rfl (fun K' hK => ?_) (AllReadyH.cons rfl (fun K' hK => ?_) AllReadyH.nil)
              · skip
                refine wp_append_own _ (.tmp 34) (.tmp 37) 35 rfl wr.heap.size 22 i1 (.slice none 0 0) 1 24 Tryz.underlying35 hi1 hy0 hy1 hy2 rfl (by decide) (.slice (some ⟨wr.heap.size, 0, none⟩) 0 0) 0 [] rfl L1 ⟨ga, 0, none⟩ p co (vs.take p) rfl (by rw [List.length_take, HVL.out]; omega) (own_take (ownsRow_ext OX.out E1) HVL.out) HTK.out (by unfold maxLen; omega) (by omega) E1.le ?_
                intro v1 w1 hO1 hg1 _
                have O1 : w1.ownsRow wr.heap.size 22 1 v1 p (vs.take p) := by rw [Nat.zero_add, List.nil_append] at hO1; exact hO1
                have F1 : Ext wr w1 := E1.grown hg1 (fun z hz => (World.ownsRow.lt L1 z hz).1)
                obtain ⟨a1, c1, rfl⟩ := ownsRow_shape O1
                refine hK.out _ _ (ext2 F1) (fun hHeld => ?_)
                clear hK hO1 hg1
                refine wpAnyH_ready (rs := [6]) (by kernel_rfl) (by simp) ?_
                refine AllReadyH.cons rfl (fun K' hK => ?_) AllReadyH.nil
                go_simp
                refine hK.out _ _ (ext2 (F1.alloc _)) (fun hHeld => ?_)
                clear hK
                have q2 := (Ext.refl w1).alloc (.cells #[.slice (some ⟨bx, 0, none⟩) rx cx] 22)
                have S2 : Cells (w1.alloc (.cells #[.slice (some ⟨bx, 0, none⟩) rx cx] 22)) w1.heap.size [.slice (some ⟨bx, 0, none⟩) rx cx] := cells_new w1 #[.slice (some ⟨bx, 0, none⟩) rx cx] 22
                have O2 := ownsRow_ext O1 q2
                obtain ⟨V2, hV2⟩ : ∃ V2, w1.alloc (.cells #[.slice (some ⟨bx, 0, none⟩) rx cx] 22) = V2 := ⟨_, rfl⟩
                rw [hV2] at S2 O2 hHeld ⊢
                clear hV2 q2
                have E2 := And.left hHeld
                refine wpAnyH_ready (rs := [7]) (by kernel_rfl) (by simp) ?_
                refine AllReadyH.cons rfl (fun K' hK => ?_) AllReadyH.nil
                refine wp_append_own _ (.tmp 38) (.tmp 40) 35 rfl wr.heap.size 22 i1 (.slice none 0 0) 1 24 Tryz.underlying35 hi1 hy0 hy1 hy2 rfl (by decide) (.slice a1 p c1) p (vs.take p) rfl O2 ⟨w1.heap.size, 0, none⟩ 1 1 [.slice (some ⟨bx, 0, none⟩) rx cx] rfl rfl (one_news (S2.2 0 _ rfl)) (fun u hu => by rw [List.mem_singleton] at hu; subst hu; rfl) (by unfold maxLen; omega) (by omega) E2.le ?_
                intro v2 w2 hO2 hg2 _
                have F2 : Ext wr w2 := E2.grown hg2 (fun z hz => (World.ownsRow.lt O2 z hz).1)
                obtain ⟨a2, c2, rfl⟩ := ownsRow_shape hO2
                refine hK.out _ _ (ext2 F2) (fun hHeld => ?_)
                clear hK hg2
                refine wpAnyH_ready (rs := [11]) (by kernel_rfl) (by simp) ?_
                refine AllReadyH.cons rfl (fun K' hK => ?_) AllReadyH.nil
                refine wp_append_own _ (.tmp 41) (.tmp 44) 35 rfl wr.heap.size 22 i1 (.slice none 0 0) 1 24 Tryz.underlying35 hi1 hy0 hy1 hy2 rfl (by decide) (.slice a2 (p + 1) c2) (p + 1) (vs.take p ++ [.slice (some ⟨bx, 0, none⟩) rx cx]) rfl hO2 ⟨ga, p, none⟩ (nl - p) (co - p) (vs.drop p) rfl (by rw [List.length_drop, HVL.out]; omega) (own_drop (ownsRow_ext OX.out F2) HVL.out _ (.inl rfl)) HDR.out (by unfold maxLen; omega) (by omega) F2.le ?_
                intro v3 w3 hO3 hg3 _
                have F3 : Ext wr w3 := F2.grown hg3 (fun z hz => (World.ownsRow.lt hO2 z hz).1)
                rw [show p + 1 + (nl - p) = nl + 1 by omega] at hO3
                obtain ⟨a3, c3', rfl⟩ := ownsRow_shape hO3
                obtain ⟨g3', rfl, _, _, _⟩ := ownsRow_get hO3 (by omega)
                refine hK.out _ _ (ext2 F3) (fun hHeld => ?_)
                clear hK hg3
                refine wpAnyH_take (i := 12) (v := ?v21) rfl (by kernel_rfl) (by kernel_rfl) (by kernel_rfl) (fun _ _ _ h => h) (Or.inl ⟨by rfl, ?hy21⟩) hHeld ?rest21
                case hy21 => (intro wz hSw; (try dsimp only at hSw); go_simp; (try with_reducible rfl))
                (try simp only [Act.put, List.getElem_toArray, List.getElem_cons_succ, List.getElem_cons_zero]); (try simp only [List.setIfInBounds_toArray]); (try simp only [List.set_cons_succ]); (try simp only [List.set_cons_zero])
                refine wpAnyH_take (i := 13) (v := ?v22) rfl (by kernel_rfl) (by kernel_rfl) (by kernel_rfl) (fun _ _ _ h => h) (Or.inl ⟨by rfl, ?hy22⟩) hHeld ?rest22
                case hy22 => (intro wz hSw; (try dsimp only at hSw); go_simp; (try with_reducible rfl))
                (try simp only [Act.put, List.getElem_toArray, List.getElem_cons_succ, List.getElem_cons_zero]); (try simp only [List.setIfInBounds_toArray]); (try simp only [List.set_cons_succ]); (try simp only [List.set_cons_zero])
                refine wpAnyH_done (by kernel_rfl) ?_ _
                clear hHeld
                have O9 := Lib.hid (ownsRow_low hO3 HLOW.out)
                have E8 := Lib.hid (hE.out.trans F3)
                have HG9 : Hid (w.heap.size ≤ g3') := Nat.le_trans hE.out.le (World.ownsRow.lt hO3 g3' rfl).1
                clear hO3
                go_wp2
                go_ret2
                exact ⟨g3', c3', true, by rw [HINL.out]; rfl, by rw [HINL.out]; exact HFIN.out w3 _ O9.out E8.out, E8.out, .inr ⟨rfl, HINL.out, HG9.out⟩⟩
              · skip
                go_simp
                refine hK.out _ _ (ext2 (E1.alloc _)) (fun hHeld => ?_)
                clear hK
                have q2 := (Ext.refl V1).alloc (.cells #[.slice (some ⟨bx, 0, none⟩) rx cx] 22)
                have S2 : Cells (V1.alloc (.cells #[.slice (some ⟨bx, 0, none⟩) rx cx] 22)) V1.heap.size [.slice (some ⟨bx, 0, none⟩) rx cx] := cells_new V1 #[.slice (some ⟨bx, 0, none⟩) rx cx] 22
                have L2 := ownsRow_ext L1 q2
                obtain ⟨V2, hV2⟩ : ∃ V2, V1.alloc (.cells #[.slice (some ⟨bx, 0, none⟩) rx cx] 22) = V2 := ⟨_, rfl⟩
                rw [hV2] at L2 S2 hHeld ⊢
                clear hV2 q2
                have E2 := And.left hHeld
                refine wpAnyH_ready (rs := [4]) (by kernel_rfl) (by simp) ?_
                refine AllReadyH.cons rfl (fun K' hK => ?_) AllReadyH.nil
                refine wp_append_own _ (.tmp 34) (.tmp 37) 35 rfl wr.heap.size 22 i1 (.slice none 0 0) 1 24 Tryz.underlying35 hi1 hy0 hy1 hy2 rfl (by decide) (.slice (some ⟨wr.heap.size, 0, none⟩) 0 0) 0 [] rfl L2 ⟨ga, 0, none⟩ p co (vs.take p) rfl (by rw [List.length_take, HVL.out]; omega) (own_take (ownsRow_ext OX.out E2) HVL.out) HTK.out (by unfold maxLen; omega) (by omega) E2.le ?_
                intro v1 w1 hO1 hg1 _
                have O1 : w1.ownsRow wr.heap.size 22 1 v1 p (vs.take p) := by rw [Nat.zero_add, List.nil_append] at hO1; exact hO1
                have F1 : Ext wr w1 := E2.grown hg1 (fun z hz => (World.ownsRow.lt L2 z hz).1)
                have S3 : Cells w1 V1.heap.size [.slice (some ⟨bx, 0, none⟩) rx cx] := S2.grown hg1 (fun z hz => by simp [Value.ownBlock] at hz; have := hs1.out; omega)
                obtain ⟨a1, c1, rfl⟩ := ownsRow_shape O1
                refine hK.out _ _ (ext2 F1) (fun hHeld => ?_)
                clear hK hO1 hg1
                refine wpAnyH_ready (rs := [7]) (by kernel_rfl) (by simp) ?_
                refine AllReadyH.cons rfl (fun K' hK => ?_) AllReadyH.nil
                refine wp_append_own _ (.tmp 38) (.tmp 40) 35 rfl wr.heap.size 22 i1 (.slice none 0 0) 1 24 Tryz.underlying35 hi1 hy0 hy1 hy2 rfl (by decide) (.slice a1 p c1) p (vs.take p) rfl O1 ⟨V1.heap.size, 0, none⟩ 1 1 [.slice (some ⟨bx, 0, none⟩) rx cx] rfl rfl (one_news (S3.2 0 _ rfl)) (fun u hu => by rw [List.mem_singleton] at hu; subst hu; rfl) (by unfold maxLen; omega) (by omega) F1.le ?_
                intro v2 w2 hO2 hg2 _
                have F2 : Ext wr w2 := F1.grown hg2 (fun z hz => (World.ownsRow.lt O1 z hz).1)
                obtain ⟨a2, c2, rfl⟩ := ownsRow_shape hO2
                refine hK.out _ _ (ext2 F2) (fun hHeld => ?_)
                clear hK hg2
                refine wpAnyH_ready (rs := [11]) (by kernel_rfl) (by simp) ?_
                refine AllReadyH.cons rfl (fun K' hK => ?_) AllReadyH.nil
                refine wp_append_own _ (.tmp 41) (.tmp 44) 35 rfl wr.heap.size 22 i1 (.slice none 0 0) 1 24 Tryz.underlying35 hi1 hy0 hy1 hy2 rfl (by decide) (.slice a2 (p + 1) c2) (p + 1) (vs.take p ++ [.slice (some ⟨bx, 0, none⟩) rx cx]) rfl hO2 ⟨ga, p, none⟩ (nl - p) (co - p) (vs.drop p) rfl (by rw [List.length_drop, HVL.out]; omega) (own_drop (ownsRow_ext OX.out F2) HVL.out _ (.inl rfl)) HDR.out (by unfold maxLen; omega) (by omega) F2.le ?_
                intro v3 w3 hO3 hg3 _
                have F3 : Ext wr w3 := F2.grown hg3 (fun z hz => (World.ownsRow.lt hO2 z hz).1)
                rw [show p + 1 + (nl - p) = nl + 1 by omega] at hO3
                obtain ⟨a3, c3', rfl⟩ := ownsRow_shape hO3
                obtain ⟨g3', rfl, _, _, _⟩ := ownsRow_get hO3 (by omega)
                refine hK.out _ _ (ext2 F3) (fun hHeld => ?_)
                clear hK hg3
                refine wpAnyH_take (i := 12) (v := ?v23) rfl (by kernel_rfl) (by kernel_rfl) (by kernel_rfl) (fun _ _ _ h => h) (Or.inl ⟨by rfl, ?hy23⟩) hHeld ?rest23
                case hy23 => (intro wz hSw; (try dsimp only at hSw); go_simp; (try with_reducible rfl))
                (try simp only [Act.put, List.getElem_toArray, List.getElem_cons_succ, List.getElem_cons_zero]); (try simp only [List.setIfInBounds_toArray]); (try simp only [List.set_cons_succ]); (try simp only [List.set_cons_zero])
                refine wpAnyH_take (i := 13) (v := ?v24) rfl (by kernel_rfl) (by kernel_rfl) (by kernel_rfl) (fun _ _ _ h => h) (Or.inl ⟨by rfl, ?hy24⟩) hHeld ?rest24
                case hy24 => (intro wz hSw; (try dsimp only at hSw); go_simp; (try with_reducible rfl))
                (try simp only [Act.put, List.getElem_toArray, List.getElem_cons_succ, List.getElem_cons_zero]); (try simp only [List.setIfInBounds_toArray]); (try simp only [List.set_cons_succ]); (try simp only [List.set_cons_zero])
                refine wpAnyH_done (by kernel_rfl) ?_ _
                clear hHeld
                have O9 := Lib.hid (ownsRow_low hO3 HLOW.out)
                have E8 := Lib.hid (hE.out.trans F3)
                have HG9 : Hid (w.heap.size ≤ g3') := Nat.le_trans hE.out.le (World.ownsRow.lt hO3 g3' rfl).1
                clear hO3
                go_wp2
                go_ret2
                exact ⟨g3', c3', true, by rw [HINL.out]; rfl, by rw [HINL.out]; exact HFIN.out w3 _ O9.out E8.out, E8.out, .inr ⟨rfl, HINL.out, HG9.out⟩⟩
            · skip
              go_simp
              refine hK.out _ _ (ext2 ((Ext.refl wr).drew.alloc _)) (fun hHeld => ?_)
              clear hK
              obtain ⟨V1, hV1⟩ : ∃ V1, (wr.alloc (.cells #[.slice (some ⟨bx, 0, none⟩) rx cx] 22)).drew = V1 := ⟨_, rfl⟩
              rw [hV1] at hHeld ⊢
              have E1 := And.left hHeld
              have hs1 : Hid (V1.heap.size = wr.heap.size + 1) := by rw [Hid, ← hV1]; simp
              have S1 : Cells V1 wr.heap.size [.slice (some ⟨bx, 0, none⟩) rx cx] := by rw [← hV1]; exact (cells_new wr #[.slice (some ⟨bx, 0, none⟩) rx cx] 22).ext ((Ext.refl _).drew)
              clear hV1
              refine wpAnyH_ready (rs := [0]) (by kernel_rfl) (by simp) ?_
              refine AllReadyH.cons rfl (fun K' hK => ?_) AllReadyH.nil
              go_simp
              refine hK.out _ _ (ext2 (E1.alloc _)) (fun hHeld => ?_)
              clear hK
              have q2 := (Ext.refl V1).alloc (.cells #[] 22)
              have L2 : (V1.alloc (.cells #[] 22)).ownsRow wr.heap.size 22 1 (.slice (some ⟨V1.heap.size, 0, none⟩) 0 0) 0 [] := World.ownsRow_lit V1 #[] 0 E1.le (by unfold maxLen; omega) (by simp)
              have S2 := S1.ext q2
              obtain ⟨V2, hV2⟩ : ∃ V2, V1.alloc (.cells #[] 22) = V2 := ⟨_, rfl⟩
              rw [hV2] at L2 S2 hHeld ⊢
              clear hV2 q2
              have E2 := And.left hHeld
              refine wpAnyH_ready (rs := [4]) (by kernel_rfl) (by simp) ?_
              refine AllReadyH.cons rfl (fun K' hK => ?_) AllReadyH.nil
              refine wp_append_own _ (.tmp 34) (.tmp 37) 35 rfl wr.heap.size 22 i1 (.slice none 0 0) 1 24 Tryz.underlying35 hi1 hy0 hy1 hy2 rfl (by decide) (.slice (some ⟨V1.heap.size, 0, none⟩) 0 0) 0 [] rfl L2 ⟨ga, 0, none⟩ p co (vs.take p) rfl (by rw [List.length_take, HVL.out]; omega) (own_take (ownsRow_ext OX.out E2) HVL.out) HTK.out (by unfold maxLen; omega) (by omega) E2.le ?_
              intro v1 w1 hO1 hg1 _
              have O1 : w1.ownsRow wr.heap.size 22 1 v1 p (vs.take p) := by rw [Nat.zero_add, List.nil_append] at hO1; exact hO1
              have F1 : Ext wr w1 := E2.grown hg1 (fun z hz => (World.ownsRow.lt L2 z hz).1)
              have S3 : Cells w1 wr.heap.size [.slice (some ⟨bx, 0, none⟩) rx cx] := S2.grown hg1 (fun z hz => by simp [Value.ownBlock] at hz; have := hs1.out; omega)
              obtain ⟨a1, c1, rfl⟩ := ownsRow_shape O1
              refine hK.out _ _ (ext2 F1) (fun hHeld => ?_)
              clear hK hO1 hg1
              refine wpAnyH_ready (rs := [7]) (by kernel_rfl) (by simp) ?_
              refine AllReadyH.cons rfl (fun K' hK => ?_) AllReadyH.nil
              refine wp_append_own _ (.tmp 38) (.tmp 40) 35 rfl wr.heap.size 22 i1 (.slice none 0 0) 1 24 Tryz.underlying35 hi1 hy0 hy1 hy2 rfl (by decide) (.slice a1 p c1) p (vs.take p) rfl O1 ⟨wr.heap.size, 0, none⟩ 1 1 [.slice (some ⟨bx, 0, none⟩) rx cx] rfl rfl (one_news (S3.2 0 _ rfl)) (fun u hu => by rw [List.mem_singleton] at hu; subst hu; rfl) (by unfold maxLen; omega) (by omega) F1.le ?_
              intro v2 w2 hO2 hg2 _
              have F2 : Ext wr w2 := F1.grown hg2 (fun z hz => (World.ownsRow.lt O1 z hz).1)
              obtain ⟨a2, c2, rfl⟩ := ownsRow_shape hO2
              refine hK.out _ _ (ext2 F2) (fun hHeld => ?_)
              clear hK hg2
              refine wpAnyH_ready (rs := [11]) (by kernel_rfl) (by simp) ?_
              refine AllReadyH.cons rfl (fun K' hK => ?_) AllReadyH.nil
              refine wp_append_own _ (.tmp 41) (.tmp 44) 35 rfl wr.heap.size 22 i1 (.slice none 0 0) 1 24 Tryz.underlying35 hi1 hy0 hy1 hy2 rfl (by decide) (.slice a2 (p + 1) c2) (p + 1) (vs.take p ++ [.slice (some ⟨bx, 0, none⟩) rx cx]) rfl hO2 ⟨ga, p, none⟩ (nl - p) (co - p) (vs.drop p) rfl (by rw [List.length_drop, HVL.out]; omega) (own_drop (ownsRow_ext OX.out F2) HVL.out _ (.inl rfl)) HDR.out (by unfold maxLen; omega) (by omega) F2.le ?_
              intro v3 w3 hO3 hg3 _
              have F3 : Ext wr w3 := F2.grown hg3 (fun z hz => (World.ownsRow.lt hO2 z hz).1)
              rw [show p + 1 + (nl - p) = nl + 1 by omega] at hO3
              obtain ⟨a3, c3', rfl⟩ := ownsRow_shape hO3
              obtain ⟨g3', rfl, _, _, _⟩ := ownsRow_get hO3 (by omega)
              refine hK.out _ _ (ext2 F3) (fun hHeld => ?_)
              clear hK hg3
              refine wpAnyH_take (i := 12) (v := ?v25) rfl (by kernel_rfl) (by kernel_rfl) (by kernel_rfl) (fun _ _ _ h => h) (Or.inl ⟨by rfl, ?hy25⟩) hHeld ?rest25
              case hy25 => (intro wz hSw; (try dsimp only at hSw); go_simp; (try with_reducible rfl))
              (try simp only [Act.put, List.getElem_toArray, List.getElem_cons_succ, List.getElem_cons_zero]); (try simp only [List.setIfInBounds_toArray]); (try simp only [List.set_cons_succ]); (try simp only [List.set_cons_zero])
              refine wpAnyH_take (i := 13) (v := ?v26) rfl (by kernel_rfl) (by kernel_rfl) (by kernel_rfl) (fun _ _ _ h => h) (Or.inl ⟨by rfl, ?hy26⟩) hHeld ?rest26
              case hy26 => (intro wz hSw; (try dsimp only at hSw); go_simp; (try with_reducible rfl))
              (try simp only [Act.put, List.getElem_toArray, List.getElem_cons_succ, List.getElem_cons_zero]); (try simp only [List.setIfInBounds_toArray]); (try simp only [List.set_cons_succ]); (try simp only [List.set_cons_zero])
              refine wpAnyH_done (by kernel_rfl) ?_ _
              clear hHeld
              have O9 := Lib.hid (ownsRow_low hO3 HLOW.out)
              have E8 := Lib.hid (hE.out.trans F3)
              have HG9 : Hid (w.heap.size ≤ g3') := Nat.le_trans hE.out.le (World.ownsRow.lt hO3 g3' rfl).1
              clear hO3
              go_wp2
              go_ret2
              exact ⟨g3', c3', true, by rw [HINL.out]; rfl, by rw [HINL.out]; exact HFIN.out w3 _ O9.out E8.out, E8.out, .inr ⟨rfl, HINL.out, HG9.out⟩⟩
        · rw [hs] at HSM
          have HIN := Lib.hid (HTH.out p HAE.out hlt (of_decide_eq_true hs))
          clear hs HAB
          go_wp2_with fail
          refine HSM.out.mono ?_
          rintro e' w3 ⟨rfl, k9, rfl⟩
          go_wp2
          go_ret2
          exact ⟨ga, co, false, by rw [HIL0.out HIN.out]; rfl, (HP1.out HIN.out).ext (E2.out.drewN k9), E2.out.drewN k9, .inl ⟨rfl, HIN.out⟩⟩
      · rw [hab] at HC
        go_wp2_with fail
        refine HC.out.mono ?_
        rintro e' w2 ⟨rfl, hE2⟩
        have HA2 : Hid (∀ q, q < p + 1 → abvB (row L q) x = true) := fun q hq => by
          by_cases eq : q = p
          · rw [eq]; exact hab
          · exact hA.out q (by omega)
        go_wp2
        exact ⟨⟨p + 1, by omega, by simp, HA2, hE.out.trans hE2⟩, by simp [intOf]; omega⟩
    · have hpn : p = nl := by omega
      have hge : ¬ ((p : Int) < (nl : Int)) := by omega
      have hP : Hid (atA x L = p ∧ p ≤ nl ∧ (p < nl → row L p ≠ x)) := ⟨HAT.out p hp hA.out (fun h => absurd h (by omega)), hp, fun h => absurd h (by omega)⟩
      have HPN := Lib.hid hpn
      clear hpn HRW
      have OX := Lib.hid (ownsRow_ext HOW.out hE.out)
      have HLOW := Lib.hid (Nat.le_trans HLO.out hE.out.le)
      go_wp2_with fail
      obtain ⟨hnc, hcm⟩ := ownsRow_cap OX.out
      have HCX2 := Lib.hid hcm
      have hpc : p ≤ co := by omega
      have hpnI : (p : Int) ≤ (nl : Int) := by omega
      have hpcI : (p : Int) ≤ (co : Int) := by omega
      clear hcm
      obtain ⟨i1, hi1, hy0, hy1, hy2⟩ := info_parts Tryz.infoInts
      have HTK : Hid (∀ u, u ∈ vs.take p → u.oneCell' = true) := fun u hu => HVS.out u (List.mem_of_mem_take hu)
      have HDR : Hid (∀ u, u ∈ vs.drop p → u.oneCell' = true) := fun u hu => HVS.out u (List.mem_of_mem_drop hu)
      have HINL := Lib.hid (HIL.out p hP.out)
      have HFIN := Lib.hid (HFI.out p hP.out)
      rcases (show co = p ∨ ¬ co = p by omega) with hcp | hcp
      · skip
        have hcp1 : (co = p) = True := eq_true hcp
        have HCP := Lib.hid hcp
        clear hcp
        refine wp_region_held_drew (S := (fun w' => Ext wr w' ∧ (∀ b o, b < wr.heap.size → w'.cell? ⟨b, o, none⟩ = wr.cell? ⟨b, o, none⟩))) (by kernel_rfl) (ext2 (Ext.refl wr).drew) (fun hHeld => ?_)
        refine wpAnyH_take (i := 1) (v := ?v27) rfl (by kernel_rfl) (by kernel_rfl) (by kernel_rfl) (fun _ _ _ h => h) (Or.inl ⟨by rfl, ?hy27⟩) hHeld ?rest27
        case hy27 => (intro wz hSw; (try dsimp only at hSw); go_simp; (try with_reducible rfl))
        (try simp only [Act.put, List.getElem_toArray, List.getElem_cons_succ, List.getElem_cons_zero]); (try simp only [List.setIfInBounds_toArray]); (try simp only [List.set_cons_succ]); (try simp only [List.set_cons_zero])
        refine wpAnyH_take (i := 2) (v := ?v28) rfl (by kernel_rfl) (by kernel_rfl) (by kernel_rfl) (fun _ _ _ h => h) (Or.inl ⟨by rfl, ?hy28⟩) hHeld ?rest28
        case hy28 => (intro wz hSw; (try dsimp only at hSw); go_simp; (try with_reducible rfl))
        (try simp only [Act.put, List.getElem_toArray, List.getElem_cons_succ, List.getElem_cons_zero]); (try simp only [List.setIfInBounds_toArray]); (try simp only [List.set_cons_succ]); (try simp only [List.set_cons_zero])
        refine wpAnyH_take (i := 3) (v := ?v29) rfl (by kernel_rfl) (by kernel_rfl) (by kernel_rfl) (fun _ _ _ h => h) (Or.inl ⟨by rfl, ?hy29⟩) hHeld ?rest29
        case hy29 => (intro wz hSw; (try dsimp only at hSw); go_simp; (try with_reducible rfl))
        (try simp only [Act.put, List.getElem_toArray, List.getElem_cons_succ, List.getElem_cons_zero]); (try simp only [List.setIfInBounds_toArray]); (try simp only [List.set_cons_succ]); (try simp only [List.set_cons_zero])
        refine wpAnyH_take (i := 5) (v := ?v30) rfl (by kernel_rfl) (by kernel_rfl) (by kernel_rfl) (fun _ _ _ h => h) (Or.inl ⟨by rfl, ?hy30⟩) hHeld ?rest30
        case hy30 => (intro wz hSw; (try dsimp only at hSw); go_simp; (try with_reducible rfl))
        (try simp only [Act.put, List.getElem_toArray, List.getElem_cons_succ, List.getElem_cons_zero]); (try simp only [List.setIfInBounds_toArray]); (try simp only [List.set_cons_succ]); (try simp only [List.set_cons_zero])
        refine wpAnyH_take (i := 8) (v := ?v31) rfl (by kernel_rfl) (by kernel_rfl) (by kernel_rfl) (fun _ _ _ h => h) (Or.inl ⟨by rfl, ?hy31⟩) hHeld ?rest31
        case hy31 => (intro wz hSw; (try dsimp only at hSw); go_simp; (try with_reducible rfl))
        (try simp only [Act.put, List.getElem_toArray, List.getElem_cons_succ, List.getElem_cons_zero]); (try simp only [List.setIfInBounds_toArray]); (try simp only [List.set_cons_succ]); (try simp only [List.set_cons_zero])
        refine wpAnyH_take (i := 9) (v := ?v32) rfl (by kernel_rfl) (by kernel_rfl) (by kernel_rfl) (fun _ _ _ h => h) (Or.inl ⟨by rfl, ?hy32⟩) hHeld ?rest32
        case hy32 => (intro wz hSw; (try dsimp only at hSw); go_simp; (try with_reducible rfl))
        (try simp only [Act.put, List.getElem_toArray, List.getElem_cons_succ, List.getElem_cons_zero]); (try simp only [List.setIfInBounds_toArray]); (try simp only [List.set_cons_succ]); (try simp only [List.set_cons_zero])
        refine wpAnyH_take (i := 10) (v := ?v33) rfl (by kernel_rfl) (by kernel_rfl) (by kernel_rfl) (fun _ _ _ h => h) (Or.inl ⟨by rfl, ?hy33⟩) hHeld ?rest33
        case hy33 => (intro wz hSw; (try dsimp only at hSw); go_simp; (try with_reducible rfl))
        (try simp only [Act.put, List.getElem_toArray, List.getElem_cons_succ, List.getElem_cons_zero]); (try simp only [List.setIfInBounds_toArray]); (try simp only [List.set_cons_succ]); (try simp only [List.set_cons_zero])
        refine wpAnyH_ready (rs := [0, 6]) (by kernel_rfl) (by simp) ?_
        refine AllReadyH.cons rfl (fun K' hK => ?_) (AllReadyH.cons rfl (fun K' hK => ?_) AllReadyH.nil)
        · skip
          go_simp
          refine hK.out _ _ (ext2 ((Ext.refl wr).drew.alloc _)) (fun hHeld => ?_)
          clear hK
          obtain ⟨V1, hV1⟩ : ∃ V1, (wr.alloc (.cells #[] 22)).drew = V1 := ⟨_, rfl⟩
          rw [hV1] at hHeld ⊢
          have E1 := And.left hHeld
          have hs1 : Hid (V1.heap.size = wr.heap.size + 1) := by rw [Hid, ← hV1]; simp
          have L1 : V1.ownsRow wr.heap.size 22 1 (.slice (some ⟨wr.heap.size, 0, none⟩) 0 0) 0 [] := by rw [← hV1]; exact ownsRow_ext (World.ownsRow_lit wr #[] 0 (Nat.le_refl _) (by unfold maxLen; omega) (by simp)) ((Ext.refl _).drew)
          clear hV1
          refine wpAnyH_ready (rs := [4, 6]) (by kernel_rfl) (by simp) ?_
          refine AllReadyH.cons rfl (fun K' hK => ?_) (AllReadyH.cons rfl (fun K' hK => ?_) AllReadyH.nil)
          · skip
            refine wp_append_own _ (.tmp 34) (.tmp 37) 35 rfl wr.heap.size 22 i1 (.slice none 0 0) 1 24 Tryz.underlying35 hi1 hy0 hy1 hy2 rfl (by decide) (.slice (some ⟨wr.heap.size, 0, none⟩) 0 0) 0 [] rfl L1 ⟨ga, 0, none⟩ p co (vs.take p) rfl (by rw [List.length_take, HVL.out]; omega) (own_take (ownsRow_ext OX.out E1) HVL.out) HTK.out (by unfold maxLen; omega) (by omega) E1.le ?_
            intro v1 w1 hO1 hg1 _
            have O1 : w1.ownsRow wr.heap.size 22 1 v1 p (vs.take p) := by rw [Nat.zero_add, List.nil_append] at hO1; exact hO1
            have F1 : Ext wr w1 := E1.grown hg1 (fun z hz => (World.ownsRow.lt L1 z hz).1)
            obtain ⟨a1, c1, rfl⟩ := ownsRow_shape O1
            refine hK.out _ _ (ext2 F1) (fun hHeld => ?_)
            clear hK hO1 hg1
            refine wpAnyH_ready (rs := [6]) (by kernel_rfl) (by simp) ?_
            refine AllReadyH.cons rfl (fun K' hK => ?_) AllReadyH.nil
            go_simp
            refine hK.out _ _ (ext2 (F1.alloc _)) (fun hHeld => ?_)
            clear hK
            have q2 := (Ext.refl w1).alloc (.cells #[.slice (some ⟨bx, 0, none⟩) rx cx] 22)
            have S2 : Cells (w1.alloc (.cells #[.slice (some ⟨bx, 0, none⟩) rx cx] 22)) w1.heap.size [.slice (some ⟨bx, 0, none⟩) rx cx] := cells_new w1 #[.slice (some ⟨bx, 0, none⟩) rx cx] 22
            have O2 := ownsRow_ext O1 q2
            obtain ⟨V2, hV2⟩ : ∃ V2, w1.alloc (.cells #[.slice (some ⟨bx, 0, none⟩) rx cx] 22) = V2 := ⟨_, rfl⟩
            rw [hV2] at S2 O2 hHeld ⊢
            clear hV2 q2
            have E2 := And.left hHeld
            refine wpAnyH_ready (rs := [7]) (by kernel_rfl) (by simp) ?_
            refine AllReadyH.cons rfl (fun K' hK => ?_) AllReadyH.nil
            refine wp_append_own _ (.tmp 38) (.tmp 40) 35 rfl wr.heap.size 22 i1 (.slice none 0 0) 1 24 Tryz.underlying35 hi1 hy0 hy1 hy2 rfl (by decide) (.slice a1 p c1) p (vs.take p) rfl O2 ⟨w1.heap.size, 0, none⟩ 1 1 [.slice (some ⟨bx, 0, none⟩) rx cx] rfl rfl (one_news (S2.2 0 _ rfl)) (fun u hu => by rw [List.mem_singleton] at hu; subst hu; rfl) (by unfold maxLen; omega) (by omega) E2.le ?_
            intro v2 w2 hO2 hg2 _
            have F2 : Ext wr w2 := E2.grown hg2 (fun z hz => (World.ownsRow.lt O2 z hz).1)
            obtain ⟨a2, c2, rfl⟩ := ownsRow_shape hO2
            refine hK.out _ _ (ext2 F2) (fun hHeld => ?_)
            clear hK hg2
            refine wpAnyH_ready (rs := [11]) (by kernel_rfl) (by simp) ?_
            refine AllReadyH.cons rfl (fun K' hK => ?_) AllReadyH.nil
            refine wp_append_own _ (.tmp 41) (.tmp 44) 35 rfl wr.heap.size 22 i1 (.slice none 0 0) 1 24 Tryz.underlying35 hi1 hy0 hy1 hy2 rfl (by decide) (.slice a2 (p + 1) c2) (p + 1) (vs.take p ++ [.slice (some ⟨bx, 0, none⟩) rx cx]) rfl hO2 ⟨ga, 0, none⟩ (nl - p) (co - p) (vs.drop p) rfl (by rw [List.length_drop, HVL.out]; omega) (own_drop (ownsRow_ext OX.out F2) HVL.out _ (.inr (by have := HCP.out; omega))) HDR.out (by unfold maxLen; omega) (by omega) F2.le ?_
            intro v3 w3 hO3 hg3 _
            have F3 : Ext wr w3 := F2.grown hg3 (fun z hz => (World.ownsRow.lt hO2 z hz).1)
            rw [show p + 1 + (nl - p) = nl + 1 by omega] at hO3
            obtain ⟨a3, c3', rfl⟩ := ownsRow_shape hO3
            obtain ⟨g3', rfl, _, _, _⟩ := ownsRow_get hO3 (by omega)
            refine hK.out _ _ (ext2 F3) (fun hHeld => ?_)
            clear hK hg3
            refine wpAnyH_take (i := 12) (v := ?v34) rfl (by kernel_rfl) (by kernel_rfl) (by kernel_rfl) (fun _ _ _ h => h) (Or.inl ⟨by rfl, ?hy34⟩) hHeld ?rest34
            case hy34 => (intro wz hSw; (try dsimp only at hSw); go_simp; (try with_reducible rfl))
            (try simp only [Act.put, List.getElem_toArray, List.getElem_cons_succ, List.getElem_cons_zero]); (try simp only [List.setIfInBounds_toArray]); (try simp only [List.set_cons_succ]); (try simp only [List.set_cons_zero])
            refine wpAnyH_take (i := 13) (v := ?v35) rfl (by kernel_rfl) (by kernel_rfl) (by kernel_rfl) (fun _ _ _ h => h) (Or.inl ⟨by rfl, ?hy35⟩) hHeld ?rest35
            case hy35 => (intro wz hSw; (try dsimp only at hSw); go_simp; (try with_reducible rfl))
            (try simp only [Act.put, List.getElem_toArray, List.getElem_cons_succ, List.getElem_cons_zero]); (try simp only [List.setIfInBounds_toArray]); (try simp only [List.set_cons_succ]); (try simp only [List.set_cons_zero])
            refine wpAnyH_done (by kernel_rfl) ?_ _
            clear hHeld
            have O9 := Lib.hid (ownsRow_low hO3 HLOW.out)
            have E8 := Lib.hid (hE.out.trans F3)
            have HG9 : Hid (w.heap.size ≤ g3') := Nat.le_trans hE.out.le (World.ownsRow.lt hO3 g3' rfl).1
            clear hO3
            go_wp2
            go_ret2
            exact ⟨g3', c3', true, by rw [HINL.out]; rfl, by rw [HINL.out]; exact HFIN.out w3 _ O9.out E8.out, E8.out, .inr ⟨rfl, HINL.out, HG9.out⟩⟩
          · skip
            go_simp
            refine hK.out _ _ (ext2 (E1.alloc _)) (fun hHeld => ?_)
            clear hK
            have q2 := (Ext.refl V1).alloc (.cells #[.slice (some ⟨bx, 0, none⟩) rx cx] 22)
            have S2 : Cells (V1.alloc (.cells #[.slice (some ⟨bx, 0, none⟩) rx cx] 22)) V1.heap.size [.slice (some ⟨bx, 0, none⟩) rx cx] := cells_new V1 #[.slice (some ⟨bx, 0, none⟩) rx cx] 22
            have L2 := ownsRow_ext L1 q2
            obtain ⟨V2, hV2⟩ : ∃ V2, V1.alloc (.cells #[.slice (some ⟨bx, 0, none⟩) rx cx] 22) = V2 := ⟨_, rfl⟩
            rw [hV2] at L2 S2 hHeld ⊢
            clear hV2 q2
            have E2 := And.left hHeld
            refine wpAnyH_ready (rs := [4]) (by kernel_rfl) (by simp) ?_
            refine AllReadyH.cons rfl (fun K' hK => ?_) AllReadyH.nil
            refine wp_append_own _ (.tmp 34) (.tmp 37) 35 rfl wr.heap.size 22 i1 (.slice none 0 0) 1 24 Tryz.underlying35 hi1 hy0 hy1 hy2 rfl (by decide) (.slice (some ⟨wr.heap.size, 0, none⟩) 0 0) 0 [] rfl L2 ⟨ga, 0, none⟩ p co (vs.take p) rfl (by rw [List.length_take, HVL.out]; omega) (own_take (ownsRow_ext OX.out E2) HVL.out) HTK.out (by unfold maxLen; omega) (by omega) E2.le ?_
            intro v1 w1 hO1 hg1 _
            have O1 : w1.ownsRow wr.heap.size 22 1 v1 p (vs.take p) := by rw [Nat.zero_add, List.nil_append] at hO1; exact hO1
            have F1 : Ext wr w1 := E2.grown hg1 (fun z hz => (World.ownsRow.lt L2 z hz).1)
            have S3 : Cells w1 V1.heap.size [.slice (some ⟨bx, 0, none⟩) rx cx] := S2.grown hg1 (fun z hz => by simp [Value.ownBlock] at hz; have := hs1.out; omega)
            obtain ⟨a1, c1, rfl⟩ := ownsRow_shape O1
            refine hK.out _ _ (ext2 F1) (fun hHeld => ?_)
            clear hK hO1 hg1
            refine wpAnyH_ready (rs := [7]) (by kernel_rfl) (by simp) ?_
            refine AllReadyH.cons rfl (fun K' hK => ?_) AllReadyH.nil
            refine wp_append_own _ (.tmp 38) (.tmp 40) 35 rfl wr.heap.size 22 i1 (.slice none 0 0) 1 24 Tryz.underlying35 hi1 hy0 hy1 hy2 rfl (by decide) (.slice a1 p c1) p (vs.take p) rfl O1 ⟨V1.heap.size, 0, none⟩ 1 1 [.slice (some ⟨bx, 0, none⟩) rx cx] rfl rfl (one_news (S3.2 0 _ rfl)) (fun u hu => by rw [List.mem_singleton] at hu; subst hu; rfl) (by unfold maxLen; omega) (by omega) F1.le ?_
            intro v2 w2 hO2 hg2 _
            have F2 : Ext wr w2 := F1.grown hg2 (fun z hz => (World.ownsRow.lt O1 z hz).1)
            obtain ⟨a2, c2, rfl⟩ := ownsRow_shape hO2
            refine hK.out _ _ (ext2 F2) (fun hHeld => ?_)
            clear hK hg2
            refine wpAnyH_ready (rs := [11]) (by kernel_rfl) (by simp) ?_
            refine AllReadyH.cons rfl (fun K' hK => ?_) AllReadyH.nil
            refine wp_append_own _ (.tmp 41) (.tmp 44) 35 rfl wr.heap.size 22 i1 (.slice none 0 0) 1 24 Tryz.underlying35 hi1 hy0 hy1 hy2 rfl (by decide) (.slice a2 (p + 1) c2) (p + 1) (vs.take p ++ [.slice (some ⟨bx, 0, none⟩) rx cx]) rfl hO2 ⟨ga, 0, none⟩ (nl - p) (co - p) (vs.drop p) rfl (by rw [List.length_drop, HVL.out]; omega) (own_drop (ownsRow_ext OX.out F2) HVL.out _ (.inr (by have := HCP.out; omega))) HDR.out (by unfold maxLen; omega) (by omega) F2.le ?_
            intro v3 w3 hO3 hg3 _
            have F3 : Ext wr w3 := F2.grown hg3 (fun z hz => (World.ownsRow.lt hO2 z hz).1)
            rw [show p + 1 + (nl - p) = nl + 1 by omega] at hO3
            obtain ⟨a3, c3', rfl⟩ := ownsRow_shape hO3
            obtain ⟨g3', rfl, _, _, _⟩ := ownsRow_get hO3 (by omega)
            refine hK.out _ _ (ext2 F3) (fun hHeld => ?_)
            clear hK hg3
            refine wpAnyH_take (i := 12) (v := ?v36) rfl (by kernel_rfl) (by kernel_rfl) (by kernel_rfl) (fun _ _ _ h => h) (Or.inl ⟨by rfl, ?hy36⟩) hHeld ?rest36
            case hy36 => (intro wz hSw; (try dsimp only at hSw); go_simp; (try with_reducible rfl))
            (try simp only [Act.put, List.getElem_toArray, List.getElem_cons_succ, List.getElem_cons_zero]); (try simp only [List.setIfInBounds_toArray]); (try simp only [List.set_cons_succ]); (try simp only [List.set_cons_zero])
            refine wpAnyH_take (i := 13) (v := ?v37) rfl (by kernel_rfl) (by kernel_rfl) (by kernel_rfl) (fun _ _ _ h => h) (Or.inl ⟨by rfl, ?hy37⟩) hHeld ?rest37
            case hy37 => (intro wz hSw; (try dsimp only at hSw); go_simp; (try with_reducible rfl))
            (try simp only [Act.put, List.getElem_toArray, List.getElem_cons_succ, List.getElem_cons_zero]); (try simp only [List.setIfInBounds_toArray]); (try simp only [List.set_cons_succ]); (try simp only [List.set_cons_zero])
            refine wpAnyH_done (by kernel_rfl) ?_ _
            clear hHeld
            have O9 := Lib.hid (ownsRow_low hO3 HLOW.out)
            have E8 := Lib.hid (hE.out.trans F3)
            have HG9 : Hid (w.heap.size ≤ g3') := Nat.le_trans hE.out.le (World.ownsRow.lt hO3 g3' rfl).1
            clear hO3
            go_wp2
            go_ret2
            exact ⟨g3', c3', true, by rw [HINL.out]; rfl, by rw [HINL.out]; exact HFIN.out w3 _ O9.out E8.out, E8.out, .inr ⟨rfl, HINL.out, HG9.out⟩⟩
        · skip
          go_simp
          refine hK.out _ _ (ext2 ((Ext.refl wr).drew.alloc _)) (fun hHeld => ?_)
          clear hK
          obtain ⟨V1, hV1⟩ : ∃ V1, (wr.alloc (.cells #[.slice (some ⟨bx, 0, none⟩) rx cx] 22)).drew = V1 := ⟨_, rfl⟩
          rw [hV1] at hHeld ⊢
          have E1 := And.left hHeld
          have hs1 : Hid (V1.heap.size = wr.heap.size + 1) := by rw [Hid, ← hV1]; simp
          have S1 : Cells V1 wr.heap.size [.slice (some ⟨bx, 0, none⟩) rx cx] := by rw [← hV1]; exact (cells_new wr #[.slice (some ⟨bx, 0, none⟩) rx cx] 22).ext ((Ext.refl _).drew)
          clear hV1
          refine wpAnyH_ready (rs := [0]) (by kernel_rfl) (by simp) ?_
          refine AllReadyH.cons rfl (fun K' hK => ?_) AllReadyH.nil
          go_simp
          refine hK.out _ _ (ext2 (E1.alloc _)) (fun hHeld => ?_)
          clear hK
          have q2 := (Ext.refl V1).alloc (.cells #[] 22)
          have L2 : (V1.alloc (.cells #[] 22)).ownsRow wr.heap.size 22 1 (.slice (some ⟨V1.heap.size, 0, none⟩) 0 0) 0 [] := World.ownsRow_lit V1 #[] 0 E1.le (by unfold maxLen; omega) (by simp)
          have S2 := S1.ext q2
          obtain ⟨V2, hV2⟩ : ∃ V2, V1.alloc (.cells #[] 22) = V2 := ⟨_, rfl⟩
          rw [hV2] at L2 S2 hHeld ⊢
          clear hV2 q2
          have E2 := And.left hHeld
          refine wpAnyH_ready (rs := [4]) (by kernel_rfl) (by simp) ?_
          refine AllReadyH.cons rfl (fun K' hK => ?_) AllReadyH.nil
          refine wp_append_own _ (.tmp 34) (.tmp 37) 35 rfl wr.heap.size 22 i1 (.slice none 0 0) 1 24 Tryz.underlying35 hi1 hy0 hy1 hy2 rfl (by decide) (.slice (some ⟨V1.heap.size, 0, none⟩) 0 0) 0 [] rfl L2 ⟨ga, 0, none⟩ p co (vs.take p) rfl (by rw [List.length_take, HVL.out]; omega) (own_take (ownsRow_ext OX.out E2) HVL.out) HTK.out (by unfold maxLen; omega) (by omega) E2.le ?_
          intro v1 w1 hO1 hg1 _
          have O1 : w1.ownsRow wr.heap.size 22 1 v1 p (vs.take p) := by rw [Nat.zero_add, List.nil_append] at hO1; exact hO1
          have F1 : Ext wr w1 := E2.grown hg1 (fun z hz => (World.ownsRow.lt L2 z hz).1)
          have S3 : Cells w1 wr.heap.size [.slice (some ⟨bx, 0, none⟩) rx cx] := S2.grown hg1 (fun z hz => by simp [Value.ownBlock] at hz; have := hs1.out; omega)
          obtain ⟨a1, c1, rfl⟩ := ownsRow_shape O1
          refine hK.out _ _ (ext2 F1) (fun hHeld => ?_)
          clear hK hO1 hg1
          refine wpAnyH_ready (rs := [7]) (by kernel_rfl) (by simp) ?_
          refine AllReadyH.cons rfl (fun K' hK => ?_) AllReadyH.nil
          refine wp_append_own _ (.tmp 38) (.tmp 40) 35 rfl wr.heap.size 22 i1 (.slice none 0 0) 1 24 Tryz.underlying35 hi1 hy0 hy1 hy2 rfl (by decide) (.slice a1 p c1) p (vs.take p) rfl O1 ⟨wr.heap.size, 0, none⟩ 1 1 [.slice (some ⟨bx, 0, none⟩) rx cx] rfl rfl (one_news (S3.2 0 _ rfl)) (fun u hu => by rw [List.mem_singleton] at hu; subst hu; rfl) (by unfold maxLen; omega) (by omega) F1.le ?_
          intro v2 w2 hO2 hg2 _
          have F2 : Ext wr w2 := F1.grown hg2 (fun z hz => (World.ownsRow.lt O1 z hz).1)
          obtain ⟨a2, c2, rfl⟩ := ownsRow_shape hO2
          refine hK.out _ _ (ext2 F2) (fun hHeld => ?_)
          clear hK hg2
          refine wpAnyH_ready (rs := [11]) (by kernel_rfl) (by simp) ?_
          refine AllReadyH.cons rfl (fun K' hK => ?_) AllReadyH.nil
          refine wp_append_own _ (.tmp 41) (.tmp 44) 35 rfl wr.heap.size 22 i1 (.slice none 0 0) 1 24 Tryz.underlying35 hi1 hy0 hy1 hy2 rfl (by decide) (.slice a2 (p + 1) c2) (p + 1) (vs.take p ++ [.slice (some ⟨bx, 0, none⟩) rx cx]) rfl hO2 ⟨ga, 0, none⟩ (nl - p) (co - p) (vs.drop p) rfl (by rw [List.length_drop, HVL.out]; omega) (own_drop (ownsRow_ext OX.out F2) HVL.out _ (.inr (by have := HCP.out; omega))) HDR.out (by unfold maxLen; omega) (by omega) F2.le ?_
          intro v3 w3 hO3 hg3 _
          have F3 : Ext wr w3 := F2.grown hg3 (fun z hz => (World.ownsRow.lt hO2 z hz).1)
          rw [show p + 1 + (nl - p) = nl + 1 by omega] at hO3
          obtain ⟨a3, c3', rfl⟩ := ownsRow_shape hO3
          obtain ⟨g3', rfl, _, _, _⟩ := ownsRow_get hO3 (by omega)
          refine hK.out _ _ (ext2 F3) (fun hHeld => ?_)
          clear hK hg3
          refine wpAnyH_take (i := 12) (v := ?v38) rfl (by kernel_rfl) (by kernel_rfl) (by kernel_rfl) (fun _ _ _ h => h) (Or.inl ⟨by rfl, ?hy38⟩) hHeld ?rest38
          case hy38 => (intro wz hSw; (try dsimp only at hSw); go_simp; (try with_reducible rfl))
          (try simp only [Act.put, List.getElem_toArray, List.getElem_cons_succ, List.getElem_cons_zero]); (try simp only [List.setIfInBounds_toArray]); (try simp only [List.set_cons_succ]); (try simp only [List.set_cons_zero])
          refine wpAnyH_take (i := 13) (v := ?v39) rfl (by kernel_rfl) (by kernel_rfl) (by kernel_rfl) (fun _ _ _ h => h) (Or.inl ⟨by rfl, ?hy39⟩) hHeld ?rest39
          case hy39 => (intro wz hSw; (try dsimp only at hSw); go_simp; (try with_reducible rfl))
          (try simp only [Act.put, List.getElem_toArray, List.getElem_cons_succ, List.getElem_cons_zero]); (try simp only [List.setIfInBounds_toArray]); (try simp only [List.set_cons_succ]); (try simp only [List.set_cons_zero])
          refine wpAnyH_done (by kernel_rfl) ?_ _
          clear hHeld
          have O9 := Lib.hid (ownsRow_low hO3 HLOW.out)
          have E8 := Lib.hid (hE.out.trans F3)
          have HG9 : Hid (w.heap.size ≤ g3') := Nat.le_trans hE.out.le (World.ownsRow.lt hO3 g3' rfl).1
          clear hO3
          go_wp2
          go_ret2
          exact ⟨g3', c3', true, by rw [HINL.out]; rfl, by rw [HINL.out]; exact HFIN.out w3 _ O9.out E8.out, E8.out, .inr ⟨rfl, HINL.out, HG9.out⟩⟩
      · skip
        have hcp1 : ¬ p = co := fun h => hcp h.symm
        refine wp_region_held_drew (S := (fun w' => Ext wr w' ∧ (∀ b o, b < wr.heap.size → w'.cell? ⟨b, o, none⟩ = wr.cell? ⟨b, o, none⟩))) (by kernel_rfl) (ext2 (Ext.refl wr).drew) (fun hHeld => ?_)
        refine wpAnyH_take (i := 1) (v := ?v40) rfl (by kernel_rfl) (by kernel_rfl) (by kernel_rfl) (fun _ _ _ h => h) (Or.inl ⟨by rfl, ?hy40⟩) hHeld ?rest40
        case hy40 => (intro wz hSw; (try dsimp only at hSw); go_simp; (try with_reducible rfl))
        (try simp only [Act.put, List.getElem_toArray, List.getElem_cons_succ, List.getElem_cons_zero]); (try simp only [List.setIfInBounds_toArray]); (try simp only [List.set_cons_succ]); (try simp only [List.set_cons_zero])
        refine wpAnyH_take (i := 2) (v := ?v41) rfl (by kernel_rfl) (by kernel_rfl) (by kernel_rfl) (fun _ _ _ h => h) (Or.inl ⟨by rfl, ?hy41⟩) hHeld ?rest41
        case hy41 => (intro wz hSw; (try dsimp only at hSw); go_simp; (try with_reducible rfl))
        (try simp only [Act.put, List.getElem_toArray, List.getElem_cons_succ, List.getElem_cons_zero]); (try simp only [List.setIfInBounds_toArray]); (try simp only [List.set_cons_succ]); (try simp only [List.set_cons_zero])
        refine wpAnyH_take (i := 3) (v := ?v42) rfl (by kernel_rfl) (by kernel_rfl) (by kernel_rfl) (fun _ _ _ h => h) (Or.inl ⟨by rfl, ?hy42⟩) hHeld ?rest42
        case hy42 => (intro wz hSw; (try dsimp only at hSw); go_simp; (try with_reducible rfl))
        (try simp only [Act.put, List.getElem_toArray, List.getElem_cons_succ, List.getElem_cons_zero]); (try simp only [List.setIfInBounds_toArray]); (try simp only [List.set_cons_succ]); (try simp only [List.set_cons_zero])
        refine wpAnyH_take (i := 5) (v := ?v43) rfl (by kernel_rfl) (by kernel_rfl) (by kernel_rfl) (fun _ _ _ h => h) (Or.inl ⟨by rfl, ?hy43⟩) hHeld ?rest43
        case hy43 => (intro wz hSw; (try dsimp only at hSw); go_simp; (try with_reducible rfl))
        (try simp only [Act.put, List.getElem_toArray, List.getElem_cons_succ, List.getElem_cons_zero]); (try simp only [List.setIfInBounds_toArray]); (try simp only [List.set_cons_succ]); (try simp only [List.set_cons_zero])
        refine wpAnyH_take (i := 8) (v := ?v44) rfl (by kernel_rfl) (by kernel_rfl) (by kernel_rfl) (fun _ _ _ h => h) (Or.inl ⟨by rfl, ?hy44⟩) hHeld ?rest44
        case hy44 => (intro wz hSw; (try dsimp only at hSw); go_simp; (try with_reducible rfl))
        (try simp only [Act.put, List.getElem_toArray, List.getElem_cons_succ, List.getElem_cons_zero]); (try simp only [List.setIfInBounds_toArray]); (try simp only [List.set_cons_succ]); (try simp only [List.set_cons_zero])
        refine wpAnyH_take (i := 9) (v := ?v45) rfl (by kernel_rfl) (by kernel_rfl) (by kernel_rfl) (fun _ _ _ h => h) (Or.inl ⟨by rfl, ?hy45⟩) hHeld ?rest45
        case hy45 => (intro wz hSw; (try dsimp only at hSw); go_simp; (try with_reducible rfl))
        (try simp only [Act.put, List.getElem_toArray, List.getElem_cons_succ, List.getElem_cons_zero]); (try simp only [List.setIfInBounds_toArray]); (try simp only [List.set_cons_succ]); (try simp only [List.set_cons_zero])
        refine wpAnyH_take (i := 10) (v := ?v46) rfl (by kernel_rfl) (by kernel_rfl) (by kernel_rfl) (fun _ _ _ h => h) (Or.inl ⟨by rfl, ?hy46⟩) hHeld ?rest46
        case hy46 => (intro wz hSw; (try dsimp only at hSw); go_simp; (try with_reducible rfl))
        (try simp only [Act.put, List.getElem_toArray, List.getElem_cons_succ, List.getElem_cons_zero]); (try simp only [List.setIfInBounds_toArray]); (try simp only [List.set_cons_succ]); (try simp only [List.set_cons_zero])
        refine wpAnyH_ready (rs := [0, 6]) (by kernel_rfl) (by simp) ?_
        refine AllReadyH.cons rfl (fun K' hK => ?_) (AllReadyH.cons rfl (fun K' hK => ?_) AllReadyH.nil)
        · skip
          go_simp
          refine hK.out _ _ (ext2 ((Ext.refl wr).drew.alloc _)) (fun hHeld => ?_)
          clear hK
          obtain ⟨V1, hV1⟩ : ∃ V1, (wr.alloc (.cells #[] 22)).drew = V1 := ⟨_, rfl⟩
          rw [hV1] at hHeld ⊢
          have E1 := And.left hHeld
          have hs1 : Hid (V1.heap.size = wr.heap.size + 1) := by rw [Hid, ← hV1]; simp
          have L1 : V1.ownsRow wr.heap.size 22 1 (.slice (some ⟨wr.heap.size, 0, none⟩) 0 0) 0 [] := by rw [← hV1]; exact ownsRow_ext (World.ownsRow_lit wr #[] 0 (Nat.le_refl _) (by unfold maxLen; omega) (by simp)) ((Ext.refl _).drew)
          clear hV1
          refine wpAnyH_ready (rs := [4, 6]) (by kernel_rfl) (by simp) ?_
          refine AllReadyH.cons rfl (fun K' hK => ?_) (AllReadyH.cons rfl (fun K' hK => ?_) AllReadyH.nil)
          · skip
            refine wp_append_own _ (.tmp 34) (.tmp 37) 35 rfl wr.heap.size 22 i1 (.slice none 0 0) 1 24 Tryz.underlying35 hi1 hy0 hy1 hy2 rfl (by decide) (.slice (some ⟨wr.heap.size, 0, none⟩) 0 0) 0 [] rfl L1 ⟨ga, 0, none⟩ p co (vs.take p) rfl (by rw [List.length_take, HVL.out]; omega) (own_take (ownsRow_ext OX.out E1) HVL.out) HTK.out (by unfold maxLen; omega) (by omega) E1.le ?_
            intro v1 w1 hO1 hg1 _
            have O1 : w1.ownsRow wr.heap.size 22 1 v1 p (vs.take p) := by rw [Nat.zero_add, List.nil_append] at hO1; exact hO1
            have F1 : Ext wr w1 := E1.grown hg1 (fun z hz => (World.ownsRow.lt L1 z hz).1)
            obtain ⟨a1, c1, rfl⟩ := ownsRow_shape O1
            refine hK.out _ _ (ext2 F1) (fun hHeld => ?_)
            clear hK hO1 hg1
            refine wpAnyH_ready (rs := [6]) (by kernel_rfl) (by simp) ?_
            refine AllReadyH.cons rfl (fun K' hK => ?_) AllReadyH.nil
            go_simp
            refine hK.out _ _ (ext2 (F1.alloc _)) (fun hHeld => ?_)
            clear hK
            have q2 := (Ext.refl w1).alloc (.cells #[.slice (some ⟨bx, 0, none⟩) rx cx] 22)
            have S2 : Cells (w1.alloc (.cells #[.slice (some ⟨bx, 0, none⟩) rx cx] 22)) w1.heap.size [.slice (some ⟨bx, 0, none⟩) rx cx] := cells_new w1 #[.slice (some ⟨bx, 0, none⟩) rx cx] 22
            have O2 := ownsRow_ext O1 q2
            obtain ⟨V2, hV2⟩ : ∃ V2, w1.alloc (.cells #[.slice (some ⟨bx, 0, none⟩) rx cx] 22) = V2 := ⟨_, rfl⟩
            rw [hV2] at S2 O2 hHeld ⊢
            clear hV2 q2
            have E2 := And.left hHeld
            refine wpAnyH_ready (rs := [7]) (by kernel_rfl) (by simp) ?_
            refine AllReadyH.cons rfl (fun K' hK => ?_) AllReadyH.nil
            refine wp_append_own _ (.tmp 38) (.tmp 40) 35 rfl wr.heap.size 22 i1 (.slice none 0 0) 1 24 Tryz.underlying35 hi1 hy0 hy1 hy2 rfl (by decide) (.slice a1 p c1) p (vs.take p) rfl O2 ⟨w1.heap.size, 0, none⟩ 1 1 [.slice (some ⟨bx, 0, none⟩) rx cx] rfl rfl (one_news (S2.2 0 _ rfl)) (fun u hu => by rw [List.mem_singleton] at hu; subst hu; rfl) (by unfold maxLen; omega) (by omega) E2.le ?_
            intro v2 w2 hO2 hg2 _
            have F2 : Ext wr w2 := E2.grown hg2 (fun z hz => (World.ownsRow.lt O2 z hz).1)
            obtain ⟨a2, c2, rfl⟩ := ownsRow_shape hO2
            refine hK.out _ _ (ext2 F2) (fun hHeld => ?_)
            clear hK hg2
            refine wpAnyH_ready (rs := [11]) (by kernel_rfl) (by simp) ?_
            refine AllReadyH.cons rfl (fun K' hK => ?_) AllReadyH.nil
            refine wp_append_own _ (.tmp 41) (.tmp 44) 35 rfl wr.heap.size 22 i1 (.slice none 0 0) 1 24 Tryz.underlying35 hi1 hy0 hy1 hy2 rfl (by decide) (.slice a2 (p + 1) c2) (p + 1) (vs.take p ++ [.slice (some ⟨bx, 0, none⟩) rx cx]) rfl hO2 ⟨ga, p, none⟩ (nl - p) (co - p) (vs.drop p) rfl (by rw [List.length_drop, HVL.out]; omega) (own_drop (ownsRow_ext OX.out F2) HVL.out _ (.inl rfl)) HDR.out (by unfold maxLen; omega) (by omega) F2.le ?_
            intro v3 w3 hO3 hg3 _
            have F3 : Ext wr w3 := F2.grown hg3 (fun z hz => (World.ownsRow.lt hO2 z hz).1)
            rw [show p + 1 + (nl - p) = nl + 1 by omega] at hO3
            obtain ⟨a3, c3', rfl⟩ := ownsRow_shape hO3
            obtain ⟨g3', rfl, _, _, _⟩ := ownsRow_get hO3 (by omega)
            refine hK.out _ _ (ext2 F3) (fun hHeld => ?_)
            clear hK hg3
            refine wpAnyH_take (i := 12) (v := ?v47) rfl (by kernel_rfl) (by kernel_rfl) (by kernel_rfl) (fun _ _ _ h => h) (Or.inl ⟨by rfl, ?hy47⟩) hHeld ?rest47
            case hy47 => (intro wz hSw; (try dsimp only at hSw); go_simp; (try with_reducible rfl))
            (try simp only [Act.put, List.getElem_toArray, List.getElem_cons_succ, List.getElem_cons_zero]); (try simp only [List.setIfInBounds_toArray]); (try simp only [List.set_cons_succ]); (try simp only [List.set_cons_zero])
            refine wpAnyH_take (i := 13) (v := ?v48) rfl (by kernel_rfl) (by kernel_rfl) (by kernel_rfl) (fun _ _ _ h => h) (Or.inl ⟨by rfl, ?hy48⟩) hHeld ?rest48
            case hy48 => (intro wz hSw; (try dsimp only at hSw); go_simp; (try with_reducible rfl))
            (try simp only [Act.put, List.getElem_toArray, List.getElem_cons_succ, List.getElem_cons_zero]); (try simp only [List.setIfInBounds_toArray]); (try simp only [List.set_cons_succ]); (try simp only [List.set_cons_zero])
            refine wpAnyH_done (by kernel_rfl) ?_ _
            clear hHeld
            have O9 := Lib.hid (ownsRow_low hO3 HLOW.out)
            have E8 := Lib.hid (hE.out.trans F3)
            have HG9 : Hid (w.heap.size ≤ g3') := Nat.le_trans hE.out.le (World.ownsRow.lt hO3 g3' rfl).1
            clear hO3
            go_wp2
            go_ret2
            exact ⟨g3', c3', true, by rw [HINL.out]; rfl, by rw [HINL.out]; exact HFIN.out w3 _ O9.out E8.out, E8.out, .inr ⟨rfl, HINL.out, HG9.out⟩⟩
          · skip
            go_simp
            refine hK.out _ _ (ext2 (E1.alloc _)) (fun hHeld => ?_)
            clear hK
            have q2 := (Ext.refl V1).alloc (.cells #[.slice (some ⟨bx, 0, none⟩) rx cx] 22)
            have S2 : Cells (V1.alloc (.cells #[.slice (some ⟨bx, 0, none⟩) rx cx] 22)) V1.heap.size [.slice (some ⟨bx, 0, none⟩) rx cx] := cells_new V1 #[.slice (some ⟨bx, 0, none⟩) rx cx] 22
            have L2 := ownsRow_ext L1 q2
            obtain ⟨V2, hV2⟩ : ∃ V2, V1.alloc (.cells #[.slice (some ⟨bx, 0, none⟩) rx cx] 22) = V2 := ⟨_, rfl⟩
            rw [hV2] at L2 S2 hHeld ⊢
            clear hV2 q2
            have E2 := And.left hHeld
            refine wpAnyH_ready (rs := [4]) (by kernel_rfl) (by simp) ?_
            refine AllReadyH.cons rfl (fun K' hK => ?_) AllReadyH.nil
            refine wp_append_own _ (.tmp 34) (.tmp 37) 35 rfl wr.heap.size 22 i1 (.slice none 0 0) 1 24 Tryz.underlying35 hi1 hy0 hy1 hy2 rfl (by decide) (.slice (some ⟨wr.heap.size, 0, none⟩) 0 0) 0 [] rfl L2 ⟨ga, 0, none⟩ p co (vs.take p) rfl (by rw [List.length_take, HVL.out]; omega) (own_take (ownsRow_ext OX.out E2) HVL.out) HTK.out (by unfold maxLen; omega) (by omega) E2.le ?_
            intro v1 w1 hO1 hg1 _
            have O1 : w1.ownsRow wr.heap.size 22 1 v1 p (vs.take p) := by rw [Nat.zero_add, List.nil_append] at hO1; exact hO1
            have F1 : Ext wr w1 := E2.grown hg1 (fun z hz => (World.ownsRow.lt L2 z hz).1)
            have S3 : Cells w1 V1.heap.size [.slice (some ⟨bx, 0, none⟩) rx cx] := S2.grown hg1 (fun z hz => by simp [Value.ownBlock] at hz; have := hs1.out; omega)
            obtain ⟨a1, c1, rfl⟩ := ownsRow_shape O1
            refine hK.out _ _ (ext2 F1) (fun hHeld => ?_)
            clear hK hO1 hg1
            refine wpAnyH_ready (rs := [7]) (by kernel_rfl) (by simp) ?_
            refine AllReadyH.cons rfl (fun K' hK => ?_) AllReadyH.nil
            refine wp_append_own _ (.tmp 38) (.tmp 40) 35 rfl wr.heap.size 22 i1 (.slice none 0 0) 1 24 Tryz.underlying35 hi1 hy0 hy1 hy2 rfl (by decide) (.slice a1 p c1) p (vs.take p) rfl O1 ⟨V1.heap.size, 0, none⟩ 1 1 [.slice (some ⟨bx, 0, none⟩) rx cx] rfl rfl (one_news (S3.2 0 _ rfl)) (fun u hu => by rw [List.mem_singleton] at hu; subst hu; rfl) (by unfold maxLen; omega) (by omega) F1.le ?_
            intro v2 w2 hO2 hg2 _
            have F2 : Ext wr w2 := F1.grown hg2 (fun z hz => (World.ownsRow.lt O1 z hz).1)
            obtain ⟨a2, c2, rfl⟩ := ownsRow_shape hO2
            refine hK.out _ _ (ext2 F2) (fun hHeld => ?_)
            clear hK hg2
            refine wpAnyH_ready (rs := [11]) (by kernel_rfl) (by simp) ?_
            refine AllReadyH.cons rfl (fun K' hK => ?_) AllReadyH.nil
            refine wp_append_own _ (.tmp 41) (.tmp 44) 35 rfl wr.heap.size 22 i1 (.slice none 0 0) 1 24 Tryz.underlying35 hi1 hy0 hy1 hy2 rfl (by decide) (.slice a2 (p + 1) c2) (p + 1) (vs.take p ++ [.slice (some ⟨bx, 0, none⟩) rx cx]) rfl hO2 ⟨ga, p, none⟩ (nl - p) (co - p) (vs.drop p) rfl (by rw [List.length_drop, HVL.out]; omega) (own_drop (ownsRow_ext OX.out F2) HVL.out _ (.inl rfl)) HDR.out (by unfold maxLen; omega) (by omega) F2.le ?_
            intro v3 w3 hO3 hg3 _
            have F3 : Ext wr w3 := F2.grown hg3 (fun z hz => (World.ownsRow.lt hO2 z hz).1)
            rw [show p + 1 + (nl - p) = nl + 1 by omega] at hO3
            obtain ⟨a3, c3', rfl⟩ := ownsRow_shape hO3
            obtain ⟨g3', rfl, _, _, _⟩ := ownsRow_get hO3 (by omega)
            refine hK.out _ _ (ext2 F3) (fun hHeld => ?_)
            clear hK hg3
            refine wpAnyH_take (i := 12) (v := ?v49) rfl (by kernel_rfl) (by kernel_rfl) (by kernel_rfl) (fun _ _ _ h => h) (Or.inl ⟨by rfl, ?hy49⟩) hHeld ?rest49
            case hy49 => (intro wz hSw; (try dsimp only at hSw); go_simp; (try with_reducible rfl))
            (try simp only [Act.put, List.getElem_toArray, List.getElem_cons_succ, List.getElem_cons_zero]); (try simp only [List.setIfInBounds_toArray]); (try simp only [List.set_cons_succ]); (try simp only [List.set_cons_zero])
            refine wpAnyH_take (i := 13) (v := ?v50) rfl (by kernel_rfl) (by kernel_rfl) (by kernel_rfl) (fun _ _ _ h => h) (Or.inl ⟨by rfl, ?hy50⟩) hHeld ?rest50
            case hy50 => (intro wz hSw; (try dsimp only at hSw); go_simp; (try with_reducible rfl))
            (try simp only [Act.put, List.getElem_toArray, List.getElem_cons_succ, List.getElem_cons_zero]); (try simp only [List.setIfInBounds_toArray]); (try simp only [List.set_cons_succ]); (try simp only [List.set_cons_zero])
            refine wpAnyH_done (by kernel_rfl) ?_ _
            clear hHeld
            have O9 := Lib.hid (ownsRow_low hO3 HLOW.out)
            have E8 := Lib.hid (hE.out.trans F3)
            have HG9 : Hid (w.heap.size ≤ g3') := Nat.le_trans hE.out.le (World.ownsRow.lt hO3 g3' rfl).1
            clear hO3
            go_wp2
            go_ret2
            exact ⟨g3', c3', true, by rw [HINL.out]; rfl, by rw [HINL.out]; exact HFIN.out w3 _ O9.out E8.out, E8.out, .inr ⟨rfl, HINL.out, HG9.out⟩⟩
        · skip
          go_simp
          refine hK.out _ _ (ext2 ((Ext.refl wr).drew.alloc _)) (fun hHeld => ?_)
          clear hK
          obtain ⟨V1, hV1⟩ : ∃ V1, (wr.alloc (.cells #[.slice (some ⟨bx, 0, none⟩) rx cx] 22)).drew = V1 := ⟨_, rfl⟩
          rw [hV1] at hHeld ⊢
          have E1 := And.left hHeld
          have hs1 : Hid (V1.heap.size = wr.heap.size + 1) := by rw [Hid, ← hV1]; simp
          have S1 : Cells V1 wr.heap.size [.slice (some ⟨bx, 0, none⟩) rx cx] := by rw [← hV1]; exact (cells_new wr #[.slice (some ⟨bx, 0, none⟩) rx cx] 22).ext ((Ext.refl _).drew)
          clear hV1
          refine wpAnyH_ready (rs := [0]) (by kernel_rfl) (by simp) ?_
          refine AllReadyH.cons rfl (fun K' hK => ?_) AllReadyH.nil
          go_simp
          refine hK.out _ _ (ext2 (E1.alloc _)) (fun hHeld => ?_)
          clear hK
          have q2 := (Ext.refl V1).alloc (.cells #[] 22)
          have L2 : (V1.alloc (.cells #[] 22)).ownsRow wr.heap.size 22 1 (.slice (some ⟨V1.heap.size, 0, none⟩) 0 0) 0 [] := World.ownsRow_lit V1 #[] 0 E1.le (by unfold maxLen; omega) (by simp)
          have S2 := S1.ext q2
          obtain ⟨V2, hV2⟩ : ∃ V2, V1.alloc (.cells #[] 22) = V2 := ⟨_, rfl⟩
          rw [hV2] at L2 S2 hHeld ⊢
          clear hV2 q2
          have E2 := And.left hHeld
          refine wpAnyH_ready (rs := [4]) (by kernel_rfl) (by simp) ?_
          refine AllReadyH.cons rfl (fun K' hK => ?_) AllReadyH.nil
          refine wp_append_own _ (.tmp 34) (.tmp 37) 35 rfl wr.heap.size 22 i1 (.slice none 0 0) 1 24 Tryz.underlying35 hi1 hy0 hy1 hy2 rfl (by decide) (.slice (some ⟨V1.heap.size, 0, none⟩) 0 0) 0 [] rfl L2 ⟨ga, 0, none⟩ p co (vs.take p) rfl (by rw [List.length_take, HVL.out]; omega) (own_take (ownsRow_ext OX.out E2) HVL.out) HTK.out (by unfold maxLen; omega) (by omega) E2.le ?_
          intro v1 w1 hO1 hg1 _
          have O1 : w1.ownsRow wr.heap.size 22 1 v1 p (vs.take p) := by rw [Nat.zero_add, List.nil_append] at hO1; exact hO1
          have F1 : Ext wr w1 := E2.grown hg1 (fun z hz => (World.ownsRow.lt L2 z hz).1)
          have S3 : Cells w1 wr.heap.size [.slice (some ⟨bx, 0, none⟩) rx cx] := S2.grown hg1 (fun z hz => by simp [Value.ownBlock] at hz; have := hs1.out; omega)
          obtain ⟨a1, c1, rfl⟩ := ownsRow_shape O1
          refine hK.out _ _ (ext2 F1) (fun hHeld => ?_)
          clear hK hO1 hg1
          refine wpAnyH_ready (rs := [7]) (by kernel_rfl) (by simp) ?_
          refine AllReadyH.cons rfl (fun K' hK => ?_) AllReadyH.nil
          refine wp_append_own _ (.tmp 38) (.tmp 40) 35 rfl wr.heap.size 22 i1 (.slice none 0 0) 1 24 Tryz.underlying35 hi1 hy0 hy1 hy2 rfl (by decide) (.slice a1 p c1) p (vs.take p) rfl O1 ⟨wr.heap.size, 0, none⟩ 1 1 [.slice (some ⟨bx, 0, none⟩) rx cx] rfl rfl (one_news (S3.2 0 _ rfl)) (fun u hu => by rw [List.mem_singleton] at hu; subst hu; rfl) (by unfold maxLen; omega) (by omega) F1.le ?_
          intro v2 w2 hO2 hg2 _
          have F2 : Ext wr w2 := F1.grown hg2 (fun z hz => (World.ownsRow.lt O1 z hz).1)
          obtain ⟨a2, c2, rfl⟩ := ownsRow_shape hO2
          refine hK.out _ _ (ext2 F2) (fun hHeld => ?_)
          clear hK hg2
          refine wpAnyH_ready (rs := [11]) (by kernel_rfl) (by simp) ?_
          refine AllReadyH.cons rfl (fun K' hK => ?_) AllReadyH.nil
          refine wp_append_own _ (.tmp 41) (.tmp 44) 35 rfl wr.heap.size 22 i1 (.slice none 0 0) 1 24 Tryz.underlying35 hi1 hy0 hy1 hy2 rfl (by decide) (.slice a2 (p + 1) c2) (p + 1) (vs.take p ++ [.slice (some ⟨bx, 0, none⟩) rx cx]) rfl hO2 ⟨ga, p, none⟩ (nl - p) (co - p) (vs.drop p) rfl (by rw [List.length_drop, HVL.out]; omega) (own_drop (ownsRow_ext OX.out F2) HVL.out _ (.inl rfl)) HDR.out (by unfold maxLen; omega) (by omega) F2.le ?_
          intro v3 w3 hO3 hg3 _
          have F3 : Ext wr w3 := F2.grown hg3 (fun z hz => (World.ownsRow.lt hO2 z hz).1)
          rw [show p + 1 + (nl - p) = nl + 1 by omega] at hO3
          obtain ⟨a3, c3', rfl⟩ := ownsRow_shape hO3
          obtain ⟨g3', rfl, _, _, _⟩ := ownsRow_get hO3 (by omega)
          refine hK.out _ _ (ext2 F3) (fun hHeld => ?_)
          clear hK hg3
          refine wpAnyH_take (i := 12) (v := ?v51) rfl (by kernel_rfl) (by kernel_rfl) (by kernel_rfl) (fun _ _ _ h => h) (Or.inl ⟨by rfl, ?hy51⟩) hHeld ?rest51
          case hy51 => (intro wz hSw; (try dsimp only at hSw); go_simp; (try with_reducible rfl))
          (try simp only [Act.put, List.getElem_toArray, List.getElem_cons_succ, List.getElem_cons_zero]); (try simp only [List.setIfInBounds_toArray]); (try simp only [List.set_cons_succ]); (try simp only [List.set_cons_zero])
          refine wpAnyH_take (i := 13) (v := ?v52) rfl (by kernel_rfl) (by kernel_rfl) (by kernel_rfl) (fun _ _ _ h => h) (Or.inl ⟨by rfl, ?hy52⟩) hHeld ?rest52
          case hy52 => (intro wz hSw; (try dsimp only at hSw); go_simp; (try with_reducible rfl))
          (try simp only [Act.put, List.getElem_toArray, List.getElem_cons_succ, List.getElem_cons_zero]); (try simp only [List.setIfInBounds_toArray]); (try simp only [List.set_cons_succ]); (try simp only [List.set_cons_zero])
          refine wpAnyH_done (by kernel_rfl) ?_ _
          clear hHeld
          have O9 := Lib.hid (ownsRow_low hO3 HLOW.out)
          have E8 := Lib.hid (hE.out.trans F3)
          have HG9 : Hid (w.heap.size ≤ g3') := Nat.le_trans hE.out.le (World.ownsRow.lt hO3 g3' rfl).1
          clear hO3
          go_wp2
          go_ret2
          exact ⟨g3', c3', true, by rw [HINL.out]; rfl, by rw [HINL.out]; exact HFIN.out w3 _ O9.out E8.out, E8.out, .inr ⟨rfl, HINL.out, HG9.out⟩⟩
theorem l6Insert_spec (lo ga nl co bx cx rx : Nat) (L : List (List Int)) (x : List Int) (w0 w : World) (h : RowsP w0 lo (.slice (some ⟨ga, 0, none⟩) nl co) L) (hn : L.length = nl) (hE0 : Ext w0 w) (hlo : lo ≤ w0.heap.size) (hb : w0.heap.size ≤ bx) (hb2 : bx < w.heap.size) (hx : Has w bx x) (hrx : x.length = rx) (hrl : ∀ i, i < L.length → (row L i).length ≤ 1024) (hxl : rx ≤ 1024) (hnm : nl ≤ 400000) :
    Calls Tryz.prog 64 #[.slice (some ⟨ga, 0, none⟩) nl co, .slice (some ⟨bx, 0, none⟩) rx cx] w fun e w' => ∃ g' c' fr, e = .returned (.tuple #[.slice (some ⟨g', 0, none⟩) (insA x L).length c', .bool fr]) ∧ RowsP w' lo (.slice (some ⟨g', 0, none⟩) (insA x L).length c') (insA x L) ∧ Ext w w' := by
  refine (l6Insert_fr lo ga nl co bx cx rx L x w0 w h hn hE0 hlo hb hb2 hx hrx hrl hxl hnm).mono ?_
  rintro e w' ⟨g', c', fr, h1, h2, h3, _⟩
  exact ⟨g', c', fr, h1, h2, h3⟩
end Go.Proofs.YtlnpaplbcocmkaaGreat

/-
  The weights of the next length, by the specification.
-/
namespace Go.Proofs.YtlnpaplbcocmkaaGreat
open Go.ChangeShapes Go.WideShapes Go.ChangeAt Go.RowKit
set_option linter.unusedVariables false
set_option linter.unusedSimpArgs false

theorem rowsP_nil {w : World} {lo : Nat} {v : Value} (h : w.ownsRow lo 22 1 v 0 []) : RowsP w lo v [] :=
  ⟨[], fun _ => 0, h, rfl, (fun i hi => absurd hi (Nat.not_lt_zero _)), (fun i j hi => absurd hi (Nat.not_lt_zero _))⟩

set_option maxRecDepth 100000 in
set_option maxHeartbeats 12800000 in
theorem l6Level_spec (R da od n cD gL m c : Nat) (xs : List Int) (L : List (List Int)) (w : World) (hr : Reads w (some ⟨da, od, none⟩) n xs) (hn : n = R * R) (hR0 : 1 ≤ R) (hR : R ≤ 4) (hxb : ∀ e, -3 ≤ gi xs e ∧ gi xs e ≤ 3) (hL : RdR w gL L) (hm : L.length = m) (hmm : m ≤ 400000) (hLl : ∀ i, i < L.length → (row L i).length = R) (hLb : ∀ i, i < L.length → ∀ e, -1000000 ≤ gi (row L i) e ∧ gi (row L i) e ≤ 1000000) (hS : ∀ k i, k < L.length → i ≤ R → (rowA xs R (row L k) (nextA xs R L k) i).length ≤ 400000 ∧ ∀ p, p < (rowA xs R (row L k) (nextA xs R L k) i).length → (row (rowA xs R (row L k) (nextA xs R L k) i) p).length = R) :
    Calls Tryz.prog 103 #[.agg #[.int .i64 (R : Nat), .slice (some ⟨da, od, none⟩) n cD], .slice (some ⟨gL, 0, none⟩) m c] w fun e w' => ∃ g' c', e = .returned (.slice (some ⟨g', 0, none⟩) (nextA xs R L m).length c') ∧ RowsP w' w.heap.size (.slice (some ⟨g', 0, none⟩) (nextA xs R L m).length c') (nextA xs R L m) ∧ Ext w w' := by
  rw [hm] at hLl hLb hS
  have HN := Lib.hid hn
  have HR := Lib.hid hr
  have HXB := Lib.hid hxb
  have HL := Lib.hid hL
  have HRW : Hid (∀ k, k < m → ∃ b c, w.cell? ⟨gL, k, none⟩ = some (.slice (some ⟨b, 0, none⟩) R c) ∧ Reads w (some ⟨b, 0, none⟩) R (row L k) ∧ gL < w.heap.size) := fun k hk => by
    obtain ⟨b, c, h1, h2⟩ := hL.2 k (by omega)
    rw [hLl k hk] at h1 h2
    exact ⟨b, c, h1, h2, hL.1⟩
  have HLB := Lib.hid hLb
  have HS := Lib.hid hS
  have HN0 : Hid (nextA xs R L 0 = []) := rfl
  have HS0 : Hid (∀ k, rowA xs R (row L k) (nextA xs R L k) 0 = nextA xs R L k) := fun k => rfl
  have HSR : Hid (∀ k, rowA xs R (row L k) (nextA xs R L k) R = nextA xs R L (k + 1)) := fun k => rfl
  have HSS : Hid (∀ k i, rowA xs R (row L k) (nextA xs R L k) (i + 1) = if 0 < gi (row L k) i then insA (turnM xs R i (row L k)) (rowA xs R (row L k) (nextA xs R L k) i) else rowA xs R (row L k) (nextA xs R L k) i) := fun k i => rfl
  obtain ⟨N, hNe⟩ : ∃ N, nextA xs R L = N := ⟨_, rfl⟩
  rw [hNe] at HS HN0 HS0 HSR HSS ⊢
  obtain ⟨S, hSe⟩ : ∃ S : Nat → Nat → List (List Int), S = fun k i => rowA xs R (row L k) (N k) i := ⟨_, rfl⟩
  have hS' : ∀ k i, rowA xs R (row L k) (N k) i = S k i := fun k i => by rw [hSe]
  simp only [hS'] at HS HS0 HSR HSS
  have HB0 : Hid (Cells ((w.alloc (.cells #[.int .i64 (R : Nat), .slice (some ⟨da, od, none⟩) n cD] 27)).alloc (.cells #[] 22)) w.heap.size [.int .i64 (R : Nat), .slice (some ⟨da, od, none⟩) n cD]) := (cells_new w #[.int .i64 (R : Nat), .slice (some ⟨da, od, none⟩) n cD] 27).ext ((Ext.refl _).alloc _)
  have HE0 : Hid (Ext w ((w.alloc (.cells #[.int .i64 (R : Nat), .slice (some ⟨da, od, none⟩) n cD] 27)).alloc (.cells #[] 22))) := ((Ext.refl w).alloc _).alloc _
  have HP0 : Hid (RowsP ((w.alloc (.cells #[.int .i64 (R : Nat), .slice (some ⟨da, od, none⟩) n cD] 27)).alloc (.cells #[] 22)) w.heap.size (.slice (some ⟨w.heap.size + 1, 0, none⟩) 0 0) []) := by
    have : ((w.alloc (.cells #[.int .i64 (R : Nat), .slice (some ⟨da, od, none⟩) n cD] 27)).alloc (.cells #[] 22)).ownsRow w.heap.size 22 1 (.slice (some ⟨(w.alloc (.cells #[.int .i64 (R : Nat), .slice (some ⟨da, od, none⟩) n cD] 27)).heap.size, 0, none⟩) 0 0) 0 [] := World.ownsRow_lit (w.alloc (.cells #[.int .i64 (R : Nat), .slice (some ⟨da, od, none⟩) n cD] 27)) #[] 0 (by simp) (by unfold maxLen; omega) (by simp)
    rw [show (w.alloc (.cells #[.int .i64 (R : Nat), .slice (some ⟨da, od, none⟩) n cD] 27)).heap.size = w.heap.size + 1 by simp] at this
    exact rowsP_nil this
  clear hr hn hxb hL hm hLl hLb hS hS' hSe hNe
  go_enter Tryz.func103, Tryz.ntmps103
  go_wp2_with fail
  generalize ((w.alloc (.cells #[.int .i64 (R : Nat), .slice (some ⟨da, od, none⟩) n cD] 27)).alloc (.cells #[] 22)) = W0 at *
  go_loopw [6, 5, 7] (fun z v _ wr => ∃ (k cv ga : Nat), k ≤ m ∧ z = .int .i64 k ∧ v = .slice (some ⟨ga, 0, none⟩) (N k).length cv ∧ Hid (RowsP wr w.heap.size (.slice (some ⟨ga, 0, none⟩) (N k).length cv) (N k)) ∧ Hid (Ext w wr) ∧ Hid (Cells wr w.heap.size [.int .i64 (R : Nat), .slice (some ⟨da, od, none⟩) n cD])) (fun z _ _ _ => m - (intOf z).toNat)
  case atStart => exact ⟨0, 0, w.heap.size + 1, by omega, rfl, by rw [HN0.out]; rfl, by rw [HN0.out]; exact HP0, HE0, HB0⟩
  case round =>
    clear HP0 HE0 HB0
    obtain ⟨k, cv, ga, hk, rfl, rfl, hP, hE, hB⟩ := hrel
    by_cases hlt : k < m
    · have hltI : (k : Int) < (m : Int) := by omega
      have hP1 : Hid (RowsP wr w.heap.size (.slice (some ⟨ga, 0, none⟩) (S k 0).length cv) (S k 0)) := by rw [HS0.out k]; exact hP
      have hl1 : (N k).length = (S k 0).length := by rw [HS0.out k]
      have HSSk := Lib.hid (HSS.out k)
      have HSRk := Lib.hid (HSR.out k)
      have HSk : Hid (∀ i, i ≤ R → (S k i).length ≤ 400000 ∧ ∀ p, p < (S k i).length → (row (S k i) p).length = R) := fun i h => HS.out k i hlt h
      obtain ⟨bk, ck, hck, hrk, lg⟩ := HRW.out k hlt
      have HCK := Lib.hid hck
      have HRK := Lib.hid hrk
      have HLBk := Lib.hid (HLB.out k hlt)
      rw [hl1]
      clear hP hck hrk hl1
      go_wp2_with fail
      obtain ⟨wo, rfl⟩ : ∃ wo : World, wo = wr := ⟨_, rfl⟩
      go_loopw [7, 5] (fun z v wr => ∃ (i cv ga : Nat), i ≤ R ∧ z = .int .i64 i ∧ v = .slice (some ⟨ga, 0, none⟩) (S k i).length cv ∧ Hid (RowsP wr w.heap.size (.slice (some ⟨ga, 0, none⟩) (S k i).length cv) (S k i)) ∧ Hid (Ext w wr) ∧ Hid (Cells wr w.heap.size [.int .i64 (R : Nat), .slice (some ⟨da, od, none⟩) n cD])) (fun z _ _ => R - (intOf z).toNat)
      case atStart => exact ⟨0, cv, ga, by omega, rfl, rfl, hP1, hE, hB⟩
      case round =>
        clear hP1 hE hB
        obtain ⟨i, cv, ga, hi, rfl, rfl, hP, hE, hB⟩ := hrel
        have lB := hB.out.1
        have q0 := hB.out.2 0 _ rfl
        by_cases hli : i < R
        · have hliI : (i : Int) < (R : Int) := by omega
          have q1 := hB.out.2 1 _ rfl
          have hc := (hE.out.cells gL k lg).trans HCK.out
          have lg2 := Nat.lt_of_lt_of_le lg hE.out.le
          have HRD := Lib.hid (HRK.out.ext hE.out)
          obtain ⟨b9, o9, e9, hlR, hc9⟩ := reads5 HRD.out (by omega)
          injection e9 with e9
          injection e9 with e91 e92
          subst e91
          subst e92
          have hc0 := hc9 i hli
          rw [Nat.zero_add] at hc0
          clear hc9
          have HST := Lib.hid (HSSk.out i)
          by_cases hg : 0 < gi (row L k) i
          · have hgt := hg
            have HS1 : Hid (S k (i + 1) = insA (turnM xs R i (row L k)) (S k i)) := by rw [Hid, HST.out, if_pos hg]
            have HREF : Hid (∀ w1, Ext wr w1 → Calls Tryz.prog 104 #[.agg #[.int .i64 (R : Nat), .slice (some ⟨da, od, none⟩) n cD], .int .i64 i, .slice (some ⟨bk, 0, none⟩) R ck] w1 fun e w' => ∃ b c9, e = .returned (.slice (some ⟨b, 0, none⟩) R c9) ∧ R ≤ c9 ∧ w1.heap.size ≤ b ∧ b < w'.heap.size ∧ Has w' b (turnM xs R i (row L k)) ∧ Ext w1 w') := fun w1 h => l6Reflect_spec R da od n cD R ck i xs (row L k) _ w1 (HR.out.ext (hE.out.trans h)) HN.out hR0 hR (HRD.out.ext h) rfl hli HXB.out HLBk.out
            have HIN : Hid (∀ w1 b c, Ext wr w1 → wr.heap.size ≤ b → b < w1.heap.size → Has w1 b (turnM xs R i (row L k)) → Calls Tryz.prog 64 #[.slice (some ⟨ga, 0, none⟩) (S k i).length cv, .slice (some ⟨b, 0, none⟩) R c] w1 fun e w' => ∃ g' c' fr, e = .returned (.tuple #[.slice (some ⟨g', 0, none⟩) (insA (turnM xs R i (row L k)) (S k i)).length c', .bool fr]) ∧ RowsP w' w.heap.size (.slice (some ⟨g', 0, none⟩) (insA (turnM xs R i (row L k)) (S k i)).length c') (insA (turnM xs R i (row L k)) (S k i)) ∧ Ext w1 w') := fun w1 b c h h1 h2 h3 => l6Insert_spec w.heap.size ga (S k i).length cv b c R (S k i) (turnM xs R i (row L k)) wr w1 hP.out rfl h hE.out.le h1 h2 h3 (turnM_len _ _ _ _) (fun p hp => by have := (HSk.out i hi).2 p hp; omega) (by omega) (HSk.out i hi).1
            clear HST hg
            go_wp2_with fail
            refine wp_region_held_drew (S := (fun w' => Ext wr w' ∧ (∀ b o, b < wr.heap.size → w'.cell? ⟨b, o, none⟩ = wr.cell? ⟨b, o, none⟩))) (by kernel_rfl) (ext2 (Ext.refl wr).drew) (fun hHeld => ?_)
            refine wpAnyH_take (i := 0) (v := ?v1) rfl (by kernel_rfl) (by kernel_rfl) (by kernel_rfl) (fun _ _ _ h => h) (Or.inl ⟨by rfl, ?hy1⟩) hHeld ?rest1
            case hy1 => (intro wz hSw; (try dsimp only at hSw); go_simp; (try with_reducible rfl))
            (try simp only [Act.put, List.getElem_toArray, List.getElem_cons_succ, List.getElem_cons_zero]); (try simp only [List.setIfInBounds_toArray]); (try simp only [List.set_cons_succ]); (try simp only [List.set_cons_zero])
            refine wpAnyH_take (i := 1) (v := ?v2) rfl (by kernel_rfl) (by kernel_rfl) (by kernel_rfl) (fun _ _ _ h => h) (Or.inl ⟨by rfl, ?hy2⟩) hHeld ?rest2
            case hy2 => (intro wz hSw; (try dsimp only at hSw); go_simp; (try with_reducible rfl))
            (try simp only [Act.put, List.getElem_toArray, List.getElem_cons_succ, List.getElem_cons_zero]); (try simp only [List.setIfInBounds_toArray]); (try simp only [List.set_cons_succ]); (try simp only [List.set_cons_zero])
            refine wpAnyH_take (i := 2) (v := ?v3) rfl (by kernel_rfl) (by kernel_rfl) (by kernel_rfl) (fun _ _ _ h => h) (Or.inl ⟨by rfl, ?hy3⟩) hHeld ?rest3
            case hy3 => (intro wz hSw; (try dsimp only at hSw); go_simp; (try with_reducible rfl))
            (try simp only [Act.put, List.getElem_toArray, List.getElem_cons_succ, List.getElem_cons_zero]); (try simp only [List.setIfInBounds_toArray]); (try simp only [List.set_cons_succ]); (try simp only [List.set_cons_zero])
            refine wpAnyH_take (i := 3) (v := ?v4) rfl (by kernel_rfl) (by kernel_rfl) (by kernel_rfl) (fun _ _ _ h => h) (Or.inl ⟨by rfl, ?hy4⟩) hHeld ?rest4
            case hy4 => (intro wz hSw; (try dsimp only at hSw); go_simp; (try with_reducible rfl))
            (try simp only [Act.put, List.getElem_toArray, List.getElem_cons_succ, List.getElem_cons_zero]); (try simp only [List.setIfInBounds_toArray]); (try simp only [List.set_cons_succ]); (try simp only [List.set_cons_zero])
            refine wpAnyH_take (i := 4) (v := ?v5) rfl (by kernel_rfl) (by kernel_rfl) (by kernel_rfl) (fun _ _ _ h => h) (Or.inl ⟨by rfl, ?hy5⟩) hHeld ?rest5
            case hy5 => (intro wz hSw; (try dsimp only at hSw); go_simp; (try with_reducible rfl))
            (try simp only [Act.put, List.getElem_toArray, List.getElem_cons_succ, List.getElem_cons_zero]); (try simp only [List.setIfInBounds_toArray]); (try simp only [List.set_cons_succ]); (try simp only [List.set_cons_zero])
            refine wpAnyH_take (i := 5) (v := ?v6) rfl (by kernel_rfl) (by kernel_rfl) (by kernel_rfl) (fun _ _ _ h => h) (Or.inl ⟨by rfl, ?hy6⟩) hHeld ?rest6
            case hy6 => (intro wz hSw; (try dsimp only at hSw); go_simp; (try with_reducible rfl))
            (try simp only [Act.put, List.getElem_toArray, List.getElem_cons_succ, List.getElem_cons_zero]); (try simp only [List.setIfInBounds_toArray]); (try simp only [List.set_cons_succ]); (try simp only [List.set_cons_zero])
            refine wpAnyH_take (i := 6) (v := ?v7) rfl (by kernel_rfl) (by kernel_rfl) (by kernel_rfl) (fun _ _ _ h => h) (Or.inl ⟨by rfl, ?hy7⟩) hHeld ?rest7
            case hy7 => (intro wz hSw; (try dsimp only at hSw); go_simp; (try with_reducible rfl))
            (try simp only [Act.put, List.getElem_toArray, List.getElem_cons_succ, List.getElem_cons_zero]); (try simp only [List.setIfInBounds_toArray]); (try simp only [List.set_cons_succ]); (try simp only [List.set_cons_zero])
            refine wpAnyH_ready (rs := [7]) (by kernel_rfl) (by simp) ?_
            refine AllReadyH.cons rfl (fun K' hK => ?_) AllReadyH.nil
            go_simp
            refine (HREF.out _ (And.left hHeld)).mono ?_
            rintro e w2 ⟨b2, c2, rfl, hc2, hb2, hb22, hh2, hE2⟩
            have X2 := (And.left hHeld).trans hE2
            have hb3 := Nat.le_trans (And.left hHeld).le hb2
            dsimp only
            refine hK.out _ _ (ext2 X2) (fun hHeld => ?_)
            clear hK
            have HINS := Lib.hid (HIN.out w2 b2 c2 X2 hb3 hb22 hh2)
            refine wpAnyH_ready (rs := [8]) (by kernel_rfl) (by simp) ?_
            refine AllReadyH.cons rfl (fun K' hK => ?_) AllReadyH.nil
            go_simp
            refine HINS.out.mono ?_
            rintro e w3 ⟨g3, c3, fr, rfl, hP3, hE3⟩
            have X3 := X2.trans hE3
            dsimp only
            refine hK.out _ _ (ext2 X3) (fun hHeld => ?_)
            clear hK
            refine wpAnyH_take (i := 9) (v := ?v8) rfl (by kernel_rfl) (by kernel_rfl) (by kernel_rfl) (fun _ _ _ h => h) (Or.inl ⟨by rfl, ?hy8⟩) hHeld ?rest8
            case hy8 => (intro wz hSw; (try dsimp only at hSw); go_simp; (try with_reducible rfl))
            (try simp only [Act.put, List.getElem_toArray, List.getElem_cons_succ, List.getElem_cons_zero]); (try simp only [List.setIfInBounds_toArray]); (try simp only [List.set_cons_succ]); (try simp only [List.set_cons_zero])
            refine wpAnyH_take (i := 10) (v := ?v9) rfl (by kernel_rfl) (by kernel_rfl) (by kernel_rfl) (fun _ _ _ h => h) (Or.inl ⟨by rfl, ?hy9⟩) hHeld ?rest9
            case hy9 => (intro wz hSw; (try dsimp only at hSw); go_simp; (try with_reducible rfl))
            (try simp only [Act.put, List.getElem_toArray, List.getElem_cons_succ, List.getElem_cons_zero]); (try simp only [List.setIfInBounds_toArray]); (try simp only [List.set_cons_succ]); (try simp only [List.set_cons_zero])
            refine wpAnyH_take (i := 11) (v := ?v10) rfl (by kernel_rfl) (by kernel_rfl) (by kernel_rfl) (fun _ _ _ h => h) (Or.inl ⟨by rfl, ?hy10⟩) hHeld ?rest10
            case hy10 => (intro wz hSw; (try dsimp only at hSw); go_simp; (try with_reducible rfl))
            (try simp only [Act.put, List.getElem_toArray, List.getElem_cons_succ, List.getElem_cons_zero]); (try simp only [List.setIfInBounds_toArray]); (try simp only [List.set_cons_succ]); (try simp only [List.set_cons_zero])
            refine wpAnyH_take (i := 12) (v := ?v11) rfl (by kernel_rfl) (by kernel_rfl) (by kernel_rfl) (fun _ _ _ h => h) (Or.inl ⟨by rfl, ?hy11⟩) hHeld ?rest11
            case hy11 => (intro wz hSw; (try dsimp only at hSw); go_simp; (try with_reducible rfl))
            (try simp only [Act.put, List.getElem_toArray, List.getElem_cons_succ, List.getElem_cons_zero]); (try simp only [List.setIfInBounds_toArray]); (try simp only [List.set_cons_succ]); (try simp only [List.set_cons_zero])
            refine wpAnyH_done (by kernel_rfl) ?_ _
            clear hHeld
            have HP3 : Hid (RowsP w3 w.heap.size (.slice (some ⟨g3, 0, none⟩) (S k (i + 1)).length c3) (S k (i + 1))) := by rw [HS1.out]; exact hP3
            have HE3 := Lib.hid (hE.out.trans X3)
            have HB3 := Lib.hid (hB.out.ext X3)
            rw [← HS1.out]
            clear hP3 hE hB hP HREF HIN HINS X2 X3 hh2 hE2 hE3
            go_wp2
            exact ⟨⟨i + 1, c3, g3, by omega, by simp, rfl, HP3, HE3, HB3⟩, by simp [intOf]; omega⟩
          · have HS1 : Hid (S k (i + 1) = S k i) := by rw [Hid, HST.out, if_neg hg]
            clear HST
            go_wp2
            exact ⟨⟨i + 1, cv, ga, by omega, by simp, by rw [HS1.out], by rw [HS1.out]; exact hP, hE, hB⟩, by simp [intOf]; omega⟩
        · obtain rfl : R = i := by omega
          have hP9 : Hid (RowsP wr w.heap.size (.slice (some ⟨ga, 0, none⟩) (N (k + 1)).length cv) (N (k + 1))) := by rw [← HSRk.out]; exact hP
          have hl9 : (S k R).length = (N (k + 1)).length := by rw [HSRk.out]
          rw [hl9]
          clear hP hl9
          go_wp2
          exact ⟨⟨k + 1, cv, ga, by omega, by simp, rfl, hP9, hE, hB⟩, by simp [intOf]; omega⟩
    · obtain rfl : k = m := by omega
      go_wp2
      go_ret
      exact ⟨ga, cv, rfl, hP.out, hE.out⟩
end Go.Proofs.YtlnpaplbcocmkaaGreat

/-
  The lengths, by the specification.
-/
namespace Go.Proofs.YtlnpaplbcocmkaaGreat
open Go.ChangeShapes Go.WideShapes Go.ChangeAt Go.RowKit
set_option linter.unusedVariables false
set_option linter.unusedSimpArgs false

theorem RowsP.rd9 {w : World} {lo : Nat} {v : Value} {L : List (List Int)} (h : RowsP w lo v L) (h0 : 0 < L.length) : ∃ g cap, v = .slice (some ⟨g, 0, none⟩) L.length cap ∧ RdR w g L ∧ lo ≤ g ∧ ∀ i, i < L.length → ∃ b c, w.cell? ⟨g, i, none⟩ = some (.slice (some ⟨b, 0, none⟩) (row L i).length c) ∧ Own w lo w.heap.size (some ⟨b, 0, none⟩) (row L i).length (row L i) := by
  obtain ⟨us, B, h1, h2, h3, h4⟩ := h
  rcases h1.2 with ⟨e1, e2⟩ | ⟨g, cap, cur, e1, hb, hg, hn, hc, hcs, htk⟩
  · omega
  · have key : ∀ i, i < L.length → ∃ b c, w.cell? ⟨g, i, none⟩ = some (.slice (some ⟨b, 0, none⟩) (row L i).length c) ∧ Own w lo w.heap.size (some ⟨b, 0, none⟩) (row L i).length (row L i) := fun i hi => by
      obtain ⟨c, x0, h6⟩ := h3 i hi
      refine ⟨B i, c, ?_, h6⟩
      rw [cell_of_row w g i _ _ _ hg, ← Array.getElem?_toList]
      have : (cur.toList.take (L.length * 1))[i]? = us[i]? := by rw [htk]
      rw [List.getElem?_take, if_pos (by omega)] at this
      rw [this, x0]
    refine ⟨g, cap, e1, ⟨(Array.getElem?_eq_some_iff.1 hg).1, fun i hi => ?_⟩, hb, key⟩
    obtain ⟨b, c, h5, h6⟩ := key i hi
    exact ⟨b, c, h5, h6.reads⟩
theorem RowsP.low {w : World} {lo lo' : Nat} {v : Value} {L : List (List Int)} (h : RowsP w lo v L) (hl : lo' ≤ lo) : RowsP w lo' v L := by
  obtain ⟨us, B, h1, h2, h3, h4⟩ := h
  exact ⟨us, B, ownsRow_low h1 hl, h2, fun i hi => by obtain ⟨c, e1, e2⟩ := h3 i hi; exact ⟨c, e1, e2.mono hl (Nat.le_refl _)⟩, h4⟩
/-- Rows are kept where a block of slices of rows grows. -/
theorem RowsP.other {w w' : World} {lo : Nat} {v : Value} {L : List (List Int)} {r : Option Nat} (h : RowsP w lo v L) (hg : w.grownBy w' r) (hd : ∀ k, r = some k → ∃ cur z, w.heap[k]? = some (.cells cur 35 z)) : RowsP w' lo v L := by
  obtain ⟨us, B, h1, h2, h3, h4⟩ := h
  refine ⟨us, B, ?_, h2, fun i hi => ?_, h4⟩
  · by_cases e : v.ownBlock = none
    · exact World.ownsRow.kept h1 hg (.inl e)
    · refine World.ownsRow.kept h1 hg (.inr fun e2 => ?_)
      rcases h1.2 with ⟨e1, _⟩ | ⟨g, cap, cur, e1, _, hgg, _⟩
      · subst e1; simp [Value.ownBlock] at e
      · subst e1
        obtain ⟨cur2, z2, h5⟩ := hd g e2.symm
        rw [hgg] at h5
        injection h5 with h5
        injection h5 with h5 h6 h7
        exact absurd h6 (by decide)
  · obtain ⟨c, e1, e2⟩ := h3 i hi
    refine ⟨c, e1, ?_⟩
    obtain ⟨h5, h6⟩ := e2
    rcases h6 with h6 | ⟨b, e3, h7, h8, r9, h9, h10⟩
    · exact ⟨h5, .inl h6⟩
    · refine ⟨h5, .inr ⟨b, e3, h7, Nat.lt_of_lt_of_le h8 hg.size, r9, ?_, h10⟩⟩
      rw [hg.block b h8 (fun e => ?_)]
      · exact h9
      · obtain ⟨cur2, z2, h11⟩ := hd b e.symm
        rw [h9] at h11
        injection h11 with h11
        injection h11 with h11 h12 h13
        exact absurd h12 (by decide)
theorem Tryz.infoRows : (Tryz.prog.info? 35).map (fun i => (i.zero, i.size, i.bytes)) = some (some (.slice none 0 0), 1, 24) := by kernel_rfl
/-- Slices of rows, appended. -/
def LevS (w : World) (lo : Nat) (v : Value) (F : Nat → List (List Int)) (n : Nat) : Prop := ∃ (us : List Value) (G C : Nat → Nat), w.ownsRow lo 35 1 v n us ∧ us.length = n ∧ ∀ k, k < n → us[k]? = some (.slice (some ⟨G k, 0, none⟩) (F k).length (C k)) ∧ RowsP w lo (.slice (some ⟨G k, 0, none⟩) (F k).length (C k)) (F k)
theorem LevS.ext {w w' : World} {lo n : Nat} {v : Value} {F : Nat → List (List Int)} (h : LevS w lo v F n) (hE : Ext w w') : LevS w' lo v F n := by
  obtain ⟨us, G, C, h1, h2, h3⟩ := h
  exact ⟨us, G, C, ownsRow_ext h1 hE, h2, fun k hk => ⟨(h3 k hk).1, (h3 k hk).2.ext hE⟩⟩
theorem LevS.shape {w : World} {lo n : Nat} {v : Value} {F : Nat → List (List Int)} (h : LevS w lo v F n) (h0 : 0 < n) : ∃ g c, v = .slice (some ⟨g, 0, none⟩) n c ∧ lo ≤ g ∧ g < w.heap.size ∧ ∀ k, k < n → ∃ G C, w.cell? ⟨g, k, none⟩ = some (.slice (some ⟨G, 0, none⟩) (F k).length C) ∧ RowsP w lo (.slice (some ⟨G, 0, none⟩) (F k).length C) (F k) := by
  obtain ⟨us, G, C, h1, h2, h3⟩ := h
  obtain ⟨a, c, rfl⟩ := ownsRow_shape h1
  obtain ⟨g, rfl, hb, hg, hc⟩ := ownsRow_get h1 h0
  exact ⟨g, c, rfl, hb, hg, fun k hk => ⟨G k, C k, by rw [hc k hk]; exact (h3 k hk).1, (h3 k hk).2⟩⟩
/-- append of one slice of rows. -/
theorem wpList_appendLev {w : World} {ops : Array Oper} {rest : List Oper} {o : Oper} {a : Act} {Q : Exit → Act → World → Prop} (hgd : o.guard = none) (s x : Operand)
    (ho : o.op = .call { callee := .builtin .append, args := #[s, x], argTypes := #[69, 69] })
    (base : Nat) (v : Value) (F : Nat → List (List Int)) (k g0 N c0 c g : Nat) (hg0 : g = w.heap.size) (hN : (F k).length = N) (hs : a.eval s = v) (hx : a.eval x = .slice (some ⟨g, 0, none⟩) 1 c) (hown : LevS w base v F k) (hrow : RowsP w base (.slice (some ⟨g0, 0, none⟩) N c0) (F k)) (hb : k + 1 ≤ 1048577) (hbase : base ≤ w.heap.size)
    (h : ∀ v' w', LevS w' base v' F (k + 1) → w.grownBy w' v.ownBlock → wpList Tryz.prog ops Q rest (a.put o.dst v') w') : wpList Tryz.prog ops Q (o :: rest) a (w.alloc (.cells #[.slice (some ⟨g0, 0, none⟩) N c0] 35)) := by
  subst hg0 hN
  obtain ⟨i0, hi0, hz0, hz1, hz2⟩ := info_parts Tryz.infoRows
  obtain ⟨us, G, C, h1, h2, h3⟩ := hown.ext ((Ext.refl w).alloc (.cells #[.slice (some ⟨g0, 0, none⟩) (F k).length c0] 35))
  have hrow2 := hrow.ext ((Ext.refl w).alloc (.cells #[.slice (some ⟨g0, 0, none⟩) (F k).length c0] 35))
  refine Go.wpList_append_own_at _ hgd s x 69 ho base 35 i0 (.slice none 0 0) 1 24 Tryz.underlying69 hi0 hz0 hz1 hz2 rfl (by decide) v k us hs h1 ⟨w.heap.size, 0, none⟩ 1 c [.slice (some ⟨g0, 0, none⟩) (F k).length c0] hx rfl (fun j u hu => ?_) (fun u hu => by simp at hu; subst hu; rfl) (by unfold maxLen; omega) (by omega) (by simp; omega) (fun v' w' g1 g2 _ g3 => h v' w' ?_ (grownBy_alloc g2))
  · obtain rfl : j = 0 := by have := (List.getElem?_eq_some_iff.1 hu).1; simp at this; omega
    simp at hu
    subst hu
    rw [show (⟨w.heap.size, 0, none⟩ : Addr).add 0 = ⟨w.heap.size, 0, none⟩ from rfl, World.cell?_alloc_at _ _ _ _ rfl]
    rfl
  · have hty : ∀ z, v.ownBlock = some z → ∃ cur y, (w.alloc (.cells #[.slice (some ⟨g0, 0, none⟩) (F k).length c0] 35)).heap[z]? = some (.cells cur 35 y) := by
      intro z hz
      rcases h1.2 with ⟨e1, _⟩ | ⟨g, cap, cur, e1, _, hg, _⟩
      · subst e1; simp [Value.ownBlock] at hz
      · subst e1
        simp [Value.ownBlock] at hz
        subst hz
        exact ⟨cur, _, hg⟩
    refine ⟨us ++ [.slice (some ⟨g0, 0, none⟩) (F k).length c0], fun i => if i = k then g0 else G i, fun i => if i = k then c0 else C i, by simpa using g1, by simp [h2], fun i hi => ?_⟩
    by_cases e : i < k
    · have hne : ¬ i = k := by omega
      simp only [if_neg hne]
      rw [List.getElem?_append_left (by omega)]
      exact ⟨(h3 i e).1, (h3 i e).2.other g2 hty⟩
    · obtain rfl : i = k := by omega
      simp only [if_true]
      rw [List.getElem?_append_right (by omega)]
      exact ⟨by simp [h2], hrow2.other g2 hty⟩
theorem cube_bnd {xs : List Int} {R : Nat} {l : List (List Int)} (hR : R ≤ 4) (h : CoOk xs R) (hn : l.Nodup) (hi : ∀ v, v ∈ l → Img xs R v) : l.length ≤ 390625 := by
  have h1 := nodup_le (b := cube R) hn (fun y hy => by
    have hb := img_bnd h (hi y hy)
    rw [← (hi y hy).len]
    refine mem_cube fun x hx => ?_
    obtain ⟨e, he, rfl⟩ := List.mem_iff_getElem.1 hx
    have := hb e
    rwa [gi_lt5 he] at this)
  rw [cube_len] at h1
  have : 25 ^ R ≤ 25 ^ 4 := Nat.pow_le_pow_right (by omega) hR
  omega
/-- All that is put in on the way to the next length are images. -/
theorem rowA_img {xs : List Int} {R n : Nat} (hR : R ≤ 4) (h : CoOk xs R) {k i : Nat} (hk : k < (levA xs R n).length) (hi : i ≤ R) : (rowA xs R (row (levA xs R n) k) (nextA xs R (levA xs R n) k) i).length ≤ 390625 ∧ ∀ p, p < (rowA xs R (row (levA xs R n) k) (nextA xs R (levA xs R n) k) i).length → (row (rowA xs R (row (levA xs R n) k) (nextA xs R (levA xs R n) k) i) p).length = R := by
  obtain ⟨_, h2⟩ := levA_ok h n
  obtain ⟨h3, h4⟩ := nextA_ok (xs := xs) (R := R) (L := levA xs R n) k
  obtain ⟨h5, h6⟩ := rowA_ok (xs := xs) (R := R) (w := row (levA xs R n) k) h3 i
  have himg : ∀ v, v ∈ rowA xs R (row (levA xs R n) k) (nextA xs R (levA xs R n) k) i → Img xs R v := by
    intro v hv
    rcases (h6 v).1 hv with hv | ⟨e, he, _, rfl⟩
    · obtain ⟨k', e, hk', he, _, rfl⟩ := (h4 v).1 hv
      exact img_turn h ((h2 _).1 (by rw [gl_lt (by omega)]; exact List.getElem_mem _)).1 he
    · exact img_turn h ((h2 _).1 (row_mem hk)).1 (by omega)
  exact ⟨cube_bnd hR h (sorted_nodup h5) himg, fun p hp => (himg _ (row_mem hp)).len⟩
theorem levS_one {w2 : World} {lo b2 c2 R : Nat} {xs : List Int} (hlo : lo ≤ b2) (hb : b2 < w2.heap.size) (h : Has w2 b2 (List.replicate R 1)) : LevS ((w2.alloc (.cells #[.slice (some ⟨b2, 0, none⟩) R c2] 22)).alloc (.cells #[.slice (some ⟨w2.heap.size, 0, none⟩) 1 1] 35)) lo (.slice (some ⟨w2.heap.size + 1, 0, none⟩) 1 1) (levA xs R) 1 := by
  have hE : Ext w2 (w2.alloc (.cells #[.slice (some ⟨b2, 0, none⟩) R c2] 22)) := (Ext.refl _).alloc _
  have hE2 : Ext (w2.alloc (.cells #[.slice (some ⟨b2, 0, none⟩) R c2] 22)) ((w2.alloc (.cells #[.slice (some ⟨b2, 0, none⟩) R c2] 22)).alloc (.cells #[.slice (some ⟨w2.heap.size, 0, none⟩) 1 1] 35)) := (Ext.refl _).alloc _
  have hP : RowsP (w2.alloc (.cells #[.slice (some ⟨b2, 0, none⟩) R c2] 22)) lo (.slice (some ⟨w2.heap.size, 0, none⟩) 1 1) [List.replicate R 1] := by
    refine ⟨[.slice (some ⟨b2, 0, none⟩) R c2], fun _ => b2, World.ownsRow_lit w2 #[.slice (some ⟨b2, 0, none⟩) R c2] 1 (by omega) (by unfold maxLen; omega) (by simp), rfl, fun i hi => ?_, fun i j hi hj hne => ?_⟩
    · obtain rfl : i = 0 := by simpa using hi
      refine ⟨c2, ?_, ?_⟩
      · show some _ = some _
        rw [show (row [List.replicate R (1 : Int)] 0).length = R by simp [row]]
      · exact ((h.ext hE).own hlo (by simp; omega) rfl)
    · simp at hi hj; omega
  refine ⟨[.slice (some ⟨w2.heap.size, 0, none⟩) 1 1], fun _ => w2.heap.size, fun _ => 1, ?_, rfl, fun k hk => ?_⟩
  · have := World.ownsRow_lit (base := lo) (e := 35) (size := 1) (w2.alloc (.cells #[.slice (some ⟨b2, 0, none⟩) R c2] 22)) #[.slice (some ⟨w2.heap.size, 0, none⟩) 1 1] 1 (by simp; omega) (by unfold maxLen; omega) (by simp)
    rw [show (w2.alloc (.cells #[.slice (some ⟨b2, 0, none⟩) R c2] 22)).heap.size = w2.heap.size + 1 by simp] at this
    exact this
  · obtain rfl : k = 0 := by omega
    exact ⟨rfl, hP.ext hE2⟩

set_option maxRecDepth 100000 in
set_option maxHeartbeats 12800000 in
theorem l6Levels_spec (R da od n cD : Nat) (xs : List Int) (w : World) (hr : Reads w (some ⟨da, od, none⟩) n xs) (hn : n = R * R) (hR0 : 1 ≤ R) (hR : R ≤ 4) (hxb : ∀ e, -3 ≤ gi xs e ∧ gi xs e ≤ 3) (hco : CoOk xs R) (h24 : (posR (trn xs R) R).length ≤ 24) :
    Calls Tryz.prog 62 #[.agg #[.int .i64 (R : Nat), .slice (some ⟨da, od, none⟩) n cD]] w fun e w' => ∃ g c N, e = .returned (.slice (some ⟨g, 0, none⟩) N c) ∧ 0 < N ∧ N ≤ 25 ∧ LevS w' w.heap.size (.slice (some ⟨g, 0, none⟩) N c) (levA xs R) N ∧ levA xs R N = [] ∧ (∀ k, k < N → levA xs R k ≠ []) ∧ Ext w w' := by
  have HN := Lib.hid hn
  have HR := Lib.hid hr
  have HXB := Lib.hid hxb
  have HIMG : Hid (∀ N v, v ∈ levA xs R N → Img xs R v) := fun N v hv => (((levA_ok hco N).2 v).1 hv).1
  have HROW : Hid (∀ N i, i < (levA xs R N).length → (row (levA xs R N) i).length = R ∧ ∀ e, -1000000 ≤ gi (row (levA xs R N) i) e ∧ gi (row (levA xs R N) i) e ≤ 1000000) := fun N i hi => by
    have h1 := HIMG.out N _ (row_mem hi)
    exact ⟨h1.len, fun e => by have := img_bnd hco h1 e; omega⟩
  have HLN : Hid (∀ N, (levA xs R N).length ≤ 390625) := fun N => cube_bnd hR hco (sorted_nodup (levA_ok hco N).1) (HIMG.out N)
  have HRA : Hid (∀ N k i, k < (levA xs R N).length → i ≤ R → (rowA xs R (row (levA xs R N) k) (nextA xs R (levA xs R N) k) i).length ≤ 400000 ∧ ∀ p, p < (rowA xs R (row (levA xs R N) k) (nextA xs R (levA xs R N) k) i).length → (row (rowA xs R (row (levA xs R N) k) (nextA xs R (levA xs R N) k) i) p).length = R) := fun N k i h1 h2 => by
    have := rowA_img hR hco h1 h2
    exact ⟨by omega, this.2⟩
  have HEND : Hid (∀ N, levA xs R N ≠ [] → N ≤ 24) := fun N h => by
    apply Classical.byContradiction
    intro h2
    exact h (lev_bnd hco (by omega))
  have HS1 : Hid (∀ q, nextA xs R (levA xs R q) (levA xs R q).length = levA xs R (q + 1)) := fun q => rfl
  have HL0 : Hid (levA xs R 0 ≠ []) := by rw [Hid, levA]; simp
  obtain ⟨F, hF⟩ : ∃ F, levA xs R = F := ⟨_, rfl⟩
  have HLONE : Hid (∀ (w2 : World) (b2 c2 : Nat), w.heap.size + 1 ≤ b2 → b2 < w2.heap.size → Has w2 b2 (List.replicate R 1) → LevS ((w2.alloc (.cells #[.slice (some ⟨b2, 0, none⟩) R c2] 22)).alloc (.cells #[.slice (some ⟨w2.heap.size, 0, none⟩) 1 1] 35)) (w.heap.size + 1) (.slice (some ⟨w2.heap.size + 1, 0, none⟩) 1 1) F 1) := fun w2 b2 c2 h1 h2 h3 => by rw [← hF]; exact levS_one h1 h2 h3
  rw [hF] at HROW HLN HRA HEND HS1 HL0 ⊢
  have HBX := Lib.hid (cells_new w #[.int .i64 (R : Nat), .slice (some ⟨da, od, none⟩) n cD] 27)
  have X0 := Lib.hid ((Ext.refl w).alloc (.cells #[.int .i64 (R : Nat), .slice (some ⟨da, od, none⟩) n cD] 27))
  clear hr hn hxb hF HIMG
  go_enter Tryz.func62, Tryz.ntmps62
  go_wp2_with fail
  refine (l6Rho_spec R da od n cD _ hR hR0).mono ?_
  rintro e w2 ⟨b2, c2, rfl, hc2, hb2, hb22, hh2, hE2⟩
  rw [World.size_alloc] at hb2
  have H1 := Lib.hid (HLONE.out w2 b2 c2 hb2 hb22 hh2)
  have E1 := Lib.hid (((X0.out.trans hE2).alloc (.cells #[.slice (some ⟨b2, 0, none⟩) R c2] 22)).alloc (.cells #[.slice (some ⟨w2.heap.size, 0, none⟩) 1 1] 35))
  have B1 := Lib.hid (HBX.out.ext ((hE2.alloc (.cells #[.slice (some ⟨b2, 0, none⟩) R c2] 22)).alloc (.cells #[.slice (some ⟨w2.heap.size, 0, none⟩) 1 1] 35)))
  have L1 := Lib.hid (show w.heap.size + 1 ≤ ((w2.alloc (.cells #[.slice (some ⟨b2, 0, none⟩) R c2] 22)).alloc (.cells #[.slice (some ⟨w2.heap.size, 0, none⟩) 1 1] 35)).heap.size by simp; omega)
  clear hh2 hE2 HLONE HBX X0
  go_wp2_with fail
  generalize ((w2.alloc (.cells #[.slice (some ⟨b2, 0, none⟩) R c2] 22)).alloc (.cells #[.slice (some ⟨w2.heap.size, 0, none⟩) 1 1] 35)) = W1 at *
  go_loopw [3, 4] (fun v _ wr => ∃ (N cv g : Nat), v = .slice (some ⟨g, 0, none⟩) N cv ∧ 0 < N ∧ N ≤ 25 ∧ Hid (LevS wr (w.heap.size + 1) (.slice (some ⟨g, 0, none⟩) N cv) F N) ∧ Hid (∀ k, k < N → F k ≠ []) ∧ Hid (Ext w wr) ∧ Hid (Cells wr w.heap.size [.int .i64 (R : Nat), .slice (some ⟨da, od, none⟩) n cD]) ∧ Hid (w.heap.size + 1 ≤ wr.heap.size)) (fun v _ _ => 26 - lenV v)
  case atStart => exact ⟨1, 1, _, rfl, by omega, by omega, H1, (fun k hk => (by omega : k = 0) ▸ HL0.out), E1, B1, L1⟩
  case round =>
    clear H1 E1 B1 L1
    obtain ⟨N, cv, g, rfl, hN0, hN25, hL, hne, hE, hB, hlo⟩ := hrel
    have lB := hB.out.1
    have q0 := hB.out.2 0 _ rfl
    have q1 := hB.out.2 1 _ rfl
    obtain ⟨q, hq⟩ : ∃ q, N = q + 1 := ⟨N - 1, by omega⟩
    have v1 : IntKind.i64.wrap ((N : Int) - 1) = (q : Int) := by rw [hq, show (((q + 1 : Nat) : Int) - 1) = (q : Int) by omega]; exact IntWalk.i64_in _ ⟨by omega, by omega⟩
    have hqI : (q : Int) < (N : Int) := by omega
    have hqN : q < N := by omega
    obtain ⟨g1, c1, e1, hg1, hlg, hcell⟩ := hL.out.shape hN0
    injection e1 with e1 _ e2
    injection e1 with e1
    injection e1 with e1
    subst e1
    subst e2
    obtain ⟨G, C, hc, hrp⟩ := hcell q hqN
    have hpos : 0 < (F q).length := List.length_pos_iff.2 (hne.out q hqN)
    obtain ⟨g3, c3, e3, hrd, _, _⟩ := hrp.rd9 hpos
    injection e3 with e3 _ e4
    injection e3 with e3
    injection e3 with e3
    subst e3
    subst e4
    have HLEV : Hid (∀ w1, Ext wr w1 → Calls Tryz.prog 103 #[.agg #[.int .i64 (R : Nat), .slice (some ⟨da, od, none⟩) n cD], .slice (some ⟨G, 0, none⟩) (F q).length C] w1 fun e w' => ∃ g' c', e = .returned (.slice (some ⟨g', 0, none⟩) (F N).length c') ∧ RowsP w' w1.heap.size (.slice (some ⟨g', 0, none⟩) (F N).length c') (F N) ∧ Ext w1 w') := fun w1 h => by
      have h9 := l6Level_spec R da od n cD G (F q).length C xs (F q) w1 (HR.out.ext (hE.out.trans h)) HN.out hR0 hR HXB.out (hrd.ext h) rfl (by have := HLN.out q; omega) (fun i hi => (HROW.out q i hi).1) (fun i hi => (HROW.out q i hi).2) (fun k i h1 h2 => HRA.out q k i h1 h2)
      rw [HS1.out q, ← hq] at h9
      exact h9
    have HLN2 := Lib.hid (HLN.out N)
    have hvw : Hid (∀ z, (Value.slice (some ⟨g, 0, none⟩) N cv).ownBlock = some z → w.heap.size + 1 ≤ z) := fun z hz => by
      simp [Value.ownBlock] at hz; omega
    clear hcell hrp hrd hq hpos
    go_wp2_with fail
    refine wp_region_held_drew (S := (fun w' => Ext wr w' ∧ (∀ b o, b < wr.heap.size → w'.cell? ⟨b, o, none⟩ = wr.cell? ⟨b, o, none⟩))) (by kernel_rfl) (ext2 (Ext.refl wr).drew) (fun hHeld => ?_)
    refine wpAnyH_take (i := 0) (v := ?v1) rfl (by kernel_rfl) (by kernel_rfl) (by kernel_rfl) (fun _ _ _ h => h) (Or.inl ⟨by rfl, ?hy1⟩) hHeld ?rest1
    case hy1 => (intro wz hSw; (try dsimp only at hSw); go_simp; (try with_reducible rfl))
    (try simp only [Act.put, List.getElem_toArray, List.getElem_cons_succ, List.getElem_cons_zero]); (try simp only [List.setIfInBounds_toArray]); (try simp only [List.set_cons_succ]); (try simp only [List.set_cons_zero])
    refine wpAnyH_take (i := 1) (v := ?v2) rfl (by kernel_rfl) (by kernel_rfl) (by kernel_rfl) (fun _ _ _ h => h) (Or.inl ⟨by rfl, ?hy2⟩) hHeld ?rest2
    case hy2 => (intro wz hSw; (try dsimp only at hSw); go_simp; (try with_reducible rfl))
    (try simp only [Act.put, List.getElem_toArray, List.getElem_cons_succ, List.getElem_cons_zero]); (try simp only [List.setIfInBounds_toArray]); (try simp only [List.set_cons_succ]); (try simp only [List.set_cons_zero])
    refine wpAnyH_take (i := 2) (v := ?v3) rfl (by kernel_rfl) (by kernel_rfl) (by kernel_rfl) (fun _ _ _ h => h) (Or.inl ⟨by rfl, ?hy3⟩) hHeld ?rest3
    case hy3 => (intro wz hSw; (try dsimp only at hSw); go_simp; (try with_reducible rfl))
    (try simp only [Act.put, List.getElem_toArray, List.getElem_cons_succ, List.getElem_cons_zero]); (try simp only [List.setIfInBounds_toArray]); (try simp only [List.set_cons_succ]); (try simp only [List.set_cons_zero])
    refine wpAnyH_take (i := 3) (v := ?v4) rfl (by kernel_rfl) (by kernel_rfl) (by kernel_rfl) (fun _ _ _ h => h) (Or.inl ⟨by rfl, ?hy4⟩) hHeld ?rest4
    case hy4 => (intro wz hSw; (try dsimp only at hSw); go_simp; (try with_reducible rfl))
    (try simp only [Act.put, List.getElem_toArray, List.getElem_cons_succ, List.getElem_cons_zero]); (try simp only [List.setIfInBounds_toArray]); (try simp only [List.set_cons_succ]); (try simp only [List.set_cons_zero])
    refine wpAnyH_take (i := 4) (v := ?v5) rfl (by kernel_rfl) (by kernel_rfl) (by kernel_rfl) (fun _ _ _ h => h) (Or.inl ⟨by rfl, ?hy5⟩) hHeld ?rest5
    case hy5 => (intro wz hSw; (try dsimp only at hSw); go_simp; (try with_reducible rfl))
    (try simp only [Act.put, List.getElem_toArray, List.getElem_cons_succ, List.getElem_cons_zero]); (try simp only [List.setIfInBounds_toArray]); (try simp only [List.set_cons_succ]); (try simp only [List.set_cons_zero])
    refine wpAnyH_take (i := 5) (v := ?v6) rfl (by kernel_rfl) (by kernel_rfl) (by kernel_rfl) (fun _ _ _ h => h) (Or.inl ⟨by rfl, ?hy6⟩) hHeld ?rest6
    case hy6 => (intro wz hSw; (try dsimp only at hSw); go_simp; (try with_reducible rfl))
    (try simp only [Act.put, List.getElem_toArray, List.getElem_cons_succ, List.getElem_cons_zero]); (try simp only [List.setIfInBounds_toArray]); (try simp only [List.set_cons_succ]); (try simp only [List.set_cons_zero])
    refine wpAnyH_take (i := 6) (v := ?v7) rfl (by kernel_rfl) (by kernel_rfl) (by kernel_rfl) (fun _ _ _ h => h) (Or.inl ⟨by rfl, ?hy7⟩) hHeld ?rest7
    case hy7 => (intro wz hSw; (try dsimp only at hSw); go_simp; (try with_reducible rfl))
    (try simp only [Act.put, List.getElem_toArray, List.getElem_cons_succ, List.getElem_cons_zero]); (try simp only [List.setIfInBounds_toArray]); (try simp only [List.set_cons_succ]); (try simp only [List.set_cons_zero])
    refine wpAnyH_ready (rs := [7]) (by kernel_rfl) (by simp) ?_
    refine AllReadyH.cons rfl (fun K' hK => ?_) AllReadyH.nil
    go_simp
    refine (HLEV.out _ (And.left hHeld)).mono ?_
    rintro e w2 ⟨g2, c2, rfl, hP2, hE2⟩
    have X2 := (And.left hHeld).trans hE2
    have hP3 := hP2.low (And.left hHeld).le
    dsimp only
    refine hK.out _ _ (ext2 X2) (fun hHeld => ?_)
    clear hK
    refine wpAnyH_take (i := 8) (v := ?v8) rfl (by kernel_rfl) (by kernel_rfl) (by kernel_rfl) (fun _ _ _ h => h) (Or.inl ⟨by rfl, ?hy8⟩) hHeld ?rest8
    case hy8 => (intro wz hSw; (try dsimp only at hSw); go_simp; (try with_reducible rfl))
    (try simp only [Act.put, List.getElem_toArray, List.getElem_cons_succ, List.getElem_cons_zero]); (try simp only [List.setIfInBounds_toArray]); (try simp only [List.set_cons_succ]); (try simp only [List.set_cons_zero])
    refine wpAnyH_done (by kernel_rfl) ?_ _
    clear hHeld
    have hP4 := Lib.hid (hP3.low hlo.out)
    have hE4 := Lib.hid (hE.out.trans X2)
    have hB4 := Lib.hid (hB.out.ext X2)
    have hL4 := Lib.hid (hL.out.ext X2)
    have hlo4 := Lib.hid (Nat.le_trans hlo.out X2.le)
    have HNE2 := Lib.hid (HEND.out N)
    have hle3 : w.heap.size + 1 ≤ w2.heap.size := hlo4.out
    clear hP2 hE2 X2 hP3 hE hB hL hlo HLEV lB q0 q1 hc hlg hg1
    obtain ⟨m, hm⟩ : ∃ m, (F N).length = m := ⟨_, rfl⟩
    rw [hm] at hP4 ⊢
    by_cases hm0 : m = 0
    · subst hm0
      have HZ : Hid (F N = []) := List.eq_nil_of_length_eq_zero hm
      clear hm
      go_wp2
      go_ret
      obtain ⟨us, G5, C5, h1, h2, h3⟩ := hL4.out
      exact ⟨g, cv, N, rfl, hN0, hN25, ⟨us, G5, C5, ownsRow_low h1 (by omega), h2, fun k hk => ⟨(h3 k hk).1, (h3 k hk).2.low (by omega)⟩⟩, HZ.out, hne.out, hE4.out⟩
    · have hmI : ((m : Int) == 0) = false := by simpa using hm0
      have hmF : ((m : Int) = 0) = False := eq_false (by omega)
      have HFN : Hid (F N ≠ []) := fun e => hm0 (by rw [← hm, e]; rfl)
      have HN24 := HNE2.out HFN.out
      have HM := Lib.hid hm
      clear hm
      go_wp2_with (at_builtin; refine wpList_appendLev rfl (.tmp 21) (.tmp 23) rfl (w.heap.size + 1) (.slice (some ⟨g, 0, none⟩) N cv) F N g2 m c2 1 w2.heap.size rfl HM.out rfl rfl hL4.out hP4.out (by omega) hle3 ?_; intro v5 w5 hL5 hg5; have HL5 := Lib.hid hL5; have HGR := Lib.hid hg5; clear hL5 hg5)
      obtain ⟨g5, c5, hv5, _⟩ := HL5.out.shape (by omega)
      have E5 := Lib.hid (hE4.out.grown HGR.out (fun z hz => by have := hvw.out z hz; omega))
      have B5 := Lib.hid (hB4.out.grown HGR.out (fun z hz => by have := hvw.out z hz; omega))
      have L5 := Lib.hid (Nat.le_trans hle3 HGR.out.size)
      rw [hv5] at HL5 ⊢
      exact ⟨⟨N + 1, c5, g5, rfl, by omega, by omega, HL5, fun k hk => by
        by_cases e : k = N
        · rw [e]; exact HFN.out
        · exact hne.out k (by omega), E5, B5, L5⟩, by simp [lenV]; omega⟩
end Go.Proofs.YtlnpaplbcocmkaaGreat

/-
  LengthCounts and WeylOrder, by the specification.
-/
namespace Go.Proofs.YtlnpaplbcocmkaaGreat
open Go.ChangeShapes Go.WideShapes Go.ChangeAt Go.RowKit
set_option linter.unusedVariables false
set_option linter.unusedSimpArgs false

/-- How many lengths there are. -/
def levN (xs : List Int) (R : Nat) : Nat := (List.range 26).findIdx fun k => (levA xs R k).isEmpty
theorem levN_eq {xs : List Int} {R N : Nat} (hN : N ≤ 25) (he : levA xs R N = []) (hne : ∀ k, k < N → levA xs R k ≠ []) : levN xs R = N := by
  rw [levN, List.findIdx_eq (by simp; omega)]
  refine ⟨by simp [he], fun j hj => ?_⟩
  have := hne j hj
  simpa [List.isEmpty_iff] using this
/-- How many weights there are of the first n lengths, each. -/
def lensA (xs : List Int) (R : Nat) : Nat → List Int
  | 0 => []
  | n + 1 => lensA xs R n ++ [((levA xs R n).length : Int)]
theorem lensA_len (xs : List Int) (R : Nat) : ∀ n, (lensA xs R n).length = n
  | 0 => rfl
  | n + 1 => by rw [lensA, List.length_append, lensA_len xs R n]; rfl
/-- And of all of them. -/
def sumA (xs : List Int) (R : Nat) : Nat → Nat
  | 0 => 0
  | n + 1 => sumA xs R n + (levA xs R n).length
theorem sumA_bnd {xs : List Int} {R : Nat} (h : ∀ n, (levA xs R n).length ≤ 390625) : ∀ n, sumA xs R n ≤ 390625 * n
  | 0 => by simp [sumA]
  | n + 1 => by have := sumA_bnd h n; have := h n; rw [sumA]; omega
def lcO (R : Int) (l : List Int) : List Int := match carG R l with
  | some _ => lensA l R.toNat (levN l R.toNat)
  | none => []
def woO (R : Int) (l : List Int) : Int := match carG R l with
  | some _ => sumA l R.toNat (levN l R.toNat)
  | none => 0
theorem lev_len {xs : List Int} {R : Nat} (hR : R ≤ 4) (h : CoOk xs R) (n : Nat) : (levA xs R n).length ≤ 390625 :=
  cube_bnd hR h (sorted_nodup (levA_ok h n).1) (fun v hv => (((levA_ok h n).2 v).1 hv).1)
/-- What is known of a matrix of the table. -/
theorem co24_tab {R : Nat} {xs : List Int} {v : List Nat × List Int} (h0 : 0 < R) (hR : R ≤ 4) (h : tabGet R xs = some v) : (posR (trn xs R) R).length ≤ 24 := by
  obtain ⟨u, hu⟩ := trn_tab h0 hR h
  have hok := rootsOk_tab h0 hR hu
  have h1 : posR (trn xs R) R = srtR (fullR (trn xs R) R) (fullR (trn xs R) R).length := rfl
  rw [h1, show (srtR (fullR (trn xs R) R) (fullR (trn xs R) R).length).length = (fullR (trn xs R) R).length by rw [(srtR_perm _ _ (Nat.le_refl _)).length_eq, List.length_take]; omega]
  exact hok.len true 24

set_option maxRecDepth 100000 in
set_option maxHeartbeats 6400000 in
theorem l6Order_spec {K a0 oa n cn : Nat} {l : List Int} {w : World} (hT : Reads w (some ⟨a0, oa, none⟩) n l) (hn : n = K * K) (hK1 : 1 ≤ K) (hK4 : K ≤ 4) (hxb : ∀ e, -3 ≤ gi l e ∧ gi l e ≤ 3) (hco : CoOk l K) (h24 : (posR (trn l K) K).length ≤ 24) :
    Calls Tryz.prog 59 #[.agg #[.int .i64 (K : Nat), .slice (some ⟨a0, oa, none⟩) n cn]] w fun e w' => e = .returned (.int .i64 (sumA l K (levN l K) : Nat)) ∧ Ext w w' := by
  have HLV := Lib.hid (l6Levels_spec K a0 oa n cn l (w.alloc (.cells #[.int .i64 (K : Nat), .slice (some ⟨a0, oa, none⟩) n cn] 27)) (hT.ext ((Ext.refl w).alloc _)) hn hK1 hK4 hxb hco h24)
  have HSB : Hid (∀ k, sumA l K k ≤ 390625 * k) := sumA_bnd (lev_len hK4 hco)
  have HSS : Hid (∀ k, sumA l K (k + 1) = sumA l K k + (levA l K k).length) := fun k => rfl
  have HS0 : Hid (sumA l K 0 = 0) := rfl
  have HLL : Hid (∀ k, (levA l K k).length ≤ 390625) := lev_len hK4 hco
  have HLN : Hid (∀ N, N ≤ 25 → levA l K N = [] → (∀ k, k < N → levA l K k ≠ []) → levN l K = N) := fun N h1 h2 h3 => levN_eq h1 h2 h3
  have X0 := Lib.hid ((Ext.refl w).alloc (.cells #[.int .i64 (K : Nat), .slice (some ⟨a0, oa, none⟩) n cn] 27))
  obtain ⟨S, hS⟩ : ∃ S, sumA l K = S := ⟨_, rfl⟩
  obtain ⟨F, hF⟩ : ∃ F, levA l K = F := ⟨_, rfl⟩
  rw [hS] at HSB HSS HS0 ⊢
  rw [hF] at HLV HSS HLL HLN
  clear hT hn hxb hco h24 hS hF
  go_enter Tryz.func59, Tryz.ntmps59
  go_wp2_with fail
  refine HLV.out.mono ?_
  rintro e w5 ⟨g, c, N, rfl, hN0, hN25, hL, hend, hne, h5⟩
  have HNE : Hid (levN l K = N) := HLN.out N hN25 hend hne
  obtain ⟨g1, c1, e1, hg1, hlg, hcell⟩ := hL.shape hN0
  injection e1 with e1 _ e2
  injection e1 with e1
  injection e1 with e1
  subst e1
  subst e2
  have HC : Hid (∀ k, k < N → ∃ G C, w5.cell? ⟨g, k, none⟩ = some (.slice (some ⟨G, 0, none⟩) (F k).length C)) := fun k hk => by
    obtain ⟨G, C, h, _⟩ := hcell k hk
    exact ⟨G, C, h⟩
  have E5 := Lib.hid (X0.out.trans h5)
  clear hL hend hne h5 hcell HLV HLN X0
  go_wp2_with fail
  go_loopw [5, 4] (fun z v wr => ∃ k : Nat, k ≤ N ∧ z = .int .i64 k ∧ v = .int .i64 (S k : Nat) ∧ wr = w5) (fun z _ _ => N - (intOf z).toNat)
  case atStart => exact ⟨0, by omega, rfl, by rw [HS0.out]; rfl, rfl⟩
  case round =>
    obtain ⟨k, hk, rfl, rfl, rfl⟩ := hrel
    by_cases hlt : k < N
    · have hltI : (k : Int) < (N : Int) := by omega
      obtain ⟨G, C, hc⟩ := HC.out k hlt
      have hb1 := HSB.out k
      have hb2 := HLL.out k
      have v1 : IntKind.i64.wrap ((S k : Int) + ((F k).length : Int)) = (S (k + 1) : Int) := by
        rw [HSS.out k]; rw [show ((S k + (F k).length : Nat) : Int) = (S k : Int) + ((F k).length : Int) by omega]; exact IntWalk.i64_in _ ⟨by omega, by omega⟩
      go_wp2
      exact ⟨⟨k + 1, by omega, by first | rfl | simp, by first | rfl | simp, by first | rfl | simp⟩, by (simp [intOf]) <;> omega⟩
    · obtain rfl : k = N := by omega
      go_wp2
      go_ret
      exact ⟨by rw [HNE.out]; rfl, E5.out⟩

set_option maxRecDepth 100000 in
set_option maxHeartbeats 6400000 in
theorem weylOrder_spec {R : Int} {a0 oa n : Nat} {l : List Int} {w : World} {i : Int} (hT : Reads w (some ⟨a0, oa, none⟩) n l) (hm0 : n ≤ 1048576) (hM : woO R l = i) :
    Calls Tryz.prog 16 #[.agg #[.int .i64 R, .slice (some ⟨a0, oa, none⟩) n n]] w fun e w' => e = .returned (.int .i64 i) ∧ Ext w w' := by
  subst hM
  have HT := Lib.hid hT
  rcases hG : carG R l with _ | v
  · have HF : Hid (woO R l = 0) := by rw [Hid, woO, hG]
    clear hT
    go_enter Tryz.func16, Tryz.ntmps16
    go_wp2_with fail
    refine (isCartan_no (HT.out.ext ((Ext.refl w).alloc _)) hm0 hG).mono ?_
    rintro e w2 ⟨rfl, hE⟩
    go_wp2
    go_ret
    exact ⟨by rw [HF.out]; rfl, ((Ext.refl w).alloc _).trans hE⟩
  · obtain ⟨K, rfl, hK1, hK4, hlK, ht⟩ := carG_some hG
    have hnK : Hid (n = K * K) := by rw [Hid, ← hT.len]; exact hlK
    obtain ⟨hh, hWOK⟩ := wOk_tab hK1 hK4 ht
    have HWX := Lib.hid hWOK.xb
    have HCO := Lib.hid (coOk_tab hK1 hK4 ht)
    have H24 := Lib.hid (co24_tab hK1 hK4 ht)
    have HF : Hid (woO K l = (sumA l K (levN l K) : Nat)) := by rw [Hid, woO, hG]; rfl
    clear hWOK hT
    go_enter Tryz.func16, Tryz.ntmps16
    go_wp2_with fail
    refine (isCartan_yes (HT.out.ext ((Ext.refl w).alloc _)) hm0 hG).mono ?_
    rintro e w2 ⟨rfl, hE⟩
    have HE2 := Lib.hid (((Ext.refl w).alloc _).trans hE)
    have HB2 := Lib.hid ((cells_new w #[.int .i64 (K : Nat), .slice (some ⟨a0, oa, none⟩) n n] 27).ext hE)
    clear hE
    have lB := HB2.out.1
    have q0 := HB2.out.2 0 _ rfl
    have q1 := HB2.out.2 1 _ rfl
    go_wp2_with fail
    refine (l6Order_spec (HT.out.ext HE2.out) hnK.out hK1 hK4 HWX.out HCO.out H24.out).mono ?_
    rintro e w5 ⟨rfl, h5⟩
    go_wp2
    go_ret
    exact ⟨by rw [HF.out]; rfl, HE2.out.trans h5⟩

set_option maxRecDepth 100000 in
set_option maxHeartbeats 6400000 in
theorem lengthCounts_spec {R : Int} {a0 oa n : Nat} {l : List Int} {w : World} {i : List Int} (hT : Reads w (some ⟨a0, oa, none⟩) n l) (hm0 : n ≤ 1048576) (hM : lcO R l = i) :
    Calls Tryz.prog 20 #[.agg #[.int .i64 R, .slice (some ⟨a0, oa, none⟩) n n]] w fun e w' => ∃ v, e = .returned v ∧ Rints5 w w' v i ∧ Ext w w' := by
  subst hM
  have HT := Lib.hid hT
  rcases hG : carG R l with _ | v
  · have HF : Hid (lcO R l = []) := by rw [Hid, lcO, hG]
    clear hT
    go_enter Tryz.func20, Tryz.ntmps20
    go_wp2_with fail
    refine (isCartan_no (HT.out.ext ((Ext.refl w).alloc _)) hm0 hG).mono ?_
    rintro e w2 ⟨rfl, hE⟩
    go_wp2
    go_ret
    exact ⟨_, rfl, ⟨_, _, _, rfl, by rw [HF.out]; exact own_nil _ _ _, by omega⟩, ((Ext.refl w).alloc _).trans hE⟩
  · obtain ⟨K, rfl, hK1, hK4, hlK, ht⟩ := carG_some hG
    have hnK : Hid (n = K * K) := by rw [Hid, ← hT.len]; exact hlK
    obtain ⟨hh, hWOK⟩ := wOk_tab hK1 hK4 ht
    have HWX := Lib.hid hWOK.xb
    have HCO := Lib.hid (coOk_tab hK1 hK4 ht)
    have H24 := Lib.hid (co24_tab hK1 hK4 ht)
    have HF : Hid (lcO K l = lensA l K (levN l K)) := by rw [Hid, lcO, hG]; rfl
    clear hWOK hT
    go_enter Tryz.func20, Tryz.ntmps20
    go_wp2_with fail
    refine (isCartan_yes (HT.out.ext ((Ext.refl w).alloc _)) hm0 hG).mono ?_
    rintro e w2 ⟨rfl, hE⟩
    have HE2 := Lib.hid (((Ext.refl w).alloc _).trans hE)
    have HB2 := Lib.hid ((cells_new w #[.int .i64 (K : Nat), .slice (some ⟨a0, oa, none⟩) n n] 27).ext hE)
    clear hE
    have lB := HB2.out.1
    have q0 := HB2.out.2 0 _ rfl
    have q1 := HB2.out.2 1 _ rfl
    go_wp2_with fail
    refine (l6Levels_spec K a0 oa n n l w2 (HT.out.ext HE2.out) hnK.out hK1 hK4 HWX.out HCO.out H24.out).mono ?_
    rintro e w5 ⟨g, c, N, rfl, hN0, hN25, hL, hend, hne, h5⟩
    have HNE : Hid (levN l K = N) := levN_eq hN25 hend hne
    obtain ⟨g1, c1, e1, hg1, hlg, hcell⟩ := hL.shape hN0
    injection e1 with e1 _ e2
    injection e1 with e1
    injection e1 with e1
    subst e1
    subst e2
    have HC : Hid (∀ k, k < N → ∃ G C, w5.cell? ⟨g, k, none⟩ = some (.slice (some ⟨G, 0, none⟩) (levA l K k).length C)) := fun k hk => by
      obtain ⟨G, C, h, _⟩ := hcell k hk
      exact ⟨G, C, h⟩
    have HLL : Hid (∀ k, (levA l K k).length ≤ 390625) := lev_len hK4 HCO.out
    have HSS : Hid (∀ k, lensA l K (k + 1) = lensA l K k ++ [((levA l K k).length : Int)]) := fun k => rfl
    have HS0 : Hid (lensA l K 0 = []) := rfl
    have E5 := Lib.hid (HE2.out.trans h5)
    have HF2 : Hid (lcO K l = lensA l K N) := by rw [Hid, HF.out, HNE.out]
    obtain ⟨S, hS⟩ : ∃ S, lensA l K = S := ⟨_, rfl⟩
    obtain ⟨F, hF⟩ : ∃ F, levA l K = F := ⟨_, rfl⟩
    rw [hS] at HSS HS0 HF2
    rw [hF] at HC HLL HSS
    have HG0 : Hid (Grows (w5.alloc (.cells #[] 3)) w5.heap.size (.slice (some ⟨w5.heap.size, 0, none⟩) 0 0) 0 (S 0)) := by
      rw [HS0.out]
      exact World.ownsRow_lit w5 #[] 0 (Nat.le_refl _) (by unfold maxLen; omega) (by simp)
    have X5 := Lib.hid ((Ext.refl w5).alloc (.cells #[] 3))
    clear hL hend hne h5 hcell HF HB2 lB q0 q1 HNE hS hF HS0
    go_wp2_with fail
    go_loopw [5, 4] (fun z v wr => ∃ (k ga cv : Nat), k ≤ N ∧ z = .int .i64 k ∧ v = .slice (some ⟨ga, 0, none⟩) k cv ∧ Hid (Grows wr w5.heap.size (.slice (some ⟨ga, 0, none⟩) k cv) k (S k)) ∧ Hid (Ext w5 wr)) (fun z _ _ => N - (intOf z).toNat)
    case atStart => exact ⟨0, _, 0, by omega, rfl, rfl, HG0, X5⟩
    case round =>
      clear HG0 X5
      obtain ⟨k, ga, cv, hk, rfl, rfl, hG9, hE⟩ := hrel
      by_cases hlt : k < N
      · have hltI : (k : Int) < (N : Int) := by omega
        obtain ⟨G, C, hc⟩ := HC.out k hlt
        have hc2 := (hE.out.cells g k hlg).trans hc
        have lg2 := Nat.lt_of_lt_of_le hlg hE.out.le
        have hb2 := HLL.out k
        have hsz := hE.out.le
        have HSk := Lib.hid (HSS.out k)
        obtain ⟨m, hm⟩ : ∃ m, (F k).length = m := ⟨_, rfl⟩
        rw [hm] at hc2 hb2 HSk
        clear hc hm
        go_wp2_with (at_builtin; refine wpList_append1 rfl _ _ rfl w5.heap.size (.slice (some ⟨ga, 0, none⟩) k cv) _ _ (m : Int) 1 rfl rfl hG9.out (by omega) hsz ?_)
        intro v' w4 hG4 hg4
        have E4 := Lib.hid (hG9.out.extAfter hg4 hE.out (Nat.le_refl _))
        have hGA := Grows.addr5 hG4 (by omega)
        obtain ⟨g4, cv4, rfl, hg41⟩ := hGA
        have G4 : Hid (Grows w4 w5.heap.size (.slice (some ⟨g4, 0, none⟩) (k + 1) cv4) (k + 1) (S (k + 1))) := by rw [HSk.out]; exact hG4
        clear hG4 hg4 hG9
        go_wp2
        exact ⟨⟨k + 1, g4, cv4, by omega, by first | rfl | simp, by first | rfl | simp, G4, E4⟩, by (simp [intOf]) <;> omega⟩
      · obtain rfl : k = N := by omega
        go_wp2
        go_ret
        exact ⟨_, rfl, by rw [HF2.out]; exact grows_own6 (hG9.out.low E5.out.le) (by omega), E5.out.trans hE.out⟩
end Go.Proofs.YtlnpaplbcocmkaaGreat
