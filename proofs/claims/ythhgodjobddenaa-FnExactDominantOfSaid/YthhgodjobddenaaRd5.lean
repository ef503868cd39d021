/-
  Lists of numbers, as roots are read and made: compared, copied, turned, added, summed up; in both texts.
-/
import Derived.Test.YthhgodjobddenaaWgt
import Derived.Test.YthhgodjobddenaaFit
import Derived.Lib.Hide
namespace Go.Proofs.Ythhgodjobddenaa
open Go.ChangeShapes Go.WideShapes Go.ChangeAt Go.RowKit
set_option linter.unusedVariables false
set_option linter.unusedSimpArgs false

theorem ext_gi {a b : List Int} (hl : a.length = b.length) (h : ∀ k, k < a.length → gi a k = gi b k) : a = b := by
  apply List.ext_getElem hl
  intro k h1 h2
  have := h k h1
  simpa [gi, List.getD_eq_getElem?_getD, h1, h2] using this
/-- Lists that are compared place by place. -/
def sameB (xs ys : List Int) : Bool := decide (xs = ys)
def PInts5 (w : World) (n : Nat) (xs : List Int) (e : Ending) (w' : World) : Prop := ∃ b c', e = .returned (.slice (some ⟨b, 0, none⟩) n c') ∧ w.heap.size ≤ b ∧ Has w' b xs ∧ Ext w w' ∧ n ≤ c'
set_option maxHeartbeats 800000 in
theorem clone5 (ad : Addr) (n c : Nat) (xs : List Int) (w : World) (hr0 : Reads w (some ad) n xs) (hn : n ≤ 1048576) :
    Calls Try.prog 30 #[.slice (some ad) n c] w (PInts5 w n xs) := by
  obtain ⟨i0, hi, hz0, hz1, hz2⟩ := info_parts Try.infoInt
  obtain ⟨hl, hr⟩ := hr0
  have own0 : (w.alloc (.cells #[] 3)).ownsRow w.heap.size 3 1 (.slice (some ⟨w.heap.size, 0, none⟩) 0 0) 0 [] := World.ownsRow_lit w #[] 0 (Nat.le_refl _) (by unfold maxLen; omega) (by simp)
  have hnews : ∀ (j : Nat) (u : Value), (xs.map (Value.int .i64))[j]? = some u → (w.alloc (.cells #[] 3)).cell? (ad.add j) = some u := by
    intro j u hu
    have hj : j < xs.length := by have := (List.getElem?_eq_some_iff.1 hu).1; simpa using this
    rcases hr with h | ⟨b, off, h, hb, hc⟩
    · omega
    · simp at h
      subst h
      have e : (⟨b, off, none⟩ : Addr).add j = ⟨b, off + j, none⟩ := add_plain ..
      rw [e, World.cell?_alloc_past _ _ _ hb, hc j (by omega)]
      simp [hj] at hu
      simp [gi, hj, hu]
  have hnil := Lib.run_eql_slice_nil (P := Try.prog) w 22 3 (some ad) n c 0 0 Try.underlying22
  go_enter Try.func30, Try.ntmps30
  go_wp2_with (at_builtin; refine wpList_append_own _ rfl _ _ 22 rfl w.heap.size 3 i0 (.int .i64 0) 1 8 Try.underlying22 hi hz0 hz1 hz2 rfl (by decide) _ 0 [] rfl own0 ad n _ (xs.map (Value.int .i64)) rfl ?c1 hnews ?c2 ?c3 ?c4 ?c5 ?_)
  case c1 => simpa using hl
  case c2 => intro u hu; obtain ⟨z, _, rfl⟩ := List.mem_map.1 hu; rfl
  case c3 => unfold maxLen; omega
  case c4 => omega
  case c5 => simp
  intro v' w1 ho hg hnil
  have hne : ¬ v' = .slice none 0 0 := hnil
  rcases ho.2 with ⟨h, _⟩ | ⟨g, cap, cur, h, _, _, hcap, _⟩
  · exact absurd h hne
  · subst h
    have hcp : Hid (n ≤ cap) := by simpa [Hid] using hcap
    clear hcap
    have hh := Lib.hid (Has.ofOwns ho)
    have hE : Hid (Ext w w1) := ((Ext.refl w).alloc _).grown hg (fun k hk => by simp [Value.ownBlock] at hk; omega)
    clear ho hg hnil hne
    go_wp2
    refine bodyPost_ret (v := .slice (some ⟨g, 0, none⟩) n cap) (by simp [results, Try.results30, go_sem]) rfl ?_
    have h3 := hh.out
    exact ⟨g, cap, rfl, h3.2.1, h3.1, hE.out, hcp.out⟩
theorem reads5 {w : World} {a : Option Addr} {n : Nat} {xs : List Int} (h : Reads w a n xs) (h0 : 0 < n) : ∃ b o, a = some ⟨b, o, none⟩ ∧ b < w.heap.size ∧ ∀ j, j < n → w.cell? ⟨b, o + j, none⟩ = some (.int .i64 (gi xs j)) := by
  rcases h.2 with h1 | h1
  · omega
  · exact h1
theorem htS_take (xs : List Int) (k : Nat) (h : k < xs.length) : htS (xs.take (k + 1)) = htS (xs.take k) + gi xs k := by
  rw [htS, List.take_add_one, List.foldl_append, show xs[k]? = some (gi xs k) by simp [gi, h]]
  rfl
theorem htS_bnd {xs : List Int} {B : Int} (hB : ∀ e, -B ≤ gi xs e ∧ gi xs e ≤ B) : ∀ k : Nat, k ≤ xs.length → -(B * k) ≤ htS (xs.take k) ∧ htS (xs.take k) ≤ B * k
  | 0, _ => by simp [htS]
  | k + 1, h => by
    have ih := htS_bnd hB k (by omega)
    have h1 := hB k
    rw [htS_take xs k (by omega), show ((k + 1 : Nat) : Int) = (k : Int) + 1 by simp, Int.mul_add, Int.mul_one]
    omega

theorem allPos_yes {xs : List Int} (h : ∀ e, e < xs.length → 0 ≤ gi xs e) : allPos xs = true := by
  rw [allPos, List.all_eq_true]
  intro y hy
  obtain ⟨e, he, rfl⟩ := List.mem_iff_getElem.1 hy
  have := h e he
  rw [show gi xs e = xs[e] by simp [gi, he]] at this
  exact decide_eq_true this
theorem allPos_no {xs : List Int} {e : Nat} (he : e < xs.length) (h : gi xs e < 0) : allPos xs = false := by
  rw [show gi xs e = xs[e] by simp [gi, he]] at h
  rcases h1 : allPos xs with _ | _
  · rfl
  · rw [allPos, List.all_eq_true] at h1
    have := of_decide_eq_true (h1 _ (List.getElem_mem he)); omega
def negL (xs : List Int) : List Int := xs.map fun n => -n
theorem negL_length (xs : List Int) : (negL xs).length = xs.length := by simp [negL]
theorem gi_negL (xs : List Int) (k : Nat) : gi (negL xs) k = - gi xs k := by
  simp only [gi, negL, List.getD_eq_getElem?_getD, List.getElem?_map]
  cases xs[k]? <;> simp
/-- A list of which the first k numbers are those of another one. -/
def mixL (xs : List Int) (n k : Nat) : List Int := (List.range n).map fun i => if i < k then gi xs i else 0
theorem mixL_zero (xs : List Int) (n : Nat) : mixL xs n 0 = List.replicate n 0 := by
  apply List.ext_getElem
  · simp [mixL]
  · intro e h1 h2
    simp [mixL]
theorem mixL_len {xs : List Int} {n k : Nat} : (mixL xs n k).length = n := by simp [mixL]
theorem mixL_done {xs : List Int} {n : Nat} (h : xs.length = n) : mixL xs n n = xs := by
  apply List.ext_getElem
  · simp [mixL, h]
  · intro e h1 h2
    have : e < n := by simpa [mixL] using h1
    simp [mixL, this, gi, h2]
theorem mixL_step {xs : List Int} {n k : Nat} (hk : k < n) : (mixL xs n k).set k (gi xs k) = mixL xs n (k + 1) := by
  apply List.ext_getElem
  · simp [mixL]
  · intro e h1 h2
    rw [List.getElem_set]
    by_cases e1 : k = e
    · subst e1
      simp [mixL]
    · rw [if_neg e1]
      simp only [mixL, List.getElem_map, List.getElem_range]
      by_cases e2 : e < k
      · rw [if_pos e2, if_pos (by omega)]
      · rw [if_neg e2, if_neg (by omega)]

def ptL (xs : List Int) (q : Int) (rs : List Int) : List Int := (List.range xs.length).map fun i => gi xs i + q * gi rs i
theorem ptL_length (xs : List Int) (q : Int) (rs : List Int) : (ptL xs q rs).length = xs.length := by simp [ptL]
theorem gi_ptL {xs rs : List Int} {q : Int} {k : Nat} (h : k < xs.length) : gi (ptL xs q rs) k = gi xs k + q * gi rs k := by simp [ptL, gi, h]
def ptP (xs : List Int) (q : Int) (rs : List Int) (k : Nat) : List Int := (List.range xs.length).map fun i => if i < k then gi xs i + q * gi rs i else gi xs i
theorem ptP_zero (xs : List Int) (q : Int) (rs : List Int) : ptP xs q rs 0 = xs := by
  apply List.ext_getElem
  · simp [ptP]
  · intro e h1 h2
    simp [ptP, gi, h2]
theorem ptP_len (xs : List Int) (q : Int) (rs : List Int) (k : Nat) : (ptP xs q rs k).length = xs.length := by simp [ptP]
theorem ptP_done (xs : List Int) (q : Int) (rs : List Int) : ptP xs q rs xs.length = ptL xs q rs := by
  apply List.ext_getElem
  · simp [ptP, ptL]
  · intro e h1 h2
    have : e < xs.length := by simpa [ptP] using h1
    simp [ptP, ptL, this]
theorem gi_ptP {xs rs : List Int} {q : Int} {k : Nat} (h : k < xs.length) : gi (ptP xs q rs k) k = gi xs k := by simp [ptP, gi, h]
theorem ptP_step {xs rs : List Int} {q : Int} {k : Nat} (h : k < xs.length) : (ptP xs q rs k).set k (gi xs k + q * gi rs k) = ptP xs q rs (k + 1) := by
  apply List.ext_getElem
  · simp [ptP]
  · intro e h1 h2
    rw [List.getElem_set]
    by_cases e1 : k = e
    · subst e1
      simp [ptP]
    · rw [if_neg e1]
      simp only [ptP, List.getElem_map, List.getElem_range]
      by_cases e2 : e < k
      · rw [if_pos e2, if_pos (by omega)]
      · rw [if_neg e2, if_neg (by omega)]

end Go.Proofs.Ythhgodjobddenaa
