/-
  Lists turned round, in both texts.
-/
import Derived.Test.YthhgodjobddenaaRd5
namespace Go.Proofs.Ythhgodjobddenaa
open Go.ChangeShapes Go.WideShapes Go.ChangeAt Go.RowKit
set_option linter.unusedVariables false
set_option linter.unusedSimpArgs false

theorem Grows.addr5 {w : World} {base n : Nat} {v : Value} {xs : List Int} (h : Grows w base v n xs) (h0 : 0 < n) : ∃ g c, v = .slice (some ⟨g, 0, none⟩) n c ∧ base ≤ g := by
  rcases h.2 with ⟨e1, e2⟩ | ⟨g, cap, cur, e1, hb, hg, _⟩
  · omega
  · exact ⟨g, cap, e1, hb⟩
/-- A list of which k numbers at each end have changed places. -/
def rvP (l : List Int) (k : Nat) : List Int := (List.range l.length).map fun e => if e < k ∨ l.length ≤ e + k then gi l (l.length - 1 - e) else gi l e
theorem grownBy_drw {w w' : World} {row : Option Nat} (h : w.grownBy w' row) : w.grownBy w'.drew row := ⟨h.os, h.tape, h.output, h.size, h.block⟩
theorem rvP_len (l : List Int) (k : Nat) : (rvP l k).length = l.length := by simp [rvP]
theorem rvP_zero (l : List Int) : rvP l 0 = l := by
  apply List.ext_getElem
  · simp [rvP]
  · intro e h1 h2
    simp only [rvP, List.getElem_map, List.getElem_range]
    rw [if_neg (by omega)]
    simp [gi, h2]
theorem gi_rvP {l : List Int} {k e : Nat} (h : e < l.length) : gi (rvP l k) e = if e < k ∨ l.length ≤ e + k then gi l (l.length - 1 - e) else gi l e := by
  have h1 : e < (rvP l k).length := by rw [rvP_len]; exact h
  rw [show gi (rvP l k) e = (rvP l k)[e] by simp [gi, h1]]
  simp [rvP]
theorem rvP_done {l : List Int} {k : Nat} (h : l.length ≤ 2 * k + 1) : rvP l k = l.reverse := by
  apply List.ext_getElem
  · simp [rvP]
  · intro e h1 h2
    have he : e < l.length := by rw [rvP_len] at h1; exact h1
    have h3 : (rvP l k)[e] = gi (rvP l k) e := by simp [gi, h1]
    rw [h3, gi_rvP he, List.getElem_reverse]
    have h4 : gi l (l.length - 1 - e) = l[l.length - 1 - e] := by simp [gi, show l.length - 1 - e < l.length by omega]
    by_cases c : e < k ∨ l.length ≤ e + k
    · rw [if_pos c, h4]
    · rw [if_neg c, ← h4]
      congr 1; omega
theorem rvP_step {l : List Int} {k j : Nat} (hj : j + k + 1 = l.length) (h : k < j) : ((rvP l k).set k (gi l j)).set j (gi l k) = rvP l (k + 1) := by
  apply List.ext_getElem
  · simp [rvP]
  · intro e h1 h2
    have he : e < l.length := by simpa [rvP] using h2
    have h4 : (rvP l (k + 1))[e] = gi (rvP l (k + 1)) e := by simp [gi, h2]
    rw [h4, gi_rvP he, List.getElem_set]
    by_cases e1 : j = e
    · subst e1
      rw [if_pos rfl, if_pos (by omega)]; congr 1; omega
    · rw [if_neg e1, List.getElem_set]
      by_cases e2 : k = e
      · subst e2
        rw [if_pos rfl, if_pos (by omega)]; congr 1; omega
      · rw [if_neg e2]
        have h5 : e < (rvP l k).length := by rw [rvP_len]; exact he
        have h3 : (rvP l k)[e] = gi (rvP l k) e := by simp [gi, h5]
        rw [h3, gi_rvP he]
        by_cases c : e < k ∨ l.length ≤ e + k
        · rw [if_pos c, if_pos (by omega)]
        · rw [if_neg c, if_neg (by omega)]

set_option maxRecDepth 100000 in
set_option maxHeartbeats 6400000 in
theorem rev_fn (b n c : Nat) (l : List Int) (w : World) (hh : Has w b l) (hn : l.length = n) (hm : n ≤ 1048576) :
    Calls Try.prog 21 #[.slice (some ⟨b, 0, none⟩) n c] w fun e w' => (∃ v, e = .returned v) ∧ Has w' b l.reverse ∧ w.grownBy w' (some b) := by
  have HL := Lib.hid hn
  have H0 : Hid (Has w b (rvP l 0)) := by rw [rvP_zero]; exact hh
  have v0 : IntKind.i64.wrap ((n : Int) - 1) = (n : Int) - 1 := IntWalk.i64_in _ ⟨by omega, by omega⟩
  clear hh hn
  go_enter Try.func21, Try.ntmps21
  go_wp2_with fail
  go_loopw [2, 3] (fun z y wr => ∃ k : Nat, 2 * k ≤ n + 1 ∧ z = .int .i64 k ∧ y = .int .i64 ((n : Int) - 1 - k) ∧ Hid (Has wr b (rvP l k)) ∧ Hid (w.grownBy wr (some b))) (fun z _ _ => n - (intOf z).toNat)
  case atStart => exact ⟨0, by omega, rfl, by simp, H0, grownBy_refl _ _⟩
  case round =>
    clear H0
    obtain ⟨k, hk, rfl, rfl, hH, hG⟩ := hrel
    by_cases hlt : (k : Int) < (n : Int) - 1 - k
    · obtain ⟨j, hj⟩ : ∃ j : Nat, j + k + 1 = n := ⟨n - k - 1, by omega⟩
      have hz : (n : Int) - 1 - k = (j : Int) := by omega
      rw [hz] at hlt ⊢
      have hkj : k < j := by omega
      have HLl := HL.out
      have ck := hH.out.cell k (by rw [rvP_len]; omega)
      have cj := hH.out.cell j (by rw [rvP_len]; omega)
      rw [gi_rvP (by omega), if_neg (by omega)] at ck cj
      have fk := hH.out.free k
      have fj := hH.out.free j
      have lb := hH.out.lt
      have hkI : (k : Int) < (n : Int) := by omega
      have hjI : (j : Int) < (n : Int) := by omega
      have v1 : IntKind.i64.wrap ((k : Int) + 1) = (k : Int) + 1 := IntWalk.i64_in _ ⟨by omega, by omega⟩
      have v2 : IntKind.i64.wrap ((j : Int) - 1) = (j : Int) - 1 := IntWalk.i64_in _ ⟨by omega, by omega⟩
      have HST := Lib.hid (rvP_step (l := l) (k := k) (j := j) (by omega) hkj)
      have H1 : Hid (Has (((wr.setCell ⟨b, k, none⟩ (.int .i64 (gi l j))).setCell ⟨b, j, none⟩ (.int .i64 (gi l k))).drew) b (rvP l (k + 1))) := by
        rw [Hid, ← HST.out]
        exact ((hH.out.set k (by rw [rvP_len]; omega) _).set j (by rw [List.length_set, rvP_len]; omega) _).ext (Ext.refl _).drew
      have G1 : Hid (w.grownBy (((wr.setCell ⟨b, k, none⟩ (.int .i64 (gi l j))).setCell ⟨b, j, none⟩ (.int .i64 (gi l k))).drew) (some b)) := grownBy_drw (grownBy_set (p := ⟨b, j, none⟩) (grownBy_set (p := ⟨b, k, none⟩) hG.out rfl _) rfl _)
      obtain ⟨x, hx⟩ : ∃ x, gi l k = x := ⟨_, rfl⟩
      obtain ⟨y, hy⟩ : ∃ y, gi l j = y := ⟨_, rfl⟩
      rw [hx] at ck H1 G1
      rw [hy] at cj H1 G1
      clear hz HLl hx hy hG hH HST
      have HJ := Lib.hid hj
      clear hj
      go_wp2_with fail
      go_region
      all_goals
        go_wp2
        exact ⟨⟨k + 1, by have := HJ.out; omega, by first | rfl | simp | trivial, by have := HJ.out; first | (congr 1; omega) | (simp; omega), H1, G1⟩, by have := HJ.out; (simp [intOf]) <;> omega⟩
    · have HD : Hid (rvP l k = l.reverse) := rvP_done (by have := HL.out; omega)
      rw [HD.out] at hH
      go_wp2
      go_end0
      exact ⟨⟨_, rfl⟩, hH.out, hG.out⟩

theorem drop_rev {l : List Int} {j : Nat} (h : j < l.length) : (l.drop j).reverse = (l.drop (j + 1)).reverse ++ [gi l j] := by
  rw [List.drop_eq_getElem_cons h, List.reverse_cons, show gi l j = l[j] by simp [gi, h]]
end Go.Proofs.Ythhgodjobddenaa
