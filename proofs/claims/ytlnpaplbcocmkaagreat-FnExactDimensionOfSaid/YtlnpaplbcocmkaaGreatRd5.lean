/-
  Lists of numbers, as roots are read and made: compared, copied, turned, added, summed up; in both texts.
-/
import Derived.Test.YtlnpaplbcocmkaaGreatWgt
import Derived.Test.YtlnpaplbcocmkaaGreatFit
import Derived.Lib.Hide
namespace Go.Proofs.YtlnpaplbcocmkaaGreat
open Go.ChangeShapes Go.WideShapes Go.ChangeAt Go.RowKit
set_option linter.unusedVariables false
set_option linter.unusedSimpArgs false

theorem ext_gi {a b : List Int} (hl : a.length = b.length) (h : ∀ k, k < a.length → gi a k = gi b k) : a = b := by
  apply List.ext_getElem hl
  intro k h1 h2
  have := h k h1
  simpa [gi, List.getD_eq_getElem?_getD, h1, h2] using this
/-- Lists that are compared place by place. -/
def sameB (xs ys : List Int) : Bool := decide (xs = ys)
set_option maxHeartbeats 800000 in
theorem l1Same_spec (a a' : Option Addr) (n n' c c' : Nat) (xs ys : List Int) (w : World) (hr : Reads w a n xs) (hr' : Reads w a' n' ys) (hm : n ≤ 1048576) (hm' : n' ≤ 1048576) :
    Calls Tryz.prog 106 #[.slice a n c, .slice a' n' c'] w fun e w' => e = .returned (.bool (sameB xs ys)) ∧ ∃ m, w' = w.drewN m := by
  have hl := Lib.hid hr.1
  have hl' := Lib.hid hr'.1
  have HR := Lib.hid hr.2
  have HR' := Lib.hid hr'.2
  clear hr hr'
  by_cases hnn : n = n'
  case neg =>
    have hb : ((n : Int) != (n' : Int)) = true := by simp; omega
    have HF : Hid (sameB xs ys = false) := by
      refine decide_eq_false (fun e => hnn ?_)
      rw [← hl.out, ← hl'.out, e]
    clear hnn
    go_enter Tryz.func106, Tryz.ntmps106
    go_wp2
    go_ret
    exact ⟨ret_bool HF.out.symm, 0, rfl⟩
  subst hnn
  go_enter Tryz.func106, Tryz.ntmps106
  go_wp2
  go_loopw [5] (fun z wr => ∃ (k m : Nat), k ≤ n ∧ z = .int .i64 k ∧ wr = w.drewN m ∧ Hid (∀ i, i < k → gi xs i = gi ys i)) (fun z _ => n - (intOf z).toNat)
  case atStart => exact ⟨0, 0, by omega, rfl, rfl, fun i hi => by omega⟩
  case round =>
    obtain ⟨k, m, hk, rfl, rfl, hf⟩ := hrel
    by_cases hlt : k < n
    · rcases HR.out with h | ⟨b, off, rfl, hb, hc⟩
      · omega
      rcases HR'.out with h | ⟨b', off', rfl, hb', hc'⟩
      · omega
      have hc1 := hc k hlt
      have hc2 := hc' k hlt
      have hlt' : (k : Int) < (n : Int) := by omega
      clear hc hc'
      by_cases h0 : gi xs k = gi ys k
      · have hb0 : (gi xs k != gi ys k) = false := by simpa using h0
        have HF : Hid (∀ i, i < k + 1 → gi xs i = gi ys i) := fun i hi => by
          by_cases e : i = k
          · subst e; exact h0
          · exact hf.out i (by omega)
        clear h0
        go_wp2
        go_quiet (fail)
        go_wp2
        exact ⟨⟨k + 1, m + nq, by omega, by simp, by simp, HF⟩, by simp [intOf]; omega⟩
      · have hb0 : (gi xs k != gi ys k) = true := by simpa using h0
        have HF : Hid (sameB xs ys = false) := decide_eq_false (fun e => h0 (by rw [e]))
        clear h0
        go_wp2
        go_quiet (fail)
        go_wp2
        go_ret
        exact ⟨ret_bool HF.out.symm, m + nq, by simp⟩
    · obtain rfl : k = n := by omega
      have HF : Hid (sameB xs ys = true) := decide_eq_true (ext_gi (by rw [hl.out, hl'.out]) (fun i hi => hf.out i (by rw [hl.out] at hi; exact hi)))
      go_wp2
      go_ret
      exact ⟨ret_bool HF.out.symm, m, rfl⟩
set_option maxHeartbeats 800000 in
theorem equal_fn (a a' : Option Addr) (n n' c c' : Nat) (xs ys : List Int) (w : World) (hr : Reads w a n xs) (hr' : Reads w a' n' ys) (hm : n ≤ 1048576) (hm' : n' ≤ 1048576) :
    Calls Tryz.prog 183 #[.slice a n c, .slice a' n' c'] w fun e w' => e = .returned (.bool (sameB xs ys)) ∧ ∃ m, w' = w.drewN m := by
  have hl := Lib.hid hr.1
  have hl' := Lib.hid hr'.1
  have HR := Lib.hid hr.2
  have HR' := Lib.hid hr'.2
  clear hr hr'
  by_cases hnn : n = n'
  case neg =>
    have hb : ((n : Int) != (n' : Int)) = true := by simp; omega
    have HF : Hid (sameB xs ys = false) := by
      refine decide_eq_false (fun e => hnn ?_)
      rw [← hl.out, ← hl'.out, e]
    clear hnn
    go_enter Tryz.func183, Tryz.ntmps183
    go_wp2
    go_ret
    exact ⟨ret_bool HF.out.symm, 0, rfl⟩
  subst hnn
  go_enter Tryz.func183, Tryz.ntmps183
  go_wp2
  go_loopw [13, 5] (fun z _ wr => ∃ (k m : Nat), k ≤ n ∧ z = .int .i64 k ∧ wr = w.drewN m ∧ Hid (∀ i, i < k → gi xs i = gi ys i)) (fun z _ _ => n - (intOf z).toNat)
  case atStart => exact ⟨0, 0, by omega, rfl, rfl, fun i hi => by omega⟩
  case round =>
    obtain ⟨k, m, hk, rfl, rfl, hf⟩ := hrel
    by_cases hlt : k < n
    · rcases HR.out with h | ⟨b, off, rfl, hb, hc⟩
      · omega
      rcases HR'.out with h | ⟨b', off', rfl, hb', hc'⟩
      · omega
      have hc1 := hc k hlt
      have hc2 := hc' k hlt
      have hlt' : (k : Int) < (n : Int) := by omega
      clear hc hc'
      by_cases h0 : gi xs k = gi ys k
      · have hb0 : (gi xs k != gi ys k) = false := by simpa using h0
        have HF : Hid (∀ i, i < k + 1 → gi xs i = gi ys i) := fun i hi => by
          by_cases e : i = k
          · subst e; exact h0
          · exact hf.out i (by omega)
        clear h0
        go_wp2
        go_quiet (fail)
        go_wp2
        exact ⟨⟨k + 1, m + nq, by omega, by simp, by simp, HF⟩, by simp [intOf]; omega⟩
      · have hb0 : (gi xs k != gi ys k) = true := by simpa using h0
        have HF : Hid (sameB xs ys = false) := decide_eq_false (fun e => h0 (by rw [e]))
        clear h0
        go_wp2
        go_quiet (fail)
        go_wp2
        go_ret
        exact ⟨ret_bool HF.out.symm, m + nq, by simp⟩
    · obtain rfl : k = n := by omega
      have HF : Hid (sameB xs ys = true) := decide_eq_true (ext_gi (by rw [hl.out, hl'.out]) (fun i hi => hf.out i (by rw [hl.out] at hi; exact hi)))
      go_wp2
      go_ret
      exact ⟨ret_bool HF.out.symm, m, rfl⟩
def PInts5 (w : World) (n : Nat) (xs : List Int) (e : Ending) (w' : World) : Prop := ∃ b c', e = .returned (.slice (some ⟨b, 0, none⟩) n c') ∧ w.heap.size ≤ b ∧ Has w' b xs ∧ Ext w w' ∧ n ≤ c'
set_option maxHeartbeats 800000 in
theorem clone5 (ad : Addr) (n c : Nat) (xs : List Int) (w : World) (hr0 : Reads w (some ad) n xs) (hn : n ≤ 1048576) :
    Calls Tryz.prog 121 #[.slice (some ad) n c] w (PInts5 w n xs) := by
  obtain ⟨i0, hi, hz0, hz1, hz2⟩ := info_parts Tryz.infoInt
  obtain ⟨hl, hr⟩ := hr0
  have own0 : (w.alloc (.cells #[] 3)).ownsRow w.heap.size 3 1 (.slice (some ⟨w.heap.size, 0, none⟩) 0 0) 0 [] := World.ownsRow_lit w #[] 0 (Nat.le_refl _) (by unfold maxLen; omega) (by simp)
  have hnews : ∀ (j : Nat) (u : Value), (xs.map (Value.int .i64))[j]? = some u → (w.alloc (.cells #[] 3)).cell? (ad.add j) = some u := by
    intro j u hu
    have hj : j < xs.length := by have := (List.getElem?_eq_some_iff.1 hu).1; simpa using this
    rcases hr with h | ⟨b, off, h, hb, hc⟩
    · omega
    · simp at h
      subst h
      have e : (⟨b, off, none⟩ : Addr).add j = ⟨b, off + j, none⟩ := add_plain ..
      rw [e, World.cell?_alloc_past _ _ _ hb, hc j (by omega)]
      simp [hj] at hu
      simp [gi, hj, hu]
  have hnil := Lib.run_eql_slice_nil (P := Tryz.prog) w 22 3 (some ad) n c 0 0 Tryz.underlying22
  go_enter Tryz.func121, Tryz.ntmps121
  go_wp2_with (at_builtin; refine wpList_append_own _ rfl _ _ 22 rfl w.heap.size 3 i0 (.int .i64 0) 1 8 Tryz.underlying22 hi hz0 hz1 hz2 rfl (by decide) _ 0 [] rfl own0 ad n _ (xs.map (Value.int .i64)) rfl ?c1 hnews ?c2 ?c3 ?c4 ?c5 ?_)
  case c1 => simpa using hl
  case c2 => intro u hu; obtain ⟨z, _, rfl⟩ := List.mem_map.1 hu; rfl
  case c3 => unfold maxLen; omega
  case c4 => omega
  case c5 => simp
  intro v' w1 ho hg hnil
  have hne : ¬ v' = .slice none 0 0 := hnil
  rcases ho.2 with ⟨h, _⟩ | ⟨g, cap, cur, h, _, _, hcap, _⟩
  · exact absurd h hne
  · subst h
    have hcp : Hid (n ≤ cap) := by simpa [Hid] using hcap
    clear hcap
    have hh := Lib.hid (Has.ofOwns ho)
    have hE : Hid (Ext w w1) := ((Ext.refl w).alloc _).grown hg (fun k hk => by simp [Value.ownBlock] at hk; omega)
    clear ho hg hnil hne
    go_wp2
    refine bodyPost_ret (v := .slice (some ⟨g, 0, none⟩) n cap) (by simp [results, Tryz.results121, go_sem]) rfl ?_
    have h3 := hh.out
    exact ⟨g, cap, rfl, h3.2.1, h3.1, hE.out, hcp.out⟩
theorem reads5 {w : World} {a : Option Addr} {n : Nat} {xs : List Int} (h : Reads w a n xs) (h0 : 0 < n) : ∃ b o, a = some ⟨b, o, none⟩ ∧ b < w.heap.size ∧ ∀ j, j < n → w.cell? ⟨b, o + j, none⟩ = some (.int .i64 (gi xs j)) := by
  rcases h.2 with h1 | h1
  · omega
  · exact h1
theorem htS_take (xs : List Int) (k : Nat) (h : k < xs.length) : htS (xs.take (k + 1)) = htS (xs.take k) + gi xs k := by
  rw [htS, List.take_add_one, List.foldl_append, show xs[k]? = some (gi xs k) by simp [gi, h]]
  rfl
theorem htS_bnd {xs : List Int} {B : Int} (hB : ∀ e, -B ≤ gi xs e ∧ gi xs e ≤ B) : ∀ k : Nat, k ≤ xs.length → -(B * k) ≤ htS (xs.take k) ∧ htS (xs.take k) ≤ B * k
  | 0, _ => by simp [htS]
  | k + 1, h => by
    have ih := htS_bnd hB k (by omega)
    have h1 := hB k
    rw [htS_take xs k (by omega), show ((k + 1 : Nat) : Int) = (k : Int) + 1 by simp, Int.mul_add, Int.mul_one]
    omega

set_option maxRecDepth 100000 in
set_option maxHeartbeats 800000 in
theorem l5Height_spec (n c : Nat) (a : Option Addr) (xs : List Int) (w : World) (hr : Reads w a n xs) (hn : n ≤ 1024) (hb : ∀ e, -1000000 ≤ gi xs e ∧ gi xs e ≤ 1000000) :
    Calls Tryz.prog 130 #[.slice a n c] w fun e w' => e = .returned (.int .i64 (htS xs)) ∧ w' = w := by
  have HR := Lib.hid hr
  have HL := Lib.hid hr.len
  have HS := Lib.hid (fun k hk => htS_take xs k hk)
  have HB := Lib.hid (fun k hk => htS_bnd hb k hk)
  have HG := Lib.hid hb
  have HE : Hid (htS (xs.take n) = htS xs) := by rw [Hid, List.take_of_length_le (by rw [hr.len]; exact Nat.le_refl _)]
  have H0 : Hid (Value.int .i64 0 = .int .i64 (htS (xs.take 0))) := by simp [Hid, htS]
  clear hr hb
  go_enter Tryz.func130, Tryz.ntmps130
  go_wp2
  go_loop [4, 3] (fun z s => ∃ k : Nat, k ≤ n ∧ z = .int .i64 k ∧ s = .int .i64 (htS (xs.take k))) (fun z _ => n - (intOf z).toNat)
  case atStart => exact ⟨0, by omega, rfl, H0.out⟩
  case round =>
    obtain ⟨k, hk, rfl, rfl⟩ := hrel
    by_cases hlt : k < n
    · obtain ⟨b, off, rfl, hbl, hc⟩ := reads5 HR.out (by omega)
      have hc1 := hc k hlt
      have hs := HS.out k (by rw [HL.out]; exact hlt)
      have hb1 := HB.out k (by rw [HL.out]; exact hk)
      have hb2 := HG.out k
      have hkI : (k : Int) ≤ 1024 := by omega
      have hltI : (k : Int) < (n : Int) := by omega
      have v1 : IntKind.i64.wrap (htS (xs.take k) + gi xs k) = htS (xs.take k) + gi xs k := IntWalk.i64_in _ ⟨by omega, by omega⟩
      have HQ : Hid (Value.int .i64 (htS (xs.take k) + gi xs k) = .int .i64 (htS (xs.take (k + 1)))) := by rw [Hid, hs]
      clear hc hs hb1 hb2
      generalize htS (xs.take k) = s0 at *
      go_wp2
      exact ⟨⟨k + 1, by omega, by simp, HQ.out⟩, by simp [intOf]; omega⟩
    · obtain rfl : n = k := by omega
      go_wp2
      go_ret
      exact ⟨ret_int HE.out, rfl⟩

set_option maxRecDepth 100000 in
set_option maxHeartbeats 800000 in
theorem heightOf_impl (n c : Nat) (a : Option Addr) (xs : List Int) (w : World) (hr : Reads w a n xs) (hn : n ≤ 1024) (hb : ∀ e, -1000000 ≤ gi xs e ∧ gi xs e ≤ 1000000) :
    Calls Tryz.prog 167 #[.slice a n c] w fun e w' => e = .returned (.int .i64 (htS xs)) ∧ w' = w := by
  have HR := Lib.hid hr
  have HL := Lib.hid hr.len
  have HS := Lib.hid (fun k hk => htS_take xs k hk)
  have HB := Lib.hid (fun k hk => htS_bnd hb k hk)
  have HG := Lib.hid hb
  have HE : Hid (htS (xs.take n) = htS xs) := by rw [Hid, List.take_of_length_le (by rw [hr.len]; exact Nat.le_refl _)]
  have H0 : Hid (Value.int .i64 0 = .int .i64 (htS (xs.take 0))) := by simp [Hid, htS]
  clear hr hb
  go_enter Tryz.func167, Tryz.ntmps167
  go_wp2
  go_loop [8, 3, 5] (fun z s _ => ∃ k : Nat, k ≤ n ∧ z = .int .i64 k ∧ s = .int .i64 (htS (xs.take k))) (fun z _ _ => n - (intOf z).toNat)
  case atStart => exact ⟨0, by omega, rfl, H0.out⟩
  case round =>
    obtain ⟨k, hk, rfl, rfl⟩ := hrel
    by_cases hlt : k < n
    · obtain ⟨b, off, rfl, hbl, hc⟩ := reads5 HR.out (by omega)
      have hc1 := hc k hlt
      have hs := HS.out k (by rw [HL.out]; exact hlt)
      have hb1 := HB.out k (by rw [HL.out]; exact hk)
      have hb2 := HG.out k
      have hkI : (k : Int) ≤ 1024 := by omega
      have hltI : (k : Int) < (n : Int) := by omega
      have v1 : IntKind.i64.wrap (htS (xs.take k) + gi xs k) = htS (xs.take k) + gi xs k := IntWalk.i64_in _ ⟨by omega, by omega⟩
      have HQ : Hid (Value.int .i64 (htS (xs.take k) + gi xs k) = .int .i64 (htS (xs.take (k + 1)))) := by rw [Hid, hs]
      clear hc hs hb1 hb2
      generalize htS (xs.take k) = s0 at *
      go_wp2
      exact ⟨⟨k + 1, by omega, by simp, HQ.out⟩, by simp [intOf]; omega⟩
    · obtain rfl : n = k := by omega
      go_wp2
      go_ret
      exact ⟨ret_int HE.out, rfl⟩

theorem allPos_yes {xs : List Int} (h : ∀ e, e < xs.length → 0 ≤ gi xs e) : allPos xs = true := by
  rw [allPos, List.all_eq_true]
  intro y hy
  obtain ⟨e, he, rfl⟩ := List.mem_iff_getElem.1 hy
  have := h e he
  rw [show gi xs e = xs[e] by simp [gi, he]] at this
  exact decide_eq_true this
theorem allPos_no {xs : List Int} {e : Nat} (he : e < xs.length) (h : gi xs e < 0) : allPos xs = false := by
  rw [show gi xs e = xs[e] by simp [gi, he]] at h
  rcases h1 : allPos xs with _ | _
  · rfl
  · rw [allPos, List.all_eq_true] at h1
    have := of_decide_eq_true (h1 _ (List.getElem_mem he)); omega
set_option maxRecDepth 100000 in
set_option maxHeartbeats 800000 in
theorem l5Positive_spec (n c : Nat) (a : Option Addr) (xs : List Int) (w : World) (hr : Reads w a n xs) (hn : n ≤ 1024) :
    Calls Tryz.prog 177 #[.slice a n c] w fun e w' => e = .returned (.bool (allPos xs)) ∧ w' = w := by
  have HR := Lib.hid hr
  have HL := Lib.hid hr.len
  have HY := Lib.hid (@allPos_yes xs)
  have HN : Hid (∀ e, e < xs.length → gi xs e < 0 → allPos xs = false) := fun e h1 h2 => allPos_no h1 h2
  clear hr
  go_enter Tryz.func177, Tryz.ntmps177
  go_wp2
  go_loop [3] (fun z => ∃ k : Nat, k ≤ n ∧ z = .int .i64 k ∧ Hid (∀ e, e < k → 0 ≤ gi xs e)) (fun z => n - (intOf z).toNat)
  case atStart => exact ⟨0, by omega, rfl, fun e h => by omega⟩
  case round =>
    obtain ⟨k, hk, rfl, hD⟩ := hrel
    by_cases hlt : k < n
    · obtain ⟨b, off, rfl, hbl, hc⟩ := reads5 HR.out (by omega)
      have hc1 := hc k hlt
      have hltI : (k : Int) < (n : Int) := by omega
      clear hc
      by_cases h0 : gi xs k < 0
      · have HF := Lib.hid (HN.out k (by rw [HL.out]; exact hlt) h0)
        go_wp2
        go_ret
        exact ⟨ret_bool HF.out.symm, rfl⟩
      · have HD2 : Hid (∀ e, e < k + 1 → 0 ≤ gi xs e) := fun e h => by
          by_cases e1 : e = k
          · subst e1; omega
          · exact hD.out e (by omega)
        clear hD
        go_wp2
        exact ⟨⟨k + 1, by omega, by simp, HD2⟩, by simp [intOf]; omega⟩
    · obtain rfl : n = k := by omega
      have HF := Lib.hid (HY.out (fun e h => hD.out e (by have := HL.out; omega)))
      go_wp2
      go_ret
      exact ⟨ret_bool HF.out.symm, rfl⟩

def negL (xs : List Int) : List Int := xs.map fun n => -n
theorem negL_length (xs : List Int) : (negL xs).length = xs.length := by simp [negL]
theorem gi_negL (xs : List Int) (k : Nat) : gi (negL xs) k = - gi xs k := by
  simp only [gi, negL, List.getD_eq_getElem?_getD, List.getElem?_map]
  cases xs[k]? <;> simp
/-- A list of which the first k numbers are those of another one. -/
def mixL (xs : List Int) (n k : Nat) : List Int := (List.range n).map fun i => if i < k then gi xs i else 0
theorem mixL_zero (xs : List Int) (n : Nat) : mixL xs n 0 = List.replicate n 0 := by
  apply List.ext_getElem
  · simp [mixL]
  · intro e h1 h2
    simp [mixL]
theorem mixL_len {xs : List Int} {n k : Nat} : (mixL xs n k).length = n := by simp [mixL]
theorem mixL_done {xs : List Int} {n : Nat} (h : xs.length = n) : mixL xs n n = xs := by
  apply List.ext_getElem
  · simp [mixL, h]
  · intro e h1 h2
    have : e < n := by simpa [mixL] using h1
    simp [mixL, this, gi, h2]
theorem mixL_step {xs : List Int} {n k : Nat} (hk : k < n) : (mixL xs n k).set k (gi xs k) = mixL xs n (k + 1) := by
  apply List.ext_getElem
  · simp [mixL]
  · intro e h1 h2
    rw [List.getElem_set]
    by_cases e1 : k = e
    · subst e1
      simp [mixL]
    · rw [if_neg e1]
      simp only [mixL, List.getElem_map, List.getElem_range]
      by_cases e2 : e < k
      · rw [if_pos e2, if_pos (by omega)]
      · rw [if_neg e2, if_neg (by omega)]

set_option maxRecDepth 100000 in
set_option maxHeartbeats 1600000 in
theorem l5Minus_spec (n c : Nat) (a : Option Addr) (xs : List Int) (w : World) (hr : Reads w a n xs) (hn : n ≤ 1024) (hb : ∀ e, -1000000 ≤ gi xs e ∧ gi xs e ≤ 1000000) :
    Calls Tryz.prog 75 #[.slice a n c] w fun e w' => ∃ b, e = .returned (.slice (some ⟨b, 0, none⟩) n n) ∧ w.heap.size ≤ b ∧ b < w'.heap.size ∧ Has w' b (negL xs) ∧ Ext w w' := by
  have HR := Lib.hid hr
  have HL : Hid ((negL xs).length = n) := by rw [Hid, negL_length]; exact hr.len
  have HG := Lib.hid hb
  have HST : Hid (∀ k, k < n → (mixL (negL xs) n k).set k (- gi xs k) = mixL (negL xs) n (k + 1)) := fun k hk => by rw [← gi_negL]; exact mixL_step hk
  have HD := Lib.hid (mixL_done HL.out)
  have HML : Hid (∀ k, k ≤ n → (mixL (negL xs) n k).length = n) := fun k hk => mixL_len
  have hmk := make_ints n (by omega)
  have H0 : Hid (Has (w.alloc (.cells (ints (List.replicate n 0)) 3)) w.heap.size (mixL (negL xs) n 0)) := by rw [mixL_zero]; exact Has.new w _
  have E0 : Hid (Ext w (w.alloc (.cells (ints (List.replicate n 0)) 3))) := (Ext.refl w).alloc _
  clear hr hb
  go_enter Tryz.func75, Tryz.ntmps75
  go_wp2
  clear hmk
  go_loopw [4] (fun z wr => ∃ k : Nat, k ≤ n ∧ z = .int .i64 k ∧ Hid (Has wr w.heap.size (mixL (negL xs) n k)) ∧ Hid (Ext w wr)) (fun z _ => n - (intOf z).toNat)
  case atStart => exact ⟨0, by omega, rfl, H0, E0⟩
  case round =>
    obtain ⟨k, hk, rfl, hH, hE⟩ := hrel
    by_cases hlt : k < n
    · obtain ⟨b, off, rfl, hbl, hc⟩ := reads5 HR.out (by omega)
      have hc1 := (hE.out.cells b (off + k) hbl).trans (hc k hlt)
      have lb := Nat.lt_of_lt_of_le hbl hE.out.le
      have c2 := hH.out.cell k (by rw [HML.out k hk]; exact hlt)
      have f2 := hH.out.free k
      have l2 := hH.out.lt
      have hb2 := HG.out k
      have v1 : IntKind.i64.wrap (0 - gi xs k) = - gi xs k := by rw [Int.zero_sub]; exact IntWalk.i64_in _ ⟨by omega, by omega⟩
      have v2 : IntKind.i64.wrap (- gi xs k) = - gi xs k := IntWalk.i64_in _ ⟨by omega, by omega⟩
      have HH2 : Hid (Has (wr.setCell ⟨w.heap.size, k, none⟩ (.int .i64 (- gi xs k))) w.heap.size (mixL (negL xs) n (k + 1))) := by rw [← HST.out k hlt]; exact hH.out.set k (by rw [HML.out k hk]; exact hlt) _
      have HE2 : Hid (Ext w (wr.setCell ⟨w.heap.size, k, none⟩ (.int .i64 (- gi xs k)))) := hE.out.setCell (p := ⟨w.heap.size, k, none⟩) (Nat.le_refl _) _
      have hltI : (k : Int) < (n : Int) := by omega
      clear hc hb2 hH hE
      generalize gi xs k = x at *
      go_wp2
      exact ⟨⟨k + 1, by omega, by simp, HH2, HE2⟩, by simp [intOf]; omega⟩
    · obtain rfl : n = k := by omega
      rw [HD.out] at hH
      go_wp2
      go_ret
      exact ⟨_, rfl, Nat.le_refl _, hH.out.lt, hH.out, hE.out⟩

set_option maxRecDepth 100000 in
set_option maxHeartbeats 1600000 in
theorem negated_impl (n c : Nat) (a : Option Addr) (xs : List Int) (w : World) (hr : Reads w a n xs) (hn : n ≤ 1024) (hb : ∀ e, -1000000 ≤ gi xs e ∧ gi xs e ≤ 1000000) :
    Calls Tryz.prog 78 #[.slice a n c] w fun e w' => ∃ b, e = .returned (.slice (some ⟨b, 0, none⟩) n n) ∧ w.heap.size ≤ b ∧ b < w'.heap.size ∧ Has w' b (negL xs) ∧ Ext w w' := by
  have HR := Lib.hid hr
  have HL : Hid ((negL xs).length = n) := by rw [Hid, negL_length]; exact hr.len
  have HG := Lib.hid hb
  have HST : Hid (∀ k, k < n → (mixL (negL xs) n k).set k (- gi xs k) = mixL (negL xs) n (k + 1)) := fun k hk => by rw [← gi_negL]; exact mixL_step hk
  have HD := Lib.hid (mixL_done HL.out)
  have HML : Hid (∀ k, k ≤ n → (mixL (negL xs) n k).length = n) := fun k hk => mixL_len
  have hmk := make_ints n (by omega)
  have H0 : Hid (Has (w.alloc (.cells (ints (List.replicate n 0)) 3)) w.heap.size (mixL (negL xs) n 0)) := by rw [mixL_zero]; exact Has.new w _
  have E0 : Hid (Ext w (w.alloc (.cells (ints (List.replicate n 0)) 3))) := (Ext.refl w).alloc _
  clear hr hb
  go_enter Tryz.func78, Tryz.ntmps78
  go_wp2
  clear hmk
  go_loopw [11, 4, 5] (fun z _ _ wr => ∃ k : Nat, k ≤ n ∧ z = .int .i64 k ∧ Hid (Has wr w.heap.size (mixL (negL xs) n k)) ∧ Hid (Ext w wr)) (fun z _ _ _ => n - (intOf z).toNat)
  case atStart => exact ⟨0, by omega, rfl, H0, E0⟩
  case round =>
    obtain ⟨k, hk, rfl, hH, hE⟩ := hrel
    by_cases hlt : k < n
    · obtain ⟨b, off, rfl, hbl, hc⟩ := reads5 HR.out (by omega)
      have hc1 := (hE.out.cells b (off + k) hbl).trans (hc k hlt)
      have lb := Nat.lt_of_lt_of_le hbl hE.out.le
      have c2 := hH.out.cell k (by rw [HML.out k hk]; exact hlt)
      have f2 := hH.out.free k
      have l2 := hH.out.lt
      have hb2 := HG.out k
      have v1 : IntKind.i64.wrap (0 - gi xs k) = - gi xs k := by rw [Int.zero_sub]; exact IntWalk.i64_in _ ⟨by omega, by omega⟩
      have v2 : IntKind.i64.wrap (- gi xs k) = - gi xs k := IntWalk.i64_in _ ⟨by omega, by omega⟩
      have HH2 : Hid (Has (wr.setCell ⟨w.heap.size, k, none⟩ (.int .i64 (- gi xs k))) w.heap.size (mixL (negL xs) n (k + 1))) := by rw [← HST.out k hlt]; exact hH.out.set k (by rw [HML.out k hk]; exact hlt) _
      have HE2 : Hid (Ext w (wr.setCell ⟨w.heap.size, k, none⟩ (.int .i64 (- gi xs k)))) := hE.out.setCell (p := ⟨w.heap.size, k, none⟩) (Nat.le_refl _) _
      have hltI : (k : Int) < (n : Int) := by omega
      clear hc hb2 hH hE
      generalize gi xs k = x at *
      go_wp2
      exact ⟨⟨k + 1, by omega, by simp, HH2, HE2⟩, by simp [intOf]; omega⟩
    · obtain rfl : n = k := by omega
      rw [HD.out] at hH
      go_wp2
      go_ret
      exact ⟨_, rfl, Nat.le_refl _, hH.out.lt, hH.out, hE.out⟩

def ptL (xs : List Int) (q : Int) (rs : List Int) : List Int := (List.range xs.length).map fun i => gi xs i + q * gi rs i
theorem ptL_length (xs : List Int) (q : Int) (rs : List Int) : (ptL xs q rs).length = xs.length := by simp [ptL]
theorem gi_ptL {xs rs : List Int} {q : Int} {k : Nat} (h : k < xs.length) : gi (ptL xs q rs) k = gi xs k + q * gi rs k := by simp [ptL, gi, h]
def ptP (xs : List Int) (q : Int) (rs : List Int) (k : Nat) : List Int := (List.range xs.length).map fun i => if i < k then gi xs i + q * gi rs i else gi xs i
theorem ptP_zero (xs : List Int) (q : Int) (rs : List Int) : ptP xs q rs 0 = xs := by
  apply List.ext_getElem
  · simp [ptP]
  · intro e h1 h2
    simp [ptP, gi, h2]
theorem ptP_len (xs : List Int) (q : Int) (rs : List Int) (k : Nat) : (ptP xs q rs k).length = xs.length := by simp [ptP]
theorem ptP_done (xs : List Int) (q : Int) (rs : List Int) : ptP xs q rs xs.length = ptL xs q rs := by
  apply List.ext_getElem
  · simp [ptP, ptL]
  · intro e h1 h2
    have : e < xs.length := by simpa [ptP] using h1
    simp [ptP, ptL, this]
theorem gi_ptP {xs rs : List Int} {q : Int} {k : Nat} (h : k < xs.length) : gi (ptP xs q rs k) k = gi xs k := by simp [ptP, gi, h]
theorem ptP_step {xs rs : List Int} {q : Int} {k : Nat} (h : k < xs.length) : (ptP xs q rs k).set k (gi xs k + q * gi rs k) = ptP xs q rs (k + 1) := by
  apply List.ext_getElem
  · simp [ptP]
  · intro e h1 h2
    rw [List.getElem_set]
    by_cases e1 : k = e
    · subst e1
      simp [ptP]
    · rw [if_neg e1]
      simp only [ptP, List.getElem_map, List.getElem_range]
      by_cases e2 : e < k
      · rw [if_pos e2, if_pos (by omega)]
      · rw [if_neg e2, if_neg (by omega)]

set_option maxRecDepth 100000 in
set_option maxHeartbeats 3200000 in
theorem l5Plus_spec (m c m' c' : Nat) (a a' : Option Addr) (xs rs : List Int) (q : Int) (w : World) (hx : Reads w a m xs) (hm0 : 0 < m) (hm : m ≤ 1024) (hr : Reads w a' m' rs) (hm' : m ≤ m') (hq : -1000000 ≤ q ∧ q ≤ 1000000) (hxb : ∀ e, -1000000 ≤ gi xs e ∧ gi xs e ≤ 1000000) (hrb : ∀ e, -1000 ≤ gi rs e ∧ gi rs e ≤ 1000) :
    Calls Tryz.prog 138 #[.slice a m c, .int .i64 q, .slice a' m' c'] w fun e w' => ∃ b c9, e = .returned (.slice (some ⟨b, 0, none⟩) m c9) ∧ w.heap.size ≤ b ∧ b < w'.heap.size ∧ Has w' b (ptL xs q rs) ∧ Ext w w' := by
  have HX := Lib.hid hx
  have HL := Lib.hid hx.len
  obtain ⟨ax, ox, rfl, hax, hxc⟩ := reads5 hx hm0
  obtain ⟨ar, orr, rfl, har, hrc⟩ := reads5 hr (by omega)
  have HRC := Lib.hid hrc
  have HXB := Lib.hid hxb
  have HRB := Lib.hid hrb
  have HP := Lib.hid (fun k => mul_bnd hq.1 hq.2 (hrb k).1 (hrb k).2)
  clear hx hr hxc hrc hxb hrb
  go_enter Tryz.func138, Tryz.ntmps138
  go_wp2_with fail
  refine (l1Ints_g (some ⟨ax, ox, none⟩) m c xs _ HX.out (by omega) (fun h => by cases h)).mono ?_
  rintro e w2 ⟨v, rfl, hG, hE⟩
  obtain ⟨ga, gc, rfl, hO⟩ := hG.shape
  obtain ⟨b, rfl, hb1, hb9, hh⟩ : ∃ b, ga = some ⟨b, 0, none⟩ ∧ w.heap.size ≤ b ∧ b < w2.heap.size ∧ Has w2 b xs := by
    rcases hO.2 with ⟨_, h⟩ | ⟨b, h1, h2, h3, h4⟩
    · omega
    · exact ⟨b, h1, h2, h3, h4⟩
  have hcb := hG.slc.1
  clear hG hO hb9
  have H0 : Hid (Has w2 b (ptP xs q rs 0)) := by rw [ptP_zero]; exact hh
  have E0 := Lib.hid hE
  clear hh hE hax
  go_wp2_with fail
  go_loopw [8] (fun z wr => ∃ k : Nat, k ≤ m ∧ z = .int .i64 k ∧ Hid (Has wr b (ptP xs q rs k)) ∧ Hid (Ext w wr)) (fun z _ => m - (intOf z).toNat)
  case atStart => exact ⟨0, by omega, rfl, H0, E0⟩
  case round =>
    clear H0 E0
    obtain ⟨k, hk, rfl, hH, hE⟩ := hrel
    by_cases hlt : k < m
    · have hkl : k < xs.length := by rw [HL.out]; exact hlt
      have c1 := hH.out.cell k (by rw [ptP_len]; exact hkl)
      rw [gi_ptP hkl] at c1
      have f1 := hH.out.free k
      have lb := hH.out.lt
      have cR := (hE.out.cells ar (orr + k) har).trans (HRC.out k (by omega))
      have lR := Nat.lt_of_lt_of_le har hE.out.le
      have nR : ar ≠ b := by omega
      have h1 := HXB.out k
      have h2 := HP.out k
      have v1 : IntKind.i64.wrap (q * gi rs k) = q * gi rs k := IntWalk.i64_in _ ⟨by omega, by omega⟩
      have v2 : IntKind.i64.wrap (gi xs k + q * gi rs k) = gi xs k + q * gi rs k := IntWalk.i64_in _ ⟨by omega, by omega⟩
      have hltI : (k : Int) < (m : Int) := by omega
      have hltR : (k : Int) < (m' : Int) := by omega
      have HH2 : Hid (Has (wr.drew.setCell ⟨b, k, none⟩ (.int .i64 (gi xs k + q * gi rs k))) b (ptP xs q rs (k + 1))) := by rw [← ptP_step hkl]; exact (hH.out.ext (Ext.refl _).drew).set k (by rw [ptP_len]; exact hkl) _
      have HE2 : Hid (Ext w (wr.drew.setCell ⟨b, k, none⟩ (.int .i64 (gi xs k + q * gi rs k)))) := (hE.out.trans (Ext.refl _).drew).setCell (p := ⟨b, k, none⟩) hb1 _
      clear h1 h2 hH hE hkl
      go_wp2_with fail
      refine wp_region_held_drew (S := (fun w' => wr.grownBy w' (some b) ∧ ∀ B o, B ≠ b → B < wr.heap.size → w'.cell? ⟨B, o, none⟩ = wr.cell? ⟨B, o, none⟩)) (by kernel_rfl) keptC_drew (fun hHeld => ?_)
      refine wpAnyH_take (i := 0) (v := ?v1) rfl (by kernel_rfl) (by kernel_rfl) (by kernel_rfl) (fun _ _ _ h => h) (Or.inl ⟨by rfl, ?hy1⟩) hHeld ?rest1
      case hy1 => (intro wz hSw; (try dsimp only at hSw); go_simp; (try with_reducible rfl))
      (try simp only [Act.put, List.getElem_toArray, List.getElem_cons_succ, List.getElem_cons_zero]); (try simp only [List.setIfInBounds_toArray]); (try simp only [List.set_cons_succ]); (try simp only [List.set_cons_zero])
      refine wpAnyH_take (i := 1) (v := ?v2) rfl (by kernel_rfl) (by kernel_rfl) (by kernel_rfl) (fun _ _ _ h => h) (Or.inl ⟨by rfl, ?hy2⟩) hHeld ?rest2
      case hy2 => (intro wz hSw; (try dsimp only at hSw); go_simp; (try with_reducible rfl))
      (try simp only [Act.put, List.getElem_toArray, List.getElem_cons_succ, List.getElem_cons_zero]); (try simp only [List.setIfInBounds_toArray]); (try simp only [List.set_cons_succ]); (try simp only [List.set_cons_zero])
      refine wpAnyH_take (i := 2) (v := ?v3) rfl (by kernel_rfl) (by kernel_rfl) (by kernel_rfl) (fun _ _ _ h => h) (Or.inl ⟨by rfl, ?hy3⟩) hHeld ?rest3
      case hy3 => (intro wz hSw; (try dsimp only at hSw); go_simp; (try with_reducible rfl))
      (try simp only [Act.put, List.getElem_toArray, List.getElem_cons_succ, List.getElem_cons_zero]); (try simp only [List.setIfInBounds_toArray]); (try simp only [List.set_cons_succ]); (try simp only [List.set_cons_zero])
      refine wpAnyH_take (i := 3) (v := ?v4) rfl (by kernel_rfl) (by kernel_rfl) (by kernel_rfl) (fun _ _ _ h => h) (Or.inl ⟨by rfl, ?hy4⟩) hHeld ?rest4
      case hy4 => (intro wz hSw; (try dsimp only at hSw); go_simp; (try with_reducible rfl))
      (try simp only [Act.put, List.getElem_toArray, List.getElem_cons_succ, List.getElem_cons_zero]); (try simp only [List.setIfInBounds_toArray]); (try simp only [List.set_cons_succ]); (try simp only [List.set_cons_zero])
      refine wpAnyH_take (i := 4) (v := ?v5) rfl (by kernel_rfl) (by kernel_rfl) (by kernel_rfl) (fun _ _ _ h => h) (Or.inl ⟨by rfl, ?hy5⟩) hHeld ?rest5
      case hy5 => (intro wz hSw; (try dsimp only at hSw); go_simp; (try with_reducible rfl))
      (try simp only [Act.put, List.getElem_toArray, List.getElem_cons_succ, List.getElem_cons_zero]); (try simp only [List.setIfInBounds_toArray]); (try simp only [List.set_cons_succ]); (try simp only [List.set_cons_zero])
      refine wpAnyH_take (i := 6) (v := ?v6) rfl (by kernel_rfl) (by kernel_rfl) (by kernel_rfl) (fun _ _ _ h => h) (Or.inl ⟨by rfl, ?hy6⟩) hHeld ?rest6
      case hy6 => (intro wz hSw; (try dsimp only at hSw); go_simp; (try with_reducible rfl))
      (try simp only [Act.put, List.getElem_toArray, List.getElem_cons_succ, List.getElem_cons_zero]); (try simp only [List.setIfInBounds_toArray]); (try simp only [List.set_cons_succ]); (try simp only [List.set_cons_zero])
      refine wpAnyH_take (i := 7) (v := ?v7) rfl (by kernel_rfl) (by kernel_rfl) (by kernel_rfl) (fun _ _ _ h => h) (Or.inl ⟨by rfl, ?hy7⟩) hHeld ?rest7
      case hy7 => (intro wz hSw; (try dsimp only at hSw); go_simp; (try with_reducible rfl))
      (try simp only [Act.put, List.getElem_toArray, List.getElem_cons_succ, List.getElem_cons_zero]); (try simp only [List.setIfInBounds_toArray]); (try simp only [List.set_cons_succ]); (try simp only [List.set_cons_zero])
      refine wpAnyH_take (i := 8) (v := ?v8) rfl (by kernel_rfl) (by kernel_rfl) (by kernel_rfl) (fun _ _ _ h => h) (Or.inl ⟨by rfl, ?hy8⟩) hHeld ?rest8
      case hy8 => (intro wz hSw; (try dsimp only at hSw); go_simp; (try with_reducible rfl))
      (try simp only [Act.put, List.getElem_toArray, List.getElem_cons_succ, List.getElem_cons_zero]); (try simp only [List.setIfInBounds_toArray]); (try simp only [List.set_cons_succ]); (try simp only [List.set_cons_zero])
      refine wpAnyH_take (i := 9) (v := ?v9) rfl (by kernel_rfl) (by kernel_rfl) (by kernel_rfl) (fun _ _ _ h => h) (Or.inl ⟨by rfl, ?hy9⟩) hHeld ?rest9
      case hy9 => (intro wz hSw; (try dsimp only at hSw); go_simp; (try with_reducible rfl))
      (try simp only [Act.put, List.getElem_toArray, List.getElem_cons_succ, List.getElem_cons_zero]); (try simp only [List.setIfInBounds_toArray]); (try simp only [List.set_cons_succ]); (try simp only [List.set_cons_zero])
      refine wpAnyH_take (i := 10) (v := ?v10) rfl (by kernel_rfl) (by kernel_rfl) (by kernel_rfl) (fun _ _ _ h => h) (Or.inl ⟨by rfl, ?hy10⟩) hHeld ?rest10
      case hy10 => (intro wz hSw; (try dsimp only at hSw); go_simp; (try with_reducible rfl))
      (try simp only [Act.put, List.getElem_toArray, List.getElem_cons_succ, List.getElem_cons_zero]); (try simp only [List.setIfInBounds_toArray]); (try simp only [List.set_cons_succ]); (try simp only [List.set_cons_zero])
      refine wpAnyH_take (i := 11) (v := ?v11) rfl (by kernel_rfl) (by kernel_rfl) (by kernel_rfl) (fun _ _ _ h => h) (Or.inl ⟨by rfl, ?hy11⟩) hHeld ?rest11
      case hy11 => (intro wz hSw; (try dsimp only at hSw); go_simp; (try with_reducible rfl))
      (try simp only [Act.put, List.getElem_toArray, List.getElem_cons_succ, List.getElem_cons_zero]); (try simp only [List.setIfInBounds_toArray]); (try simp only [List.set_cons_succ]); (try simp only [List.set_cons_zero])
      refine wpAnyH_ready (rs := [5]) (by kernel_rfl) (by simp) ?_
      refine AllReadyH.cons rfl (fun K' hK => ?_) AllReadyH.nil
      go_simp
      refine hK.out _ _ hHeld (fun hHeld => ?_)
      clear hK
      refine wpAnyH_take (i := 12) (v := ?v12) rfl (by kernel_rfl) (by kernel_rfl) (by kernel_rfl) (fun _ _ _ h => h) (Or.inl ⟨by rfl, ?hy12⟩) hHeld ?rest12
      case hy12 => (intro wz hSw; (try dsimp only at hSw); go_simp; (try with_reducible rfl))
      (try simp only [Act.put, List.getElem_toArray, List.getElem_cons_succ, List.getElem_cons_zero]); (try simp only [List.setIfInBounds_toArray]); (try simp only [List.set_cons_succ]); (try simp only [List.set_cons_zero])
      refine wpAnyH_take (i := 13) (v := ?v13) rfl (by kernel_rfl) (by kernel_rfl) (by kernel_rfl) (fun _ _ _ h => h) (Or.inl ⟨by rfl, ?hy13⟩) hHeld ?rest13
      case hy13 => (intro wz hSw; (try dsimp only at hSw); go_simp; (try with_reducible rfl))
      (try simp only [Act.put, List.getElem_toArray, List.getElem_cons_succ, List.getElem_cons_zero]); (try simp only [List.setIfInBounds_toArray]); (try simp only [List.set_cons_succ]); (try simp only [List.set_cons_zero])
      refine wpAnyH_ready (rs := [14]) (by kernel_rfl) (by simp) ?_
      refine AllReadyH.cons rfl (fun K' hK => ?_) AllReadyH.nil
      go_simp
      refine hK.out _ _ (keptC_set hHeld _ _) (fun hHeld => ?_)
      refine wpAnyH_done (by kernel_rfl) ?_ _
      clear hHeld hK
      go_wp2
      exact ⟨⟨k + 1, by omega, by simp, HH2, HE2⟩, by simp [intOf]; omega⟩
    · obtain rfl : m = k := by omega
      have HH2 : Hid (Has wr b (ptL xs q rs)) := by rw [← ptP_done, HL.out]; exact hH
      go_wp2
      go_ret
      exact ⟨_, _, rfl, hb1, HH2.out.lt, HH2.out, hE.out⟩

set_option maxRecDepth 100000 in
set_option maxHeartbeats 3200000 in
theorem plusTimes_impl (m c m' c' : Nat) (a a' : Option Addr) (xs rs : List Int) (q : Int) (w : World) (hx : Reads w a m xs) (hm0 : 0 < m) (hm : m ≤ 1024) (hr : Reads w a' m' rs) (hm' : m ≤ m') (hq : -1000000 ≤ q ∧ q ≤ 1000000) (hxb : ∀ e, -1000000 ≤ gi xs e ∧ gi xs e ≤ 1000000) (hrb : ∀ e, -1000 ≤ gi rs e ∧ gi rs e ≤ 1000) :
    Calls Tryz.prog 132 #[.slice a m c, .int .i64 q, .slice a' m' c'] w fun e w' => ∃ b c9, e = .returned (.slice (some ⟨b, 0, none⟩) m c9) ∧ w.heap.size ≤ b ∧ b < w'.heap.size ∧ Has w' b (ptL xs q rs) ∧ Ext w w' := by
  have HX := Lib.hid hx
  have HL := Lib.hid hx.len
  obtain ⟨ax, ox, rfl, hax, hxc⟩ := reads5 hx hm0
  obtain ⟨ar, orr, rfl, har, hrc⟩ := reads5 hr (by omega)
  have HRC := Lib.hid hrc
  have HXB := Lib.hid hxb
  have HRB := Lib.hid hrb
  have HP := Lib.hid (fun k => mul_bnd hq.1 hq.2 (hrb k).1 (hrb k).2)
  clear hx hr hxc hrc hxb hrb
  go_enter Tryz.func132, Tryz.ntmps132
  go_wp2_with fail
  refine (clone5 ⟨ax, ox, none⟩ m c xs _ HX.out (by omega)).mono ?_
  rintro e w2 ⟨b, cb, rfl, hb1, hh, hE, hcb⟩
  have H0 : Hid (Has w2 b (ptP xs q rs 0)) := by rw [ptP_zero]; exact hh
  have E0 := Lib.hid hE
  clear hh hE hax
  go_wp2_with fail
  go_loopw [13, 8] (fun z _ wr => ∃ k : Nat, k ≤ m ∧ z = .int .i64 k ∧ Hid (Has wr b (ptP xs q rs k)) ∧ Hid (Ext w wr)) (fun z _ _ => m - (intOf z).toNat)
  case atStart => exact ⟨0, by omega, rfl, H0, E0⟩
  case round =>
    clear H0 E0
    obtain ⟨k, hk, rfl, hH, hE⟩ := hrel
    by_cases hlt : k < m
    · have hkl : k < xs.length := by rw [HL.out]; exact hlt
      have c1 := hH.out.cell k (by rw [ptP_len]; exact hkl)
      rw [gi_ptP hkl] at c1
      have f1 := hH.out.free k
      have lb := hH.out.lt
      have cR := (hE.out.cells ar (orr + k) har).trans (HRC.out k (by omega))
      have lR := Nat.lt_of_lt_of_le har hE.out.le
      have nR : ar ≠ b := by omega
      have h1 := HXB.out k
      have h2 := HP.out k
      have v1 : IntKind.i64.wrap (q * gi rs k) = q * gi rs k := IntWalk.i64_in _ ⟨by omega, by omega⟩
      have v2 : IntKind.i64.wrap (gi xs k + q * gi rs k) = gi xs k + q * gi rs k := IntWalk.i64_in _ ⟨by omega, by omega⟩
      have hltI : (k : Int) < (m : Int) := by omega
      have hltR : (k : Int) < (m' : Int) := by omega
      have HH2 : Hid (Has (wr.drew.setCell ⟨b, k, none⟩ (.int .i64 (gi xs k + q * gi rs k))) b (ptP xs q rs (k + 1))) := by rw [← ptP_step hkl]; exact (hH.out.ext (Ext.refl _).drew).set k (by rw [ptP_len]; exact hkl) _
      have HE2 : Hid (Ext w (wr.drew.setCell ⟨b, k, none⟩ (.int .i64 (gi xs k + q * gi rs k)))) := (hE.out.trans (Ext.refl _).drew).setCell (p := ⟨b, k, none⟩) hb1 _
      clear h1 h2 hH hE hkl
      go_wp2_with fail
      refine wp_region_held_drew (S := (fun w' => wr.grownBy w' (some b) ∧ ∀ B o, B ≠ b → B < wr.heap.size → w'.cell? ⟨B, o, none⟩ = wr.cell? ⟨B, o, none⟩)) (by kernel_rfl) keptC_drew (fun hHeld => ?_)
      refine wpAnyH_take (i := 0) (v := ?v14) rfl (by kernel_rfl) (by kernel_rfl) (by kernel_rfl) (fun _ _ _ h => h) (Or.inl ⟨by rfl, ?hy14⟩) hHeld ?rest14
      case hy14 => (intro wz hSw; (try dsimp only at hSw); go_simp; (try with_reducible rfl))
      (try simp only [Act.put, List.getElem_toArray, List.getElem_cons_succ, List.getElem_cons_zero]); (try simp only [List.setIfInBounds_toArray]); (try simp only [List.set_cons_succ]); (try simp only [List.set_cons_zero])
      refine wpAnyH_take (i := 1) (v := ?v15) rfl (by kernel_rfl) (by kernel_rfl) (by kernel_rfl) (fun _ _ _ h => h) (Or.inl ⟨by rfl, ?hy15⟩) hHeld ?rest15
      case hy15 => (intro wz hSw; (try dsimp only at hSw); go_simp; (try with_reducible rfl))
      (try simp only [Act.put, List.getElem_toArray, List.getElem_cons_succ, List.getElem_cons_zero]); (try simp only [List.setIfInBounds_toArray]); (try simp only [List.set_cons_succ]); (try simp only [List.set_cons_zero])
      refine wpAnyH_take (i := 2) (v := ?v16) rfl (by kernel_rfl) (by kernel_rfl) (by kernel_rfl) (fun _ _ _ h => h) (Or.inl ⟨by rfl, ?hy16⟩) hHeld ?rest16
      case hy16 => (intro wz hSw; (try dsimp only at hSw); go_simp; (try with_reducible rfl))
      (try simp only [Act.put, List.getElem_toArray, List.getElem_cons_succ, List.getElem_cons_zero]); (try simp only [List.setIfInBounds_toArray]); (try simp only [List.set_cons_succ]); (try simp only [List.set_cons_zero])
      refine wpAnyH_take (i := 4) (v := ?v17) rfl (by kernel_rfl) (by kernel_rfl) (by kernel_rfl) (fun _ _ _ h => h) (Or.inl ⟨by rfl, ?hy17⟩) hHeld ?rest17
      case hy17 => (intro wz hSw; (try dsimp only at hSw); go_simp; (try with_reducible rfl))
      (try simp only [Act.put, List.getElem_toArray, List.getElem_cons_succ, List.getElem_cons_zero]); (try simp only [List.setIfInBounds_toArray]); (try simp only [List.set_cons_succ]); (try simp only [List.set_cons_zero])
      refine wpAnyH_take (i := 5) (v := ?v18) rfl (by kernel_rfl) (by kernel_rfl) (by kernel_rfl) (fun _ _ _ h => h) (Or.inl ⟨by rfl, ?hy18⟩) hHeld ?rest18
      case hy18 => (intro wz hSw; (try dsimp only at hSw); go_simp; (try with_reducible rfl))
      (try simp only [Act.put, List.getElem_toArray, List.getElem_cons_succ, List.getElem_cons_zero]); (try simp only [List.setIfInBounds_toArray]); (try simp only [List.set_cons_succ]); (try simp only [List.set_cons_zero])
      refine wpAnyH_take (i := 6) (v := ?v19) rfl (by kernel_rfl) (by kernel_rfl) (by kernel_rfl) (fun _ _ _ h => h) (Or.inl ⟨by rfl, ?hy19⟩) hHeld ?rest19
      case hy19 => (intro wz hSw; (try dsimp only at hSw); go_simp; (try with_reducible rfl))
      (try simp only [Act.put, List.getElem_toArray, List.getElem_cons_succ, List.getElem_cons_zero]); (try simp only [List.setIfInBounds_toArray]); (try simp only [List.set_cons_succ]); (try simp only [List.set_cons_zero])
      refine wpAnyH_take (i := 7) (v := ?v20) rfl (by kernel_rfl) (by kernel_rfl) (by kernel_rfl) (fun _ _ _ h => h) (Or.inl ⟨by rfl, ?hy20⟩) hHeld ?rest20
      case hy20 => (intro wz hSw; (try dsimp only at hSw); go_simp; (try with_reducible rfl))
      (try simp only [Act.put, List.getElem_toArray, List.getElem_cons_succ, List.getElem_cons_zero]); (try simp only [List.setIfInBounds_toArray]); (try simp only [List.set_cons_succ]); (try simp only [List.set_cons_zero])
      refine wpAnyH_take (i := 8) (v := ?v21) rfl (by kernel_rfl) (by kernel_rfl) (by kernel_rfl) (fun _ _ _ h => h) (Or.inl ⟨by rfl, ?hy21⟩) hHeld ?rest21
      case hy21 => (intro wz hSw; (try dsimp only at hSw); go_simp; (try with_reducible rfl))
      (try simp only [Act.put, List.getElem_toArray, List.getElem_cons_succ, List.getElem_cons_zero]); (try simp only [List.setIfInBounds_toArray]); (try simp only [List.set_cons_succ]); (try simp only [List.set_cons_zero])
      refine wpAnyH_take (i := 9) (v := ?v22) rfl (by kernel_rfl) (by kernel_rfl) (by kernel_rfl) (fun _ _ _ h => h) (Or.inl ⟨by rfl, ?hy22⟩) hHeld ?rest22
      case hy22 => (intro wz hSw; (try dsimp only at hSw); go_simp; (try with_reducible rfl))
      (try simp only [Act.put, List.getElem_toArray, List.getElem_cons_succ, List.getElem_cons_zero]); (try simp only [List.setIfInBounds_toArray]); (try simp only [List.set_cons_succ]); (try simp only [List.set_cons_zero])
      refine wpAnyH_ready (rs := [3]) (by kernel_rfl) (by simp) ?_
      refine AllReadyH.cons rfl (fun K' hK => ?_) AllReadyH.nil
      go_simp
      refine hK.out _ _ hHeld (fun hHeld => ?_)
      clear hK
      refine wpAnyH_take (i := 10) (v := ?v23) rfl (by kernel_rfl) (by kernel_rfl) (by kernel_rfl) (fun _ _ _ h => h) (Or.inl ⟨by rfl, ?hy23⟩) hHeld ?rest23
      case hy23 => (intro wz hSw; (try dsimp only at hSw); go_simp; (try with_reducible rfl))
      (try simp only [Act.put, List.getElem_toArray, List.getElem_cons_succ, List.getElem_cons_zero]); (try simp only [List.setIfInBounds_toArray]); (try simp only [List.set_cons_succ]); (try simp only [List.set_cons_zero])
      refine wpAnyH_take (i := 11) (v := ?v24) rfl (by kernel_rfl) (by kernel_rfl) (by kernel_rfl) (fun _ _ _ h => h) (Or.inl ⟨by rfl, ?hy24⟩) hHeld ?rest24
      case hy24 => (intro wz hSw; (try dsimp only at hSw); go_simp; (try with_reducible rfl))
      (try simp only [Act.put, List.getElem_toArray, List.getElem_cons_succ, List.getElem_cons_zero]); (try simp only [List.setIfInBounds_toArray]); (try simp only [List.set_cons_succ]); (try simp only [List.set_cons_zero])
      refine wpAnyH_ready (rs := [12]) (by kernel_rfl) (by simp) ?_
      refine AllReadyH.cons rfl (fun K' hK => ?_) AllReadyH.nil
      go_simp
      refine hK.out _ _ (keptC_set hHeld _ _) (fun hHeld => ?_)
      refine wpAnyH_done (by kernel_rfl) ?_ _
      clear hHeld hK
      go_wp2
      exact ⟨⟨k + 1, by omega, by simp, HH2, HE2⟩, by simp [intOf]; omega⟩
    · obtain rfl : m = k := by omega
      have HH2 : Hid (Has wr b (ptL xs q rs)) := by rw [← ptP_done, HL.out]; exact hH
      go_wp2
      go_ret
      exact ⟨_, _, rfl, hb1, HH2.out.lt, HH2.out, hE.out⟩
end Go.Proofs.YtlnpaplbcocmkaaGreat
