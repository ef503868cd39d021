/-
  How many roots follow on one another, in both texts.
-/
import Derived.Test.YtinoaldfdcddiaaGreatPc5
namespace Go.Proofs.YtinoaldfdcddiaaGreat
open Go.ChangeShapes Go.WideShapes Go.ChangeAt Go.RowKit
set_option linter.unusedVariables false
set_option linter.unusedSimpArgs false

/-- How many of the elements behind x, in the direction of r, are roots. -/
def alM (L : List (List Int)) (x r : List Int) : Nat := (List.range 14).findIdx (fun n => !irB L (ptL x (((n + 1 : Nat)) : Int) r))
theorem alM_eq {L : List (List Int)} {x r : List Int} {n : Nat} (hn : n < 14) (h1 : ∀ m, m < n → irB L (ptL x (((m + 1 : Nat)) : Int) r) = true) (h2 : irB L (ptL x (((n + 1 : Nat)) : Int) r) = false) : alM L x r = n := by
  rw [alM, List.findIdx_eq (by simpa using hn)]
  constructor
  · simp only [List.getElem_range, h2, Bool.not_false]
  · intro j hj
    simp only [List.getElem_range, h1 j hj, Bool.not_true]
theorem ptL_small {x r : List Int} {q : Int} (hq : 0 ≤ q ∧ q ≤ 13) (hx : ∀ e, -6 ≤ gi x e ∧ gi x e ≤ 6) (hr : ∀ e, -6 ≤ gi r e ∧ gi r e ≤ 6) : ∀ e, -84 ≤ gi (ptL x q r) e ∧ gi (ptL x q r) e ≤ 84 := by
  intro e
  by_cases h : e < x.length
  · rw [gi_ptL h]
    have h1 := mul_bnd (x := q) (y := gi r e) (A := 13) (B := 6) (by omega) hq.2 (hr e).1 (hr e).2
    have h2 := hx e
    omega
  · have : gi (ptL x q r) e = 0 := by
      have h3 : (ptL x q r).length ≤ e := by rw [ptL_length]; omega
      simp [gi, h3]
    rw [this]; omega
/-- A string of roots is short. -/
theorem run_short {xs ls x r : List Int} {K n : Nat} (hok : RootsOk xs ls K) (hx : irB (posR xs K) x = true) (hr : irB (posR xs K) r = true) (h : irB (posR xs K) (ptL x (((n + 1 : Nat)) : Int) r) = true) : n + 1 ≤ 12 := by
  obtain ⟨x1, x2, _, _⟩ := root_all hok hx
  obtain ⟨_, _, _, e, he, hne⟩ := root_all hok hr
  obtain ⟨_, y2, _, _⟩ := root_all hok h
  have h1 := y2 e
  rw [gi_ptL (by omega)] at h1
  have h2 := x2 e
  have hn0 : (0 : Int) ≤ ((n + 1 : Nat) : Int) := by omega
  obtain ⟨g, hg⟩ : ∃ g, gi r e = g := ⟨_, rfl⟩
  rw [hg] at h1 hne
  by_cases hp : 0 ≤ g
  · have := Int.mul_le_mul_of_nonneg_left (show (1 : Int) ≤ g by omega) hn0
    omega
  · have := Int.mul_le_mul_of_nonneg_left (show g ≤ (-1 : Int) by omega) hn0
    omega
theorem irB_neg (L : List (List Int)) (x : List Int) : irB L (negL x) = irB L x := by
  have h : negL (negL x) = x := by
    apply List.ext_getElem
    · simp [negL]
    · intro i h1 h2
      simp [negL]
  rw [irB, irB, h, Bool.or_comm]

set_option maxRecDepth 100000 in
set_option maxHeartbeats 3200000 in
theorem l5Run_spec (g c m cm m' c' : Nat) (a a' : Option Addr) (L : List (List Int)) (x r : List Int) (w : World) (hR : RdR w g L) (hmm : L.length ≤ 1024) (hL : ∀ r, r ∈ L → ∀ e, 0 ≤ gi r e ∧ gi r e ≤ 6) (hrl : ∀ i, i < L.length → (row L i).length ≤ 1024) (hx : Reads w a m x) (hm0 : 0 < m) (hm : m ≤ 1024) (hr : Reads w a' m' r) (hm' : m ≤ m') (hxb : ∀ e, -6 ≤ gi x e ∧ gi x e ≤ 6) (hrb : ∀ e, -6 ≤ gi r e ∧ gi r e ≤ 6) (hsh : ∀ n : Nat, irB L (ptL x (((n + 1 : Nat)) : Int) r) = true → n + 1 ≤ 12) :
    Calls Tryz.prog 55 #[.slice (some ⟨g, 0, none⟩) L.length c, .slice a m cm, .slice a' m' c'] w fun e w' => e = .returned (.int .i64 (alM L x r)) ∧ Ext w w' := by
  have HPT : Hid (∀ w1 (n : Nat), Ext w w1 → n ≤ 12 → Calls Tryz.prog 51 #[.slice a m cm, .int .i64 ((n + 1 : Nat) : Int), .slice a' m' c'] w1 fun e w' => ∃ b c9, e = .returned (.slice (some ⟨b, 0, none⟩) m c9) ∧ w1.heap.size ≤ b ∧ b < w'.heap.size ∧ Has w' b (ptL x ((n + 1 : Nat) : Int) r) ∧ Ext w1 w') := fun w1 n h hn => l5Plus_spec m cm m' c' a a' x r ((n + 1 : Nat) : Int) w1 (hx.ext h) hm0 hm (hr.ext h) hm' (by omega) (fun e => by have := hxb e; omega) (fun e => by have := hrb e; omega)
  have HIR : Hid (∀ w1 (n : Nat) b c9, Ext w w1 → n ≤ 12 → Has w1 b (ptL x ((n + 1 : Nat) : Int) r) → Calls Tryz.prog 43 #[.slice (some ⟨g, 0, none⟩) L.length c, .slice (some ⟨b, 0, none⟩) m c9] w1 fun e w' => e = .returned (.bool (irB L (ptL x ((n + 1 : Nat) : Int) r))) ∧ Ext w1 w') := fun w1 n b c9 h hn hb => by
    have hs := ptL_small (x := x) (r := r) (q := ((n + 1 : Nat) : Int)) (by omega) hxb hrb
    exact l5IsRoot_spec g c m c9 _ L _ w1 (hR.ext h) hmm hrl (hb.reads (by rw [ptL_length]; exact hx.len)) hm (fun e => by have := hs e; omega)
  have HSH := Lib.hid hsh
  have HAL : Hid (∀ n : Nat, n < 14 → (∀ m, m < n → irB L (ptL x (((m + 1 : Nat)) : Int) r) = true) → irB L (ptL x (((n + 1 : Nat)) : Int) r) = false → alM L x r = n) := fun n a b c => alM_eq a b c
  obtain ⟨F, hF⟩ : ∃ F : Nat → Bool, ∀ n : Nat, irB L (ptL x ((n + 1 : Nat) : Int) r) = F n := ⟨_, fun _ => rfl⟩
  obtain ⟨A, hA⟩ : ∃ A, alM L x r = A := ⟨_, rfl⟩
  obtain ⟨P, hP⟩ : ∃ P : Nat → List Int, ∀ n : Nat, ptL x ((n + 1 : Nat) : Int) r = P n := ⟨_, fun _ => rfl⟩
  simp only [Hid, hF, hA] at HIR HSH HAL
  simp only [Hid, hP] at HPT HIR
  rw [hA]
  have HIR := Lib.hid HIR
  have HSH := Lib.hid HSH
  have HAL := Lib.hid HAL
  have HPT := Lib.hid HPT
  clear hR hL hrl hx hr hxb hrb hsh hF hA hP
  go_enter Tryz.func55, Tryz.ntmps55
  go_wp2
  go_loopw [7] (fun z wr => ∃ n : Nat, n ≤ 12 ∧ z = .int .i64 n ∧ Hid (∀ m, m < n → F m = true) ∧ Hid (Ext w wr)) (fun z _ => 13 - (intOf z).toNat)
  case atStart => exact ⟨0, by omega, rfl, fun _ h => absurd h (Nat.not_lt_zero _), Ext.refl w⟩
  case round =>
    obtain ⟨n, hn, rfl, hH, hE⟩ := hrel
    have v1 : IntKind.i64.wrap ((n : Int) + 1) = ((n + 1 : Nat) : Int) := by rw [IntWalk.i64_in _ ⟨by omega, by omega⟩]; omega
    go_wp2_with fail
    refine (HPT.out _ n hE.out hn).mono ?_
    rintro e w2 ⟨b, c9, rfl, hb1, hb2, hh, h2⟩
    have HE2 := Lib.hid (hE.out.trans h2)
    have HH := Lib.hid hh
    clear hh h2
    rcases hv : F n with _ | _
    · have HN : Hid (A = n) := HAL.out n (by omega) hH.out hv
      go_wp2_with fail
      refine (HIR.out _ n b c9 HE2.out hn HH.out).mono ?_
      rw [hv]
      rintro e w3 ⟨rfl, h3⟩
      go_wp2
      go_ret
      exact ⟨ret_int (by rw [HN.out]), HE2.out.trans h3⟩
    · have hn2 := HSH.out n hv
      have HH2 : Hid (∀ m, m < n + 1 → F m = true) := fun m hm => by
        by_cases e : m = n
        · rw [e]; exact hv
        · exact hH.out m (by omega)
      go_wp2_with fail
      refine (HIR.out _ n b c9 HE2.out hn HH.out).mono ?_
      rw [hv]
      rintro e w3 ⟨rfl, h3⟩
      have HE3 := Lib.hid (HE2.out.trans h3)
      clear h3
      go_wp2
      exact ⟨⟨n + 1, by omega, rfl, HH2, HE3⟩, by simp [intOf]; omega⟩

set_option maxRecDepth 100000 in
set_option maxHeartbeats 3200000 in
theorem along_impl (S g c m cm m' c' : Nat) (pB : Value) (a a' : Option Addr) (L : List (List Int)) (x r : List Int) (w : World) (hS : Cells w S [pB, .slice (some ⟨g, 0, none⟩) L.length c]) (hR : RdR w g L) (hmm : L.length ≤ 1024) (hL : ∀ r, r ∈ L → ∀ e, 0 ≤ gi r e ∧ gi r e ≤ 6) (hrl : ∀ i, i < L.length → (row L i).length ≤ 1024) (hx : Reads w a m x) (hm0 : 0 < m) (hm : m ≤ 1024) (hr : Reads w a' m' r) (hm' : m ≤ m') (hxb : ∀ e, -6 ≤ gi x e ∧ gi x e ≤ 6) (hrb : ∀ e, -6 ≤ gi r e ∧ gi r e ≤ 6) (hsh : ∀ n : Nat, irB L (ptL x (((n + 1 : Nat)) : Int) r) = true → n + 1 ≤ 12) :
    Calls Tryz.prog 58 #[.pointer (some ⟨S, 0, none⟩), .slice a m cm, .slice a' m' c'] w fun e w' => e = .returned (.int .i64 (alM L x r)) ∧ Ext w w' := by
  have HPT : Hid (∀ w1 (n : Nat), Ext w w1 → n ≤ 12 → Calls Tryz.prog 52 #[.slice a m cm, .int .i64 ((n + 1 : Nat) : Int), .slice a' m' c'] w1 fun e w' => ∃ b c9, e = .returned (.slice (some ⟨b, 0, none⟩) m c9) ∧ w1.heap.size ≤ b ∧ b < w'.heap.size ∧ Has w' b (ptL x ((n + 1 : Nat) : Int) r) ∧ Ext w1 w') := fun w1 n h hn => plusTimes_impl m cm m' c' a a' x r ((n + 1 : Nat) : Int) w1 (hx.ext h) hm0 hm (hr.ext h) hm' (by omega) (fun e => by have := hxb e; omega) (fun e => by have := hrb e; omega)
  have HIR : Hid (∀ w1 (n : Nat) b c9, Ext w w1 → n ≤ 12 → Has w1 b (ptL x ((n + 1 : Nat) : Int) r) → Calls Tryz.prog 44 #[.pointer (some ⟨S, 0, none⟩), .slice (some ⟨b, 0, none⟩) m c9] w1 fun e w' => e = .returned (.bool (irB L (ptL x ((n + 1 : Nat) : Int) r))) ∧ Ext w1 w') := fun w1 n b c9 h hn hb => by
    have hs := ptL_small (x := x) (r := r) (q := ((n + 1 : Nat) : Int)) (by omega) hxb hrb
    exact isRoot_impl S g c m c9 pB _ L _ w1 (hS.ext h) (hR.ext h) hmm hL hrl (hb.reads (by rw [ptL_length]; exact hx.len)) (by omega) (fun e => by have := hs e; omega)
  have HSH := Lib.hid hsh
  have HAL : Hid (∀ n : Nat, n < 14 → (∀ m, m < n → irB L (ptL x (((m + 1 : Nat)) : Int) r) = true) → irB L (ptL x (((n + 1 : Nat)) : Int) r) = false → alM L x r = n) := fun n a b c => alM_eq a b c
  obtain ⟨F, hF⟩ : ∃ F : Nat → Bool, ∀ n : Nat, irB L (ptL x ((n + 1 : Nat) : Int) r) = F n := ⟨_, fun _ => rfl⟩
  obtain ⟨A, hA⟩ : ∃ A, alM L x r = A := ⟨_, rfl⟩
  obtain ⟨P, hP⟩ : ∃ P : Nat → List Int, ∀ n : Nat, ptL x ((n + 1 : Nat) : Int) r = P n := ⟨_, fun _ => rfl⟩
  simp only [Hid, hF, hA] at HIR HSH HAL
  simp only [Hid, hP] at HPT HIR
  rw [hA]
  have HIR := Lib.hid HIR
  have HSH := Lib.hid HSH
  have HAL := Lib.hid HAL
  have HPT := Lib.hid HPT
  clear hR hL hrl hx hr hxb hrb hsh hF hA hP hS
  go_enter Tryz.func58, Tryz.ntmps58
  go_wp2
  go_loopw [7] (fun z wr => ∃ n : Nat, n ≤ 12 ∧ z = .int .i64 n ∧ Hid (∀ m, m < n → F m = true) ∧ Hid (Ext w wr)) (fun z _ => 13 - (intOf z).toNat)
  case atStart => exact ⟨0, by omega, rfl, fun _ h => absurd h (Nat.not_lt_zero _), Ext.refl w⟩
  case round =>
    obtain ⟨n, hn, rfl, hH, hE⟩ := hrel
    have v1 : IntKind.i64.wrap ((n : Int) + 1) = ((n + 1 : Nat) : Int) := by rw [IntWalk.i64_in _ ⟨by omega, by omega⟩]; omega
    go_wp2_with fail
    refine (HPT.out _ n hE.out hn).mono ?_
    rintro e w2 ⟨b, c9, rfl, hb1, hb2, hh, h2⟩
    have HE2 := Lib.hid (hE.out.trans h2)
    have HH := Lib.hid hh
    clear hh h2
    rcases hv : F n with _ | _
    · have HN : Hid (A = n) := HAL.out n (by omega) hH.out hv
      go_wp2_with fail
      refine (HIR.out _ n b c9 HE2.out hn HH.out).mono ?_
      rw [hv]
      rintro e w3 ⟨rfl, h3⟩
      go_wp2
      go_ret
      exact ⟨ret_int (by rw [HN.out]), HE2.out.trans h3⟩
    · have hn2 := HSH.out n hv
      have HH2 : Hid (∀ m, m < n + 1 → F m = true) := fun m hm => by
        by_cases e : m = n
        · rw [e]; exact hv
        · exact hH.out m (by omega)
      go_wp2_with fail
      refine (HIR.out _ n b c9 HE2.out hn HH.out).mono ?_
      rw [hv]
      rintro e w3 ⟨rfl, h3⟩
      have HE3 := Lib.hid (HE2.out.trans h3)
      clear h3
      go_wp2
      exact ⟨⟨n + 1, by omega, rfl, HH2, HE3⟩, by simp [intOf]; omega⟩
end Go.Proofs.YtinoaldfdcddiaaGreat
