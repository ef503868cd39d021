/-
  How roots are compared, in both texts.
-/
import Derived.Test.YtlnpaplbcocmkaaGreatRw5
namespace Go.Proofs.YtlnpaplbcocmkaaGreat
open Go.ChangeShapes Go.WideShapes Go.ChangeAt Go.RowKit
set_option linter.unusedVariables false
set_option linter.unusedSimpArgs false

def cmpI (a b : Int) : Int := if a < b then -1 else if b < a then 1 else 0
def cmpL : List Int → List Int → Int
  | a :: x, b :: y => if cmpI a b = 0 then cmpL x y else cmpI a b
  | _, _ => 0
def cfR (x y : List Int) : Int := if cmpI (htS x) (htS y) = 0 then cmpL y x else cmpI (htS x) (htS y)
theorem cmpI_zero {a b : Int} : cmpI a b = 0 ↔ a = b := by
  unfold cmpI
  by_cases h1 : a < b
  · rw [if_pos h1]; omega
  · rw [if_neg h1]
    by_cases h2 : b < a
    · rw [if_pos h2]; omega
    · rw [if_neg h2]; omega
theorem cmpI_neg {a b : Int} : cmpI a b < 0 ↔ a < b := by
  unfold cmpI
  by_cases h1 : a < b
  · rw [if_pos h1]; omega
  · rw [if_neg h1]
    by_cases h2 : b < a
    · rw [if_pos h2]; omega
    · rw [if_neg h2]; omega
theorem cmpL_neg : ∀ x y : List Int, decide (cmpL y x < 0) = lexB x y
  | [], [] => by simp [cmpL, lexB]
  | [], _ :: _ => by simp [cmpL, lexB]
  | _ :: _, [] => by simp [cmpL, lexB]
  | a :: x, b :: y => by
    rw [cmpL, lexB]
    by_cases e : a = b
    · rw [if_pos e, if_pos (cmpI_zero.2 e.symm)]; exact cmpL_neg x y
    · rw [if_neg e, if_neg (fun h => e (cmpI_zero.1 h).symm)]
      by_cases h : b < a
      · rw [decide_eq_true h, decide_eq_true (cmpI_neg.2 h)]
      · rw [decide_eq_false h, decide_eq_false (fun h2 => h (cmpI_neg.1 h2))]
theorem cfR_less (x y : List Int) : decide (cfR x y < 0) = lessR x y := by
  unfold cfR lessR
  by_cases e : htS x = htS y
  · rw [if_pos e, if_pos (cmpI_zero.2 e)]; exact cmpL_neg x y
  · rw [if_neg e, if_neg (fun h => e (cmpI_zero.1 h))]
    by_cases h : htS x < htS y
    · rw [decide_eq_true h, decide_eq_true (cmpI_neg.2 h)]
    · rw [decide_eq_false h, decide_eq_false (fun h2 => h (cmpI_neg.1 h2))]
theorem cmpL_drop {x y : List Int} {k : Nat} (h1 : k < x.length) (h2 : k < y.length) : cmpL (x.drop k) (y.drop k) = if cmpI (gi x k) (gi y k) = 0 then cmpL (x.drop (k + 1)) (y.drop (k + 1)) else cmpI (gi x k) (gi y k) := by
  rw [List.drop_eq_getElem_cons h1, List.drop_eq_getElem_cons h2, cmpL]
  simp [gi, h1, h2]
theorem cmpL_end {x y : List Int} {k : Nat} (h1 : x.length ≤ k) : cmpL (x.drop k) (y.drop k) = 0 := by
  rw [List.drop_eq_nil_of_le h1]
  cases y.drop k <;> rfl
theorem lexB_trans : ∀ x y z : List Int, lexB x y = true → lexB y z = true → lexB x z = true
  | [], _, _, h, _ => by simp [lexB] at h
  | _ :: _, [], _, h, _ => by simp [lexB] at h
  | _ :: _, _ :: _, [], _, h => by simp [lexB] at h
  | a :: x, b :: y, c :: z, h1, h2 => by
    rw [lexB] at h1 h2 ⊢
    by_cases e1 : a = b
    · subst e1
      rw [if_pos rfl] at h1
      by_cases e2 : a = c
      · subst e2; rw [if_pos rfl] at h2 ⊢; exact lexB_trans x y z h1 h2
      · rw [if_neg e2] at h2 ⊢; exact h2
    · rw [if_neg e1] at h1
      have h1 := of_decide_eq_true h1
      by_cases e2 : b = c
      · subst e2; rw [if_neg e1]; exact decide_eq_true h1
      · rw [if_neg e2] at h2
        have h2 := of_decide_eq_true h2
        rw [if_neg (by omega)]; exact decide_eq_true (by omega)
theorem lexB_ntrans : ∀ x y z : List Int, x.length = y.length → y.length = z.length → lexB x y = false → lexB y z = false → lexB x z = false
  | [], _, _, _, _, _, _ => by simp [lexB]
  | _ :: _, [], _, h, _, _, _ => by simp at h
  | _ :: _, _ :: _, [], _, h, _, _ => by simp at h
  | a :: x, b :: y, c :: z, l1, l2, h1, h2 => by
    rw [lexB] at h1 h2 ⊢
    simp only [List.length_cons, Nat.add_right_cancel_iff] at l1 l2
    by_cases e1 : a = b
    · subst e1
      rw [if_pos rfl] at h1
      by_cases e2 : a = c
      · subst e2; rw [if_pos rfl] at h2 ⊢; exact lexB_ntrans x y z l1 l2 h1 h2
      · rw [if_neg e2] at h2 ⊢; exact h2
    · rw [if_neg e1] at h1
      have h1 := of_decide_eq_false h1
      by_cases e2 : b = c
      · subst e2; rw [if_neg e1]; exact decide_eq_false h1
      · rw [if_neg e2] at h2
        have h2 := of_decide_eq_false h2
        rw [if_neg (by omega)]; exact decide_eq_false (by omega)
theorem lexB_total : ∀ x y : List Int, x.length = y.length → lexB x y = false → lexB y x = false → x = y
  | [], [], _, _, _ => rfl
  | [], _ :: _, h, _, _ => by simp at h
  | _ :: _, [], h, _, _ => by simp at h
  | a :: x, b :: y, l1, h1, h2 => by
    rw [lexB] at h1 h2
    simp only [List.length_cons, Nat.add_right_cancel_iff] at l1
    by_cases e1 : a = b
    · subst e1
      rw [if_pos rfl] at h1 h2
      rw [lexB_total x y l1 h1 h2]
    · rw [if_neg e1] at h1
      rw [if_neg (Ne.symm e1)] at h2
      have := of_decide_eq_false h1
      have := of_decide_eq_false h2
      omega
theorem lessR_irrefl (x : List Int) : lessR x x = false := by rw [lessR, if_pos rfl]; exact lexB_irrefl x
theorem lessR_trans {x y z : List Int} (h1 : lessR x y = true) (h2 : lessR y z = true) : lessR x z = true := by
  unfold lessR at h1 h2 ⊢
  by_cases e1 : htS x = htS y
  · rw [if_pos e1] at h1
    by_cases e2 : htS y = htS z
    · rw [if_pos e2] at h2; rw [if_pos (e1.trans e2)]; exact lexB_trans x y z h1 h2
    · rw [if_neg e2] at h2; rw [if_neg (by omega), e1]; exact h2
  · rw [if_neg e1] at h1
    have h1 := of_decide_eq_true h1
    by_cases e2 : htS y = htS z
    · rw [if_neg (by omega)]; exact decide_eq_true (by omega)
    · rw [if_neg e2] at h2
      have h2 := of_decide_eq_true h2
      rw [if_neg (by omega)]; exact decide_eq_true (by omega)
theorem lessR_ntrans {x y z : List Int} (l1 : x.length = y.length) (l2 : y.length = z.length) (h1 : lessR x y = false) (h2 : lessR y z = false) : lessR x z = false := by
  unfold lessR at h1 h2 ⊢
  by_cases e1 : htS x = htS y
  · rw [if_pos e1] at h1
    by_cases e2 : htS y = htS z
    · rw [if_pos e2] at h2; rw [if_pos (e1.trans e2)]; exact lexB_ntrans x y z l1 l2 h1 h2
    · rw [if_neg e2] at h2; rw [if_neg (by omega), e1]; exact h2
  · rw [if_neg e1] at h1
    have h1 := of_decide_eq_false h1
    by_cases e2 : htS y = htS z
    · rw [if_neg (by omega)]; exact decide_eq_false (by omega)
    · rw [if_neg e2] at h2
      have h2 := of_decide_eq_false h2
      rw [if_neg (by omega)]; exact decide_eq_false (by omega)
theorem lessR_total {x y : List Int} (l1 : x.length = y.length) (h1 : lessR x y = false) (h2 : lessR y x = false) : x = y := by
  unfold lessR at h1 h2
  by_cases e1 : htS x = htS y
  · rw [if_pos e1] at h1; rw [if_pos e1.symm] at h2; exact lexB_total x y l1 h1 h2
  · rw [if_neg e1] at h1; rw [if_neg (Ne.symm e1)] at h2
    have := of_decide_eq_false h1
    have := of_decide_eq_false h2
    omega
/-- A list without inversions is the ascending one. -/
theorem sorted_one {R : Nat} : ∀ (l m : List (List Int)), (∀ x, x ∈ l → x.length = R) → l.Perm m → l.Pairwise (fun a b => lessR b a = false) → m.Pairwise (fun a b => lessR b a = false) → l = m := by
  intro l m hR hp h1 h2
  refine List.Perm.eq_of_pairwise (le := fun a b => lessR b a = false) (fun a b ha hb ab ba => ?_) h1 h2 hp
  exact lessR_total (by rw [hR a ha, hR b (hp.mem_iff.2 hb)]) ba ab

set_option maxHeartbeats 400000 in
theorem isNaN_int (x : Int) (w : World) : Calls Tryz.prog 162 #[.int .i64 x] w fun e w' => e = .returned (.bool false) ∧ w' = w := by
  go_enter Tryz.func162, Tryz.ntmps162
  go_wp2
  go_ret
  exact ⟨ret_bool (by simp), rfl⟩
set_option maxHeartbeats 800000 in
theorem compare_int (x y : Int) (w : World) : Calls Tryz.prog 109 #[.int .i64 x, .int .i64 y] w fun e w' => e = .returned (.int .i64 (cmpI x y)) ∧ w' = w := by
  have HN := Lib.hid (fun z w1 => isNaN_int z w1)
  by_cases h1 : x < y
  · have HF : Hid (cmpI x y = -1) := if_pos h1
    go_enter Tryz.func109, Tryz.ntmps109
    go_wp2_with fail
    refine (HN.out _ _).mono ?_
    rintro e w1 ⟨rfl, rfl⟩
    go_wp2_with fail
    refine (HN.out _ _).mono ?_
    rintro e w1 ⟨rfl, rfl⟩
    go_wp2
    go_ret
    exact ⟨ret_int HF.out.symm, rfl⟩
  · by_cases h2 : y < x
    · have HF : Hid (cmpI x y = 1) := by rw [Hid, cmpI, if_neg h1, if_pos h2]
      go_enter Tryz.func109, Tryz.ntmps109
      go_wp2_with fail
      refine (HN.out _ _).mono ?_
      rintro e w1 ⟨rfl, rfl⟩
      go_wp2_with fail
      refine (HN.out _ _).mono ?_
      rintro e w1 ⟨rfl, rfl⟩
      go_wp2
      go_ret
      exact ⟨ret_int HF.out.symm, rfl⟩
    · have HF : Hid (cmpI x y = 0) := by rw [Hid, cmpI, if_neg h1, if_neg h2]
      go_enter Tryz.func109, Tryz.ntmps109
      go_wp2_with fail
      refine (HN.out _ _).mono ?_
      rintro e w1 ⟨rfl, rfl⟩
      go_wp2_with fail
      refine (HN.out _ _).mono ?_
      rintro e w1 ⟨rfl, rfl⟩
      go_wp2
      go_ret
      exact ⟨ret_int HF.out.symm, rfl⟩
set_option maxRecDepth 100000 in
set_option maxHeartbeats 1600000 in
theorem compare_list (n c c' : Nat) (a a' : Option Addr) (xs ys : List Int) (w : World) (hx : Reads w a n xs) (hy : Reads w a' n ys) (hn : n ≤ 1024) :
    Calls Tryz.prog 66 #[.slice a n c, .slice a' n c'] w fun e w' => e = .returned (.int .i64 (cmpL xs ys)) ∧ w' = w := by
  have HX := Lib.hid hx
  have HY := Lib.hid hy
  have HLX := Lib.hid hx.len
  have HLY := Lib.hid hy.len
  have HD : Hid (∀ k, k < n → cmpL (xs.drop k) (ys.drop k) = if cmpI (gi xs k) (gi ys k) = 0 then cmpL (xs.drop (k + 1)) (ys.drop (k + 1)) else cmpI (gi xs k) (gi ys k)) := fun k hk => cmpL_drop (by rw [hx.len]; exact hk) (by rw [hy.len]; exact hk)
  have HE : Hid (cmpL (xs.drop n) (ys.drop n) = 0) := cmpL_end (by rw [hx.len]; exact Nat.le_refl _)
  have H0 : Hid (cmpL xs ys = cmpL (xs.drop 0) (ys.drop 0)) := rfl
  obtain ⟨q, hq⟩ : ∃ q, cmpL xs ys = q := ⟨_, rfl⟩
  rw [hq] at H0 ⊢
  clear hx hy hq
  go_enter Tryz.func66, Tryz.ntmps66
  go_wp2
  go_loop [11, 5, 6, 7, 8] (fun z _ _ _ _ => ∃ k : Nat, k ≤ n ∧ z = .int .i64 k ∧ Hid (q = cmpL (xs.drop k) (ys.drop k))) (fun z _ _ _ _ => n - (intOf z).toNat)
  case atStart => exact ⟨0, by omega, rfl, H0⟩
  case round =>
    obtain ⟨k, hk, rfl, hQ⟩ := hrel
    by_cases hlt : k < n
    · obtain ⟨b, off, rfl, hbl, hc⟩ := reads5 HX.out (by omega)
      obtain ⟨b', off', rfl, hbl', hc'⟩ := reads5 HY.out (by omega)
      have hc1 := hc k hlt
      have hc2 := hc' k hlt
      have hltI : (k : Int) < (n : Int) := by omega
      have hD := HD.out k hlt
      have HC := Lib.hid (compare_int (gi xs k) (gi ys k) w)
      clear hc hc'
      by_cases hz : cmpI (gi xs k) (gi ys k) = 0
      · rw [if_pos hz] at hD
        rw [hz] at HC
        have HQ2 : Hid (q = cmpL (xs.drop (k + 1)) (ys.drop (k + 1))) := hQ.out.trans hD
        clear hz hD hQ
        go_wp2_with fail
        refine HC.out.mono ?_
        rintro e w1 ⟨rfl, rfl⟩
        go_wp2
        exact ⟨⟨k + 1, by omega, by simp, HQ2⟩, by simp [intOf]; omega⟩
      · rw [if_neg hz] at hD
        have HQ2 := Lib.hid (hQ.out.trans hD)
        have hzb : (cmpI (gi xs k) (gi ys k) != 0) = true := by simpa using hz
        clear hD hQ
        generalize cmpI (gi xs k) (gi ys k) = t at *
        go_wp2_with fail
        refine HC.out.mono ?_
        rintro e w1 ⟨rfl, rfl⟩
        go_wp2
        go_ret
        exact ⟨ret_int HQ2.out.symm, rfl⟩
    · obtain rfl : n = k := by omega
      have HQ2 := Lib.hid (hQ.out.trans HE.out)
      go_wp2
      go_ret
      exact ⟨ret_int HQ2.out.symm, rfl⟩
set_option maxRecDepth 100000 in
set_option maxHeartbeats 1600000 in
theorem or_two (g c : Nat) (x y : Int) (w : World) (h0 : w.cell? ⟨g, 0, none⟩ = some (.int .i64 x)) (h1 : w.cell? ⟨g, 1, none⟩ = some (.int .i64 y)) (hg : g < w.heap.size) :
    Calls Tryz.prog 166 #[.slice (some ⟨g, 0, none⟩) 2 c] w fun e w' => e = .returned (.int .i64 (if x = 0 then y else x)) ∧ w' = w := by
  by_cases hx : x = 0
  · have hxb : (x != 0) = false := by simpa using hx
    by_cases hy : y = 0
    · have hyb : (y != 0) = false := by simpa using hy
      have HF : Hid ((if x = 0 then y else x) = 0) := by rw [Hid, if_pos hx]; exact hy
      obtain ⟨q, hq⟩ : ∃ q, (if x = 0 then y else x) = q := ⟨_, rfl⟩
      rw [hq] at HF ⊢
      clear hq hx hy
      go_enter Tryz.func166, Tryz.ntmps166
      go_wp2
      refine wp_loop_rounds 3 ?_
      rw [rounds_succ]
      go_wp2
      rw [rounds_succ]
      go_wp2
      rw [rounds_succ]
      go_wp2
      go_ret
      exact ⟨ret_int HF.out.symm, rfl⟩
    · have hyb : (y != 0) = true := by simpa using hy
      have HF : Hid ((if x = 0 then y else x) = y) := by rw [Hid, if_pos hx]
      obtain ⟨q, hq⟩ : ∃ q, (if x = 0 then y else x) = q := ⟨_, rfl⟩
      rw [hq] at HF ⊢
      clear hq hx
      go_enter Tryz.func166, Tryz.ntmps166
      go_wp2
      refine wp_loop_rounds 2 ?_
      rw [rounds_succ]
      go_wp2
      rw [rounds_succ]
      go_wp2
      go_ret
      exact ⟨ret_int HF.out.symm, rfl⟩
  · have hxb : (x != 0) = true := by simpa using hx
    have HF : Hid ((if x = 0 then y else x) = x) := by rw [Hid, if_neg hx]
    obtain ⟨q, hq⟩ : ∃ q, (if x = 0 then y else x) = q := ⟨_, rfl⟩
    rw [hq] at HF ⊢
    clear hq
    go_enter Tryz.func166, Tryz.ntmps166
    go_wp2
    refine wp_loop_rounds 1 ?_
    rw [rounds_succ]
    go_wp2
    go_ret
    exact ⟨ret_int HF.out.symm, rfl⟩
set_option maxRecDepth 100000 in
set_option maxHeartbeats 1600000 in
theorem cmpRoots_fn (n c c' : Nat) (a a' : Option Addr) (xs ys : List Int) (w : World) (hx : Reads w a n xs) (hy : Reads w a' n ys) (hn : n ≤ 1024) (hxb : ∀ e, -1000000 ≤ gi xs e ∧ gi xs e ≤ 1000000) (hyb : ∀ e, -1000000 ≤ gi ys e ∧ gi ys e ≤ 1000000) :
    Calls Tryz.prog 165 #[.slice a n c, .slice a' n c'] w fun e w' => e = .returned (.int .i64 (cfR xs ys)) ∧ ∃ ob, w' = w.alloc ob := by
  have H1 := Lib.hid (heightOf_impl n c a xs w hx hn hxb)
  have H2 := Lib.hid (heightOf_impl n c' a' ys w hy hn hyb)
  have H3 := Lib.hid (compare_int (htS xs) (htS ys) w)
  have H4 := Lib.hid (compare_list n c' c a' a ys xs w hy hx hn)
  have H5 := Lib.hid (or_two w.heap.size 2 (cmpI (htS xs) (htS ys)) (cmpL ys xs) (w.alloc (.cells #[.int .i64 (cmpI (htS xs) (htS ys)), .int .i64 (cmpL ys xs)] 3)) ((cells_new w _ _).2 0 _ rfl) ((cells_new w _ _).2 1 _ rfl) (by simp))
  have HF : Hid ((if cmpI (htS xs) (htS ys) = 0 then cmpL ys xs else cmpI (htS xs) (htS ys)) = cfR xs ys) := rfl
  rw [HF.out] at H5
  generalize cfR xs ys = q at *
  clear hx hy hxb hyb HF
  go_enter Tryz.func165, Tryz.ntmps165
  go_wp2_with fail
  refine H1.out.mono ?_
  rintro e w1 ⟨rfl, rfl⟩
  go_wp2_with fail
  refine H2.out.mono ?_
  rintro e w1 ⟨rfl, rfl⟩
  go_wp2_with fail
  refine H3.out.mono ?_
  rintro e w1 ⟨rfl, rfl⟩
  go_wp2_with fail
  refine H4.out.mono ?_
  rintro e w1 ⟨rfl, rfl⟩
  go_wp2_with fail
  refine H5.out.mono ?_
  rintro e w1 ⟨rfl, rfl⟩
  go_wp2
  go_ret
  exact ⟨rfl, _, rfl⟩

theorem lexB_drop {x y : List Int} {k : Nat} (h1 : k < x.length) (h2 : k < y.length) : lexB (x.drop k) (y.drop k) = if gi x k = gi y k then lexB (x.drop (k + 1)) (y.drop (k + 1)) else decide (gi y k < gi x k) := by
  rw [List.drop_eq_getElem_cons h1, List.drop_eq_getElem_cons h2, lexB]
  simp [gi, h1, h2]
theorem lexB_end {x y : List Int} {k : Nat} (h1 : x.length ≤ k) : lexB (x.drop k) (y.drop k) = false := by
  rw [List.drop_eq_nil_of_le h1]
  cases y.drop k <;> rfl
set_option maxRecDepth 100000 in
set_option maxHeartbeats 3200000 in
theorem l5Less_spec (n c c' : Nat) (a a' : Option Addr) (xs ys : List Int) (w : World) (hx : Reads w a n xs) (hy : Reads w a' n ys) (hn : n ≤ 1024) (hxb : ∀ e, -1000000 ≤ gi xs e ∧ gi xs e ≤ 1000000) (hyb : ∀ e, -1000000 ≤ gi ys e ∧ gi ys e ≤ 1000000) :
    Calls Tryz.prog 179 #[.slice a n c, .slice a' n c'] w fun e w' => e = .returned (.bool (lessR xs ys)) ∧ ∃ q, w' = w.drewN q := by
  have HX := Lib.hid hx
  have HY := Lib.hid hy
  have H1 := Lib.hid (l5Height_spec n c a xs w hx hn hxb)
  have H2 := Lib.hid (l5Height_spec n c' a' ys w hy hn hyb)
  have HD : Hid (∀ k, k < n → lexB (xs.drop k) (ys.drop k) = if gi xs k = gi ys k then lexB (xs.drop (k + 1)) (ys.drop (k + 1)) else decide (gi ys k < gi xs k)) := fun k hk => lexB_drop (by rw [hx.len]; exact hk) (by rw [hy.len]; exact hk)
  have HE : Hid (lexB (xs.drop n) (ys.drop n) = false) := lexB_end (by rw [hx.len]; exact Nat.le_refl _)
  clear hx hy hxb hyb
  by_cases hh : htS xs = htS ys
  · have HL : Hid (lessR xs ys = lexB (xs.drop 0) (ys.drop 0)) := if_pos hh
    have hb : (htS xs != htS ys) = false := by simpa using hh
    obtain ⟨q, hq⟩ : ∃ q, lessR xs ys = q := ⟨_, rfl⟩
    rw [hq] at HL ⊢
    clear hq hh
    generalize htS xs = s at *
    generalize htS ys = t at *
    go_enter Tryz.func179, Tryz.ntmps179
    go_wp2_with fail
    refine H1.out.mono ?_
    rintro e w1 ⟨rfl, rfl⟩
    go_wp2_with fail
    refine H2.out.mono ?_
    rintro e w1 ⟨rfl, rfl⟩
    go_wp2_with fail
    clear H1 H2
    go_loopw [5] (fun z wr => ∃ k m : Nat, k ≤ n ∧ z = .int .i64 k ∧ wr = w1.drewN m ∧ Hid (q = lexB (xs.drop k) (ys.drop k))) (fun z _ => n - (intOf z).toNat)
    case atStart => exact ⟨0, 0, by omega, rfl, rfl, HL⟩
    case round =>
      clear HL
      obtain ⟨k, m, hk, rfl, rfl, hQ⟩ := hrel
      by_cases hlt : k < n
      · obtain ⟨b, off, rfl, hbl, hc⟩ := reads5 HX.out (by omega)
        obtain ⟨b', off', rfl, hbl', hc'⟩ := reads5 HY.out (by omega)
        have hc1 := hc k hlt
        have hc2 := hc' k hlt
        have hltI : (k : Int) < (n : Int) := by omega
        have hD := HD.out k hlt
        clear hc hc'
        by_cases hz : gi xs k = gi ys k
        · rw [if_pos hz] at hD
          have hzb : (gi xs k != gi ys k) = false := by simpa using hz
          have HQ2 := Lib.hid (hQ.out.trans hD)
          clear hz hD hQ
          generalize gi xs k = x at *
          generalize gi ys k = y at *
          go_wp2_with fail
          go_quiet (fail)
          go_wp2
          exact ⟨⟨k + 1, m + nq, by omega, by simp, by simp, HQ2⟩, by simp [intOf]; omega⟩
        · rw [if_neg hz] at hD
          have hzb : (gi xs k != gi ys k) = true := by simpa using hz
          have HQ2 := Lib.hid (hQ.out.trans hD)
          clear hz hD hQ
          generalize gi xs k = x at *
          generalize gi ys k = y at *
          go_wp2_with fail
          go_quiet (fail)
          go_wp2_with fail
          go_quiet (fail)
          go_wp2
          go_ret
          exact ⟨ret_bool HQ2.out.symm, _, by simp; rfl⟩
      · obtain rfl : n = k := by omega
        have HQ2 := Lib.hid (hQ.out.trans HE.out)
        go_wp2
        go_ret
        exact ⟨ret_bool HQ2.out.symm, _, rfl⟩
  · have HL : Hid (lessR xs ys = decide (htS xs < htS ys)) := if_neg hh
    have hb : (htS xs != htS ys) = true := by simpa using hh
    obtain ⟨q, hq⟩ : ∃ q, lessR xs ys = q := ⟨_, rfl⟩
    rw [hq] at HL ⊢
    clear hq hh
    generalize htS xs = s at *
    generalize htS ys = t at *
    go_enter Tryz.func179, Tryz.ntmps179
    go_wp2_with fail
    refine H1.out.mono ?_
    rintro e w1 ⟨rfl, rfl⟩
    go_wp2_with fail
    refine H2.out.mono ?_
    rintro e w1 ⟨rfl, rfl⟩
    go_wp2_with fail
    refine H1.out.mono ?_
    rintro e w1 ⟨rfl, rfl⟩
    go_wp2_with fail
    refine H2.out.mono ?_
    rintro e w1 ⟨rfl, rfl⟩
    go_wp2
    go_ret
    exact ⟨ret_bool HL.out.symm, 0, rfl⟩
end Go.Proofs.YtlnpaplbcocmkaaGreat
