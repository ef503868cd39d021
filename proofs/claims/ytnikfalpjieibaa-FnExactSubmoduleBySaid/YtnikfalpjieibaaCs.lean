/-
  CoordinatesIn of both texts.
-/
import Derived.Test.YtnikfalpjieibaaSm
import Derived.Test.YtnikfalpjieibaaSp
import Derived.Test.YtnikfalpjieibaaJn
namespace Go.Proofs.Ytnikfalpjieibaa
open Go.ChangeShapes Go.WideShapes Go.ChangeAt Go.RowKit
set_option linter.unusedVariables false

/-! The transpose, place by place. -/
theorem gi_colTo {xs l : List Int} {R C i : Nat} (hi : i < R) (hl : l.length = C * R) (k : Nat) (hk : k ≤ C) (j q : Nat) (hj : j < C) (hq : q < R) :
    gi (colTo xs R C i l k) (j * R + q) = if q = i ∧ j < k then gi xs (i * C + j) else gi l (j * R + q) := by
  induction k with
  | zero => rw [colTo, if_neg (by omega)]
  | succ k ih =>
    have hp := place_lt (R := C) (C := R) (show k < C by omega) hi
    rw [colTo, gi_set _ _ _ _ (by rw [colTo_length, hl]; exact hp), ih (by omega)]
    by_cases e : q = i ∧ j = k
    · obtain ⟨rfl, rfl⟩ := e
      rw [if_pos rfl, if_pos (by omega)]
    · have hne : j * R + q ≠ k * R + i := by
        by_cases e2 : j = k
        · subst e2; omega
        · exact at2_place hq hi e2
      rw [if_neg hne]
      by_cases e3 : q = i ∧ j < k
      · rw [if_pos e3, if_pos (by omega)]
      · rw [if_neg e3, if_neg (by omega)]
theorem gi_transTo {xs : List Int} {R C : Nat} (k : Nat) (hk : k ≤ R) (j q : Nat) (hj : j < C) (hq : q < R) :
    gi (transTo xs R C k) (j * R + q) = if q < k then gi xs (q * C + j) else 0 := by
  induction k with
  | zero =>
    rw [transTo, if_neg (by omega)]; exact gi_rep _ _
  | succ k ih =>
    rw [transTo, gi_colTo (by omega) (transTo_length _ _ _ _) C (Nat.le_refl _) j q hj hq, ih (by omega)]
    by_cases e : q = k
    · subst e; rw [if_pos ⟨rfl, hj⟩, if_pos (by omega)]
    · rw [if_neg (by omega)]
      by_cases e2 : q < k
      · rw [if_pos e2, if_pos (by omega)]
      · rw [if_neg e2, if_neg (by omega)]
theorem at2_transTo {xs : List Int} {R C : Nat} (c i : Nat) (hc : c < C) (hi : i < R) : at2 R (transTo xs R C R) c i = at2 C xs i c := by
  unfold at2
  rw [gi_transTo R (Nat.le_refl _) c i hc hi, if_pos hi]
theorem gi_tr {xs : List Int} {R C : Nat} {j q : Nat} (hj : j < C) (hq : q < R) : gi (transTo xs R C R) (j * R + q) = gi xs (q * C + j) := by
  have h : ∀ k, k ≤ R → ∀ j q, j < C → q < R → gi (transTo xs R C k) (j * R + q) = if q < k then gi xs (q * C + j) else 0 := fun k hk j q hj hq => gi_transTo k hk j q hj hq
  rw [h R (Nat.le_refl _) j q hj hq, if_pos hq]
theorem colTo_res {P : Int} {xs l : List Int} {R C i : Nat} (hp : 0 < P) (hx : Res xs P) (hl : Res l P) (k : Nat) : Res (colTo xs R C i l k) P := by
  induction k with
  | zero => exact hl
  | succ k ih => exact res_set _ _ _ _ ih (res_gi _ _ hx hp _).1 (res_gi _ _ hx hp _).2
theorem transTo_res {P : Int} {xs : List Int} {R C : Nat} (hp : 2 ≤ P) (hx : Res xs P) (k : Nat) : Res (transTo xs R C k) P := by
  induction k with
  | zero => exact res_zero _ hp
  | succ k ih => exact colTo_res (by omega) hx ih C

set_option maxHeartbeats 800000 in
theorem equal_fn (a a' : Option Addr) (n n' c c' : Nat) (xs ys : List Int) (w : World) (hr : Reads w a n xs) (hr' : Reads w a' n' ys) (hm : n ≤ 1048576) (hm' : n' ≤ 1048576) :
    Calls Try.prog 124 #[.slice a n c, .slice a' n' c'] w fun e w' => e = .returned (.bool (sameB xs ys)) ∧ ∃ m, w' = w.drewN m := by
  have hl := Lib.hid hr.1
  have hl' := Lib.hid hr'.1
  have HR := Lib.hid hr.2
  have HR' := Lib.hid hr'.2
  clear hr hr'
  by_cases hnn : n = n'
  case neg =>
    have hb : ((n : Int) != (n' : Int)) = true := by simp; omega
    have HF : Hid (sameB xs ys = false) := by
      refine decide_eq_false (fun e => hnn ?_)
      rw [← hl.out, ← hl'.out, e]
    clear hnn
    go_enter Try.func124, Try.ntmps124
    go_wp2
    go_ret
    exact ⟨ret_bool HF.out.symm, 0, rfl⟩
  subst hnn
  go_enter Try.func124, Try.ntmps124
  go_wp2
  go_loopw [13, 5] (fun z _ wr => ∃ (k m : Nat), k ≤ n ∧ z = .int .i64 k ∧ wr = w.drewN m ∧ Hid (∀ i, i < k → gi xs i = gi ys i)) (fun z _ _ => n - (intOf z).toNat)
  case atStart => exact ⟨0, 0, by omega, rfl, rfl, fun i hi => by omega⟩
  case round =>
    obtain ⟨k, m, hk, rfl, rfl, hf⟩ := hrel
    by_cases hlt : k < n
    · rcases HR.out with h | ⟨b, off, rfl, hb, hc⟩
      · omega
      rcases HR'.out with h | ⟨b', off', rfl, hb', hc'⟩
      · omega
      have hc1 := hc k hlt
      have hc2 := hc' k hlt
      have hlt' : (k : Int) < (n : Int) := by omega
      clear hc hc'
      by_cases h0 : gi xs k = gi ys k
      · have hb0 : (gi xs k != gi ys k) = false := by simpa using h0
        have HF : Hid (∀ i, i < k + 1 → gi xs i = gi ys i) := fun i hi => by
          by_cases e : i = k
          · subst e; exact h0
          · exact hf.out i (by omega)
        clear h0
        go_wp2
        go_quiet (fail)
        go_wp2
        exact ⟨⟨k + 1, m + nq, by omega, by simp, by simp, HF⟩, by simp [intOf]; omega⟩
      · have hb0 : (gi xs k != gi ys k) = true := by simpa using h0
        have HF : Hid (sameB xs ys = false) := decide_eq_false (fun e => h0 (by rw [e]))
        clear h0
        go_wp2
        go_quiet (fail)
        go_wp2
        go_ret
        exact ⟨ret_bool HF.out.symm, m + nq, by simp⟩
    · obtain rfl : k = n := by omega
      have HF : Hid (sameB xs ys = true) := decide_eq_true (ext_gi (by rw [hl.out, hl'.out]) (fun i hi => hf.out i (by rw [hl.out] at hi; exact hi)))
      go_wp2
      go_ret
      exact ⟨ret_bool HF.out.symm, m, rfl⟩

noncomputable def coOk (P : Int) (R C : Nat) (xs vs : List Int) : Bool := sameB (coTo P C xs vs (redM P R C xs).pv R) vs
noncomputable def coM (P R C : Int) (xs vs : List Int) : List Int × Bool :=
  if spaceM P R C xs && (((vs.length : Int) == C) && resB vs P) then (if coOk P R.toNat C.toNat xs vs then (coL (redM P R.toNat C.toNat xs).pv vs, true) else ([], false)) else ([], false)

theorem co_eq {P : Int} {R C : Nat} {xs vs : List Int} (hp : IsP P) (hl : xs.length = R * C) (hx : Res xs P) (hs : IsSp P R C xs) (hv : Res vs P) (hvl : vs.length = C) :
    coOk P R C xs vs = solOk P C R (transTo xs R C R) vs ∧ (solOk P C R (transTo xs R C R) vs = true → solL P C R (transTo xs R C R) vs = coL (redM P R C xs).pv vs) := by
  have ht := transTo_length xs R C R
  have htr := transTo_res (R := R) (C := C) hp.1 hx R
  have hT := fun c i (hc : c < C) (hi : i < R) => at2_transTo (xs := xs) c i hc hi
  have h1 := co_iff hp hl hx hs hv hvl
  have h2 := trans_sol hp hl hx hv ht htr hT
  refine ⟨?_, fun h => co_sol hp hl hx hs hv ht htr hT h⟩
  rcases h : solOk P C R (transTo xs R C R) vs with _ | _
  · refine decide_eq_false (fun e => ?_)
    have := h2.2 (h1.1 e)
    rw [h] at this; exact absurd this (by decide)
  · exact decide_eq_true (h1.2 (h2.1 h))

end Go.Proofs.Ytnikfalpjieibaa

/-
  Two spaces of one P and one number of columns; their sum, of both texts.
-/
namespace Go.Proofs.Ytnikfalpjieibaa
open Go.ChangeShapes Go.WideShapes Go.ChangeAt Go.RowKit
set_option linter.unusedVariables false

noncomputable def bothM (P R C : Int) (xs : List Int) (P' R' C' : Int) (xs' : List Int) : Bool := spaceM P R C xs && spaceM P' R' C' xs' && (P == P') && (C == C')

theorem Grows.reads {w : World} {base n : Nat} {v : Value} {xs : List Int} (h : w.ownsRow base 3 1 v n (xs.map (Value.int .i64))) : ∃ a cap, v = .slice a n cap ∧ Reads w a n xs ∧ (a = none → n = 0 ∧ cap = 0) := by
  have hl : xs.length = n := by simpa using h.1
  rcases h.2 with ⟨h1, h2⟩ | ⟨g, cap, cur, h1, hb, hg, hn, hc, hs, ht⟩
  · subst h1; subst h2
    exact ⟨none, 0, rfl, ⟨hl, .inl rfl⟩, fun _ => ⟨rfl, rfl⟩⟩
  · subst h1
    have hh : Has w g xs := ⟨cur, hg, by omega, by rw [hl]; simpa using ht⟩
    exact ⟨_, cap, rfl, hh.reads hl, fun h => by simp at h⟩
/-- append as a step of a region. -/
theorem step_appendM {ops : Array Oper} {o : Oper} {a : Act} {w : World} {K : Act → World → Prop} {Q : Exit → Act → World → Prop} {E : Prop} (hgd : o.guard = none) (s x : Operand)
    (ho : o.op = .call { callee := .builtin .append, args := #[s, x], argTypes := #[22, 22] })
    (i0 : TypeInfo) (hi : Try.prog.info? 3 = some i0) (hz0 : i0.zero = some (.int .i64 0)) (hz1 : i0.size = 1) (hz2 : i0.bytes = 8) {base : Nat}
    (v : Value) (n : Nat) (xs : List Int) (hs : a.eval s = v) (hown : Grows w base v n xs) (ad : Addr) (m c : Nat) (ys : List Int) (hx : a.eval x = .slice (some ad) m c) (hy : Reads w (some ad) m ys) (hb : n + m ≤ 1048576) (hbase : base ≤ w.heap.size)
    (h : ∀ v' w', w'.ownsRow base 3 1 v' (n + m) ((xs ++ ys).map (Value.int .i64)) → w.grownBy w' v.ownBlock → (v' = .slice none 0 0 ↔ v = .slice none 0 0 ∧ m = 0) → K (a.put o.dst v') w') :
    if Region.wanted o (yielded ops a.tmps) = true then Oper.wp Try.prog o a w K Q else E := by
  have hw : Region.wanted o (yielded ops a.tmps) = true := by simp [Region.wanted, hgd]
  rw [if_pos hw]
  refine wp_append_own w s x 22 ho base 3 i0 (.int .i64 0) 1 8 Try.underlying22 hi hz0 hz1 hz2 rfl (by decide) v n (xs.map (Value.int .i64)) hs hown ad m c (ys.map (Value.int .i64)) hx (by simpa using hy.1) (fun j u hu => ?_) (fun u hu => by obtain ⟨z, _, rfl⟩ := List.mem_map.1 hu; rfl) (by unfold maxLen; omega) (by omega) hbase (fun v' w' h1 h2 h3 => h v' w' (by rw [List.map_append]; exact h1) h2 h3)
  have hj : j < m := by have := (List.getElem?_eq_some_iff.1 hu).1; simp [hy.1] at this; omega
  rcases hy.2 with h0 | ⟨b, off, h0, hb', hc⟩
  · omega
  · simp only [Option.some.injEq] at h0
    subst h0
    rw [show (⟨b, off, none⟩ : Addr).add j = ⟨b, off + j, none⟩ from add_plain .., hc j hj]
    simp at hu
    obtain ⟨z, hz, rfl⟩ := hu
    simp [gi, List.getD_eq_getElem?_getD, hz]
set_option maxHeartbeats 800000 in
theorem l1Ints_grow (ad : Addr) (n c : Nat) (xs : List Int) (w : World) (hr : Reads w (some ad) n xs) (hn : n ≤ 1048576) :
    Calls Try.prog 131 #[.slice (some ad) n c] w fun e w' => ∃ v, e = .returned v ∧ Grows w' w.heap.size v n xs ∧ Ext w w' := by
  obtain ⟨i0, hi, hz0, hz1, hz2⟩ := info_parts Try.infoInt
  obtain ⟨hl, hr⟩ := hr
  have own0 : (w.alloc (.cells #[] 3)).ownsRow w.heap.size 3 1 (.slice (some ⟨w.heap.size, 0, none⟩) 0 0) 0 [] := World.ownsRow_lit w #[] 0 (Nat.le_refl _) (by unfold maxLen; omega) (by simp)
  have hnews : ∀ (j : Nat) (u : Value), (xs.map (Value.int .i64))[j]? = some u → (w.alloc (.cells #[] 3)).cell? (ad.add j) = some u := by
    intro j u hu
    have hj : j < xs.length := by have := (List.getElem?_eq_some_iff.1 hu).1; simpa using this
    rcases hr with h | ⟨b, off, h, hb, hc⟩
    · omega
    · simp at h
      subst h
      have e : (⟨b, off, none⟩ : Addr).add j = ⟨b, off + j, none⟩ := add_plain ..
      rw [e, World.cell?_alloc_past _ _ _ hb, hc j (by omega)]
      simp [hj] at hu
      simp [gi, hj, hu]
  go_enter Try.func131, Try.ntmps131
  go_wp2_with (at_builtin; refine wpList_append_own _ rfl _ _ 22 rfl w.heap.size 3 i0 (.int .i64 0) 1 8 Try.underlying22 hi hz0 hz1 hz2 rfl (by decide) _ 0 [] rfl own0 ad n _ (xs.map (Value.int .i64)) rfl ?c1 hnews ?c2 ?c3 ?c4 ?c5 ?_)
  case c1 => simpa using hl
  case c2 => intro u hu; obtain ⟨z, _, rfl⟩ := List.mem_map.1 hu; rfl
  case c3 => unfold maxLen; omega
  case c4 => omega
  case c5 => simp
  intro v' w1 ho hg hnil
  have hE : Hid (Ext w w1) := ((Ext.refl w).alloc _).grown hg (fun k hk => by simp [Value.ownBlock] at hk; omega)
  have HG : Hid (Grows w1 w.heap.size v' n xs) := by
    show w1.ownsRow _ _ _ _ _ _
    simpa using ho
  clear ho hg hnil
  go_wp2
  go_ret
  exact ⟨v', rfl, HG.out, hE.out⟩

set_option maxRecDepth 100000 in
set_option maxHeartbeats 6400000 in
theorem l1Join_spec (P P' C' : Int) (R R' C n n' c c' : Nat) (a a' : Addr) (xs ys : List Int) (w : World) (hr : Reads w (some a) n xs) (hr' : Reads w (some a') n' ys) (hn : n = R * C) (hn' : n' = R' * C) (hb : n + n' ≤ 1048576) (hR : R + R' ≤ 1048576) (hC : C ≤ 1048576) (hpr : isP P = true) (hx : Res xs P) (hy : Res ys P) :
    Calls Try.prog 115 #[.agg #[.int .i64 P, .int .i64 R, .int .i64 C, .slice (some a) n c], .agg #[.int .i64 P', .int .i64 R', .int .i64 C', .slice (some a') n' c']] w fun e w' => ∃ b d, e = .returned (.agg #[.int .i64 P, .int .i64 ((redM P (R + R') C (xs ++ ys)).pv.length : Nat), .int .i64 C, .slice (some ⟨b, 0, none⟩) ((redM P (R + R') C (xs ++ ys)).pv.length * C) d]) ∧ w.heap.size ≤ b ∧ b < w'.heap.size ∧ Has w' b (spanL P (R + R') C (xs ++ ys)) ∧ Ext w w' := by
  obtain ⟨i0, hi, hz0, hz1, hz2⟩ := info_parts Try.infoInt
  have HR := Lib.hid hr
  have HR' := Lib.hid hr'
  have HN : Hid (n + n' = (R + R') * C) := by show n + n' = (R + R') * C; rw [hn, hn', Nat.add_mul]
  have HX : Hid (Res (xs ++ ys) P) := res_append hx hy
  have HPR := Lib.hid hpr
  have HL : Hid ((xs ++ ys).length = n + n') := by show (xs ++ ys).length = n + n'; rw [List.length_append, hr.1, hr'.1]
  clear hr hr' hn hn' hpr hx hy
  go_enter Try.func115, Try.ntmps115
  have A0_1 := Lib.hid (((cells_new' w #[.int .i64 P, .int .i64 R, .int .i64 C, .slice (some a) n c] 37 (w.heap.size) (by simp)).ext ((Ext.refl _).alloc (.cells #[.int .i64 P', .int .i64 R', .int .i64 C', .slice (some a') n' c'] 37))).ext ((Ext.refl _).alloc (.cells #[.int .i64 0, .int .i64 0, .int .i64 0, .slice none 0 0] 37)))
  have A1_2 := Lib.hid ((cells_new' (w.alloc (.cells #[.int .i64 P, .int .i64 R, .int .i64 C, .slice (some a) n c] 37)) #[.int .i64 P', .int .i64 R', .int .i64 C', .slice (some a') n' c'] 37 (w.heap.size + 1) (by simp)).ext ((Ext.refl _).alloc (.cells #[.int .i64 0, .int .i64 0, .int .i64 0, .slice none 0 0] 37)))
  have R_3 := Lib.hid (cells_new' ((w.alloc (.cells #[.int .i64 P, .int .i64 R, .int .i64 C, .slice (some a) n c] 37)).alloc (.cells #[.int .i64 P', .int .i64 R', .int .i64 C', .slice (some a') n' c'] 37)) #[.int .i64 0, .int .i64 0, .int .i64 0, .slice none 0 0] 37 (w.heap.size + 1 + 1) (by simp))
  have E_4 := Lib.hid ((((Ext.refl w).alloc (.cells #[.int .i64 P, .int .i64 R, .int .i64 C, .slice (some a) n c] 37)).alloc (.cells #[.int .i64 P', .int .i64 R', .int .i64 C', .slice (some a') n' c'] 37)).alloc (.cells #[.int .i64 0, .int .i64 0, .int .i64 0, .slice none 0 0] 37))
  have lA0 := A0_1.out.1
  have qA00 := A0_1.out.2 0 _ rfl
  have qA01 := A0_1.out.2 1 _ rfl
  have qA02 := A0_1.out.2 2 _ rfl
  have qA03 := A0_1.out.2 3 _ rfl
  have lA1 := A1_2.out.1
  have qA10 := A1_2.out.2 0 _ rfl
  have qA11 := A1_2.out.2 1 _ rfl
  have qA12 := A1_2.out.2 2 _ rfl
  have qA13 := A1_2.out.2 3 _ rfl
  have lR := R_3.out.1
  have qR0 := R_3.out.2 0 _ rfl
  have qR1 := R_3.out.2 1 _ rfl
  have qR2 := R_3.out.2 2 _ rfl
  have qR3 := R_3.out.2 3 _ rfl
  have tR := R_3.out.3
  try simp only [World.size_alloc] at lA0 lA1 lR
  have lR := R_3.out.1
  have lW0 : w.heap.size < ((((w.alloc (.cells #[.int .i64 P, .int .i64 R, .int .i64 C, .slice (some a) n c] 37)).alloc (.cells #[.int .i64 P', .int .i64 R', .int .i64 C', .slice (some a') n' c'] 37)).alloc (.cells #[.int .i64 0, .int .i64 0, .int .i64 0, .slice none 0 0] 37))).heap.size := by simp <;> omega
  have lW1 : w.heap.size + 1 < ((((w.alloc (.cells #[.int .i64 P, .int .i64 R, .int .i64 C, .slice (some a) n c] 37)).alloc (.cells #[.int .i64 P', .int .i64 R', .int .i64 C', .slice (some a') n' c'] 37)).alloc (.cells #[.int .i64 0, .int .i64 0, .int .i64 0, .slice none 0 0] 37))).heap.size := by simp <;> omega
  have lW2 : w.heap.size + 1 + 1 < ((((w.alloc (.cells #[.int .i64 P, .int .i64 R, .int .i64 C, .slice (some a) n c] 37)).alloc (.cells #[.int .i64 P', .int .i64 R', .int .i64 C', .slice (some a') n' c'] 37)).alloc (.cells #[.int .i64 0, .int .i64 0, .int .i64 0, .slice none 0 0] 37))).heap.size := by simp <;> omega
  go_wp2_with fail
  generalize hWW : (((w.alloc (.cells #[.int .i64 P, .int .i64 R, .int .i64 C, .slice (some a) n c] 37)).alloc (.cells #[.int .i64 P', .int .i64 R', .int .i64 C', .slice (some a') n' c'] 37)).alloc (.cells #[.int .i64 0, .int .i64 0, .int .i64 0, .slice none 0 0] 37)) = W at *
  clear hWW
  have v1 : IntKind.i64.wrap ((R : Int) + (R' : Int)) = (R : Int) + (R' : Int) := IntWalk.i64_in _ ⟨by omega, by omega⟩
  refine wp_region_held_drew (S := (fun w' => Ext w w' ∧ w.heap.size + 1 + 1 ≤ w'.heap.size ∧ ∀ b o, b < w.heap.size + 1 + 1 → w'.cell? ⟨b, o, none⟩ = W.cell? ⟨b, o, none⟩)) (by kernel_rfl) ⟨E_4.out.drew, Nat.le_of_lt lW2, fun _ _ _ => rfl⟩ (fun hHeld => ?_)
  have nA0 : w.heap.size < w.heap.size + 1 + 1 := by omega
  have nA1 : w.heap.size + 1 < w.heap.size + 1 + 1 := by omega
  refine wpAnyH_take (i := 0) (v := ?v1) rfl (by kernel_rfl) (by kernel_rfl) (by kernel_rfl) (fun _ _ _ h => h) (Or.inl ⟨by rfl, ?hy1⟩) hHeld ?rest1
  case hy1 => (intro wz hSw; (try dsimp only at hSw); go_simp; (try with_reducible rfl))
  (try simp only [Act.put]); (try simp only [List.setIfInBounds_toArray]); (try simp only [List.set_cons_succ]); (try simp only [List.set_cons_zero])
  refine wpAnyH_take (i := 1) (v := ?v2) rfl (by kernel_rfl) (by kernel_rfl) (by kernel_rfl) (fun _ _ _ h => h) (Or.inl ⟨by rfl, ?hy2⟩) hHeld ?rest2
  case hy2 => (intro wz hSw; (try dsimp only at hSw); go_simp; (try with_reducible rfl))
  (try simp only [Act.put]); (try simp only [List.setIfInBounds_toArray]); (try simp only [List.set_cons_succ]); (try simp only [List.set_cons_zero])
  refine wpAnyH_take (i := 2) (v := ?v3) rfl (by kernel_rfl) (by kernel_rfl) (by kernel_rfl) (fun _ _ _ h => h) (Or.inl ⟨by rfl, ?hy3⟩) hHeld ?rest3
  case hy3 => (intro wz hSw; (try dsimp only at hSw); go_simp; (try with_reducible rfl))
  (try simp only [Act.put]); (try simp only [List.setIfInBounds_toArray]); (try simp only [List.set_cons_succ]); (try simp only [List.set_cons_zero])
  refine wpAnyH_take (i := 3) (v := ?v4) rfl (by kernel_rfl) (by kernel_rfl) (by kernel_rfl) (fun _ _ _ h => h) (Or.inl ⟨by rfl, ?hy4⟩) hHeld ?rest4
  case hy4 => (intro wz hSw; (try dsimp only at hSw); go_simp; (try with_reducible rfl))
  (try simp only [Act.put]); (try simp only [List.setIfInBounds_toArray]); (try simp only [List.set_cons_succ]); (try simp only [List.set_cons_zero])
  refine wpAnyH_take (i := 4) (v := ?v5) rfl (by kernel_rfl) (by kernel_rfl) (by kernel_rfl) (fun _ _ _ h => h) (Or.inl ⟨by rfl, ?hy5⟩) hHeld ?rest5
  case hy5 => (intro wz hSw; (try dsimp only at hSw); go_simp; (try with_reducible rfl))
  (try simp only [Act.put]); (try simp only [List.setIfInBounds_toArray]); (try simp only [List.set_cons_succ]); (try simp only [List.set_cons_zero])
  refine wpAnyH_take (i := 5) (v := ?v6) rfl (by kernel_rfl) (by kernel_rfl) (by kernel_rfl) (fun _ _ _ h => h) (Or.inl ⟨by rfl, ?hy6⟩) hHeld ?rest6
  case hy6 => (intro wz hSw; (try dsimp only at hSw); go_simp; (try with_reducible rfl))
  (try simp only [Act.put]); (try simp only [List.setIfInBounds_toArray]); (try simp only [List.set_cons_succ]); (try simp only [List.set_cons_zero])
  refine wpAnyH_take (i := 6) (v := ?v7) rfl (by kernel_rfl) (by kernel_rfl) (by kernel_rfl) (fun _ _ _ h => h) (Or.inl ⟨by rfl, ?hy7⟩) hHeld ?rest7
  case hy7 => (intro wz hSw; (try dsimp only at hSw); go_simp; (try with_reducible rfl))
  (try simp only [Act.put]); (try simp only [List.setIfInBounds_toArray]); (try simp only [List.set_cons_succ]); (try simp only [List.set_cons_zero])
  refine wpAnyH_take (i := 7) (v := ?v8) rfl (by kernel_rfl) (by kernel_rfl) (by kernel_rfl) (fun _ _ _ h => h) (Or.inl ⟨by rfl, ?hy8⟩) hHeld ?rest8
  case hy8 => (intro wz hSw; (try dsimp only at hSw); go_simp; (try with_reducible rfl))
  (try simp only [Act.put]); (try simp only [List.setIfInBounds_toArray]); (try simp only [List.set_cons_succ]); (try simp only [List.set_cons_zero])
  refine wpAnyH_take (i := 8) (v := ?v9) rfl (by kernel_rfl) (by kernel_rfl) (by kernel_rfl) (fun _ _ _ h => h) (Or.inl ⟨by rfl, ?hy9⟩) hHeld ?rest9
  case hy9 => (intro wz hSw; (try dsimp only at hSw); go_simp; (try with_reducible rfl))
  (try simp only [Act.put]); (try simp only [List.setIfInBounds_toArray]); (try simp only [List.set_cons_succ]); (try simp only [List.set_cons_zero])
  refine wpAnyH_take (i := 9) (v := ?v10) rfl (by kernel_rfl) (by kernel_rfl) (by kernel_rfl) (fun _ _ _ h => h) (Or.inl ⟨by rfl, ?hy10⟩) hHeld ?rest10
  case hy10 => (intro wz hSw; (try dsimp only at hSw); go_simp; (try with_reducible rfl))
  (try simp only [Act.put]); (try simp only [List.setIfInBounds_toArray]); (try simp only [List.set_cons_succ]); (try simp only [List.set_cons_zero])
  refine wpAnyH_take (i := 10) (v := ?v11) rfl (by kernel_rfl) (by kernel_rfl) (by kernel_rfl) (fun _ _ _ h => h) (Or.inl ⟨by rfl, ?hy11⟩) hHeld ?rest11
  case hy11 => (intro wz hSw; (try dsimp only at hSw); go_simp; (try with_reducible rfl))
  (try simp only [Act.put]); (try simp only [List.setIfInBounds_toArray]); (try simp only [List.set_cons_succ]); (try simp only [List.set_cons_zero])
  refine wpAnyH_take (i := 12) (v := ?v12) rfl (by kernel_rfl) (by kernel_rfl) (by kernel_rfl) (fun _ _ _ h => h) (Or.inl ⟨by rfl, ?hy12⟩) hHeld ?rest12
  case hy12 => (intro wz hSw; (try dsimp only at hSw); go_simp; (try with_reducible rfl))
  (try simp only [Act.put]); (try simp only [List.setIfInBounds_toArray]); (try simp only [List.set_cons_succ]); (try simp only [List.set_cons_zero])
  refine wpAnyH_take (i := 13) (v := ?v13) rfl (by kernel_rfl) (by kernel_rfl) (by kernel_rfl) (fun _ _ _ h => h) (Or.inl ⟨by rfl, ?hy13⟩) hHeld ?rest13
  case hy13 => (intro wz hSw; (try dsimp only at hSw); go_simp; (try with_reducible rfl))
  (try simp only [Act.put]); (try simp only [List.setIfInBounds_toArray]); (try simp only [List.set_cons_succ]); (try simp only [List.set_cons_zero])
  refine wpAnyH_ready (rs := [11]) (by kernel_rfl) (by simp) ?_
  refine AllReadyH.cons rfl (fun K' hK => ?_) AllReadyH.nil
  go_simp
  refine (l1Ints_grow a n c xs _ (HR.out.ext E_4.out.drew) (by omega)).mono ?_
  rintro e w2 ⟨v2, rfl, hG, h2⟩
  dsimp only
  refine hK.out _ _ (KeptR.call hHeld h2) (fun hHeld => ?_)
  clear hK
  have hG2 := Lib.hid hG
  clear hG
  have hRy := Lib.hid (HR'.out.ext (E_4.out.drew.trans h2))
  refine wpAnyH_ready (rs := [14]) (by kernel_rfl) (by simp) ?_
  refine AllReadyH.cons rfl (fun K' hK => ?_) AllReadyH.nil
  refine step_appendM rfl (.tmp 16) (.tmp 18) rfl i0 hi hz0 hz1 hz2 (base := W.heap.size) v2 n xs rfl hG2.out a' n' c' ys rfl hRy.out (by omega) h2.le ?_
  intro v3 w3 ho hg hnil
  have hfar : ∀ k, v2.ownBlock = some k → W.heap.size ≤ k := fun k hk => (hG2.out.blk k hk).1
  have h3 : Ext W w3 := Ext.grown ((Ext.refl W).drew.trans h2) hg hfar
  refine hK.out _ _ ⟨E_4.out.trans h3, Nat.le_trans (Nat.le_of_lt lW2) h3.le, fun b o hb => h3.cells b o (by omega)⟩ (fun hHeld => ?_)
  clear hK
  obtain ⟨a3, cap3, rfl, hRd, hnone⟩ := Grows.reads ho
  have HRd := Lib.hid hRd
  have HNo := Lib.hid hnone
  have H3 := Lib.hid h3
  clear hRd hnone ho hg hnil hfar hG2 h2 hRy h3
  refine wpAnyH_take (i := 15) (v := ?v14) rfl (by kernel_rfl) (by kernel_rfl) (by kernel_rfl) (fun _ _ _ h => h) (Or.inl ⟨by rfl, ?hy14⟩) hHeld ?rest14
  case hy14 => (intro wz hSw; (try dsimp only at hSw); go_simp; (try with_reducible rfl))
  (try simp only [Act.put]); (try simp only [List.setIfInBounds_toArray]); (try simp only [List.set_cons_succ]); (try simp only [List.set_cons_zero])
  refine wpAnyH_ready (rs := [16]) (by kernel_rfl) (by simp) ?_
  refine AllReadyH.cons rfl (fun K' hK => ?_) AllReadyH.nil
  have hsp := l1Span_spec P (R + R') C (n + n') cap3 a3 (xs ++ ys) w3 HRd.out HN.out hb hR hC HPR.out HX.out HNo.out
  rw [Int.natCast_add] at hsp
  go_simp
  refine hsp.mono ?_
  rintro e w5 ⟨b, d, rfl, hb1, hb2, hh, h5, hcc⟩
  dsimp only
  clear hsp
  refine hK.out _ _ (KeptR.call hHeld h5) (fun hHeld => ?_)
  clear hK
  have hall := H3.out.trans h5
  have c1 : w5.cell? ⟨w.heap.size + 1 + 1, 0, none⟩ = some (.int .i64 0) := (hall.cells _ 0 lR).trans qR0
  have c2 : w5.cell? ⟨w.heap.size + 1 + 1, 1, none⟩ = some (.int .i64 0) := (hall.cells _ 1 lR).trans qR1
  have c3 : w5.cell? ⟨w.heap.size + 1 + 1, 2, none⟩ = some (.int .i64 0) := (hall.cells _ 2 lR).trans qR2
  have c4 : w5.cell? ⟨w.heap.size + 1 + 1, 3, none⟩ = some (.slice none 0 0) := (hall.cells _ 3 lR).trans qR3
  have f1 : ∀ j, w5.frozen? ⟨w.heap.size + 1 + 1, j, none⟩ = false := fun j => (hall.frees _ j lR).trans (tR j)
  have hbR : w.heap.size + 1 + 1 < b := Nat.lt_of_lt_of_le (Nat.lt_of_lt_of_le lR H3.out.le) hb1
  have gB : w.heap.size ≤ w.heap.size + 1 + 1 := by omega
  refine wpAnyH_ready (rs := [17]) (by kernel_rfl) (by simp) ?_
  refine AllReadyH.cons rfl (fun K' hK => ?_) AllReadyH.nil
  go_simp
  refine hK.out _ _ (KeptR.set4 hHeld gB _ _ _ _) (fun hHeld => ?_)
  refine wpAnyH_done (by kernel_rfl) ?_ _
  go_wp2
  refine bodyPost_ret (v := .agg #[.int .i64 P, .int .i64 ((redM P (R + R') C (xs ++ ys)).pv.length : Nat), .int .i64 C, .slice (some ⟨b, 0, none⟩) ((redM P (R + R') C (xs ++ ys)).pv.length * C) d]) (by simp [results, Try.results115, go_sem, c1, c2, c3, c4]) rfl ⟨b, d, rfl, by omega, ?_, ?_, hHeld.1⟩
  · simpa using hb2
  · repeat with_reducible (first | exact hh | refine Has.setOther ?_ (by simp <;> omega) _)

noncomputable def sumM (P R C : Int) (xs : List Int) (P' R' C' : Int) (xs' : List Int) : Mat × Bool :=
  if bothM P R C xs P' R' C' xs' then (⟨P, ((redM P (R.toNat + R'.toNat) C.toNat (xs ++ xs')).pv.length : Nat), C, spanL P (R.toNat + R'.toNat) C.toNat (xs ++ xs')⟩, true) else (noMat, false)
theorem both_parts {P R C P' R' C' : Int} {xs xs' : List Int} (h : bothM P R C xs P' R' C' xs' = true) : mok P R C xs = true ∧ mok P' R' C' xs' = true ∧ P = P' ∧ C = C' := by
  simp only [bothM, spaceM, Bool.and_eq_true, beq_iff_eq] at h
  exact ⟨h.1.1.1.1, h.1.1.2.1, h.1.2, h.2⟩

end Go.Proofs.Ytnikfalpjieibaa

/-
  IsSubspace of both texts.
-/
namespace Go.Proofs.Ytnikfalpjieibaa
open Go.ChangeShapes Go.WideShapes Go.ChangeAt Go.RowKit
set_option linter.unusedVariables false

theorem reads_rowG {w : World} {b0 o0 R C n : Nat} {xs : List Int} (h : Reads w (some ⟨b0, o0, none⟩) n xs) (hn : n = R * C) {r : Nat} (hr : r < R) : Reads w (some ⟨b0, o0 + r * C, none⟩) C (rowL C xs r) := reads_row h hn hr
/-- All rows of the first lie in the space of the second: as the specification asks it. -/
def WithP (P : Int) (R R' C : Nat) (xs ys : List Int) : Prop := ∀ i, i < R → solOk P C R' (transTo ys R' C R') (rowL C xs i) = true
def InP2 (P : Int) (R R' C : Nat) (xs ys : List Int) : Prop := ∀ i, i < R → InSp P R' C (at2 C ys) (at2 C xs i)
noncomputable def withB (P : Int) (R R' C : Nat) (xs ys : List Int) : Bool := @decide (WithP P R R' C xs ys) (Classical.propDecidable _)
noncomputable def inB2 (P : Int) (R R' C : Nat) (xs ys : List Int) : Bool := @decide (InP2 P R R' C xs ys) (Classical.propDecidable _)
theorem withB_true {P : Int} {R R' C : Nat} {xs ys : List Int} (h : WithP P R R' C xs ys) : withB P R R' C xs ys = true := by simp [withB, h]
theorem withB_false {P : Int} {R R' C : Nat} {xs ys : List Int} (h : ¬ WithP P R R' C xs ys) : withB P R R' C xs ys = false := by simp [withB, h]
theorem inB2_true {P : Int} {R R' C : Nat} {xs ys : List Int} (h : InP2 P R R' C xs ys) : inB2 P R R' C xs ys = true := by simp [inB2, h]
theorem inB2_false {P : Int} {R R' C : Nat} {xs ys : List Int} (h : ¬ InP2 P R R' C xs ys) : inB2 P R R' C xs ys = false := by simp [inB2, h]
theorem rowR_res {P : Int} {C : Nat} {xs : List Int} (hP : 0 < P) (hx : Res xs P) (i : Nat) : Res (rowL C xs i) P := rowL_res hP hx _ _
theorem with_in {P : Int} {R R' C : Nat} {xs ys : List Int} (hp : IsP P) (hl : xs.length = R * C) (hl' : ys.length = R' * C) (hx : Res xs P) (hy : Res ys P) : withB P R R' C xs ys = inB2 P R R' C xs ys := by
  have h : ∀ i, i < R → (solOk P C R' (transTo ys R' C R') (rowL C xs i) = true ↔ InSp P R' C (at2 C ys) (at2 C xs i)) := fun i hi => by
    rw [trans_sol hp hl' hy (rowR_res (by have := hp.1; omega) hx i) (transTo_length _ _ _ _) (transTo_res hp.1 hy _) (fun c i hc hi => at2_transTo c i hc hi)]
    exact ⟨fun h => h.congr (fun c hc => by rw [gi_rowL hc]; exact Eqm.refl _), fun h => h.congr (fun c hc => by rw [gi_rowL hc]; exact Eqm.refl _)⟩
  have key : WithP P R R' C xs ys ↔ InP2 P R R' C xs ys := ⟨fun h2 i hi => (h i hi).1 (h2 i hi), fun h2 i hi => (h i hi).2 (h2 i hi)⟩
  by_cases e : InP2 P R R' C xs ys
  · rw [inB2_true e, withB_true (key.2 e)]
  · rw [inB2_false e, withB_false (fun h => e (key.1 h))]

noncomputable def subM (P R C : Int) (xs : List Int) (P' R' C' : Int) (xs' : List Int) : Bool := bothM P R C xs P' R' C' xs' && inB2 P R.toNat R'.toNat C.toNat xs xs'
theorem both_sp {P R C P' R' C' : Int} {xs xs' : List Int} (h : bothM P R C xs P' R' C' xs' = true) : IsSp P' R'.toNat C'.toNat xs' := by
  simp only [bothM, spaceM, spB, Bool.and_eq_true, decide_eq_true_eq] at h
  exact h.1.1.2.2

end Go.Proofs.Ytnikfalpjieibaa
