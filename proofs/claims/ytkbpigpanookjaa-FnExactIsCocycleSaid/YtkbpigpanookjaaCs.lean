/-
  CoordinatesIn of both texts.
-/
import Derived.Test.YtkbpigpanookjaaSm
import Derived.Test.YtkbpigpanookjaaSp
import Derived.Test.YtkbpigpanookjaaJn
namespace Go.Proofs.Ytkbpigpanookjaa
open Go.ChangeShapes Go.WideShapes Go.ChangeAt Go.RowKit
set_option linter.unusedVariables false

/-! The transpose, place by place. -/
theorem gi_colTo {xs l : List Int} {R C i : Nat} (hi : i < R) (hl : l.length = C * R) (k : Nat) (hk : k ≤ C) (j q : Nat) (hj : j < C) (hq : q < R) :
    gi (colTo xs R C i l k) (j * R + q) = if q = i ∧ j < k then gi xs (i * C + j) else gi l (j * R + q) := by
  induction k with
  | zero => rw [colTo, if_neg (by omega)]
  | succ k ih =>
    have hp := place_lt (R := C) (C := R) (show k < C by omega) hi
    rw [colTo, gi_set _ _ _ _ (by rw [colTo_length, hl]; exact hp), ih (by omega)]
    by_cases e : q = i ∧ j = k
    · obtain ⟨rfl, rfl⟩ := e
      rw [if_pos rfl, if_pos (by omega)]
    · have hne : j * R + q ≠ k * R + i := by
        by_cases e2 : j = k
        · subst e2; omega
        · exact at2_place hq hi e2
      rw [if_neg hne]
      by_cases e3 : q = i ∧ j < k
      · rw [if_pos e3, if_pos (by omega)]
      · rw [if_neg e3, if_neg (by omega)]
theorem gi_transTo {xs : List Int} {R C : Nat} (k : Nat) (hk : k ≤ R) (j q : Nat) (hj : j < C) (hq : q < R) :
    gi (transTo xs R C k) (j * R + q) = if q < k then gi xs (q * C + j) else 0 := by
  induction k with
  | zero =>
    rw [transTo, if_neg (by omega)]; exact gi_rep _ _
  | succ k ih =>
    rw [transTo, gi_colTo (by omega) (transTo_length _ _ _ _) C (Nat.le_refl _) j q hj hq, ih (by omega)]
    by_cases e : q = k
    · subst e; rw [if_pos ⟨rfl, hj⟩, if_pos (by omega)]
    · rw [if_neg (by omega)]
      by_cases e2 : q < k
      · rw [if_pos e2, if_pos (by omega)]
      · rw [if_neg e2, if_neg (by omega)]
theorem at2_transTo {xs : List Int} {R C : Nat} (c i : Nat) (hc : c < C) (hi : i < R) : at2 R (transTo xs R C R) c i = at2 C xs i c := by
  unfold at2
  rw [gi_transTo R (Nat.le_refl _) c i hc hi, if_pos hi]
theorem gi_tr {xs : List Int} {R C : Nat} {j q : Nat} (hj : j < C) (hq : q < R) : gi (transTo xs R C R) (j * R + q) = gi xs (q * C + j) := by
  have h : ∀ k, k ≤ R → ∀ j q, j < C → q < R → gi (transTo xs R C k) (j * R + q) = if q < k then gi xs (q * C + j) else 0 := fun k hk j q hj hq => gi_transTo k hk j q hj hq
  rw [h R (Nat.le_refl _) j q hj hq, if_pos hq]
theorem colTo_res {P : Int} {xs l : List Int} {R C i : Nat} (hp : 0 < P) (hx : Res xs P) (hl : Res l P) (k : Nat) : Res (colTo xs R C i l k) P := by
  induction k with
  | zero => exact hl
  | succ k ih => exact res_set _ _ _ _ ih (res_gi _ _ hx hp _).1 (res_gi _ _ hx hp _).2
theorem transTo_res {P : Int} {xs : List Int} {R C : Nat} (hp : 2 ≤ P) (hx : Res xs P) (k : Nat) : Res (transTo xs R C k) P := by
  induction k with
  | zero => exact res_zero _ hp
  | succ k ih => exact colTo_res (by omega) hx ih C

set_option maxHeartbeats 800000 in
theorem equal_fn (a a' : Option Addr) (n n' c c' : Nat) (xs ys : List Int) (w : World) (hr : Reads w a n xs) (hr' : Reads w a' n' ys) (hm : n ≤ 1048576) (hm' : n' ≤ 1048576) :
    Calls Try.prog 136 #[.slice a n c, .slice a' n' c'] w fun e w' => e = .returned (.bool (sameB xs ys)) ∧ ∃ m, w' = w.drewN m := by
  have hl := Lib.hid hr.1
  have hl' := Lib.hid hr'.1
  have HR := Lib.hid hr.2
  have HR' := Lib.hid hr'.2
  clear hr hr'
  by_cases hnn : n = n'
  case neg =>
    have hb : ((n : Int) != (n' : Int)) = true := by simp; omega
    have HF : Hid (sameB xs ys = false) := by
      refine decide_eq_false (fun e => hnn ?_)
      rw [← hl.out, ← hl'.out, e]
    clear hnn
    go_enter Try.func136, Try.ntmps136
    go_wp2
    go_ret
    exact ⟨ret_bool HF.out.symm, 0, rfl⟩
  subst hnn
  go_enter Try.func136, Try.ntmps136
  go_wp2
  go_loopw [13, 5] (fun z _ wr => ∃ (k m : Nat), k ≤ n ∧ z = .int .i64 k ∧ wr = w.drewN m ∧ Hid (∀ i, i < k → gi xs i = gi ys i)) (fun z _ _ => n - (intOf z).toNat)
  case atStart => exact ⟨0, 0, by omega, rfl, rfl, fun i hi => by omega⟩
  case round =>
    obtain ⟨k, m, hk, rfl, rfl, hf⟩ := hrel
    by_cases hlt : k < n
    · rcases HR.out with h | ⟨b, off, rfl, hb, hc⟩
      · omega
      rcases HR'.out with h | ⟨b', off', rfl, hb', hc'⟩
      · omega
      have hc1 := hc k hlt
      have hc2 := hc' k hlt
      have hlt' : (k : Int) < (n : Int) := by omega
      clear hc hc'
      by_cases h0 : gi xs k = gi ys k
      · have hb0 : (gi xs k != gi ys k) = false := by simpa using h0
        have HF : Hid (∀ i, i < k + 1 → gi xs i = gi ys i) := fun i hi => by
          by_cases e : i = k
          · subst e; exact h0
          · exact hf.out i (by omega)
        clear h0
        go_wp2
        go_quiet (fail)
        go_wp2
        exact ⟨⟨k + 1, m + nq, by omega, by simp, by simp, HF⟩, by simp [intOf]; omega⟩
      · have hb0 : (gi xs k != gi ys k) = true := by simpa using h0
        have HF : Hid (sameB xs ys = false) := decide_eq_false (fun e => h0 (by rw [e]))
        clear h0
        go_wp2
        go_quiet (fail)
        go_wp2
        go_ret
        exact ⟨ret_bool HF.out.symm, m + nq, by simp⟩
    · obtain rfl : k = n := by omega
      have HF : Hid (sameB xs ys = true) := decide_eq_true (ext_gi (by rw [hl.out, hl'.out]) (fun i hi => hf.out i (by rw [hl.out] at hi; exact hi)))
      go_wp2
      go_ret
      exact ⟨ret_bool HF.out.symm, m, rfl⟩

noncomputable def coOk (P : Int) (R C : Nat) (xs vs : List Int) : Bool := sameB (coTo P C xs vs (redM P R C xs).pv R) vs
noncomputable def coM (P R C : Int) (xs vs : List Int) : List Int × Bool :=
  if spaceM P R C xs && (((vs.length : Int) == C) && resB vs P) then (if coOk P R.toNat C.toNat xs vs then (coL (redM P R.toNat C.toNat xs).pv vs, true) else ([], false)) else ([], false)

theorem co_eq {P : Int} {R C : Nat} {xs vs : List Int} (hp : IsP P) (hl : xs.length = R * C) (hx : Res xs P) (hs : IsSp P R C xs) (hv : Res vs P) (hvl : vs.length = C) :
    coOk P R C xs vs = solOk P C R (transTo xs R C R) vs ∧ (solOk P C R (transTo xs R C R) vs = true → solL P C R (transTo xs R C R) vs = coL (redM P R C xs).pv vs) := by
  have ht := transTo_length xs R C R
  have htr := transTo_res (R := R) (C := C) hp.1 hx R
  have hT := fun c i (hc : c < C) (hi : i < R) => at2_transTo (xs := xs) c i hc hi
  have h1 := co_iff hp hl hx hs hv hvl
  have h2 := trans_sol hp hl hx hv ht htr hT
  refine ⟨?_, fun h => co_sol hp hl hx hs hv ht htr hT h⟩
  rcases h : solOk P C R (transTo xs R C R) vs with _ | _
  · refine decide_eq_false (fun e => ?_)
    have := h2.2 (h1.1 e)
    rw [h] at this; exact absurd this (by decide)
  · exact decide_eq_true (h1.2 (h2.1 h))

end Go.Proofs.Ytkbpigpanookjaa

/-
  Two spaces of one P and one number of columns; their sum, of both texts.
-/
namespace Go.Proofs.Ytkbpigpanookjaa
open Go.ChangeShapes Go.WideShapes Go.ChangeAt Go.RowKit
set_option linter.unusedVariables false

noncomputable def bothM (P R C : Int) (xs : List Int) (P' R' C' : Int) (xs' : List Int) : Bool := spaceM P R C xs && spaceM P' R' C' xs' && (P == P') && (C == C')

theorem Grows.reads {w : World} {base n : Nat} {v : Value} {xs : List Int} (h : w.ownsRow base 3 1 v n (xs.map (Value.int .i64))) : ∃ a cap, v = .slice a n cap ∧ Reads w a n xs ∧ (a = none → n = 0 ∧ cap = 0) := by
  have hl : xs.length = n := by simpa using h.1
  rcases h.2 with ⟨h1, h2⟩ | ⟨g, cap, cur, h1, hb, hg, hn, hc, hs, ht⟩
  · subst h1; subst h2
    exact ⟨none, 0, rfl, ⟨hl, .inl rfl⟩, fun _ => ⟨rfl, rfl⟩⟩
  · subst h1
    have hh : Has w g xs := ⟨cur, hg, by omega, by rw [hl]; simpa using ht⟩
    exact ⟨_, cap, rfl, hh.reads hl, fun h => by simp at h⟩
/-- append as a step of a region. -/
theorem step_appendM {ops : Array Oper} {o : Oper} {a : Act} {w : World} {K : Act → World → Prop} {Q : Exit → Act → World → Prop} {E : Prop} (hgd : o.guard = none) (s x : Operand)
    (ho : o.op = .call { callee := .builtin .append, args := #[s, x], argTypes := #[22, 22] })
    (i0 : TypeInfo) (hi : Try.prog.info? 3 = some i0) (hz0 : i0.zero = some (.int .i64 0)) (hz1 : i0.size = 1) (hz2 : i0.bytes = 8) {base : Nat}
    (v : Value) (n : Nat) (xs : List Int) (hs : a.eval s = v) (hown : Grows w base v n xs) (ad : Addr) (m c : Nat) (ys : List Int) (hx : a.eval x = .slice (some ad) m c) (hy : Reads w (some ad) m ys) (hb : n + m ≤ 1048576) (hbase : base ≤ w.heap.size)
    (h : ∀ v' w', w'.ownsRow base 3 1 v' (n + m) ((xs ++ ys).map (Value.int .i64)) → w.grownBy w' v.ownBlock → (v' = .slice none 0 0 ↔ v = .slice none 0 0 ∧ m = 0) → K (a.put o.dst v') w') :
    if Region.wanted o (yielded ops a.tmps) = true then Oper.wp Try.prog o a w K Q else E := by
  have hw : Region.wanted o (yielded ops a.tmps) = true := by simp [Region.wanted, hgd]
  rw [if_pos hw]
  refine wp_append_own w s x 22 ho base 3 i0 (.int .i64 0) 1 8 Try.underlying22 hi hz0 hz1 hz2 rfl (by decide) v n (xs.map (Value.int .i64)) hs hown ad m c (ys.map (Value.int .i64)) hx (by simpa using hy.1) (fun j u hu => ?_) (fun u hu => by obtain ⟨z, _, rfl⟩ := List.mem_map.1 hu; rfl) (by unfold maxLen; omega) (by omega) hbase (fun v' w' h1 h2 h3 => h v' w' (by rw [List.map_append]; exact h1) h2 h3)
  have hj : j < m := by have := (List.getElem?_eq_some_iff.1 hu).1; simp [hy.1] at this; omega
  rcases hy.2 with h0 | ⟨b, off, h0, hb', hc⟩
  · omega
  · simp only [Option.some.injEq] at h0
    subst h0
    rw [show (⟨b, off, none⟩ : Addr).add j = ⟨b, off + j, none⟩ from add_plain .., hc j hj]
    simp at hu
    obtain ⟨z, hz, rfl⟩ := hu
    simp [gi, List.getD_eq_getElem?_getD, hz]
set_option maxHeartbeats 800000 in
theorem l1Ints_grow (ad : Addr) (n c : Nat) (xs : List Int) (w : World) (hr : Reads w (some ad) n xs) (hn : n ≤ 1048576) :
    Calls Try.prog 137 #[.slice (some ad) n c] w fun e w' => ∃ v, e = .returned v ∧ Grows w' w.heap.size v n xs ∧ Ext w w' := by
  obtain ⟨i0, hi, hz0, hz1, hz2⟩ := info_parts Try.infoInt
  obtain ⟨hl, hr⟩ := hr
  have own0 : (w.alloc (.cells #[] 3)).ownsRow w.heap.size 3 1 (.slice (some ⟨w.heap.size, 0, none⟩) 0 0) 0 [] := World.ownsRow_lit w #[] 0 (Nat.le_refl _) (by unfold maxLen; omega) (by simp)
  have hnews : ∀ (j : Nat) (u : Value), (xs.map (Value.int .i64))[j]? = some u → (w.alloc (.cells #[] 3)).cell? (ad.add j) = some u := by
    intro j u hu
    have hj : j < xs.length := by have := (List.getElem?_eq_some_iff.1 hu).1; simpa using this
    rcases hr with h | ⟨b, off, h, hb, hc⟩
    · omega
    · simp at h
      subst h
      have e : (⟨b, off, none⟩ : Addr).add j = ⟨b, off + j, none⟩ := add_plain ..
      rw [e, World.cell?_alloc_past _ _ _ hb, hc j (by omega)]
      simp [hj] at hu
      simp [gi, hj, hu]
  go_enter Try.func137, Try.ntmps137
  go_wp2_with (at_builtin; refine wpList_append_own _ rfl _ _ 22 rfl w.heap.size 3 i0 (.int .i64 0) 1 8 Try.underlying22 hi hz0 hz1 hz2 rfl (by decide) _ 0 [] rfl own0 ad n _ (xs.map (Value.int .i64)) rfl ?c1 hnews ?c2 ?c3 ?c4 ?c5 ?_)
  case c1 => simpa using hl
  case c2 => intro u hu; obtain ⟨z, _, rfl⟩ := List.mem_map.1 hu; rfl
  case c3 => unfold maxLen; omega
  case c4 => omega
  case c5 => simp
  intro v' w1 ho hg hnil
  have hE : Hid (Ext w w1) := ((Ext.refl w).alloc _).grown hg (fun k hk => by simp [Value.ownBlock] at hk; omega)
  have HG : Hid (Grows w1 w.heap.size v' n xs) := by
    show w1.ownsRow _ _ _ _ _ _
    simpa using ho
  clear ho hg hnil
  go_wp2
  go_ret
  exact ⟨v', rfl, HG.out, hE.out⟩

noncomputable def sumM (P R C : Int) (xs : List Int) (P' R' C' : Int) (xs' : List Int) : Mat × Bool :=
  if bothM P R C xs P' R' C' xs' then (⟨P, ((redM P (R.toNat + R'.toNat) C.toNat (xs ++ xs')).pv.length : Nat), C, spanL P (R.toNat + R'.toNat) C.toNat (xs ++ xs')⟩, true) else (noMat, false)
theorem both_parts {P R C P' R' C' : Int} {xs xs' : List Int} (h : bothM P R C xs P' R' C' xs' = true) : mok P R C xs = true ∧ mok P' R' C' xs' = true ∧ P = P' ∧ C = C' := by
  simp only [bothM, spaceM, Bool.and_eq_true, beq_iff_eq] at h
  exact ⟨h.1.1.1.1, h.1.1.2.1, h.1.2, h.2⟩

end Go.Proofs.Ytkbpigpanookjaa

/-
  IsSubspace of both texts.
-/
namespace Go.Proofs.Ytkbpigpanookjaa
open Go.ChangeShapes Go.WideShapes Go.ChangeAt Go.RowKit
set_option linter.unusedVariables false

set_option maxHeartbeats 800000 in
theorem l1Row_spec (P R : Int) (C i b0 o0 n d : Nat) (w : World) (hlt : (i + 1) * C ≤ n) (hn : n ≤ 1048576) (hi : i ≤ 1048576) (hd : n ≤ d) :
    Calls Try.prog 130 #[.agg #[.int .i64 P, .int .i64 R, .int .i64 C, .slice (some ⟨b0, o0, none⟩) n d], .int .i64 i] w fun e w' => e = .returned (.slice (some ⟨b0, o0 + i * C, none⟩) C (d - i * C)) ∧ Ext w w' := by
  have e0 : (i + 1) * C = i * C + C := by rw [Nat.add_mul]; omega
  have e1 : (i : Int) * (C : Int) = ((i * C : Nat) : Int) := by simp
  have e2 : ((i : Int) + 1) * (C : Int) = ((i * C + C : Nat) : Int) := by rw [← e0]; simp
  have g1 : 0 ≤ (i : Int) * (C : Int) := by rw [e1]; omega
  have g2 : (i : Int) * (C : Int) ≤ 1048576 := by rw [e1]; omega
  have g3 : 0 ≤ ((i : Int) + 1) * (C : Int) := by rw [e2]; omega
  have g4 : ((i : Int) + 1) * (C : Int) ≤ (d : Int) := by rw [e2]; omega
  have g7 : ((i : Int) + 1) * (C : Int) ≤ 1048576 := by rw [e2]; omega
  have g5 : (i : Int) * (C : Int) ≤ ((i : Int) + 1) * (C : Int) := by rw [e1, e2]; omega
  have g6 : (i : Int) ≤ 1048576 := by omega
  have E0 := Lib.hid e0
  clear e0 e1 e2
  have HLT := Lib.hid hlt
  go_enter Try.func130, Try.ntmps130
  go_wp2
  case inl =>
    have e3 : C = 0 := by have := E0.out; omega
    subst e3
    simp only [Nat.mul_zero] at h
    subst h
    go_ret
    exact ⟨by simp, (Ext.refl _).alloc _⟩
  case inr =>
    have e3 : (i + 1) * C - i * C = C := by have := E0.out; omega
    go_ret
    exact ⟨by simp [e3], (Ext.refl _).alloc _⟩

theorem reads_rowG {w : World} {b0 o0 R C n : Nat} {xs : List Int} (h : Reads w (some ⟨b0, o0, none⟩) n xs) (hn : n = R * C) {r : Nat} (hr : r < R) : Reads w (some ⟨b0, o0 + r * C, none⟩) C (rowL C xs r) := reads_row h hn hr
/-- All rows of the first lie in the space of the second: as the specification asks it. -/
def WithP (P : Int) (R R' C : Nat) (xs ys : List Int) : Prop := ∀ i, i < R → solOk P C R' (transTo ys R' C R') (rowL C xs i) = true
def InP2 (P : Int) (R R' C : Nat) (xs ys : List Int) : Prop := ∀ i, i < R → InSp P R' C (at2 C ys) (at2 C xs i)
noncomputable def withB (P : Int) (R R' C : Nat) (xs ys : List Int) : Bool := @decide (WithP P R R' C xs ys) (Classical.propDecidable _)
noncomputable def inB2 (P : Int) (R R' C : Nat) (xs ys : List Int) : Bool := @decide (InP2 P R R' C xs ys) (Classical.propDecidable _)
theorem withB_true {P : Int} {R R' C : Nat} {xs ys : List Int} (h : WithP P R R' C xs ys) : withB P R R' C xs ys = true := by simp [withB, h]
theorem withB_false {P : Int} {R R' C : Nat} {xs ys : List Int} (h : ¬ WithP P R R' C xs ys) : withB P R R' C xs ys = false := by simp [withB, h]
theorem inB2_true {P : Int} {R R' C : Nat} {xs ys : List Int} (h : InP2 P R R' C xs ys) : inB2 P R R' C xs ys = true := by simp [inB2, h]
theorem inB2_false {P : Int} {R R' C : Nat} {xs ys : List Int} (h : ¬ InP2 P R R' C xs ys) : inB2 P R R' C xs ys = false := by simp [inB2, h]
theorem rowR_res {P : Int} {C : Nat} {xs : List Int} (hP : 0 < P) (hx : Res xs P) (i : Nat) : Res (rowL C xs i) P := rowL_res hP hx _ _
theorem with_in {P : Int} {R R' C : Nat} {xs ys : List Int} (hp : IsP P) (hl : xs.length = R * C) (hl' : ys.length = R' * C) (hx : Res xs P) (hy : Res ys P) : withB P R R' C xs ys = inB2 P R R' C xs ys := by
  have h : ∀ i, i < R → (solOk P C R' (transTo ys R' C R') (rowL C xs i) = true ↔ InSp P R' C (at2 C ys) (at2 C xs i)) := fun i hi => by
    rw [trans_sol hp hl' hy (rowR_res (by have := hp.1; omega) hx i) (transTo_length _ _ _ _) (transTo_res hp.1 hy _) (fun c i hc hi => at2_transTo c i hc hi)]
    exact ⟨fun h => h.congr (fun c hc => by rw [gi_rowL hc]; exact Eqm.refl _), fun h => h.congr (fun c hc => by rw [gi_rowL hc]; exact Eqm.refl _)⟩
  have key : WithP P R R' C xs ys ↔ InP2 P R R' C xs ys := ⟨fun h2 i hi => (h i hi).1 (h2 i hi), fun h2 i hi => (h i hi).2 (h2 i hi)⟩
  by_cases e : InP2 P R R' C xs ys
  · rw [inB2_true e, withB_true (key.2 e)]
  · rw [inB2_false e, withB_false (fun h => e (key.1 h))]

noncomputable def subM (P R C : Int) (xs : List Int) (P' R' C' : Int) (xs' : List Int) : Bool := bothM P R C xs P' R' C' xs' && inB2 P R.toNat R'.toNat C.toNat xs xs'
theorem both_sp {P R C P' R' C' : Int} {xs xs' : List Int} (h : bothM P R C xs P' R' C' xs' = true) : IsSp P' R'.toNat C'.toNat xs' := by
  simp only [bothM, spaceM, spB, Bool.and_eq_true, decide_eq_true_eq] at h
  exact h.1.1.2.2

end Go.Proofs.Ytkbpigpanookjaa
