/-
  hasCharacter, by the program.
-/
import Derived.Test.YtlnpaplbcocmkaaGreatChs
import Derived.Test.YtlnpaplbcocmkaaGreatCg
namespace Go.Proofs.YtlnpaplbcocmkaaGreat
open Go.ChangeShapes Go.WideShapes Go.ChangeAt Go.RowKit
set_option linter.unusedVariables false
set_option linter.unusedSimpArgs false

theorem cmpL_pos : ∀ x y : List Int, 0 < cmpL x y ↔ lexB x y = true
  | [], [] => by simp [cmpL, lexB]
  | [], _ :: _ => by simp [cmpL, lexB]
  | _ :: _, [] => by simp [cmpL, lexB]
  | a :: x, b :: y => by
    rw [cmpL, lexB]
    by_cases e : a = b
    · rw [if_pos e, if_pos (cmpI_zero.2 e)]; exact cmpL_pos x y
    · rw [if_neg e, if_neg (fun h => e (cmpI_zero.1 h)), cmpI_pos, cmpI_neg, decide_eq_true_iff]
theorem latB_long {R : Nat} {ys : List Int} (h : latB R ys = true) : ys.length = R := Classical.byContradiction fun h2 => by rw [latB_len h2] at h; cases h
theorem chJ_len {R j : Nat} {ts : List (List Int × Int)} (h : chJ R ts j = true) : (tmR ts j).length = R := by
  rw [chJ, Bool.and_eq_true] at h; exact latB_long h.1
theorem chJ_lat {R j : Nat} {ts : List (List Int × Int)} (h : latB R (tmR ts j) = false) : chJ R ts j = false := by rw [chJ, h]; rfl
theorem chJ_cnt {R j : Nat} {ts : List (List Int × Int)} (h : ¬ (1 ≤ tmC ts j ∧ tmC ts j ≤ 1000000)) : chJ R ts j = false := by rw [chJ, decide_eq_false h, Bool.false_and, Bool.and_false]
theorem chJ_0 {R : Nat} {ts : List (List Int × Int)} (h : latB R (tmR ts 0) = true) (h2 : 1 ≤ tmC ts 0 ∧ tmC ts 0 ≤ 1000000) : chJ R ts 0 = true := by rw [chJ, h, decide_eq_true h2]; rfl
theorem chJ_s {R k : Nat} {ts : List (List Int × Int)} (h : latB R (tmR ts (k + 1)) = true) (h2 : 1 ≤ tmC ts (k + 1) ∧ tmC ts (k + 1) ≤ 1000000) (hl : (tmR ts k).length = R) : chJ R ts (k + 1) = !decide (cmpL (tmR ts k) (tmR ts (k + 1)) ≤ 0) := by
  rw [chJ, h, decide_eq_true h2, Bool.true_and, Bool.true_and, decide_eq_false (by omega), Bool.false_or, Nat.add_sub_cancel, abv_lex9 (by rw [hl, latB_long h])]
  have hp := cmpL_pos (tmR ts k) (tmR ts (k + 1))
  rcases hL : lexB (tmR ts k) (tmR ts (k + 1)) with _ | _
  · rw [hL] at hp
    have : cmpL (tmR ts k) (tmR ts (k + 1)) ≤ 0 := by
      have := mt hp.1 (by simp); omega
    rw [decide_eq_true this]; rfl
  · have := hp.2 hL
    rw [decide_eq_false (by omega)]; rfl
set_option maxHeartbeats 400000 in
theorem hasLattice_no (B R da od n cD m cx : Nat) (a : Option Addr) (v2 v3 : Value) (w : World) (hB : Cells w B [.int .i64 (R : Nat), .slice (some ⟨da, od, none⟩) n cD, v2, v3]) (hm : m ≠ R) :
    Calls Tryz.prog 114 #[.pointer (some ⟨B, 0, none⟩), .slice a m cx] w fun e w' => e = .returned (.bool false) ∧ Ext w w' := by
  have lB := hB.1
  have q0 := hB.2 0 _ rfl
  have hmq : ((m : Int) == (R : Int)) = false := by simp; omega
  clear hB
  go_enter Tryz.func114, Tryz.ntmps114
  go_wp2
  go_ret
  exact ⟨rfl, Ext.refl _⟩
set_option maxHeartbeats 400000 in
theorem hasWeight_no (B R da od n cD m cx : Nat) (a : Option Addr) (v2 v3 : Value) (w : World) (hB : Cells w B [.int .i64 (R : Nat), .slice (some ⟨da, od, none⟩) n cD, v2, v3]) (hm : m ≠ R) :
    Calls Tryz.prog 70 #[.pointer (some ⟨B, 0, none⟩), .slice a m cx] w fun e w' => e = .returned (.bool false) ∧ Ext w w' := by
  have HC := Lib.hid (hasLattice_no B R da od n cD m cx a v2 v3 w hB hm)
  clear hB
  go_enter Tryz.func70, Tryz.ntmps70
  go_wp2_with fail
  refine HC.out.mono ?_
  rintro e w2 ⟨rfl, hE⟩
  go_wp2
  go_ret
  exact ⟨rfl, hE⟩
set_option maxRecDepth 100000 in
set_option maxHeartbeats 1600000 in
theorem hasWeight_lat (B R da od n cD ax ox m cx : Nat) (v2 v3 : Value) (ys : List Int) (w : World) (hB : Cells w B [.int .i64 (R : Nat), .slice (some ⟨da, od, none⟩) n cD, v2, v3]) (hy : Reads w (some ⟨ax, ox, none⟩) m ys) (hR : R ≤ 4) (hmm : m ≤ 1048576) :
    Calls Tryz.prog 70 #[.pointer (some ⟨B, 0, none⟩), .slice (some ⟨ax, ox, none⟩) m cx] w fun e w' => e = .returned (.bool (latB R ys)) ∧ Ext w w' := by
  have HC := Lib.hid (hasLattice_impl B R da od n cD ax ox m cx v2 v3 ys w hB hy hR hmm)
  clear hB hy
  go_enter Tryz.func70, Tryz.ntmps70
  go_wp2_with fail
  refine HC.out.mono ?_
  rintro e w2 ⟨rfl, h⟩
  go_wp2
  go_ret
  exact ⟨rfl, h⟩
theorem hasWeight_any (B R da od n cD m cx : Nat) (a : Option Addr) (v2 v3 : Value) (ys : List Int) (w : World) (hB : Cells w B [.int .i64 (R : Nat), .slice (some ⟨da, od, none⟩) n cD, v2, v3]) (hy : Reads w a m ys) (hR0 : 1 ≤ R) (hR : R ≤ 4) (hmm : m ≤ 1048576) :
    Calls Tryz.prog 70 #[.pointer (some ⟨B, 0, none⟩), .slice a m cx] w fun e w' => e = .returned (.bool (latB R ys)) ∧ Ext w w' := by
  by_cases hm : m = R
  · obtain ⟨b, o, rfl⟩ : ∃ b o, a = some ⟨b, o, none⟩ := by
      rcases hy.2 with h | ⟨b, o, h, _⟩
      · omega
      · exact ⟨b, o, h⟩
    exact hasWeight_lat B R da od n cD b o m cx v2 v3 ys w hB hy hR hmm
  · rw [latB_len (R := R) (ys := ys) (by rw [hy.len]; exact hm)]
    exact hasWeight_no B R da od n cD m cx a v2 v3 w hB hm
set_option maxRecDepth 100000 in
set_option maxHeartbeats 3200000 in
theorem hasCharacter_impl (B R da od n cD ax ox m cx : Nat) (v2 v3 : Value) (ys : List (List Int × Int)) (w : World) (hB : Cells w B [.int .i64 (R : Nat), .slice (some ⟨da, od, none⟩) n cD, v2, v3]) (hy : TrmR w (some ⟨ax, ox, none⟩) m ys) (hrl : 1 ≤ R ∧ ∀ j, j < m → (tmR ys j).length ≤ 1048576) (hR : R ≤ 4) (hmm : m ≤ 1048576) :
    Calls Tryz.prog 124 #[.pointer (some ⟨B, 0, none⟩), .slice (some ⟨ax, ox, none⟩) m cx] w fun e w' => e = .returned (.bool (chB R ys)) ∧ Ext w w' := by
  have HL := hy.len
  have HY := Lib.hid hy
  have HB := Lib.hid hB
  have HRL := Lib.hid hrl
  by_cases hm : m ≤ 400
  · have HNO : Hid (∀ j, j < m → chJ R ys j = false → chB R ys = false) := fun j hj h => chB_no (by omega) h
    have HYES : Hid ((∀ j, j < m → chJ R ys j = true) → chB R ys = true) := fun h => chB_yes (by omega) (fun j hj => h j (by omega))
    have hmi : ¬ (400 : Int) < (m : Int) := by omega
    obtain ⟨q, hq⟩ : ∃ q, chB R ys = q := ⟨_, rfl⟩
    rw [hq] at HYES HNO ⊢
    clear hy hB hq hrl
    go_enter Tryz.func124, Tryz.ntmps124
    go_wp2_with fail
    clear hmi
    go_loopw [12] (fun z wr => ∃ j : Nat, j ≤ m ∧ z = .int .i64 j ∧ Hid (Ext w wr) ∧ Hid (∀ p, p < j → chJ R ys p = true)) (fun z _ => m - (intOf z).toNat)
    case atStart => exact ⟨0, by omega, rfl, Ext.refl _, fun p h => by omega⟩
    case round =>
      obtain ⟨j, hj, rfl, hE, hD⟩ := hrel
      by_cases hlt : j < m
      · have hltI : (j : Int) < (m : Int) := by omega
        have hax : ax < wr.heap.size := by
          rcases (HY.out.ext hE.out).2 with h0 | ⟨b, o, e1, e2, e3⟩
          · omega
          · simp only [Option.some.injEq, Addr.mk.injEq, and_true] at e1
            obtain ⟨rfl, rfl⟩ := e1; exact e2
        have HCE : Hid (∀ i, i < m → ∃ aj cj, (∀ w1, Ext wr w1 → w1.cell? ⟨ax, ox + i * 2, none⟩ = some (.slice aj (tmR ys i).length cj) ∧ w1.cell? ⟨ax, ox + i * 2 + 1, none⟩ = some (.int .i64 (tmC ys i)) ∧ Reads w1 aj (tmR ys i).length (tmR ys i))) := fun i hi => by
          rcases (HY.out.ext hE.out).2 with h0 | ⟨b, o, e1, e2, e3⟩
          · omega
          · simp only [Option.some.injEq, Addr.mk.injEq, and_true] at e1
            obtain ⟨rfl, rfl⟩ := e1
            obtain ⟨aj, cj, h1, h2, h3⟩ := e3 i hi
            exact ⟨aj, cj, fun w1 h => ⟨(h.cells _ _ e2).trans h1, (h.cells _ _ e2).trans h3, h2.ext h⟩⟩
        obtain ⟨aj, cj, hcj⟩ := HCE.out j hlt
        have HCJ := Lib.hid hcj
        obtain ⟨hc0, hc1, _⟩ := hcj wr (Ext.refl _)
        clear hcj
        have HWT : Hid (∀ w1, Ext wr w1 → Calls Tryz.prog 70 #[.pointer (some ⟨B, 0, none⟩), .slice aj (tmR ys j).length cj] w1 fun e w' => e = .returned (.bool (latB R (tmR ys j))) ∧ Ext w1 w') := fun w1 h => hasWeight_any B R da od n cD _ cj aj v2 v3 _ w1 ((HB.out.ext hE.out).ext h) (HCJ.out w1 h).2.2 HRL.out.1 hR (HRL.out.2 j hlt)
        have HF1 := Lib.hid (fun h => HNO.out j hlt (chJ_lat (R := R) (ts := ys) (j := j) h))
        have HF2 := Lib.hid (fun h => HNO.out j hlt (chJ_cnt (R := R) (ts := ys) (j := j) h))
        have HTL : Hid (latB R (tmR ys j) = true → (tmR ys j).length = R) := latB_long
        have HND : Hid (chJ R ys j = true → ∀ p, p < j + 1 → chJ R ys p = true) := fun h p hp => by
          by_cases e : p = j
          · subst e; exact h
          · exact hD.out p (by omega)
        have HNJ := Lib.hid (HNO.out j hlt)
        have HJ0 : Hid (j = 0 → latB R (tmR ys j) = true → (1 ≤ tmC ys j ∧ tmC ys j ≤ 1000000) → chJ R ys j = true) := fun e h1 h2 => by subst e; exact chJ_0 h1 h2
        have HJS : Hid (∀ k, j = k + 1 → latB R (tmR ys j) = true → (1 ≤ tmC ys j ∧ tmC ys j ≤ 1000000) → (tmR ys k).length = R ∧ chJ R ys j = !decide (cmpL (tmR ys k) (tmR ys j) ≤ 0)) := fun k e h1 h2 => by
          subst e
          have := chJ_len (hD.out k (by omega))
          exact ⟨this, chJ_s h1 h2 this⟩
        generalize hlq : latB R (tmR ys j) = lq at *
        obtain ⟨tc, htc⟩ : ∃ tc, tmC ys j = tc := ⟨_, rfl⟩
        obtain ⟨r, hr⟩ : ∃ r, (tmR ys j).length = r := ⟨_, rfl⟩
        rw [htc] at hc1 HF2 HJ0 HJS
        rw [hr] at hc0 HWT HTL
        obtain ⟨tm, htm⟩ : ∃ tm, wr.alloc (.cells #[.slice aj r cj, .int .i64 tc] 94) = tm := ⟨_, rfl⟩
        have HX1 : Hid (Ext wr tm) := by rw [← htm]; exact (Ext.refl _).alloc _
        have HBX : Hid (Cells tm wr.heap.size [.slice aj r cj, .int .i64 tc]) := by rw [← htm]; exact cells_new wr _ _
        have hx0 := HBX.out.2 0 _ rfl
        have hx1 := HBX.out.2 1 _ rfl
        first | simp only [Nat.zero_add] at hx0 hx1 | skip
        have HCK : Hid (∀ w1, Ext tm w1 → Cells w1 wr.heap.size [.slice aj r cj, .int .i64 tc]) := fun w1 h => HBX.out.ext h
        have hsz : wr.heap.size < tm.heap.size := HBX.out.1
        clear hlq htc
        rcases lq with _ | _
        · have HF := Lib.hid (HF1.out rfl)
          go_wp2_with fail
          refine (HWT.out _ HX1.out).mono ?_
          rintro e w2 ⟨rfl, h2⟩
          have HX2 := Lib.hid (HX1.out.trans h2)
          clear hx0 hx1
          go_wp2
          go_ret
          exact ⟨ret_bool HF.out.symm, hE.out.trans HX2.out⟩
        · go_wp2_with fail
          refine (HWT.out _ HX1.out).mono ?_
          rintro e w2 ⟨rfl, h2⟩
          have HX2 := Lib.hid (HX1.out.trans h2)
          have hx0 := (HCK.out _ h2).2 0 _ rfl
          have hx1 := (HCK.out _ h2).2 1 _ rfl
          first | simp only [Nat.zero_add] at hx0 hx1 | skip
          by_cases h1 : tc < 1
          · have HF := Lib.hid (HF2.out (by omega))
            go_wp2
            go_ret
            exact ⟨ret_bool HF.out.symm, hE.out.trans HX2.out⟩
          · by_cases h3 : 1000000 < tc
            · have HF := Lib.hid (HF2.out (by omega))
              go_wp2
              go_ret
              exact ⟨ret_bool HF.out.symm, hE.out.trans HX2.out⟩
            · have hr9 := HTL.out (by trivial)
              rcases j with _ | k
              · have HJ := Lib.hid (HND.out (HJ0.out (by trivial) (by trivial) ⟨by omega, by omega⟩))
                go_wp2_with fail
                go_quiet (fail)
                go_wp2
                exact ⟨⟨0 + 1, by omega, by simp, (hE.out.trans HX2.out).drewN _, HJ.out⟩, by simp [intOf]; omega⟩
              · obtain ⟨hrk, hjk⟩ := HJS.out k rfl (by trivial) ⟨by omega, by omega⟩
                have hkI : (0 : Int) < ((k + 1 : Nat) : Int) := by omega
                have vk : IntKind.i64.wrap (((k + 1 : Nat) : Int) - 1) = (k : Int) := by rw [show ((k + 1 : Nat) : Int) - 1 = (k : Int) by omega]; exact IntWalk.i64_in _ ⟨by omega, by omega⟩
                have hkm : (k : Int) < (m : Int) := by omega
                obtain ⟨ak, ck, hck⟩ := HCE.out k (by omega)
                have HCK2 := Lib.hid (fun w1 h => hck w1 (HX2.out.trans h))
                have hk0 := (hck w2 HX2.out).1
                have hj0 := (HCJ.out w2 HX2.out).1
                clear hck
                have HCM : Hid (∀ w1, Ext w2 w1 → Calls Tryz.prog 66 #[.slice ak (tmR ys k).length ck, .slice aj r cj] w1 fun e w' => e = .returned (.int .i64 (cmpL (tmR ys k) (tmR ys (k + 1)))) ∧ w' = w1) := fun w1 h => by
                  have h5 := (HCJ.out w1 (HX2.out.trans h)).2.2
                  have h6 := (HCK2.out w1 h).2.2
                  have e1 : (tmR ys k).length = r := by rw [hrk, hr9]
                  rw [hr] at h5
                  rw [e1] at h6 ⊢
                  exact compare_list r ck cj ak aj _ _ w1 h6 h5 (by omega)
                rw [hrk] at hk0 HCM
                rw [hr] at hj0
                subst hr9
                rcases hcq : decide (cmpL (tmR ys k) (tmR ys (k + 1)) ≤ 0) with _ | _
                · have hcp : ¬ cmpL (tmR ys k) (tmR ys (k + 1)) ≤ 0 := of_decide_eq_false hcq
                  have HJ := Lib.hid (HND.out (by rw [hjk, hcq]; rfl))
                  generalize cmpL (tmR ys k) (tmR ys (k + 1)) = cq at *
                  clear hcq hjk
                  go_wp2_with fail
                  go_quiet ((go_at_call 66; exact Calls.quiet_of_same (HCM.out _ (by with_reducible repeat (first | exact Ext.refl _ | refine Ext.drewN ?_ _ | refine Ext.drew ?_)))))
                  go_wp2
                  exact ⟨⟨k + 1 + 1, by omega, by simp, (hE.out.trans HX2.out).drewN _, HJ.out⟩, by simp [intOf]; omega⟩
                · have hcp : cmpL (tmR ys k) (tmR ys (k + 1)) ≤ 0 := of_decide_eq_true hcq
                  have HF := Lib.hid (HNJ.out (by rw [hjk, hcq]; rfl))
                  generalize cmpL (tmR ys k) (tmR ys (k + 1)) = cq at *
                  clear hcq hjk
                  go_wp2_with fail
                  go_quiet ((go_at_call 66; exact Calls.quiet_of_same (HCM.out _ (by with_reducible repeat (first | exact Ext.refl _ | refine Ext.drewN ?_ _ | refine Ext.drew ?_)))))
                  go_wp2
                  go_ret
                  exact ⟨ret_bool HF.out.symm, (hE.out.trans HX2.out).drewN _⟩
      · obtain rfl : m = j := by omega
        have HF := Lib.hid (HYES.out (fun e h => hD.out e (by omega)))
        go_wp2
        go_ret
        exact ⟨ret_bool HF.out.symm, hE.out⟩
  · have HF := Lib.hid (chB_long (R := R) (ts := ys) (by omega))
    have hmi : (400 : Int) < (m : Int) := by omega
    clear hy hB
    go_enter Tryz.func124, Tryz.ntmps124
    go_wp2
    go_ret
    exact ⟨ret_bool HF.out.symm, Ext.refl _⟩
end Go.Proofs.YtlnpaplbcocmkaaGreat
