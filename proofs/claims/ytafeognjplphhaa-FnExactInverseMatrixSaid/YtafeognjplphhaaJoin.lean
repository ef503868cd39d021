/-
  Rows of two matrices, one behind the other, in the program.
-/
import Derived.Test.YtafeognjplphhaaSpanI
import Derived.Deep.RegionLaw
import Derived.Deep.DeepCutAuto
namespace Go.Proofs.Ytafeognjplphhaa
open Go.ChangeShapes Go.WideShapes Go.ChangeAt Go.RowKit
set_option linter.unusedVariables false

/-- The builtin copy as a step of a region. -/
theorem step_copyM {ops : Array Oper} {o : Oper} {a : Act} {w : World} {K : Act → World → Prop} {Q : Exit → Act → World → Prop} {E : Prop} (hgd : o.guard = none) (d s : Operand)
    (ho : o.op = .call { callee := .builtin .copy, args := #[d, s], argTypes := #[22, 22] })
    (dp : Option Addr) (b off dLen dCap : Nat) (sp : Option Addr) (sLen sCap : Nat) (hd : a.eval d = .slice dp dLen dCap) (hs : a.eval s = .slice sp sLen sCap)
    (l ys : List Int) (hh : Has w b l) (hy : Reads w sp sLen ys) (k : Nat) (hk : min sLen dLen = k) (hdp : 0 < k → dp = some ⟨b, off, none⟩) (hf : off + k ≤ l.length)
    (h : ∀ w', Has w' b (spl l off (ys.take k)) → w.grownBy w' (some b) → K (a.put o.dst (goInt ((k : Nat) : Int))) w') :
    if Region.wanted o (yielded ops a.tmps) = true then Oper.wp Try.prog o a w K Q else E := by
  have hw : Region.wanted o (yielded ops a.tmps) = true := by simp [Region.wanted, hgd]
  rw [if_pos hw]
  have hsz : (Try.prog.info? 3).map (·.size) = some 1 := by kernel_rfl
  by_cases h0 : k = 0
  · subst h0
    have hrun := run_copy_none (P := Try.prog) w 22 22 o.type 3 dp sp dLen dCap sLen sCap Try.underlying22 hsz hk
    unfold Oper.wp
    simp [execOp, ho, resolve, invoke, builtin, hd, hs, hrun, Result.andThen]
    exact h w (by simpa [spl_nil] using hh) (grownBy_refl _ _)
  · have hl := hy.1
    have hlen : (ys.take k).length = k := by rw [List.length_take, hl]; omega
    obtain ⟨cur, h1, h2, h3, h4⟩ := hh.setRow off (ys.take k) (by rw [hlen]; exact hf)
    obtain rfl := hdp (by omega)
    rcases hy.2 with hz | ⟨b', off', rfl, hb', hc'⟩
    · omega
    · have h5 := h _ h3 h4
      have e : ((ys.take k).map (Value.int .i64)).length = k := by rw [List.length_map, hlen]
      have e2 : goInt ((k : Nat) : Int) = goInt ((((ys.take k).map (Value.int .i64)).length : Nat) : Int) := by rw [e]
      rw [e2] at h5
      have hrun := run_copy_row (P := Try.prog) w 22 22 o.type 3 b off dLen dCap ⟨b', off', none⟩ sLen sCap cur 3 ((ys.take k).map (Value.int .i64)) Try.underlying22 hsz h1 (by rw [e]; exact hk.symm) (fun j v hv => by
        have hj : j < k := by have := (List.getElem?_eq_some_iff.1 hv).1; simp [hl] at this; omega
        rw [show (⟨b', off', none⟩ : Addr).add j = ⟨b', off' + j, none⟩ from add_plain .., hc' j (by omega)]
        simp [hj] at hv
        obtain ⟨x, hx, rfl⟩ := hv
        simp [gi, List.getD_eq_getElem?_getD, hx]) h2 (fun v hv => by obtain ⟨z, _, rfl⟩ := List.mem_map.1 hv; rfl)
      clear h2 h3 h4 e2 e hlen
      generalize (ys.take k).map (Value.int .i64) = cs at h5 hrun
      unfold Oper.wp
      simp [execOp, ho, resolve, invoke, builtin, hd, hs, hrun, Result.andThen]
      exact h5
theorem spl_join (l xs ys : List Int) (n n' : Nat) (hl : l.length = n + n') (hx : xs.length = n) (hy : ys.length = n') : spl (spl l 0 (xs.take n)) n (ys.take n') = xs ++ ys := by
  rw [List.take_of_length_le (Nat.le_of_eq hx), List.take_of_length_le (Nat.le_of_eq hy)]
  have e1 : spl l 0 xs = xs ++ l.drop n := by simp [spl, hx]
  rw [e1, spl, List.take_append_of_le_length (Nat.le_of_eq hx.symm), List.take_of_length_le (Nat.le_of_eq hx), List.drop_eq_nil_of_le (by simp; omega), List.append_nil]

set_option maxRecDepth 100000 in
set_option maxHeartbeats 6400000 in
theorem joinRows_impl (P P' C' : Int) (R R' C n n' c c' : Nat) (a a' : Option Addr) (xs ys : List Int) (w : World) (hr : Reads w a n xs) (hr' : Reads w a' n' ys) (hn : n = R * C) (hn' : n' = R' * C) (hb : n + n' ≤ 1048576) (hR : R ≤ 1048576) (hR' : R' ≤ 1048576) :
    Calls Try.prog 74 #[.agg #[.int .i64 P, .int .i64 R, .int .i64 C, .slice a n c], .agg #[.int .i64 P', .int .i64 R', .int .i64 C', .slice a' n' c']] w fun e w' => ∃ b, e = .returned (.agg #[.int .i64 P, .int .i64 ((R : Int) + (R' : Int)), .int .i64 C, .slice (some ⟨b, 0, none⟩) (n + n') (n + n')]) ∧ w.heap.size ≤ b ∧ b < w'.heap.size ∧ Has w' b (xs ++ ys) ∧ Ext w w' := by
  have HR := Lib.hid hr
  have HR' := Lib.hid hr'
  obtain ⟨g0, g1, g2⟩ := prodN (R + R') C (n + n') (by rw [hn, hn', Nat.add_mul]) hb
  rw [Int.natCast_add] at g0 g1 g2
  have G2 := Lib.hid g2
  have HL : Hid (xs.length = n) := hr.1
  have HL' : Hid (ys.length = n') := hr'.1
  clear hr hr' hn hn' g2
  go_enter Try.func74, Try.ntmps74
  have A0_1 := Lib.hid (((cells_new' w #[.int .i64 P, .int .i64 R, .int .i64 C, .slice a n c] 26 (w.heap.size) (by simp)).ext ((Ext.refl _).alloc (.cells #[.int .i64 P', .int .i64 R', .int .i64 C', .slice a' n' c'] 26))).ext ((Ext.refl _).alloc (.cells #[.int .i64 0, .int .i64 0, .int .i64 0, .slice none 0 0] 26)))
  have A1_2 := Lib.hid ((cells_new' (w.alloc (.cells #[.int .i64 P, .int .i64 R, .int .i64 C, .slice a n c] 26)) #[.int .i64 P', .int .i64 R', .int .i64 C', .slice a' n' c'] 26 (w.heap.size + 1) (by simp)).ext ((Ext.refl _).alloc (.cells #[.int .i64 0, .int .i64 0, .int .i64 0, .slice none 0 0] 26)))
  have R_3 := Lib.hid (cells_new' ((w.alloc (.cells #[.int .i64 P, .int .i64 R, .int .i64 C, .slice a n c] 26)).alloc (.cells #[.int .i64 P', .int .i64 R', .int .i64 C', .slice a' n' c'] 26)) #[.int .i64 0, .int .i64 0, .int .i64 0, .slice none 0 0] 26 (w.heap.size + 1 + 1) (by simp))
  have E_4 := Lib.hid ((((Ext.refl w).alloc (.cells #[.int .i64 P, .int .i64 R, .int .i64 C, .slice a n c] 26)).alloc (.cells #[.int .i64 P', .int .i64 R', .int .i64 C', .slice a' n' c'] 26)).alloc (.cells #[.int .i64 0, .int .i64 0, .int .i64 0, .slice none 0 0] 26))
  have lA0 := A0_1.out.1
  have qA00 := A0_1.out.2 0 _ rfl
  have qA01 := A0_1.out.2 1 _ rfl
  have qA02 := A0_1.out.2 2 _ rfl
  have qA03 := A0_1.out.2 3 _ rfl
  have lA1 := A1_2.out.1
  have qA10 := A1_2.out.2 0 _ rfl
  have qA11 := A1_2.out.2 1 _ rfl
  have qA12 := A1_2.out.2 2 _ rfl
  have qA13 := A1_2.out.2 3 _ rfl
  try simp only [World.size_alloc] at lA0 lA1
  go_wp2_with fail
  refine (zeros_impl _ _ _ _ g0 g1).mono ?_
  rintro e w_5 ⟨b, rfl, hb1, hb2, hh, h_5⟩
  clear lA0 qA00 qA01 qA02 qA03 lA1 qA10 qA11 qA12 qA13
  rw [G2.out] at hh ⊢
  have hb3 : w.heap.size + 1 + 1 + 1 ≤ b := by simp only [World.size_alloc] at hb1; omega
  have A0_6 := Lib.hid (A0_1.out.ext h_5)
  clear A0_1
  have A1_7 := Lib.hid (A1_2.out.ext h_5)
  clear A1_2
  have R_8 := Lib.hid (R_3.out.ext h_5)
  clear R_3
  have E_9 := Lib.hid (E_4.out.trans h_5)
  clear E_4
  clear hb1
  have H0 := Lib.hid (hh.alloc (.cells #[.int .i64 P, .int .i64 ((R : Int) + (R' : Int)), .int .i64 C, .slice (some ⟨b, 0, none⟩) (n + n') (n + n')] 26))
  clear hh h_5
  have P_10 := (Ext.refl w_5).alloc (.cells #[.int .i64 P, (.int .i64 ((R : Int) + (R' : Int))), .int .i64 C, (.slice (some ⟨b, 0, none⟩) (n + n') (n + n'))] 26)
  have A0_11 := Lib.hid (A0_6.out.ext P_10)
  clear A0_6
  have A1_12 := Lib.hid (A1_7.out.ext P_10)
  clear A1_7
  have R_13 := Lib.hid (R_8.out.ext P_10)
  clear R_8
  have E_14 := Lib.hid (E_9.out.trans P_10)
  clear E_9
  clear P_10
  have M_15 := Lib.hid (cells_new w_5 #[.int .i64 P, (.int .i64 ((R : Int) + (R' : Int))), .int .i64 C, (.slice (some ⟨b, 0, none⟩) (n + n') (n + n'))] 26)
  go_upto_region 2 with fail
  generalize hW1 : (w_5.alloc (.cells #[.int .i64 P, (.int .i64 ((R : Int) + (R' : Int))), .int .i64 C, (.slice (some ⟨b, 0, none⟩) (n + n') (n + n'))] 26)) = W1 at *
  clear hW1
  have MB : Hid (b < w_5.heap.size) := hb2
  clear hb2
  generalize w_5.heap.size = B at *
  have hR0 := Lib.hid (HR.out.ext E_14.out)
  have lA0 := A0_11.out.1
  have qA00 := A0_11.out.2 0 _ rfl
  have qA01 := A0_11.out.2 1 _ rfl
  have qA02 := A0_11.out.2 2 _ rfl
  have qA03 := A0_11.out.2 3 _ rfl
  have lM := M_15.out.1
  have qM0 := M_15.out.2 0 _ rfl
  have qM1 := M_15.out.2 1 _ rfl
  have qM2 := M_15.out.2 2 _ rfl
  have qM3 := M_15.out.2 3 _ rfl
  try simp only [World.size_alloc] at lA0 lM
  go_wp2_with (refine wpList_copyM rfl (.tmp 17) (.tmp 19) rfl b 0 (n + n') (n + n') a n c rfl rfl (List.replicate (n + n') 0) xs H0.out hR0.out n (Nat.min_eq_left (by omega)) (by simp) ?_)
  intro w2 hh2 hg2
  clear lA0 qA00 qA01 qA02 qA03 lM qM0 qM1 qM2 qM3
  have A0_16 := Lib.hid (A0_11.out.grown hg2 (fun k hk => by simp at hk; have := MB.out; omega))
  clear A0_11
  have A1_17 := Lib.hid (A1_12.out.grown hg2 (fun k hk => by simp at hk; have := MB.out; omega))
  clear A1_12
  have R_18 := Lib.hid (R_13.out.grown hg2 (fun k hk => by simp at hk; have := MB.out; omega))
  clear R_13
  have M_19 := Lib.hid (M_15.out.grown hg2 (fun k hk => by simp at hk; have := MB.out; omega))
  clear M_15
  have E_20 := Lib.hid (E_14.out.grown hg2 (fun k hk => by simp at hk; have := MB.out; omega))
  clear E_14
  have H2 := Lib.hid hh2
  clear hh2 hg2 H0 hR0
  have hR2 := Lib.hid (HR'.out.ext (E_20.out.drew))
  have HL2 : Hid ((spl (List.replicate (n + n') 0) 0 (xs.take n)).length = n + n') := by
    have e : (xs.take n).length = n := by rw [List.length_take, HL.out]; omega
    rw [Hid, spl_length _ _ _ (by rw [e]; simp), List.length_replicate]
  have HJ := Lib.hid (spl_join (List.replicate (n + n') 0) xs ys n n' (by simp) HL.out HL'.out)
  have lA0 := A0_16.out.1
  have qA00 := A0_16.out.2 0 _ rfl
  have qA01 := A0_16.out.2 1 _ rfl
  have qA02 := A0_16.out.2 2 _ rfl
  have qA03 := A0_16.out.2 3 _ rfl
  have lA1 := A1_17.out.1
  have qA10 := A1_17.out.2 0 _ rfl
  have qA11 := A1_17.out.2 1 _ rfl
  have qA12 := A1_17.out.2 2 _ rfl
  have qA13 := A1_17.out.2 3 _ rfl
  have lM := M_19.out.1
  have qM0 := M_19.out.2 0 _ rfl
  have qM1 := M_19.out.2 1 _ rfl
  have qM2 := M_19.out.2 2 _ rfl
  have qM3 := M_19.out.2 3 _ rfl
  try simp only [World.size_alloc] at lA0 lA1 lM
  go_upto_region 3 with fail
  have f2 : (n : Int) ≤ (n : Int) + (n' : Int) := by omega
  go_cut [29] (fun _ wx => Hid (Has wx b (xs ++ ys)) ∧ Hid (Cells wx B [.int .i64 P, .int .i64 ((R : Int) + (R' : Int)), .int .i64 C, .slice (some ⟨b, 0, none⟩) (n + n') (n + n')]) ∧ Hid (Cells wx (w.heap.size + 1 + 1) [.int .i64 0, .int .i64 0, .int .i64 0, .slice none 0 0]) ∧ Hid (Ext w wx))
  case first =>
    by_cases hz : n' = 0
    · subst hz
      simp only [Nat.add_zero] at *
      have f3 : (n : Int) ≤ (n : Int) := Int.le_refl _
      clear f2
      go_region_law (refine step_copyM rfl (.tmp 26) (.tmp 28) rfl (some ⟨b, 0, none⟩) b n 0 0 a' 0 c' rfl rfl (spl (List.replicate n 0) 0 (xs.take n)) ys (H2.out.ext (Ext.refl _).drew) hR2.out 0 (Nat.min_self 0) (fun h => absurd h (by omega)) (by rw [HL2.out]; exact Nat.le_refl _) ?_; intro w3 hh3 hg3)
      all_goals
        have M9 := Lib.hid ((M_19.out.ext (Ext.refl _).drew).grown hg3 (fun k hk => by simp at hk; have := MB.out; omega))
        have R9 := Lib.hid ((R_18.out.ext (Ext.refl _).drew).grown hg3 (fun k hk => by simp at hk; have := MB.out; omega))
        have E9 := Lib.hid (E_20.out.drew.grown hg3 (fun k hk => by simp at hk; have := MB.out; omega))
        rw [HJ.out] at hh3
        go_wp2_with fail
        go_meet
        exact ⟨hh3, M9, R9, E9⟩
    · have hz2 : n ≠ n + n' := by omega
      have e9 : n + n' - n = n' := by omega
      go_region_law (refine step_copyM rfl (.tmp 26) (.tmp 28) rfl (some ⟨b, n, none⟩) b n n' n' a' n' c' rfl rfl (spl (List.replicate (n + n') 0) 0 (xs.take n)) ys (H2.out.ext (Ext.refl _).drew) hR2.out n' (Nat.min_self n') (fun _ => rfl) (by rw [HL2.out]; exact Nat.le_refl _) ?_; intro w3 hh3 hg3)
      all_goals
        have M9 := Lib.hid ((M_19.out.ext (Ext.refl _).drew).grown hg3 (fun k hk => by simp at hk; have := MB.out; omega))
        have R9 := Lib.hid ((R_18.out.ext (Ext.refl _).drew).grown hg3 (fun k hk => by simp at hk; have := MB.out; omega))
        have E9 := Lib.hid (E_20.out.drew.grown hg3 (fun k hk => by simp at hk; have := MB.out; omega))
        rw [HJ.out] at hh3
        go_wp2_with fail
        go_meet
        exact ⟨hh3, M9, R9, E9⟩
  case rest =>
    obtain ⟨HH, M9, R9, E9⟩ := hcut
    clear lA0 qA00 qA01 qA02 qA03 lA1 qA10 qA11 qA12 qA13 lM qM0 qM1 qM2 qM3
    have lM := M9.out.1
    have qM0 := M9.out.2 0 _ rfl
    have qM1 := M9.out.2 1 _ rfl
    have qM2 := M9.out.2 2 _ rfl
    have qM3 := M9.out.2 3 _ rfl
    have qR0 := R9.out.2 0 _ rfl
    have qR1 := R9.out.2 1 _ rfl
    have qR2 := R9.out.2 2 _ rfl
    have qR3 := R9.out.2 3 _ rfl
    have tR := R9.out.3
    have lR := R9.out.1
    go_wp2
    refine bodyPost_ret (v := .agg #[.int .i64 P, .int .i64 ((R : Int) + (R' : Int)), .int .i64 C, .slice (some ⟨b, 0, none⟩) (n + n') (n + n')]) (by simp [results, Try.results74, go_sem, qR0, qR1, qR2, qR3]) rfl ⟨b, rfl, by omega, ?_, ?_, ?_⟩
    · have := HH.out.lt; simpa using this
    · repeat with_reducible (first | exact HH.out | refine Has.setOther ?_ (by simp <;> omega) _)
    · exact ext4 E9.out (by omega) _ _ _ _

end Go.Proofs.Ytafeognjplphhaa
