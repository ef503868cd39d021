/-
  Rows of two matrices, one behind the other, in the program.
-/
import Derived.Test.YtnikfalpjieibaaRi
import Derived.Deep.RegionLaw
import Derived.Deep.DeepCutAuto
import Derived.Test.YtnikfalpjieibaaSp
import Derived.Deep.RegionHeld3
import Derived.Test.YtnikfalpjieibaaNc
namespace Go.Proofs.Ytnikfalpjieibaa
open Go.ChangeShapes Go.WideShapes Go.ChangeAt Go.RowKit
set_option linter.unusedVariables false

/-- The builtin copy as a step of a region. -/
theorem step_copyM {ops : Array Oper} {o : Oper} {a : Act} {w : World} {K : Act → World → Prop} {Q : Exit → Act → World → Prop} {E : Prop} (hgd : o.guard = none) (d s : Operand)
    (ho : o.op = .call { callee := .builtin .copy, args := #[d, s], argTypes := #[22, 22] })
    (dp : Option Addr) (b off dLen dCap : Nat) (sp : Option Addr) (sLen sCap : Nat) (hd : a.eval d = .slice dp dLen dCap) (hs : a.eval s = .slice sp sLen sCap)
    (l ys : List Int) (hh : Has w b l) (hy : Reads w sp sLen ys) (k : Nat) (hk : min sLen dLen = k) (hdp : 0 < k → dp = some ⟨b, off, none⟩) (hf : off + k ≤ l.length)
    (h : ∀ w', Has w' b (spl l off (ys.take k)) → w.grownBy w' (some b) → K (a.put o.dst (goInt ((k : Nat) : Int))) w') :
    if Region.wanted o (yielded ops a.tmps) = true then Oper.wp Try.prog o a w K Q else E := by
  have hw : Region.wanted o (yielded ops a.tmps) = true := by simp [Region.wanted, hgd]
  rw [if_pos hw]
  have hsz : (Try.prog.info? 3).map (·.size) = some 1 := by kernel_rfl
  by_cases h0 : k = 0
  · subst h0
    have hrun := run_copy_none (P := Try.prog) w 22 22 o.type 3 dp sp dLen dCap sLen sCap Try.underlying22 hsz hk
    unfold Oper.wp
    simp [execOp, ho, resolve, invoke, builtin, hd, hs, hrun, Result.andThen]
    exact h w (by simpa [spl_nil] using hh) (grownBy_refl _ _)
  · have hl := hy.1
    have hlen : (ys.take k).length = k := by rw [List.length_take, hl]; omega
    obtain ⟨cur, h1, h2, h3, h4⟩ := hh.setRow off (ys.take k) (by rw [hlen]; exact hf)
    obtain rfl := hdp (by omega)
    rcases hy.2 with hz | ⟨b', off', rfl, hb', hc'⟩
    · omega
    · have h5 := h _ h3 h4
      have e : ((ys.take k).map (Value.int .i64)).length = k := by rw [List.length_map, hlen]
      have e2 : goInt ((k : Nat) : Int) = goInt ((((ys.take k).map (Value.int .i64)).length : Nat) : Int) := by rw [e]
      rw [e2] at h5
      have hrun := run_copy_row (P := Try.prog) w 22 22 o.type 3 b off dLen dCap ⟨b', off', none⟩ sLen sCap cur 3 ((ys.take k).map (Value.int .i64)) Try.underlying22 hsz h1 (by rw [e]; exact hk.symm) (fun j v hv => by
        have hj : j < k := by have := (List.getElem?_eq_some_iff.1 hv).1; simp [hl] at this; omega
        rw [show (⟨b', off', none⟩ : Addr).add j = ⟨b', off' + j, none⟩ from add_plain .., hc' j (by omega)]
        simp [hj] at hv
        obtain ⟨x, hx, rfl⟩ := hv
        simp [gi, List.getD_eq_getElem?_getD, hx]) h2 (fun v hv => by obtain ⟨z, _, rfl⟩ := List.mem_map.1 hv; rfl)
      clear h2 h3 h4 e2 e hlen
      generalize (ys.take k).map (Value.int .i64) = cs at h5 hrun
      unfold Oper.wp
      simp [execOp, ho, resolve, invoke, builtin, hd, hs, hrun, Result.andThen]
      exact h5
theorem spl_join (l xs ys : List Int) (n n' : Nat) (hl : l.length = n + n') (hx : xs.length = n) (hy : ys.length = n') : spl (spl l 0 (xs.take n)) n (ys.take n') = xs ++ ys := by
  rw [List.take_of_length_le (Nat.le_of_eq hx), List.take_of_length_le (Nat.le_of_eq hy)]
  have e1 : spl l 0 xs = xs ++ l.drop n := by simp [spl, hx]
  rw [e1, spl, List.take_append_of_le_length (Nat.le_of_eq hx.symm), List.take_of_length_le (Nat.le_of_eq hx), List.drop_eq_nil_of_le (by simp; omega), List.append_nil]

set_option maxRecDepth 100000 in
set_option maxHeartbeats 6400000 in
theorem joinRows_impl (P P' C' : Int) (R R' C n n' c c' : Nat) (a a' : Option Addr) (xs ys : List Int) (w : World) (hr : Reads w a n xs) (hr' : Reads w a' n' ys) (hn : n = R * C) (hn' : n' = R' * C) (hb : n + n' ≤ 1048576) (hR : R ≤ 1048576) (hR' : R' ≤ 1048576) :
    Calls Try.prog 113 #[.agg #[.int .i64 P, .int .i64 R, .int .i64 C, .slice a n c], .agg #[.int .i64 P', .int .i64 R', .int .i64 C', .slice a' n' c']] w fun e w' => ∃ b, e = .returned (.agg #[.int .i64 P, .int .i64 ((R : Int) + (R' : Int)), .int .i64 C, .slice (some ⟨b, 0, none⟩) (n + n') (n + n')]) ∧ w.heap.size ≤ b ∧ b < w'.heap.size ∧ Has w' b (xs ++ ys) ∧ Ext w w' := by
  have HR := Lib.hid hr
  have HR' := Lib.hid hr'
  obtain ⟨g0, g1, g2⟩ := prodN (R + R') C (n + n') (by rw [hn, hn', Nat.add_mul]) hb
  rw [Int.natCast_add] at g0 g1 g2
  have G2 := Lib.hid g2
  have HL : Hid (xs.length = n) := hr.1
  have HL' : Hid (ys.length = n') := hr'.1
  clear hr hr' hn hn' g2
  go_enter Try.func113, Try.ntmps113
  have A0_1 := Lib.hid (((cells_new' w #[.int .i64 P, .int .i64 R, .int .i64 C, .slice a n c] 37 (w.heap.size) (by simp)).ext ((Ext.refl _).alloc (.cells #[.int .i64 P', .int .i64 R', .int .i64 C', .slice a' n' c'] 37))).ext ((Ext.refl _).alloc (.cells #[.int .i64 0, .int .i64 0, .int .i64 0, .slice none 0 0] 37)))
  have A1_2 := Lib.hid ((cells_new' (w.alloc (.cells #[.int .i64 P, .int .i64 R, .int .i64 C, .slice a n c] 37)) #[.int .i64 P', .int .i64 R', .int .i64 C', .slice a' n' c'] 37 (w.heap.size + 1) (by simp)).ext ((Ext.refl _).alloc (.cells #[.int .i64 0, .int .i64 0, .int .i64 0, .slice none 0 0] 37)))
  have R_3 := Lib.hid (cells_new' ((w.alloc (.cells #[.int .i64 P, .int .i64 R, .int .i64 C, .slice a n c] 37)).alloc (.cells #[.int .i64 P', .int .i64 R', .int .i64 C', .slice a' n' c'] 37)) #[.int .i64 0, .int .i64 0, .int .i64 0, .slice none 0 0] 37 (w.heap.size + 1 + 1) (by simp))
  have E_4 := Lib.hid ((((Ext.refl w).alloc (.cells #[.int .i64 P, .int .i64 R, .int .i64 C, .slice a n c] 37)).alloc (.cells #[.int .i64 P', .int .i64 R', .int .i64 C', .slice a' n' c'] 37)).alloc (.cells #[.int .i64 0, .int .i64 0, .int .i64 0, .slice none 0 0] 37))
  have lA0 := A0_1.out.1
  have qA00 := A0_1.out.2 0 _ rfl
  have qA01 := A0_1.out.2 1 _ rfl
  have qA02 := A0_1.out.2 2 _ rfl
  have qA03 := A0_1.out.2 3 _ rfl
  have lA1 := A1_2.out.1
  have qA10 := A1_2.out.2 0 _ rfl
  have qA11 := A1_2.out.2 1 _ rfl
  have qA12 := A1_2.out.2 2 _ rfl
  have qA13 := A1_2.out.2 3 _ rfl
  try simp only [World.size_alloc] at lA0 lA1
  go_wp2_with fail
  refine (zeros_impl _ _ _ _ g0 g1).mono ?_
  rintro e w_5 ⟨b, rfl, hb1, hb2, hh, h_5⟩
  clear lA0 qA00 qA01 qA02 qA03 lA1 qA10 qA11 qA12 qA13
  rw [G2.out] at hh ⊢
  have hb3 : w.heap.size + 1 + 1 + 1 ≤ b := by simp only [World.size_alloc] at hb1; omega
  have A0_6 := Lib.hid (A0_1.out.ext h_5)
  clear A0_1
  have A1_7 := Lib.hid (A1_2.out.ext h_5)
  clear A1_2
  have R_8 := Lib.hid (R_3.out.ext h_5)
  clear R_3
  have E_9 := Lib.hid (E_4.out.trans h_5)
  clear E_4
  clear hb1
  have H0 := Lib.hid (hh.alloc (.cells #[.int .i64 P, .int .i64 ((R : Int) + (R' : Int)), .int .i64 C, .slice (some ⟨b, 0, none⟩) (n + n') (n + n')] 37))
  clear hh h_5
  have P_10 := (Ext.refl w_5).alloc (.cells #[.int .i64 P, (.int .i64 ((R : Int) + (R' : Int))), .int .i64 C, (.slice (some ⟨b, 0, none⟩) (n + n') (n + n'))] 37)
  have A0_11 := Lib.hid (A0_6.out.ext P_10)
  clear A0_6
  have A1_12 := Lib.hid (A1_7.out.ext P_10)
  clear A1_7
  have R_13 := Lib.hid (R_8.out.ext P_10)
  clear R_8
  have E_14 := Lib.hid (E_9.out.trans P_10)
  clear E_9
  clear P_10
  have M_15 := Lib.hid (cells_new w_5 #[.int .i64 P, (.int .i64 ((R : Int) + (R' : Int))), .int .i64 C, (.slice (some ⟨b, 0, none⟩) (n + n') (n + n'))] 37)
  go_upto_region 2 with fail
  generalize hW1 : (w_5.alloc (.cells #[.int .i64 P, (.int .i64 ((R : Int) + (R' : Int))), .int .i64 C, (.slice (some ⟨b, 0, none⟩) (n + n') (n + n'))] 37)) = W1 at *
  clear hW1
  have MB : Hid (b < w_5.heap.size) := hb2
  clear hb2
  generalize w_5.heap.size = B at *
  have hR0 := Lib.hid (HR.out.ext E_14.out)
  have lA0 := A0_11.out.1
  have qA00 := A0_11.out.2 0 _ rfl
  have qA01 := A0_11.out.2 1 _ rfl
  have qA02 := A0_11.out.2 2 _ rfl
  have qA03 := A0_11.out.2 3 _ rfl
  have lM := M_15.out.1
  have qM0 := M_15.out.2 0 _ rfl
  have qM1 := M_15.out.2 1 _ rfl
  have qM2 := M_15.out.2 2 _ rfl
  have qM3 := M_15.out.2 3 _ rfl
  try simp only [World.size_alloc] at lA0 lM
  go_wp2_with (refine wpList_copyM rfl (.tmp 17) (.tmp 19) rfl b 0 (n + n') (n + n') a n c rfl rfl (List.replicate (n + n') 0) xs H0.out hR0.out n (Nat.min_eq_left (by omega)) (by simp) ?_)
  intro w2 hh2 hg2
  clear lA0 qA00 qA01 qA02 qA03 lM qM0 qM1 qM2 qM3
  have A0_16 := Lib.hid (A0_11.out.grown hg2 (fun k hk => by simp at hk; have := MB.out; omega))
  clear A0_11
  have A1_17 := Lib.hid (A1_12.out.grown hg2 (fun k hk => by simp at hk; have := MB.out; omega))
  clear A1_12
  have R_18 := Lib.hid (R_13.out.grown hg2 (fun k hk => by simp at hk; have := MB.out; omega))
  clear R_13
  have M_19 := Lib.hid (M_15.out.grown hg2 (fun k hk => by simp at hk; have := MB.out; omega))
  clear M_15
  have E_20 := Lib.hid (E_14.out.grown hg2 (fun k hk => by simp at hk; have := MB.out; omega))
  clear E_14
  have H2 := Lib.hid hh2
  clear hh2 hg2 H0 hR0
  have hR2 := Lib.hid (HR'.out.ext (E_20.out.drew))
  have HL2 : Hid ((spl (List.replicate (n + n') 0) 0 (xs.take n)).length = n + n') := by
    have e : (xs.take n).length = n := by rw [List.length_take, HL.out]; omega
    rw [Hid, spl_length _ _ _ (by rw [e]; simp), List.length_replicate]
  have HJ := Lib.hid (spl_join (List.replicate (n + n') 0) xs ys n n' (by simp) HL.out HL'.out)
  have lA0 := A0_16.out.1
  have qA00 := A0_16.out.2 0 _ rfl
  have qA01 := A0_16.out.2 1 _ rfl
  have qA02 := A0_16.out.2 2 _ rfl
  have qA03 := A0_16.out.2 3 _ rfl
  have lA1 := A1_17.out.1
  have qA10 := A1_17.out.2 0 _ rfl
  have qA11 := A1_17.out.2 1 _ rfl
  have qA12 := A1_17.out.2 2 _ rfl
  have qA13 := A1_17.out.2 3 _ rfl
  have lM := M_19.out.1
  have qM0 := M_19.out.2 0 _ rfl
  have qM1 := M_19.out.2 1 _ rfl
  have qM2 := M_19.out.2 2 _ rfl
  have qM3 := M_19.out.2 3 _ rfl
  try simp only [World.size_alloc] at lA0 lA1 lM
  go_upto_region 3 with fail
  have f2 : (n : Int) ≤ (n : Int) + (n' : Int) := by omega
  go_cut [29] (fun _ wx => Hid (Has wx b (xs ++ ys)) ∧ Hid (Cells wx B [.int .i64 P, .int .i64 ((R : Int) + (R' : Int)), .int .i64 C, .slice (some ⟨b, 0, none⟩) (n + n') (n + n')]) ∧ Hid (Cells wx (w.heap.size + 1 + 1) [.int .i64 0, .int .i64 0, .int .i64 0, .slice none 0 0]) ∧ Hid (Ext w wx))
  case first =>
    by_cases hz : n' = 0
    · subst hz
      simp only [Nat.add_zero] at *
      have f3 : (n : Int) ≤ (n : Int) := Int.le_refl _
      clear f2
      go_region_law (refine step_copyM rfl (.tmp 26) (.tmp 28) rfl (some ⟨b, 0, none⟩) b n 0 0 a' 0 c' rfl rfl (spl (List.replicate n 0) 0 (xs.take n)) ys (H2.out.ext (Ext.refl _).drew) hR2.out 0 (Nat.min_self 0) (fun h => absurd h (by omega)) (by rw [HL2.out]; exact Nat.le_refl _) ?_; intro w3 hh3 hg3)
      all_goals
        have M9 := Lib.hid ((M_19.out.ext (Ext.refl _).drew).grown hg3 (fun k hk => by simp at hk; have := MB.out; omega))
        have R9 := Lib.hid ((R_18.out.ext (Ext.refl _).drew).grown hg3 (fun k hk => by simp at hk; have := MB.out; omega))
        have E9 := Lib.hid (E_20.out.drew.grown hg3 (fun k hk => by simp at hk; have := MB.out; omega))
        rw [HJ.out] at hh3
        go_wp2_with fail
        go_meet
        exact ⟨hh3, M9, R9, E9⟩
    · have hz2 : n ≠ n + n' := by omega
      have e9 : n + n' - n = n' := by omega
      go_region_law (refine step_copyM rfl (.tmp 26) (.tmp 28) rfl (some ⟨b, n, none⟩) b n n' n' a' n' c' rfl rfl (spl (List.replicate (n + n') 0) 0 (xs.take n)) ys (H2.out.ext (Ext.refl _).drew) hR2.out n' (Nat.min_self n') (fun _ => rfl) (by rw [HL2.out]; exact Nat.le_refl _) ?_; intro w3 hh3 hg3)
      all_goals
        have M9 := Lib.hid ((M_19.out.ext (Ext.refl _).drew).grown hg3 (fun k hk => by simp at hk; have := MB.out; omega))
        have R9 := Lib.hid ((R_18.out.ext (Ext.refl _).drew).grown hg3 (fun k hk => by simp at hk; have := MB.out; omega))
        have E9 := Lib.hid (E_20.out.drew.grown hg3 (fun k hk => by simp at hk; have := MB.out; omega))
        rw [HJ.out] at hh3
        go_wp2_with fail
        go_meet
        exact ⟨hh3, M9, R9, E9⟩
  case rest =>
    obtain ⟨HH, M9, R9, E9⟩ := hcut
    clear lA0 qA00 qA01 qA02 qA03 lA1 qA10 qA11 qA12 qA13 lM qM0 qM1 qM2 qM3
    have lM := M9.out.1
    have qM0 := M9.out.2 0 _ rfl
    have qM1 := M9.out.2 1 _ rfl
    have qM2 := M9.out.2 2 _ rfl
    have qM3 := M9.out.2 3 _ rfl
    have qR0 := R9.out.2 0 _ rfl
    have qR1 := R9.out.2 1 _ rfl
    have qR2 := R9.out.2 2 _ rfl
    have qR3 := R9.out.2 3 _ rfl
    have tR := R9.out.3
    have lR := R9.out.1
    go_wp2
    refine bodyPost_ret (v := .agg #[.int .i64 P, .int .i64 ((R : Int) + (R' : Int)), .int .i64 C, .slice (some ⟨b, 0, none⟩) (n + n') (n + n')]) (by simp [results, Try.results113, go_sem, qR0, qR1, qR2, qR3]) rfl ⟨b, rfl, by omega, ?_, ?_, ?_⟩
    · have := HH.out.lt; simpa using this
    · repeat with_reducible (first | exact HH.out | refine Has.setOther ?_ (by simp <;> omega) _)
    · exact ext4 E9.out (by omega) _ _ _ _

end Go.Proofs.Ytnikfalpjieibaa

/-
  Columns of two matrices, one beside the other, in the program.
-/
namespace Go.Proofs.Ytnikfalpjieibaa
open Go.ChangeShapes Go.WideShapes Go.ChangeAt Go.RowKit
set_option linter.unusedVariables false

theorem spl_at (X Z cs : List Int) (off : Nat) (h : X.length = off) : spl (X ++ Z) off cs = X ++ (cs ++ Z.drop cs.length) := by
  subst h
  simp [spl, List.drop_append]
theorem spl_idem (l cs : List Int) (off : Nat) (h : off + cs.length ≤ l.length) : spl (spl l off cs) off cs = spl l off cs := by
  have e : (l.take off).length = off := by rw [List.length_take]; omega
  have e2 : spl l off cs = l.take off ++ (cs ++ l.drop (off + cs.length)) := rfl
  rw [e2, spl_at _ _ _ _ e, List.drop_left]
def jl (C D : Nat) (xs ys : List Int) (N i : Nat) : List Int := jmTo C D xs ys i ++ List.replicate (N - i * (C + D)) 0
theorem jl_zero (C D : Nat) (xs ys : List Int) (N : Nat) : jl C D xs ys N 0 = List.replicate N 0 := by simp [jl, jmTo]
theorem jl_end (C D : Nat) (xs ys : List Int) (N R : Nat) (hN : N = R * (C + D)) : jl C D xs ys N R = jmTo C D xs ys R := by simp [jl, hN]
section
variable {R C D N : Nat} {xs ys : List Int}
theorem jl_length (hx : xs.length = R * C) (hy : ys.length = R * D) (hN : N = R * (C + D)) (i : Nat) (hi : i ≤ R) : (jl C D xs ys N i).length = N := by
  have := Nat.mul_le_mul_right (C + D) hi
  rw [jl, List.length_append, jmTo_length hx hy i hi, List.length_replicate]; omega
theorem jl_half (hx : xs.length = R * C) (hy : ys.length = R * D) (hN : N = R * (C + D)) {i : Nat} (hi : i < R) : spl (jl C D xs ys N i) (i * (C + D)) (rowL C xs i) = (jmTo C D xs ys i ++ rowL C xs i) ++ List.replicate (N - i * (C + D) - C) 0 := by
  rw [jl, spl_at _ _ _ _ (jmTo_length hx hy i (by omega)), rowL_length hx hi, List.drop_replicate, List.append_assoc]
theorem jl_step (hx : xs.length = R * C) (hy : ys.length = R * D) (hN : N = R * (C + D)) {i : Nat} (hi : i < R) : spl (spl (jl C D xs ys N i) (i * (C + D)) (rowL C xs i)) (i * (C + D) + C) (rowL D ys i) = jl C D xs ys N (i + 1) := by
  have e : N - i * (C + D) - C - D = N - (i + 1) * (C + D) := by rw [Nat.add_mul]; omega
  rw [jl_half hx hy hN hi, spl_at _ _ _ _ (by rw [List.length_append, jmTo_length hx hy i (by omega), rowL_length hx hi]), rowL_length hy hi, List.drop_replicate, e, jl, jmTo]
  simp [rowL, List.append_assoc]
end
/-- What joinColumns keeps: its boxes, and the numbers of the result. -/
structure JoinC (w wr : World) (A B b : Nat) (va vb vm : List Value) (l : List Int) : Prop where
  loc : Loc w wr B b vm l
  a0 : Cells wr A va
  a1 : Cells wr (A + 1) vb
  res : Cells wr (A + 1 + 1) [.int .i64 0, .int .i64 0, .int .i64 0, .slice none 0 0]
  ne : A + 1 + 1 < b
theorem JoinC.step {w wr wr' : World} {A B b : Nat} {va vb vm : List Value} {l : List Int} (h : JoinC w wr A B b va vb vm l) (hE : Ext wr wr') : JoinC w wr' A B b va vb vm l :=
  ⟨h.loc.step hE, h.a0.ext hE, h.a1.ext hE, h.res.ext hE, h.ne⟩
theorem JoinC.row {w wr wr' : World} {A B b : Nat} {va vb vm : List Value} {l l' : List Int} (h : JoinC w wr A B b va vb vm l) (hh : Has wr' b l') (hg : wr.grownBy wr' (some b)) : JoinC w wr' A B b va vb vm l' := by
  have hn := h.ne
  exact ⟨h.loc.row hh hg, h.a0.grown hg (fun k hk => by simp at hk; omega), h.a1.grown hg (fun k hk => by simp at hk; omega), h.res.grown hg (fun k hk => by simp at hk; omega), h.ne⟩
def JS (w wr : World) (A B b : Nat) (va vb vm : List Value) (N off : Nat) (cs l2 : List Int) : Prop := ∃ l, JoinC w wr A B b va vb vm l ∧ l.length = N ∧ spl l off cs = l2
theorem JS.mk' {w wr : World} {A B b : Nat} {va vb vm : List Value} {N off : Nat} {cs l2 l : List Int} (h1 : JoinC w wr A B b va vb vm l) (h2 : l.length = N) (h3 : spl l off cs = l2) : JS w wr A B b va vb vm N off cs l2 := ⟨l, h1, h2, h3⟩
theorem JS.step {w wr wr' : World} {A B b : Nat} {va vb vm : List Value} {N off : Nat} {cs l2 : List Int} (h : JS w wr A B b va vb vm N off cs l2) (hE : Ext wr wr') : JS w wr' A B b va vb vm N off cs l2 := by
  obtain ⟨l, h1, h2⟩ := h
  exact ⟨l, h1.step hE, h2⟩
theorem js5 {w wr : World} {A B b : Nat} {a1 a2 a3 a4 b1 b2 b3 b4 : Value} {vm : List Value} {N off : Nat} {cs l2 : List Int} (h : JS w wr A B b [a1, a2, a3, a4] [b1, b2, b3, b4] vm N off cs l2) : wr.cell? ⟨A, 2, none⟩ = some a3 ∧ wr.cell? ⟨A + 1, 0, none⟩ = some b1 ∧ wr.cell? ⟨A + 1, 1, none⟩ = some b2 ∧ wr.cell? ⟨A + 1, 2, none⟩ = some b3 ∧ wr.cell? ⟨A + 1, 3, none⟩ = some b4 ∧ JS w wr A B b [a1, a2, a3, a4] [b1, b2, b3, b4] vm N off cs l2 := by
  obtain ⟨l, h1, h2⟩ := h
  exact ⟨h1.a0.2 2 _ rfl, h1.a1.2 0 _ rfl, h1.a1.2 1 _ rfl, h1.a1.2 2 _ rfl, h1.a1.2 3 _ rfl, l, h1, h2⟩

set_option maxRecDepth 100000 in
set_option maxHeartbeats 6400000 in
theorem joinColumns_impl (P P' R' : Int) (R C D E n n' N a0 oa b0 ob : Nat) (xs ys : List Int) (w : World) (hr : Reads w (some ⟨a0, oa, none⟩) n xs) (hr' : Reads w (some ⟨b0, ob, none⟩) n' ys) (hn : n = R * C) (hn' : n' = R * D) (hE : E = C + D) (hN : N = R * E) (hD : 0 < R → 0 < D) (hb : N ≤ 1048576) (hR : R ≤ 1048576) (hEb : E ≤ 1048576) :
    Calls Try.prog 112 #[.agg #[.int .i64 P, .int .i64 R, .int .i64 C, .slice (some ⟨a0, oa, none⟩) n n], .agg #[.int .i64 P', .int .i64 R', .int .i64 D, .slice (some ⟨b0, ob, none⟩) n' n']] w fun e w' => ∃ b, e = .returned (.agg #[.int .i64 P, .int .i64 R, .int .i64 E, .slice (some ⟨b, 0, none⟩) N N]) ∧ w.heap.size ≤ b ∧ b < w'.heap.size ∧ Has w' b (jmTo C D xs ys R) ∧ Ext w w' := by
  have HR := Lib.hid hr
  have HR' := Lib.hid hr'
  have hCD : (C : Int) + (D : Int) = (E : Int) := by omega
  obtain ⟨g0, g1, g2⟩ := prodN R E N hN hb
  rw [← hCD] at g0 g1 g2
  have G2 := Lib.hid g2
  have HCD := Lib.hid hCD
  have HL : Hid (xs.length = R * C) := by rw [Hid, hr.1, hn]
  have HL' : Hid (ys.length = R * D) := by rw [Hid, hr'.1, hn']
  have HN : Hid (n = R * C) := hn
  have HN' : Hid (n' = R * D) := hn'
  have hNE : N = R * (C + D) := by rw [hN, hE]
  have HNN := Lib.hid hNE
  have HE := Lib.hid hE
  have HN0 := Lib.hid hN
  have hnN : n ≤ N := by rw [hn, hNE]; exact Nat.mul_le_mul_left R (Nat.le_add_right _ _)
  have hnN' : n' ≤ N := by rw [hn', hNE]; exact Nat.mul_le_mul_left R (Nat.le_add_left _ _)
  have HB : Hid (n ≤ 1048576 ∧ n' ≤ 1048576) := ⟨by omega, by omega⟩
  have f1 : (C : Int) + (D : Int) ≤ 1048576 := by omega
  have f0 : 0 ≤ (C : Int) + (D : Int) := by omega
  clear hr hr' hn hn' g2 hCD hNE hN hnN hnN' hE
  go_enter Try.func112, Try.ntmps112
  have A0_1 := Lib.hid (((cells_new' w #[.int .i64 P, .int .i64 R, .int .i64 C, .slice (some ⟨a0, oa, none⟩) n n] 37 (w.heap.size) (by simp)).ext ((Ext.refl _).alloc (.cells #[(.int .i64 P'), (.int .i64 R'), (.int .i64 D), (.slice (some ⟨b0, ob, none⟩) n' n')] 37))).ext ((Ext.refl _).alloc (.cells #[.int .i64 0, .int .i64 0, .int .i64 0, .slice none 0 0] 37)))
  have A1_2 := Lib.hid ((cells_new' (w.alloc (.cells #[.int .i64 P, .int .i64 R, .int .i64 C, .slice (some ⟨a0, oa, none⟩) n n] 37)) #[(.int .i64 P'), (.int .i64 R'), (.int .i64 D), (.slice (some ⟨b0, ob, none⟩) n' n')] 37 (w.heap.size + 1) (by simp)).ext ((Ext.refl _).alloc (.cells #[.int .i64 0, .int .i64 0, .int .i64 0, .slice none 0 0] 37)))
  have R_3 := Lib.hid (cells_new' ((w.alloc (.cells #[.int .i64 P, .int .i64 R, .int .i64 C, .slice (some ⟨a0, oa, none⟩) n n] 37)).alloc (.cells #[(.int .i64 P'), (.int .i64 R'), (.int .i64 D), (.slice (some ⟨b0, ob, none⟩) n' n')] 37)) #[.int .i64 0, .int .i64 0, .int .i64 0, .slice none 0 0] 37 (w.heap.size + 1 + 1) (by simp))
  have E_4 := Lib.hid ((((Ext.refl w).alloc (.cells #[.int .i64 P, .int .i64 R, .int .i64 C, .slice (some ⟨a0, oa, none⟩) n n] 37)).alloc (.cells #[(.int .i64 P'), (.int .i64 R'), (.int .i64 D), (.slice (some ⟨b0, ob, none⟩) n' n')] 37)).alloc (.cells #[.int .i64 0, .int .i64 0, .int .i64 0, .slice none 0 0] 37))
  have lA0 := A0_1.out.1
  have qA00 := A0_1.out.2 0 _ rfl
  have qA01 := A0_1.out.2 1 _ rfl
  have qA02 := A0_1.out.2 2 _ rfl
  have qA03 := A0_1.out.2 3 _ rfl
  have lA1 := A1_2.out.1
  have qA10 := A1_2.out.2 0 _ rfl
  have qA11 := A1_2.out.2 1 _ rfl
  have qA12 := A1_2.out.2 2 _ rfl
  have qA13 := A1_2.out.2 3 _ rfl
  try simp only [World.size_alloc] at lA0 lA1
  go_wp2_with fail
  with_reducible refine (zeros_impl _ _ _ _ g0 g1).mono ?_
  rintro e w_5 ⟨b, rfl, hb1, hb2, hh, h_5⟩
  clear lA0 qA00 qA01 qA02 qA03 lA1 qA10 qA11 qA12 qA13
  rw [G2.out] at hh ⊢
  rw [HCD.out]
  clear g0 g1 f0 f1
  have hb3 : w.heap.size + 1 + 1 + 1 ≤ b := by simp only [World.size_alloc] at hb1; omega
  have A0_6 := Lib.hid (A0_1.out.ext h_5)
  clear A0_1
  have A1_7 := Lib.hid (A1_2.out.ext h_5)
  clear A1_2
  have R_8 := Lib.hid (R_3.out.ext h_5)
  clear R_3
  have E_9 := Lib.hid (E_4.out.trans h_5)
  clear E_4
  clear hb1
  have H0 := Lib.hid (hh.alloc (.cells #[.int .i64 P, .int .i64 R, .int .i64 E, .slice (some ⟨b, 0, none⟩) N N] 37))
  clear hh h_5
  have P_10 := (Ext.refl w_5).alloc (.cells #[.int .i64 P, .int .i64 R, .int .i64 E, .slice (some ⟨b, 0, none⟩) N N] 37)
  have A0_11 := Lib.hid (A0_6.out.ext P_10)
  clear A0_6
  have A1_12 := Lib.hid (A1_7.out.ext P_10)
  clear A1_7
  have R_13 := Lib.hid (R_8.out.ext P_10)
  clear R_8
  have E_14 := Lib.hid (E_9.out.trans P_10)
  clear E_9
  clear P_10
  have M_15 := Lib.hid (cells_new w_5 #[.int .i64 P, .int .i64 R, .int .i64 E, .slice (some ⟨b, 0, none⟩) N N] 37)
  have MB : Hid (b < w_5.heap.size) := hb2
  have J0 : Hid (JoinC w (w_5.alloc (.cells #[.int .i64 P, .int .i64 R, .int .i64 E, .slice (some ⟨b, 0, none⟩) N N] 37)) w.heap.size w_5.heap.size b [.int .i64 P, .int .i64 R, .int .i64 C, .slice (some ⟨a0, oa, none⟩) n n] [.int .i64 P', .int .i64 R', .int .i64 D, .slice (some ⟨b0, ob, none⟩) n' n'] [.int .i64 P, .int .i64 R, .int .i64 E, .slice (some ⟨b, 0, none⟩) N N] (jl C D xs ys N 0)) := by
    rw [jl_zero]
    exact ⟨⟨M_15.out, H0.out, E_14.out, by omega, H0.out.lt, by omega⟩, A0_11.out, A1_12.out, R_13.out, by omega⟩
  have HB3 := Lib.hid hb3
  clear hb2 hb3 H0
  have lA0 := A0_11.out.1
  have qA00 := A0_11.out.2 0 _ rfl
  have qA01 := A0_11.out.2 1 _ rfl
  have qA02 := A0_11.out.2 2 _ rfl
  have qA03 := A0_11.out.2 3 _ rfl
  try simp only [World.size_alloc] at lA0
  go_wp2_with fail
  clear lA0 qA00 qA01 qA02 qA03
  clear A0_11
  clear A1_12
  clear M_15
  clear R_13
  clear E_14
  generalize w_5.heap.size = B at *
  go_loopw [20, 6, 7] (fun z _ _ wr => ∃ i : Nat, i ≤ R ∧ z = .int .i64 i ∧ Hid (JoinC w wr w.heap.size B b [.int .i64 P, .int .i64 R, .int .i64 C, .slice (some ⟨a0, oa, none⟩) n n] [.int .i64 P', .int .i64 R', .int .i64 D, .slice (some ⟨b0, ob, none⟩) n' n'] [.int .i64 P, .int .i64 R, .int .i64 E, .slice (some ⟨b, 0, none⟩) N N] (jl C D xs ys N i))) (fun z _ _ _ => R - (intOf z).toNat)
  case atStart => exact ⟨0, by omega, rfl, J0⟩
  case round =>
    clear J0
    obtain ⟨i, hi, rfl, J⟩ := hrel
    by_cases hlt : i < R
    · have hD := hD (Nat.lt_of_le_of_lt (Nat.zero_le _) hlt)
      have r0 := row_n hlt HN0.out
      have r1 := row_n hlt HN.out
      have r2 := row_n hlt HN'.out
      have R0 := Lib.hid r0
      have R1 := Lib.hid r1
      have R2 := Lib.hid r2
      clear r0 r1 r2
      have pl := J.out.a0.1
      have p0 := J.out.a0.2 0 _ rfl
      have p1 := J.out.a0.2 1 _ rfl
      have p2 := J.out.a0.2 2 _ rfl
      have p3 := J.out.a0.2 3 _ rfl
      have ql := J.out.a1.1
      have q0 := J.out.a1.2 0 _ rfl
      have q1 := J.out.a1.2 1 _ rfl
      have q2 := J.out.a1.2 2 _ rfl
      have q3 := J.out.a1.2 3 _ rfl
      have ml := J.out.loc.box.1
      have m0 := J.out.loc.box.2 0 _ rfl
      have m1 := J.out.loc.box.2 1 _ rfl
      have m2 := J.out.loc.box.2 2 _ rfl
      have m3 := J.out.loc.box.2 3 _ rfl
      go_wp2_with fail
      refine (rowOf_impl P R E i b 0 N _ R0.out hb (by omega)).mono ?_
      rintro e w1 ⟨rfl, h1⟩
      clear pl p0 p1 p2 p3 ql q0 q1 q2 q3 ml m0 m1 m2 m3
      rw [Nat.zero_add]
      have J1 := Lib.hid (J.out.step h1)
      clear J h1
      have pl := J1.out.a0.1
      have p0 := J1.out.a0.2 0 _ rfl
      have p1 := J1.out.a0.2 1 _ rfl
      have p2 := J1.out.a0.2 2 _ rfl
      have p3 := J1.out.a0.2 3 _ rfl
      have ql := J1.out.a1.1
      have q0 := J1.out.a1.2 0 _ rfl
      have q1 := J1.out.a1.2 1 _ rfl
      have q2 := J1.out.a1.2 2 _ rfl
      have q3 := J1.out.a1.2 3 _ rfl
      have ml := J1.out.loc.box.1
      have m0 := J1.out.loc.box.2 0 _ rfl
      have m1 := J1.out.loc.box.2 1 _ rfl
      have m2 := J1.out.loc.box.2 2 _ rfl
      have m3 := J1.out.loc.box.2 3 _ rfl
      go_wp2_with fail
      refine (rowOf_impl P R C i a0 oa n _ R1.out HB.out.1 (by omega)).mono ?_
      rintro e w2 ⟨rfl, h2⟩
      clear pl p0 p1 p2 p3 ql q0 q1 q2 q3 ml m0 m1 m2 m3
      have J2 := Lib.hid (J1.out.step h2)
      clear J1 h2
      have hie : i * E + E ≤ N := by have := R0.out; rw [Nat.add_mul] at this; omega
      have HIE := Lib.hid hie
      clear hie
      have hlr := rowL_length HL.out hlt
      have hlr' := rowL_length HL'.out hlt
      have hq := jl_length HL.out HL'.out HNN.out i hi
      have hd := Lib.hid (reads_row (HR.out.ext J2.out.loc.ext) HN.out hlt)
      have HQ := Lib.hid hq
      have HLR := Lib.hid hlr
      have HLR' := Lib.hid hlr'
      clear hlr hlr' hq
      go_wp2_with (refine wpList_copyM rfl (.tmp 26) (.tmp 29) rfl b (i * E) E (N - i * E) (some ⟨a0, oa + i * C, none⟩) C (n - i * C) rfl rfl (jl C D xs ys N i) (rowL C xs i) J2.out.loc.has hd.out C (Nat.min_eq_left (by have := HE.out; omega)) (by rw [HQ.out]; have := HIE.out; have := HE.out; omega) ?_)
      intro w3 h3 g3
      rw [List.take_of_length_le (Nat.le_of_eq HLR.out)] at h3
      have J3 := Lib.hid (J2.out.row h3 g3)
      clear J2 h3 g3 hd
      have hs := jl_step HL.out HL'.out HNN.out hlt
      rw [← HE.out] at hs
      have hq1 : (spl (jl C D xs ys N i) (i * E) (rowL C xs i)).length = N := by
        rw [spl_length _ _ _ (by rw [HQ.out, HLR.out]; have := HIE.out; have := HE.out; omega)]; exact HQ.out
      have hq2 := jl_length HL.out HL'.out HNN.out (i + 1) hlt
      have hs2 : spl (jl C D xs ys N (i + 1)) (i * E + C) (rowL D ys i) = jl C D xs ys N (i + 1) := by
        rw [← hs]; exact spl_idem _ _ _ (by rw [hq1, HLR'.out]; have := HIE.out; have := HE.out; omega)
      have K3 : Hid (JS w w3 w.heap.size B b [.int .i64 P, .int .i64 R, .int .i64 C, .slice (some ⟨a0, oa, none⟩) n n] [.int .i64 P', .int .i64 R', .int .i64 D, .slice (some ⟨b0, ob, none⟩) n' n'] [.int .i64 P, .int .i64 R, .int .i64 E, .slice (some ⟨b, 0, none⟩) N N] N (i * E + C) (rowL D ys i) (jl C D xs ys N (i + 1))) := ⟨_, J3.out, hq1, hs⟩
      have HS2 := Lib.hid hs2
      have HQ2 := Lib.hid hq2
      clear J3 hs hs2 hq1 hq2
      go_wp2_with fail
      have k1 : (C : Int) ≤ (E : Int) := by have := HE.out; omega
      have k2 : C ≠ N - i * E := by have := HE.out; have := HIE.out; omega
      have k3 : E - C = D := by have := HE.out; omega
      have HK : Hid (i * E + C + D ≤ N) := by have := HE.out; have := HIE.out; show _ ≤ _; omega
      obtain ⟨q0, q1, q2, q3, q4, _⟩ := js5 K3.out
      have hc : ∀ wx, Calls Try.prog 111 #[.agg #[.int .i64 P', .int .i64 R', .int .i64 D, .slice (some ⟨b0, ob, none⟩) n' n'], .int .i64 i] wx fun e w' => e = .returned (.slice (some ⟨b0, ob + i * D, none⟩) D (n' - i * D)) ∧ Ext wx w' := fun wx => rowOf_impl P' R' D i b0 ob n' wx R2.out HB.out.2 (by omega)
      have HC := Lib.hid hc
      clear hc
      go_region_held3 (fun wx => wx.cell? ⟨w.heap.size, 2, none⟩ = some (.int .i64 C) ∧ wx.cell? ⟨w.heap.size + 1, 0, none⟩ = some (.int .i64 P') ∧ wx.cell? ⟨w.heap.size + 1, 1, none⟩ = some (.int .i64 R') ∧ wx.cell? ⟨w.heap.size + 1, 2, none⟩ = some (.int .i64 D) ∧ wx.cell? ⟨w.heap.size + 1, 3, none⟩ = some (.slice (some ⟨b0, ob, none⟩) n' n') ∧ JS w wx w.heap.size B b [.int .i64 P, .int .i64 R, .int .i64 C, .slice (some ⟨a0, oa, none⟩) n n] [.int .i64 P', .int .i64 R', .int .i64 D, .slice (some ⟨b0, ob, none⟩) n' n'] [.int .i64 P, .int .i64 R, .int .i64 E, .slice (some ⟨b, 0, none⟩) N N] N (i * E + C) (rowL D ys i) (jl C D xs ys N (i + 1))) (first | assumption | (with_reducible exact js5 (JS.step (And.right (And.right (And.right (And.right (And.right ‹_ ∧ _ ∧ _ ∧ _ ∧ _ ∧ JS _ _ _ _ _ _ _ _ _ _ _ _›))))) ‹Ext _ _›)) | (with_reducible exact js5 (JS.mk' ‹JoinC _ _ _ _ _ _ _ _ _› HQ2.out HS2.out)) | (refine js5 (JS.step K3.out ?_); with_reducible repeat (first | exact Ext.refl _ | refine Ext.drew ?_))) (first
        | (go_at_call 111; with_reducible refine (HC.out _).mono ?_; rintro e w4 ⟨rfl, h4⟩)
        | ((obtain ⟨_, _, _, _, _, l, hJ, hl, he⟩ := ‹_ ∧ _ ∧ _ ∧ _ ∧ _ ∧ JS _ _ _ _ _ _ _ _ _ _ _ _›; refine step_copyM rfl (.tmp 34) (.tmp 37) rfl (some ⟨b, i * E + C, none⟩) b (i * E + C) D (N - i * E - C) (some ⟨b0, ob + i * D, none⟩) D (n' - i * D) rfl rfl l (rowL D ys i) hJ.loc.has (reads_row (HR'.out.ext hJ.loc.ext) HN'.out hlt) D (Nat.min_self D) (fun _ => rfl) (by rw [hl]; exact HK.out) ?_; intro w5 h5 g5; rw [List.take_of_length_le (Nat.le_of_eq HLR'.out), he] at h5; have hj5 := hJ.row h5 g5)))
      go_wp2
      exact ⟨⟨i + 1, by omega, by simp, JoinC.step hj5 (Ext.refl _)⟩, by simp [intOf]; omega⟩
    · obtain rfl : i = R := by omega
      have hh : Has wr b (jmTo C D xs ys i) := by rw [← jl_end C D xs ys N i HNN.out]; exact J.out.loc.has
      have HH := Lib.hid hh
      have E9 := Lib.hid J.out.loc.ext
      have hlt9 := Lib.hid J.out.loc.lt
      have hne9 := Lib.hid J.out.ne
      have lM := J.out.loc.box.1
      have qM0 := J.out.loc.box.2 0 _ rfl
      have qM1 := J.out.loc.box.2 1 _ rfl
      have qM2 := J.out.loc.box.2 2 _ rfl
      have qM3 := J.out.loc.box.2 3 _ rfl
      have qR0 := J.out.res.2 0 _ rfl
      have qR1 := J.out.res.2 1 _ rfl
      have qR2 := J.out.res.2 2 _ rfl
      have qR3 := J.out.res.2 3 _ rfl
      have tR := J.out.res.3
      have lR := J.out.res.1
      clear J hh
      go_wp2
      have := hne9.out
      refine bodyPost_ret (v := .agg #[.int .i64 P, .int .i64 i, .int .i64 E, .slice (some ⟨b, 0, none⟩) N N]) (by simp [results, Try.results112, go_sem, qR0, qR1, qR2, qR3]) rfl ⟨b, rfl, by omega, ?_, ?_, ?_⟩
      · simpa using hlt9.out
      · repeat with_reducible (first | exact HH.out | refine Has.setOther ?_ (by simp <;> omega) _)
      · exact ext4 E9.out (by omega) _ _ _ _
end Go.Proofs.Ytnikfalpjieibaa

/-
  A system solved, in the program.
-/
namespace Go.Proofs.Ytnikfalpjieibaa
open Go.ChangeShapes Go.WideShapes Go.ChangeAt Go.RowKit
set_option linter.unusedVariables false

/-- What is found, or nothing. -/
def SolPost (w : World) (ok : Bool) (l : List Int) (e : Ending) (w' : World) : Prop := ∃ s m c, e = .returned (.tuple #[.slice s m c, .bool ok]) ∧ Own w' w.heap.size w'.heap.size s m (if ok then l else []) ∧ Ext w w'

end Go.Proofs.Ytnikfalpjieibaa
