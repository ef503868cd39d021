/-
  The Killing form: the mathematics; the trace of a product.
-/
import Derived.Test.YtgmipolgnpjmnaaBr
import Derived.Test.YtgmipolgnpjmnaaCs
import Derived.Test.YtgmipolgnpjmnaaAd
namespace Go.Proofs.Ytgmipolgnpjmnaa
open Go.ChangeShapes Go.WideShapes Go.ChangeAt Go.RowKit
set_option linter.unusedVariables false
set_option linter.unusedSimpArgs false

section
variable {P : Int} {D : Nat} {l xs ys : List Int}
theorem adTo_bas (hl : Res l P) (hll : l.length = D * D * D) {i : Nat} (hi : i < D) : adTo P D l (basL D i) D = rowL (D * D) l i := by
  have h1 : l.length = D * (D * D) := by rw [hll, Nat.mul_assoc]
  refine ext_gi (by rw [adTo_length, rowL_length h1 hi]) (fun q hq => ?_)
  rw [adTo_length] at hq
  rw [gi_adTo _ hq, gi_rowL2 _ _ hq, sumN_one _ hi (fun c hc hne => by rw [gi_basL hi, if_neg hne]; simp), gi_basL hi, if_pos rfl, Int.one_mul]
  have := hl (i * (D * D) + q) (by rw [h1]; exact place_lt hi hq)
  exact Int.emod_eq_of_lt this.1 this.2
/-- One number of the form, before it is reduced. -/
def kilN (D : Nat) (l : List Int) (i j : Nat) : Int := sumN D fun r => sumN D fun c => gi (rowL (D * D) l i) (c * D + r) * gi (rowL (D * D) l j) (r * D + c)
theorem kilN_swap (i j : Nat) : kilN D l i j = kilN D l j i := by
  rw [kilN, kilN, sumN_swap]
  exact sumN_congr (fun r _ => sumN_congr (fun c _ => Int.mul_comm _ _))
theorem sumN_blocks (m n : Nat) (f : Nat → Int) : sumN (m * n) f = sumN m fun r => sumN n fun c => f (r * n + c) := by
  have h : ∀ k r, sumN (r + k) f = sumN r f + sumN k fun c => f (r + c) := by
    intro k
    induction k with
    | zero => intro r; simp [sumN]
    | succ k ih => intro r; rw [← Nat.add_assoc, sumN, ih, sumN, Int.add_assoc]
  induction m with
  | zero => simp [sumN]
  | succ m ih => rw [Nat.add_mul, Nat.one_mul, h, ih, sumN]
/-- The numbers of two lists, multiplied place by place and added. -/
def tpS (xs ys : List Int) (k : Nat) : Int := sumN k fun q => gi xs q * gi ys q
theorem tpS_succ (k : Nat) : tpS xs ys (k + 1) = tpS xs ys k + gi xs k * gi ys k := rfl
theorem tpS_kil (i j : Nat) : tpS (transTo (rowL (D * D) l i) D D D) (rowL (D * D) l j) (D * D) = kilN D l i j := by
  rw [tpS, sumN_blocks, kilN]
  exact sumN_congr (fun r hr => sumN_congr (fun c hc => by rw [gi_transTo D (Nat.le_refl _) r c hr hc, if_pos hc]))
theorem tpS_bd {n : Nat} (hp : P ≤ 10007) (hx : ∀ q, q < n → 0 ≤ gi xs q ∧ gi xs q < P) (hy : ∀ q, q < n → 0 ≤ gi ys q ∧ gi ys q < P) (k : Nat) (hk : k ≤ n) : 0 ≤ tpS xs ys k ∧ tpS xs ys k ≤ 100140049 * k := by
  induction k with
  | zero => simp [tpS, sumN]
  | succ k ih =>
    obtain ⟨i0, i1⟩ := ih (by omega)
    obtain ⟨x0, x1⟩ := hx k (by omega)
    obtain ⟨y0, y1⟩ := hy k (by omega)
    have h0 := Int.mul_nonneg x0 y0
    have h1 : gi xs k * gi ys k ≤ 10007 * 10007 := Int.mul_le_mul (by omega) (by omega) y0 (by omega)
    rw [tpS_succ]
    omega
theorem traceTo_sum (m k : Nat) : traceTo xs m k = sumN k fun q => gi xs (q * m + q) := by
  induction k with
  | zero => rfl
  | succ k ih => rw [traceTo, ih, sumN]
theorem trace_kil (i j : Nat) : traceTo (mulTo P (rowL (D * D) l i) (rowL (D * D) l j) D D D D) D D % P = kilN D l i j % P := by
  rw [traceTo_sum, kilN_swap]
  refine Eqm.to_emod (sumN_eqm (fun r hr => ?_))
  rw [at2_mulTo r r hr hr]
  exact (Eqm.emod _).trans (Eqm.of_eq (sumN_congr (fun c _ => Int.mul_comm _ _)))
/-- The form as a list of numbers. -/
def kilL (P : Int) (D : Nat) (l : List Int) : List Int := (List.range (D * D)).map fun t => kilN D l (t / D) (t % D) % P
theorem kilL_length : (kilL P D l).length = D * D := by simp [kilL]
theorem kilL_eq {ks : List Int} (hk : ks.length = D * D) (h : ∀ i j, i < D → j < D → gi ks (i * D + j) = kilN D l i j % P) : ks = kilL P D l := by
  refine ext_gi (by rw [hk, kilL_length]) (fun t ht => ?_)
  rw [hk] at ht
  have hD : 0 < D := by
    rcases Nat.eq_zero_or_pos D with h | h
    · subst h; simp at ht
    · exact h
  have e : t = t / D * D + t % D := by rw [Nat.mul_comm]; exact (Nat.div_add_mod t D).symm
  rw [kilL, gi_map _ _ ht]
  have := h (t / D) (t % D) (Nat.div_lt_of_lt_mul ht) (Nat.mod_lt _ hD)
  rwa [← e] at this
theorem kil_put {ks : List Int} {v : Int} {i j i' j' : Nat} (hk : ks.length = D * D) (hi : i < D) (hj : j < D) (hj' : j' < D) : gi (ks.set (i * D + j) v) (i' * D + j') = if i' = i ∧ j' = j then v else gi ks (i' * D + j') := by
  rw [gi_set _ _ _ _ (by rw [hk]; exact place_lt hi hj)]
  by_cases h : i' = i
  · subst h
    by_cases h2 : j' = j
    · subst h2; rw [if_pos rfl, if_pos ⟨rfl, rfl⟩]
    · rw [if_neg (by omega), if_neg (fun e => h2 e.2)]
  · rw [if_neg (fun e => ?_), if_neg (fun e => h e.1)]
    rcases Nat.lt_or_gt_of_ne h with g | g
    · have := Nat.mul_le_mul_right D (show i' + 1 ≤ i by omega)
      rw [Nat.add_mul, Nat.one_mul] at this
      omega
    · have := Nat.mul_le_mul_right D (show i + 1 ≤ i' by omega)
      rw [Nat.add_mul, Nat.one_mul] at this
      omega
end
/-- What the Killing form is: behind the question whether the algebra is valid. -/
noncomputable def kilM (P D : Int) (l : List Int) : Mat := if algB P D l then ⟨P, D, D, kilL P D.toNat l⟩ else noMat


set_option maxRecDepth 100000 in
set_option maxHeartbeats 3200000 in
theorem traceOfProduct_impl (P : Int) (m a0 oa b0 ob n ca cb : Nat) (xs ys : List Int) (w : World) (hr : Reads w (some ⟨a0, oa, none⟩) n xs) (hr' : Reads w (some ⟨b0, ob, none⟩) n ys) (hn : n = m * m) (hm : m ≤ 28) (hp : 2 ≤ P) (hp2 : P ≤ 10007) (hx : Res xs P) (hy : Res ys P) (hca : n ≤ ca) (hca2 : ca ≤ maxLen) :
    Calls Try.prog 103 #[.agg #[.int .i64 P, .int .i64 m, .int .i64 m, .slice (some ⟨a0, oa, none⟩) n ca], .agg #[.int .i64 P, .int .i64 m, .int .i64 m, .slice (some ⟨b0, ob, none⟩) n cb]] w fun e w' => e = .returned (.int .i64 (tpS (transTo xs m m m) ys n % P)) ∧ Ext w w' := by
  have h28 : m * m ≤ 784 := Nat.mul_le_mul hm hm
  have hbd : ∀ k, k ≤ n → 0 ≤ tpS (transTo xs m m m) ys k ∧ tpS (transTo xs m m m) ys k ≤ 100140049 * k := fun k hk => tpS_bd hp2 (fun q hq => transTo_res hp hx m q (by rw [transTo_length, ← hn]; exact hq)) (fun q hq => hy q (by rw [hr'.1]; exact hq)) k hk
  have HBD := Lib.hid hbd
  have HX9 : Hid (∀ q, q < n → 0 ≤ gi (transTo xs m m m) q ∧ gi (transTo xs m m m) q < P) := fun q hq => transTo_res hp hx m q (by rw [transTo_length, ← hn]; exact hq)
  have HY9 : Hid (∀ q, q < n → 0 ≤ gi ys q ∧ gi ys q < P) := fun q hq => hy q (by rw [hr'.1]; exact hq)
  have HR := Lib.hid hr
  have HR' := Lib.hid hr'
  have HN := Lib.hid hn
  have hnb : n ≤ 784 := by omega
  clear hr hr' hbd hx hy hn h28
  go_enter Try.func103, Try.ntmps103
  have A0_1 := Lib.hid ((cells_new' w #[.int .i64 P, .int .i64 m, .int .i64 m, .slice (some ⟨a0, oa, none⟩) n ca] 36 (w.heap.size) (by simp)).ext ((Ext.refl _).alloc (.cells #[.int .i64 P, .int .i64 m, .int .i64 m, .slice (some ⟨b0, ob, none⟩) n cb] 36)))
  have A1_2 := Lib.hid (cells_new' (w.alloc (.cells #[.int .i64 P, .int .i64 m, .int .i64 m, .slice (some ⟨a0, oa, none⟩) n ca] 36)) #[.int .i64 P, .int .i64 m, .int .i64 m, .slice (some ⟨b0, ob, none⟩) n cb] 36 (w.heap.size + 1) (by simp))
  have E_3 := Lib.hid (((Ext.refl w).alloc (.cells #[.int .i64 P, .int .i64 m, .int .i64 m, .slice (some ⟨a0, oa, none⟩) n ca] 36)).alloc (.cells #[.int .i64 P, .int .i64 m, .int .i64 m, .slice (some ⟨b0, ob, none⟩) n cb] 36))
  have lA0 := A0_1.out.1
  have qA00 := A0_1.out.2 0 _ rfl
  have qA01 := A0_1.out.2 1 _ rfl
  have qA02 := A0_1.out.2 2 _ rfl
  have qA03 := A0_1.out.2 3 _ rfl
  try simp only [World.size_alloc] at lA0
  go_wp2_with fail
  refine (transpose_impl P m m a0 oa n ca xs _ (HR.out.ext E_3.out) HN.out (by omega) (by omega) (by omega) hca hca2).mono ?_
  rintro e w_4 ⟨b, rfl, hb, hb2, hB, h_4⟩
  clear lA0 qA00 qA01 qA02 qA03
  have A0_5 := Lib.hid (A0_1.out.ext h_4)
  clear A0_1
  have A1_6 := Lib.hid (A1_2.out.ext h_4)
  clear A1_2
  have E_7 := Lib.hid (E_3.out.trans h_4)
  clear E_3
  have HNN : m * m = n := HN.out.symm
  rw [HNN]
  clear HNN
  have HB := Lib.hid hB
  have HLT : Hid ((transTo xs m m m).length = n) := by rw [Hid, transTo_length, HN.out]
  clear hB hb hb2
  have hfd := run_fieldM
  go_wp2_with fail
  clear hfd
  go_loopw [5, 6, 7, 12] (fun s _ _ z wr => ∃ k : Nat, k ≤ n ∧ z = .int .i64 k ∧ s = .int .i64 (tpS (transTo xs m m m) ys k) ∧ wr = w_4) (fun _ _ _ z _ => n - (intOf z).toNat)
  case atStart => exact ⟨0, by omega, rfl, rfl, rfl⟩
  case round =>
    obtain ⟨k, hk, rfl, rfl, rfl⟩ := hrel
    have lA := A0_5.out.1
    have a0' := A0_5.out.2 0 _ rfl
    have a3' := A0_5.out.2 3 _ rfl
    have lB := A1_6.out.1
    have b3' := A1_6.out.2 3 _ rfl
    obtain ⟨s0, s1⟩ := HBD.out k hk
    by_cases hlt : k < n
    · have x1 := HB.out.cell k (by rw [HLT.out]; exact hlt)
      obtain ⟨y1, y2⟩ := reads_at (HR'.out.ext E_7.out) hlt
      obtain ⟨p0, p1⟩ := HX9.out k hlt
      obtain ⟨q0, q1⟩ := HY9.out k hlt
      have m0 := Int.mul_nonneg p0 q0
      have m1 : gi (transTo xs m m m) k * gi ys k ≤ 10007 * 10007 := Int.mul_le_mul (by omega) (by omega) q0 (by omega)
      have HS : Hid (tpS (transTo xs m m m) ys (k + 1) = tpS (transTo xs m m m) ys k + gi (transTo xs m m m) k * gi ys k) := tpS_succ k
      go_wp2
      exact ⟨⟨k + 1, by omega, by simp, by rw [HS.out], by first | rfl | trivial⟩, by simp [intOf]; omega⟩
    · obtain rfl : k = n := by omega
      go_wp2
      go_ret
      exact ⟨rfl, E_7.out⟩

end Go.Proofs.Ytgmipolgnpjmnaa
