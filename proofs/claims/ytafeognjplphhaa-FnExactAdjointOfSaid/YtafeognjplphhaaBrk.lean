/-
  Brackets of two elements, and the matrix of the brackets with one, in the program.
-/
import Derived.Test.YtafeognjplphhaaAlgOk2
import Derived.Test.YtafeognjplphhaaAdj
import Derived.Test.YtafeognjplphhaaSolveM
import Derived.Test.YtafeognjplphhaaRowsL
namespace Go.Proofs.Ytafeognjplphhaa
open Go.ChangeShapes Go.WideShapes Go.ChangeAt Go.RowKit
set_option linter.unusedVariables false
set_option linter.unusedSimpArgs false

/-! The bracket as a product with the matrix of brackets. -/
section
variable {P : Int} {D : Nat} {l xs ys : List Int}
theorem gi_kTo_row (A : List Int) (hA : A.length = D * D) (hp : 0 < P) (k : Nat) (hk : k ≤ D) {q : Nat} (hq : q < D) : gi (kTo P ys A D D 0 (List.replicate (1 * D) 0) k) q = (sumN k fun j => gi ys j * gi A (j * D + q)) % P := by
  induction k with
  | zero => rw [kTo, gi_replicate]; simp [sumN]
  | succ k ih =>
    simp only [kTo, Nat.zero_mul, Nat.zero_add, sumN]
    by_cases h : gi ys k = 0
    · rw [axL, if_pos h, ih (by omega), h]; simp
    · rw [axL, if_neg h]
      have hl : (kTo P ys A D D 0 (List.replicate (1 * D) 0) k).length = D := by rw [kTo_length]; simp
      have h1 := gi_axTo_in P (gi ys k) 0 (k * D) D (kTo P ys A D D 0 (List.replicate (1 * D) 0) k) A (by rw [hl]; omega) q D hq (Nat.le_refl _)
      simp only [Nat.zero_add] at h1
      rw [h1, ih (by omega)]
      exact Int.emod_add_emod _ _ _
theorem brk_eq (hp : 0 < P) : mulTo P ys (adTo P D l xs D) 1 D D 1 = brL P D l xs ys := by
  refine ext_gi (by rw [mulTo_length, brL, List.length_map, List.length_range, Nat.one_mul]) (fun q hq => ?_)
  rw [mulTo_length, Nat.one_mul] at hq
  rw [mulTo, mulTo, gi_kTo_row _ (adTo_length D) hp D (Nat.le_refl _) hq, brL, gi_map D _ hq]
  refine Eqm.to_emod ?_
  have e1 : Eqm P (sumN D fun j => gi ys j * gi (adTo P D l xs D) (j * D + q)) (sumN D fun j => gi ys j * adN D l (gi xs) j q) :=
    sumN_eqm (fun j hj => by rw [adTo_row hj hq]; exact (Eqm.refl _).mul (Eqm.emod _))
  refine e1.trans (Eqm.of_eq ?_)
  rw [brN]
  have e2 : (sumN D fun j => gi ys j * adN D l (gi xs) j q) = sumN D fun j => sumN D fun i => gi xs i * gi ys j * tb D l i j q := by
    refine sumN_congr (fun j _ => ?_)
    rw [adN, ← sumN_mul]
    exact sumN_congr (fun i _ => by grind)
  rw [e2, sumN_swap]
theorem gi_cut (m : List Int) (a n q : Nat) (hq : q < n) : gi ((m.drop a).take n) q = gi m (a + q) := by
  simp [gi, List.getD_eq_getElem?_getD, List.getElem?_take, List.getElem?_drop, hq]
/-- The rows of the matrix of brackets. -/
def adR (P : Int) (D : Nat) (l xs : List Int) (k : Nat) : List (List Int) := (List.range k).map fun j => brL P D l xs (basL D j)
theorem adR_length (k : Nat) : (adR P D l xs k).length = k := by simp [adR]
theorem adR_succ (k : Nat) : adR P D l xs (k + 1) = adR P D l xs k ++ [brL P D l xs (basL D k)] := by simp [adR, List.range_succ]
theorem brL_len : (brL P D l xs ys).length = D := by simp [brL]
theorem adR_row {k : Nat} (hk : k < D) : brL P D l xs (basL D k) = ((adTo P D l xs D).drop (k * D)).take D := by
  have h := ad_place (D := D) (j := k) (m := D - 1) hk (by omega)
  refine ext_gi (by rw [brL_len, List.length_take, List.length_drop, adTo_length]; omega) (fun q hq => ?_)
  rw [brL_len] at hq
  rw [gi_cut _ _ _ _ hq, brL, gi_map D _ hq, brN_bas _ hk, adTo_row hk hq]
theorem adR_flat {k : Nat} (hk : k ≤ D) : (adR P D l xs k).flatten = (adTo P D l xs D).take (k * D) := by
  induction k with
  | zero => simp [adR]
  | succ k ih =>
    rw [adR_succ, List.flatten_append, ih (by omega), List.flatten_cons, List.flatten_nil, List.append_nil, adR_row (by omega), Nat.add_mul, Nat.one_mul, List.take_add]
theorem adR_all : (adR P D l xs D).flatten = adTo P D l xs D := by
  rw [adR_flat (Nat.le_refl _), List.take_of_length_le (by rw [adTo_length]; exact Nat.le_refl _)]
end
noncomputable def vecB (P D : Int) (xs : List Int) : Bool := ((xs.length : Int) == D) && resB xs P
noncomputable def brkM (P D : Int) (l xs ys : List Int) : List Int := if algB P D l && (vecB P D xs && vecB P D ys) then brL P D.toNat l xs ys else []
noncomputable def adjM (P D : Int) (l xs : List Int) : Mat := if algB P D l && vecB P D xs then ⟨P, D, D, adTo P D.toNat l xs D.toNat⟩ else noMat

theorem product1_impl (P : Int) (D b1 o1 b0 : Nat) (l xs ys : List Int) (w : World) (hY : Reads w (some ⟨b1, o1, none⟩) D ys) (hA : Reads w (some ⟨b0, 0, none⟩) (D * D) (adTo P D l xs D)) (hD : D ≤ 28) (hp : 2 ≤ P) (hp2 : P ≤ 10007) (hy : Res ys P) :
    Calls Try.prog 125 #[.agg #[.int .i64 P, .int .i64 1, .int .i64 D, .slice (some ⟨b1, o1, none⟩) D D], .agg #[.int .i64 P, .int .i64 D, .int .i64 D, .slice (some ⟨b0, 0, none⟩) (D * D) (D * D)]] w fun e w' => ∃ b, e = .returned (.agg #[.int .i64 P, .int .i64 1, .int .i64 D, .slice (some ⟨b, 0, none⟩) D D]) ∧ w.heap.size ≤ b ∧ b < w'.heap.size ∧ Has w' b (brL P D l xs ys) ∧ Ext w w' := by
  have h := product_impl P 1 D D b1 o1 b0 0 D (D * D) ys (adTo P D l xs D) w hY hA (Nat.one_mul D).symm rfl (by omega) (by omega) (by omega) hp hp2 hy (adTo_res (by omega) D)
  rw [brk_eq (by omega)] at h
  simp only [Nat.one_mul] at h
  exact h

set_option maxRecDepth 100000 in
set_option maxHeartbeats 3200000 in
theorem brackets_impl (P : Int) (D B a0 oa n d b' o' c' b1 o1 : Nat) (l xs ys : List Int) (w : World) (hc : Cells w B [.int .i64 P, .int .i64 D, .slice (some ⟨a0, oa, none⟩) n d]) (hD : D ≤ 28) (hn : n = D * D * D) (hd : n ≤ d) (hd2 : d ≤ maxLen)
    (hT : Reads w (some ⟨a0, oa, none⟩) n l) (hX : Reads w (some ⟨b', o', none⟩) D xs) (hY : Reads w (some ⟨b1, o1, none⟩) D ys) (hp : 2 ≤ P) (hp2 : P ≤ 10007) (hl : Res l P) (hx : Res xs P) (hy : Res ys P) :
    Calls Try.prog 93 #[.pointer (some ⟨B, 0, none⟩), .slice (some ⟨b', o', none⟩) D c', .agg #[.int .i64 P, .int .i64 1, .int .i64 D, .slice (some ⟨b1, o1, none⟩) D D]] w fun e w' => ∃ b, e = .returned (.agg #[.int .i64 P, .int .i64 1, .int .i64 D, .slice (some ⟨b, 0, none⟩) D D]) ∧ w.heap.size ≤ b ∧ b < w'.heap.size ∧ Has w' b (brL P D l xs ys) ∧ Ext w w' := by
  have A0 := Lib.hid ((cells_new' w #[.int .i64 P, .int .i64 1, .int .i64 D, .slice (some ⟨b1, o1, none⟩) D D] 26 w.heap.size rfl).ext ((Ext.refl _).alloc (.cells #[.int .i64 0, .int .i64 0, .int .i64 0, .slice none 0 0] 26)))
  have R0 := Lib.hid (cells_new' (w.alloc (.cells #[.int .i64 P, .int .i64 1, .int .i64 D, .slice (some ⟨b1, o1, none⟩) D D] 26)) #[.int .i64 0, .int .i64 0, .int .i64 0, .slice none 0 0] 26 (w.heap.size + 1) (by simp))
  have E0 := Lib.hid (((Ext.refl w).alloc (.cells #[.int .i64 P, .int .i64 1, .int .i64 D, .slice (some ⟨b1, o1, none⟩) D D] 26)).alloc (.cells #[.int .i64 0, .int .i64 0, .int .i64 0, .slice none 0 0] 26))
  have lA := A0.out.1
  have qA0 := A0.out.2 0 _ rfl
  have qA1 := A0.out.2 1 _ rfl
  have qA2 := A0.out.2 2 _ rfl
  have qA3 := A0.out.2 3 _ rfl
  have qR0 := R0.out.2 0 _ rfl
  have qR1 := R0.out.2 1 _ rfl
  have qR2 := R0.out.2 2 _ rfl
  have qR3 := R0.out.2 3 _ rfl
  have tR := R0.out.3
  try simp only [World.size_alloc] at lA
  have lR := R0.out.1
  have HY := Lib.hid hY
  have cX : ∀ w1, Ext w w1 → Calls Try.prog 95 #[.pointer (some ⟨B, 0, none⟩), .slice (some ⟨b', o', none⟩) D c'] w1 (fun e w' => ∃ b, e = .returned (.agg #[.int .i64 P, .int .i64 D, .int .i64 D, .slice (some ⟨b, 0, none⟩) (D * D) (D * D)]) ∧ w1.heap.size ≤ b ∧ b < w'.heap.size ∧ Has w' b (adTo P D l xs D) ∧ Ext w1 w') := fun w1 h => adjoint_impl P D B a0 oa n d b' o' c' l xs w1 (hc.ext h) hD hn hd hd2 (hT.ext h) (hX.ext h) hp hp2 hl hx
  have gB : w.heap.size ≤ w.heap.size + 1 := by omega
  have lad : (adTo P D l xs D).length = D * D := adTo_length D
  clear hc hX hY hT hn
  go_enter Try.func93, Try.ntmps93
  go_wp2_with fail
  go_region_held3 (fun w' => Ext w w' ∧ w.heap.size + 1 ≤ w'.heap.size ∧ ∀ b o, b < w.heap.size + 1 → w'.cell? ⟨b, o, none⟩ = ((w.alloc (.cells #[.int .i64 P, .int .i64 1, .int .i64 D, .slice (some ⟨b1, o1, none⟩) D D] 26)).alloc (.cells #[.int .i64 0, .int .i64 0, .int .i64 0, .slice none 0 0] 26)).cell? ⟨b, o, none⟩) (first | (with_reducible exact KeptR.call ‹Ext w _ ∧ w.heap.size + 1 ≤ _ ∧ _› ‹Ext _ _›) | exact ⟨E0.out, Nat.le_of_lt lR, fun _ _ _ => rfl⟩ | exact ⟨E0.out.drew, Nat.le_of_lt lR, fun _ _ _ => rfl⟩ | assumption | (with_reducible exact KeptR.set4 ‹Ext w _ ∧ w.heap.size + 1 ≤ _ ∧ _› gB _ _ _ _)) (first
      | (go_at_call 95; with_reducible refine (cX _ (And.left ‹Ext w _ ∧ w.heap.size + 1 ≤ _ ∧ _›)).mono ?_; rintro e wX ⟨bX, rfl, bX1, bX2, kX, EX⟩)
      | (go_at_call 125; with_reducible refine (product1_impl P D b1 o1 bX l xs ys _ (HY.out.ext (And.left ‹Ext w _ ∧ w.heap.size + 1 ≤ _ ∧ _›)) (kX.reads lad) hD hp hp2 hy).mono ?_; rintro e w5 ⟨bA, rfl, bA1, bA2, kA, EA⟩; have hall : Ext ((w.alloc (.cells #[.int .i64 P, .int .i64 1, .int .i64 D, .slice (some ⟨b1, o1, none⟩) D D] 26)).alloc (.cells #[.int .i64 0, .int .i64 0, .int .i64 0, .slice none 0 0] 26)) w5 := Ext.trans (Ext.drew (Ext.refl _)) (EX.trans EA); have lR1 := lR; have c1 := (hall.cells _ 0 lR1).trans qR0; have c2 := (hall.cells _ 1 lR1).trans qR1; have c3 := (hall.cells _ 2 lR1).trans qR2; have c4 := (hall.cells _ 3 lR1).trans qR3; have f1 : ∀ j, w5.frozen? ⟨w.heap.size + 1, j, none⟩ = false := fun j => (hall.frees _ j lR1).trans (tR j)))
  have hx2 := (‹Ext w _ ∧ w.heap.size + 1 ≤ _ ∧ _› : Ext w _ ∧ w.heap.size + 1 ≤ _ ∧ _).1
  have b0 : ((w.alloc (.cells #[.int .i64 P, .int .i64 1, .int .i64 D, .slice (some ⟨b1, o1, none⟩) D D] 26)).alloc (.cells #[.int .i64 0, .int .i64 0, .int .i64 0, .slice none 0 0] 26)).drew.heap.size ≤ bA := by with_reducible exact Nat.le_trans EX.le bA1
  simp only [World.size_drew, World.size_alloc] at b0
  go_wp2
  refine bodyPost_ret (v := .agg #[.int .i64 P, .int .i64 1, .int .i64 D, .slice (some ⟨bA, 0, none⟩) D D]) (by simp [results, Try.results93, go_sem, c1, c2, c3, c4]) rfl ⟨bA, rfl, by omega, ?_, ?_, hx2⟩
  · have := kA.lt; simpa using this
  · repeat with_reducible (first | exact kA | refine Has.setOther ?_ (by simp <;> omega) _)

set_option maxRecDepth 100000 in
set_option maxHeartbeats 3200000 in
theorem bracketOf_impl {P D : Int} {a0 oa n b0 o0 n1 b1 o1 n2 : Nat} {l xs ys : List Int} {w : World} {i : List Int} (hT : Reads w (some ⟨a0, oa, none⟩) n l) (hm : n ≤ 1048576) (hX : Reads w (some ⟨b0, o0, none⟩) n1 xs) (hm1 : n1 ≤ 1048576) (hY : Reads w (some ⟨b1, o1, none⟩) n2 ys) (hm2 : n2 ≤ 1048576) (hM : brkM P D l xs ys = i) :
    Calls Try.prog 50 #[.agg #[.int .i64 P, .int .i64 D, .slice (some ⟨a0, oa, none⟩) n n], .slice (some ⟨b0, o0, none⟩) n1 n1, .slice (some ⟨b1, o1, none⟩) n2 n2] w fun e w' => ∃ v, e = .returned v ∧ Rints w w' v i ∧ Ext w w' := by
  subst hM
  have HT := Lib.hid hT
  have HX := Lib.hid hX
  have HY := Lib.hid hY
  have HA : Hid (brkM P D l xs ys = if algB P D l && ((((n1 : Int) == D) && resB xs P) && (((n2 : Int) == D) && resB ys P)) then brL P D.toNat l xs ys else []) := by rw [Hid, brkM, vecB, vecB, hX.1, hY.1]
  generalize brkM P D l xs ys = q at HA
  clear hX hY
  rcases h1 : algB P D l with _ | _
  · have HF : Hid (q = []) := by rw [Hid, HA.out, h1]; rfl
    have H1 := Lib.hid h1
    clear h1 hT HA
    go_enter Try.func50, Try.ntmps50
    have E0 := Lib.hid ((Ext.refl w).alloc (.cells #[.int .i64 P, .int .i64 D, .slice (some ⟨a0, oa, none⟩) n n] 46))
    go_wp2_with fail
    refine (wrap_impl P D a0 oa n n l _ (HT.out.ext E0.out) hm (Nat.le_refl _) (by unfold maxLen; omega)).mono ?_
    rintro e w1 ⟨B, rfl, hb, hlo, h1x⟩
    have E1 := Lib.hid (E0.out.trans h1x)
    have HB := Lib.hid hb
    skip
    clear hb h1x
    rw [H1.out]
    go_wp2
    go_ret
    rw [HF.out]
    exact ⟨_, rfl, ⟨none, 0, 0, rfl, own_nil _ _ _, by omega⟩, E1.out⟩
  obtain ⟨D, rfl, hA⟩ := algB_parts h1 hT.1
  have H1 := Lib.hid h1
  rcases h2 : (((n1 : Int) == (D : Int)) && resB xs P) with _ | _
  · have HF : Hid (q = []) := by rw [Hid, HA.out, h1, h2]; rfl
    have H2 := Lib.hid h2
    clear h1 hT HA h2
    go_enter Try.func50, Try.ntmps50
    have E0 := Lib.hid ((Ext.refl w).alloc (.cells #[.int .i64 P, .int .i64 D, .slice (some ⟨a0, oa, none⟩) n n] 46))
    go_wp2_with fail
    refine (wrap_impl P D a0 oa n n l _ (HT.out.ext E0.out) hm (Nat.le_refl _) (by unfold maxLen; omega)).mono ?_
    rintro e w1 ⟨B, rfl, hb, hlo, h1x⟩
    have E1 := Lib.hid (E0.out.trans h1x)
    have HB := Lib.hid hb
    skip
    clear hb h1x
    rw [H1.out]
    go_wp2_with fail
    refine (hasElement_impl P _ B n1 n1 _ _ xs _ HB.out (HX.out.ext E1.out) hm1).mono ?_
    rintro e w2 ⟨rfl, h2x⟩
    have E2 := Lib.hid (E1.out.trans h2x)
    have HB2 := Lib.hid (HB.out.ext h2x)
    skip
    clear h2x
    rw [H2.out]
    go_wp2
    go_ret
    rw [HF.out]
    exact ⟨_, rfl, ⟨none, 0, 0, rfl, own_nil _ _ _, by omega⟩, E2.out⟩
  have H2 := Lib.hid h2
  rcases h3 : (((n2 : Int) == (D : Int)) && resB ys P) with _ | _
  · have HF : Hid (q = []) := by rw [Hid, HA.out, h1, h2, h3]; rfl
    have H3 := Lib.hid h3
    clear h1 hT HA h2 h3
    go_enter Try.func50, Try.ntmps50
    have E0 := Lib.hid ((Ext.refl w).alloc (.cells #[.int .i64 P, .int .i64 D, .slice (some ⟨a0, oa, none⟩) n n] 46))
    go_wp2_with fail
    refine (wrap_impl P D a0 oa n n l _ (HT.out.ext E0.out) hm (Nat.le_refl _) (by unfold maxLen; omega)).mono ?_
    rintro e w1 ⟨B, rfl, hb, hlo, h1x⟩
    have E1 := Lib.hid (E0.out.trans h1x)
    have HB := Lib.hid hb
    skip
    clear hb h1x
    rw [H1.out]
    go_wp2_with fail
    refine (hasElement_impl P _ B n1 n1 _ _ xs _ HB.out (HX.out.ext E1.out) hm1).mono ?_
    rintro e w2 ⟨rfl, h2x⟩
    have E2 := Lib.hid (E1.out.trans h2x)
    have HB2 := Lib.hid (HB.out.ext h2x)
    skip
    clear h2x
    rw [H2.out]
    go_wp2_with fail
    refine (hasElement_impl P _ B n2 n2 _ _ ys _ HB2.out (HY.out.ext E2.out) hm2).mono ?_
    rintro e w3 ⟨rfl, h3x⟩
    have E3 := Lib.hid (E2.out.trans h3x)
    have HB3 := Lib.hid (HB2.out.ext h3x)
    skip
    clear h3x
    rw [H3.out]
    go_wp2
    go_ret
    rw [HF.out]
    exact ⟨_, rfl, ⟨none, 0, 0, rfl, own_nil _ _ _, by omega⟩, E3.out⟩
  have H3 := Lib.hid h3
  have HF : Hid (q = brL P D l xs ys) := by rw [Hid, HA.out, h1, h2, h3, Int.toNat_natCast]; rfl
  have hv2 : D = n1 := by simp only [Bool.and_eq_true, beq_iff_eq] at h2; omega
  have hv3 : D = n2 := by simp only [Bool.and_eq_true, beq_iff_eq] at h3; omega
  have hx : Res xs P := by simp only [Bool.and_eq_true, resB_iff] at h2; exact h2.2
  have hy : Res ys P := by simp only [Bool.and_eq_true, resB_iff] at h3; exact h3.2
  have hp := isP_lo hA.pr
  have hp2 := isP_hi hA.pr
  have hD := hA.dim
  have HN := Lib.hid hA.len
  have HRL := Lib.hid hA.res
  have HRX := Lib.hid hx
  have HRY := Lib.hid hy
  have hfd := run_fieldM
  subst hv2 hv3
  clear h1 hT HA h2 h3 hA hx hy
  go_enter Try.func50, Try.ntmps50
  have E0 := Lib.hid ((Ext.refl w).alloc (.cells #[.int .i64 P, .int .i64 D, .slice (some ⟨a0, oa, none⟩) n n] 46))
  go_wp2_with fail
  refine (wrap_impl P D a0 oa n n l _ (HT.out.ext E0.out) hm (Nat.le_refl _) (by unfold maxLen; omega)).mono ?_
  rintro e w1 ⟨B, rfl, hb, hlo, h1x⟩
  have E1 := Lib.hid (E0.out.trans h1x)
  have HB := Lib.hid hb
  skip
  clear hb h1x
  rw [H1.out]
  go_wp2_with fail
  refine (hasElement_impl P _ B D D _ _ xs _ HB.out (HX.out.ext E1.out) hm1).mono ?_
  rintro e w2 ⟨rfl, h2x⟩
  have E2 := Lib.hid (E1.out.trans h2x)
  have HB2 := Lib.hid (HB.out.ext h2x)
  skip
  clear h2x
  rw [H2.out]
  go_wp2_with fail
  refine (hasElement_impl P _ B D D _ _ ys _ HB2.out (HY.out.ext E2.out) hm2).mono ?_
  rintro e w3 ⟨rfl, h3x⟩
  have E3 := Lib.hid (E2.out.trans h3x)
  have HB3 := Lib.hid (HB2.out.ext h3x)
  skip
  clear h3x
  rw [H3.out]
  clear HB HB2 E1 E2
  have lB := HB3.out.1
  have q0 := HB3.out.2 0 _ rfl
  have q1 := HB3.out.2 1 _ rfl
  go_wp2_with fail
  go_region_held3 (fun w' => Ext w3 w' ∧ (∀ b o, b < w3.heap.size → w'.cell? ⟨b, o, none⟩ = w3.cell? ⟨b, o, none⟩)) (first | (with_reducible exact ext2 (Ext.trans (And.left ‹Ext w3 _ ∧ _›) ‹Ext _ _›)) | (refine ext2 ?_; with_reducible repeat (first | exact Ext.refl _ | exact And.left ‹Ext w3 _ ∧ _› | refine Ext.drew ?_ | refine Ext.drewN ?_ _))) ((go_at_call 93; with_reducible refine (brackets_impl P _ B a0 oa n n b0 o0 _ b1 o1 l xs ys _ (HB3.out.ext (And.left ‹Ext w3 _ ∧ _›)) hD HN.out (Nat.le_refl _) (by unfold maxLen; omega) (HT.out.ext (E3.out.trans (And.left ‹Ext w3 _ ∧ _›))) (HX.out.ext (E3.out.trans (And.left ‹Ext w3 _ ∧ _›))) (HY.out.ext (E3.out.trans (And.left ‹Ext w3 _ ∧ _›))) hp hp2 HRL.out HRX.out HRY.out).mono ?_; rintro e w4 ⟨b, rfl, hb1, hb2, kk, h4⟩))
  all_goals
    have hx2 := E3.out.trans (And.left ‹Ext w3 w4 ∧ _›)
    have hle := E3.out.le
    try simp only [World.size_drew] at hb1
    go_wp2
    go_ret
    rw [HF.out]
    exact ⟨_, rfl, ⟨_, _, _, rfl, kk.own (by omega) hb2 (brL_len), by omega⟩, hx2⟩

set_option maxRecDepth 100000 in
set_option maxHeartbeats 3200000 in
theorem adjointOf_impl {P D : Int} {a0 oa n b0 o0 n1 : Nat} {l xs : List Int} {w : World} {p r c : Int} {d : List Int} (hT : Reads w (some ⟨a0, oa, none⟩) n l) (hm : n ≤ 1048576) (hX : Reads w (some ⟨b0, o0, none⟩) n1 xs) (hm1 : n1 ≤ 1048576) (hM : adjM P D l xs = ⟨p, r, c, d⟩) :
    Calls Try.prog 52 #[.agg #[.int .i64 P, .int .i64 D, .slice (some ⟨a0, oa, none⟩) n n], .slice (some ⟨b0, o0, none⟩) n1 n1] w fun e w' => ∃ v, e = .returned v ∧ Rmat w w' v p r c d ∧ Ext w w' := by
  have HT := Lib.hid hT
  have HX := Lib.hid hX
  rw [adjM, vecB, hX.1] at hM
  clear hX
  rcases h1 : algB P D l with _ | _
  · simp only [h1, noMat, Bool.false_and, Bool.false_eq_true, if_false, Mat.mk.injEq] at hM
    obtain ⟨rfl, rfl, rfl, rfl⟩ := hM
    have H1 := Lib.hid h1
    clear h1 hT
    go_enter Try.func52, Try.ntmps52
    have E0 := Lib.hid (((Ext.refl w).alloc (.cells #[.int .i64 P, .int .i64 D, .slice (some ⟨a0, oa, none⟩) n n] 46)).alloc (.cells #[.int .i64 0, .int .i64 0, .int .i64 0, .slice none 0 0] 26))
    have R0 := Lib.hid (cells_new' (w.alloc (.cells #[.int .i64 P, .int .i64 D, .slice (some ⟨a0, oa, none⟩) n n] 46)) #[.int .i64 0, .int .i64 0, .int .i64 0, .slice none 0 0] 26 (w.heap.size + 1) (by simp))
    have A0 := Lib.hid ((cells_new' w #[.int .i64 P, .int .i64 D, .slice (some ⟨a0, oa, none⟩) n n] 46 w.heap.size rfl).ext ((Ext.refl _).alloc (.cells #[.int .i64 0, .int .i64 0, .int .i64 0, .slice none 0 0] 26)))
    have lA := A0.out.1
    have qA0 := A0.out.2 0 _ rfl
    have qA1 := A0.out.2 1 _ rfl
    have qA2 := A0.out.2 2 _ rfl
    try simp only [World.size_alloc] at lA
    go_wp2_with fail
    refine (wrap_impl P D a0 oa n n l _ (HT.out.ext E0.out) hm (Nat.le_refl _) (by unfold maxLen; omega)).mono ?_
    rintro e w1 ⟨B, rfl, hb, hlo, h1x⟩
    have E1 := Lib.hid (E0.out.trans h1x)
    have HB := Lib.hid hb
    have R1 := Lib.hid (R0.out.ext h1x)
    clear lA qA0 qA1 qA2 A0 R0
    clear hb h1x
    rw [H1.out]
    have r0 := R1.out.2 0 _ rfl
    have r1 := R1.out.2 1 _ rfl
    have r2 := R1.out.2 2 _ rfl
    have r3 := R1.out.2 3 _ rfl
    have tR := R1.out.3
    have lR := R1.out.1
    go_wp2
    refine bodyPost_ret (v := .agg #[.int .i64 0, .int .i64 0, .int .i64 0, .slice none 0 0]) (by simp [results, Try.results52, go_sem, r0, r1, r2, r3]) rfl ⟨_, rfl, ⟨_, _, _, rfl, own_nil _ _ _, by omega⟩, ext4 E1.out (by omega) _ _ _ _⟩
  obtain ⟨D, rfl, hA⟩ := algB_parts h1 hT.1
  have H1 := Lib.hid h1
  rcases h2 : (((n1 : Int) == (D : Int)) && resB xs P) with _ | _
  · simp only [h1, h2, noMat, Bool.and_false, Bool.false_eq_true, if_false, Mat.mk.injEq] at hM
    obtain ⟨rfl, rfl, rfl, rfl⟩ := hM
    have H2 := Lib.hid h2
    clear h1 hT h2
    go_enter Try.func52, Try.ntmps52
    have E0 := Lib.hid (((Ext.refl w).alloc (.cells #[.int .i64 P, .int .i64 D, .slice (some ⟨a0, oa, none⟩) n n] 46)).alloc (.cells #[.int .i64 0, .int .i64 0, .int .i64 0, .slice none 0 0] 26))
    have R0 := Lib.hid (cells_new' (w.alloc (.cells #[.int .i64 P, .int .i64 D, .slice (some ⟨a0, oa, none⟩) n n] 46)) #[.int .i64 0, .int .i64 0, .int .i64 0, .slice none 0 0] 26 (w.heap.size + 1) (by simp))
    have A0 := Lib.hid ((cells_new' w #[.int .i64 P, .int .i64 D, .slice (some ⟨a0, oa, none⟩) n n] 46 w.heap.size rfl).ext ((Ext.refl _).alloc (.cells #[.int .i64 0, .int .i64 0, .int .i64 0, .slice none 0 0] 26)))
    have lA := A0.out.1
    have qA0 := A0.out.2 0 _ rfl
    have qA1 := A0.out.2 1 _ rfl
    have qA2 := A0.out.2 2 _ rfl
    try simp only [World.size_alloc] at lA
    go_wp2_with fail
    refine (wrap_impl P D a0 oa n n l _ (HT.out.ext E0.out) hm (Nat.le_refl _) (by unfold maxLen; omega)).mono ?_
    rintro e w1 ⟨B, rfl, hb, hlo, h1x⟩
    have E1 := Lib.hid (E0.out.trans h1x)
    have HB := Lib.hid hb
    have R1 := Lib.hid (R0.out.ext h1x)
    clear lA qA0 qA1 qA2 A0 R0
    clear hb h1x
    rw [H1.out]
    go_wp2_with fail
    refine (hasElement_impl P _ B n1 n1 _ _ xs _ HB.out (HX.out.ext E1.out) hm1).mono ?_
    rintro e w2 ⟨rfl, h2x⟩
    have E2 := Lib.hid (E1.out.trans h2x)
    have HB2 := Lib.hid (HB.out.ext h2x)
    have R2 := Lib.hid (R1.out.ext h2x)
    clear h2x
    rw [H2.out]
    have r0 := R2.out.2 0 _ rfl
    have r1 := R2.out.2 1 _ rfl
    have r2 := R2.out.2 2 _ rfl
    have r3 := R2.out.2 3 _ rfl
    have tR := R2.out.3
    have lR := R2.out.1
    go_wp2
    refine bodyPost_ret (v := .agg #[.int .i64 0, .int .i64 0, .int .i64 0, .slice none 0 0]) (by simp [results, Try.results52, go_sem, r0, r1, r2, r3]) rfl ⟨_, rfl, ⟨_, _, _, rfl, own_nil _ _ _, by omega⟩, ext4 E2.out (by omega) _ _ _ _⟩
  have H2 := Lib.hid h2
  simp only [h1, h2, Bool.and_self, if_true, Mat.mk.injEq, Int.toNat_natCast] at hM
  obtain ⟨rfl, rfl, rfl, rfl⟩ := hM
  have hv2 : D = n1 := by simp only [Bool.and_eq_true, beq_iff_eq] at h2; omega
  have hx : Res xs P := by simp only [Bool.and_eq_true, resB_iff] at h2; exact h2.2
  have hp := isP_lo hA.pr
  have hp2 := isP_hi hA.pr
  have hD := hA.dim
  have HN := Lib.hid hA.len
  have HRL := Lib.hid hA.res
  have HRX := Lib.hid hx
  have h27 : D * D ≤ 784 := Nat.mul_le_mul hD hD
  subst hv2
  clear h1 hT h2 hA hx
  go_enter Try.func52, Try.ntmps52
  have E0 := Lib.hid (((Ext.refl w).alloc (.cells #[.int .i64 P, .int .i64 D, .slice (some ⟨a0, oa, none⟩) n n] 46)).alloc (.cells #[.int .i64 0, .int .i64 0, .int .i64 0, .slice none 0 0] 26))
  have R0 := Lib.hid (cells_new' (w.alloc (.cells #[.int .i64 P, .int .i64 D, .slice (some ⟨a0, oa, none⟩) n n] 46)) #[.int .i64 0, .int .i64 0, .int .i64 0, .slice none 0 0] 26 (w.heap.size + 1) (by simp))
  have A0 := Lib.hid ((cells_new' w #[.int .i64 P, .int .i64 D, .slice (some ⟨a0, oa, none⟩) n n] 46 w.heap.size rfl).ext ((Ext.refl _).alloc (.cells #[.int .i64 0, .int .i64 0, .int .i64 0, .slice none 0 0] 26)))
  have lA := A0.out.1
  have qA0 := A0.out.2 0 _ rfl
  have qA1 := A0.out.2 1 _ rfl
  have qA2 := A0.out.2 2 _ rfl
  try simp only [World.size_alloc] at lA
  go_wp2_with fail
  refine (wrap_impl P D a0 oa n n l _ (HT.out.ext E0.out) hm (Nat.le_refl _) (by unfold maxLen; omega)).mono ?_
  rintro e w1 ⟨B, rfl, hb, hlo, h1x⟩
  have E1 := Lib.hid (E0.out.trans h1x)
  have HB := Lib.hid hb
  have R1 := Lib.hid (R0.out.ext h1x)
  clear lA qA0 qA1 qA2 A0 R0
  clear hb h1x
  rw [H1.out]
  go_wp2_with fail
  refine (hasElement_impl P _ B D D _ _ xs _ HB.out (HX.out.ext E1.out) hm1).mono ?_
  rintro e w2 ⟨rfl, h2x⟩
  have E2 := Lib.hid (E1.out.trans h2x)
  have HB2 := Lib.hid (HB.out.ext h2x)
  have R2 := Lib.hid (R1.out.ext h2x)
  clear h2x
  rw [H2.out]
  clear HB E1 R1
  go_wp2_with fail
  refine (adjoint_impl P _ B a0 oa n n b0 o0 _ l xs _ HB2.out hD HN.out (Nat.le_refl _) (by unfold maxLen; omega) (HT.out.ext E2.out) (HX.out.ext E2.out) hp hp2 HRL.out HRX.out).mono ?_
  rintro e w3 ⟨b, rfl, hb1, hb2, kk, h3x⟩
  have E3 := Lib.hid (E2.out.trans h3x)
  have R3 := Lib.hid (R2.out.ext h3x)
  have hle := R2.out.1
  clear h3x R2
  have r0 := R3.out.2 0 _ rfl
  have r1 := R3.out.2 1 _ rfl
  have r2 := R3.out.2 2 _ rfl
  have r3 := R3.out.2 3 _ rfl
  have tR := R3.out.3
  have lR := R3.out.1
  go_wp2
  refine bodyPost_ret (v := .agg #[.int .i64 P, .int .i64 D, .int .i64 D, .slice (some ⟨b, 0, none⟩) (D * D) (D * D)]) (by simp [results, Try.results52, go_sem, r0, r1, r2, r3]) rfl ⟨_, rfl, ⟨_, _, _, rfl, ?_, by omega⟩, ext4 E3.out (by omega) _ _ _ _⟩
  refine Own.mono (own4 (kk.own (lo := w.heap.size + 1 + 1) (hi := w3.heap.size) (by omega) (by omega) (adTo_length _)) (by omega) _ _ _ _) (by omega) (by simp)
end Go.Proofs.Ytafeognjplphhaa
