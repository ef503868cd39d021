/-
  Brackets of two elements, and the matrix of the brackets with one, in the program.
-/
import Derived.Test.YtgmipolgnpjmnaaAlgOk2
import Derived.Test.YtgmipolgnpjmnaaAdj
import Derived.Test.YtgmipolgnpjmnaaSolveM
import Derived.Test.YtgmipolgnpjmnaaRowsL
namespace Go.Proofs.Ytgmipolgnpjmnaa
open Go.ChangeShapes Go.WideShapes Go.ChangeAt Go.RowKit
set_option linter.unusedVariables false
set_option linter.unusedSimpArgs false

/-! The bracket as a product with the matrix of brackets. -/
section
variable {P : Int} {D : Nat} {l xs ys : List Int}
theorem gi_kTo_row (A : List Int) (hA : A.length = D * D) (hp : 0 < P) (k : Nat) (hk : k ≤ D) {q : Nat} (hq : q < D) : gi (kTo P ys A D D 0 (List.replicate (1 * D) 0) k) q = (sumN k fun j => gi ys j * gi A (j * D + q)) % P := by
  induction k with
  | zero => rw [kTo, gi_replicate]; simp [sumN]
  | succ k ih =>
    simp only [kTo, Nat.zero_mul, Nat.zero_add, sumN]
    by_cases h : gi ys k = 0
    · rw [axL, if_pos h, ih (by omega), h]; simp
    · rw [axL, if_neg h]
      have hl : (kTo P ys A D D 0 (List.replicate (1 * D) 0) k).length = D := by rw [kTo_length]; simp
      have h1 := gi_axTo_in P (gi ys k) 0 (k * D) D (kTo P ys A D D 0 (List.replicate (1 * D) 0) k) A (by rw [hl]; omega) q D hq (Nat.le_refl _)
      simp only [Nat.zero_add] at h1
      rw [h1, ih (by omega)]
      exact Int.emod_add_emod _ _ _
theorem brk_eq (hp : 0 < P) : mulTo P ys (adTo P D l xs D) 1 D D 1 = brL P D l xs ys := by
  refine ext_gi (by rw [mulTo_length, brL, List.length_map, List.length_range, Nat.one_mul]) (fun q hq => ?_)
  rw [mulTo_length, Nat.one_mul] at hq
  rw [mulTo, mulTo, gi_kTo_row _ (adTo_length D) hp D (Nat.le_refl _) hq, brL, gi_map D _ hq]
  refine Eqm.to_emod ?_
  have e1 : Eqm P (sumN D fun j => gi ys j * gi (adTo P D l xs D) (j * D + q)) (sumN D fun j => gi ys j * adN D l (gi xs) j q) :=
    sumN_eqm (fun j hj => by rw [adTo_row hj hq]; exact (Eqm.refl _).mul (Eqm.emod _))
  refine e1.trans (Eqm.of_eq ?_)
  rw [brN]
  have e2 : (sumN D fun j => gi ys j * adN D l (gi xs) j q) = sumN D fun j => sumN D fun i => gi xs i * gi ys j * tb D l i j q := by
    refine sumN_congr (fun j _ => ?_)
    rw [adN, ← sumN_mul]
    exact sumN_congr (fun i _ => by grind)
  rw [e2, sumN_swap]
theorem gi_cut (m : List Int) (a n q : Nat) (hq : q < n) : gi ((m.drop a).take n) q = gi m (a + q) := by
  simp [gi, List.getD_eq_getElem?_getD, List.getElem?_take, List.getElem?_drop, hq]
/-- The rows of the matrix of brackets. -/
def adR (P : Int) (D : Nat) (l xs : List Int) (k : Nat) : List (List Int) := (List.range k).map fun j => brL P D l xs (basL D j)
theorem adR_length (k : Nat) : (adR P D l xs k).length = k := by simp [adR]
theorem adR_succ (k : Nat) : adR P D l xs (k + 1) = adR P D l xs k ++ [brL P D l xs (basL D k)] := by simp [adR, List.range_succ]
theorem brL_len : (brL P D l xs ys).length = D := by simp [brL]
theorem adR_row {k : Nat} (hk : k < D) : brL P D l xs (basL D k) = ((adTo P D l xs D).drop (k * D)).take D := by
  have h := ad_place (D := D) (j := k) (m := D - 1) hk (by omega)
  refine ext_gi (by rw [brL_len, List.length_take, List.length_drop, adTo_length]; omega) (fun q hq => ?_)
  rw [brL_len] at hq
  rw [gi_cut _ _ _ _ hq, brL, gi_map D _ hq, brN_bas _ hk, adTo_row hk hq]
theorem adR_flat {k : Nat} (hk : k ≤ D) : (adR P D l xs k).flatten = (adTo P D l xs D).take (k * D) := by
  induction k with
  | zero => simp [adR]
  | succ k ih =>
    rw [adR_succ, List.flatten_append, ih (by omega), List.flatten_cons, List.flatten_nil, List.append_nil, adR_row (by omega), Nat.add_mul, Nat.one_mul, List.take_add]
theorem adR_all : (adR P D l xs D).flatten = adTo P D l xs D := by
  rw [adR_flat (Nat.le_refl _), List.take_of_length_le (by rw [adTo_length]; exact Nat.le_refl _)]
end
noncomputable def vecB (P D : Int) (xs : List Int) : Bool := ((xs.length : Int) == D) && resB xs P
noncomputable def brkM (P D : Int) (l xs ys : List Int) : List Int := if algB P D l && (vecB P D xs && vecB P D ys) then brL P D.toNat l xs ys else []
noncomputable def adjM (P D : Int) (l xs : List Int) : Mat := if algB P D l && vecB P D xs then ⟨P, D, D, adTo P D.toNat l xs D.toNat⟩ else noMat

theorem product1_impl (P : Int) (D b1 o1 b0 : Nat) (l xs ys : List Int) (w : World) (hY : Reads w (some ⟨b1, o1, none⟩) D ys) (hA : Reads w (some ⟨b0, 0, none⟩) (D * D) (adTo P D l xs D)) (hD : D ≤ 28) (hp : 2 ≤ P) (hp2 : P ≤ 10007) (hy : Res ys P) :
    Calls Try.prog 72 #[.agg #[.int .i64 P, .int .i64 1, .int .i64 D, .slice (some ⟨b1, o1, none⟩) D D], .agg #[.int .i64 P, .int .i64 D, .int .i64 D, .slice (some ⟨b0, 0, none⟩) (D * D) (D * D)]] w fun e w' => ∃ b, e = .returned (.agg #[.int .i64 P, .int .i64 1, .int .i64 D, .slice (some ⟨b, 0, none⟩) D D]) ∧ w.heap.size ≤ b ∧ b < w'.heap.size ∧ Has w' b (brL P D l xs ys) ∧ Ext w w' := by
  have h := product_impl P 1 D D b1 o1 b0 0 D (D * D) ys (adTo P D l xs D) w hY hA (Nat.one_mul D).symm rfl (by omega) (by omega) (by omega) hp hp2 hy (adTo_res (by omega) D)
  rw [brk_eq (by omega)] at h
  simp only [Nat.one_mul] at h
  exact h

set_option maxRecDepth 100000 in
set_option maxHeartbeats 3200000 in
theorem brackets_impl (P : Int) (D B a0 oa n d b' o' c' b1 o1 : Nat) (l xs ys : List Int) (w : World) (hc : Cells w B [.int .i64 P, .int .i64 D, .slice (some ⟨a0, oa, none⟩) n d]) (hD : D ≤ 28) (hn : n = D * D * D) (hd : n ≤ d) (hd2 : d ≤ maxLen)
    (hT : Reads w (some ⟨a0, oa, none⟩) n l) (hX : Reads w (some ⟨b', o', none⟩) D xs) (hY : Reads w (some ⟨b1, o1, none⟩) D ys) (hp : 2 ≤ P) (hp2 : P ≤ 10007) (hl : Res l P) (hx : Res xs P) (hy : Res ys P) :
    Calls Try.prog 100 #[.pointer (some ⟨B, 0, none⟩), .slice (some ⟨b', o', none⟩) D c', .agg #[.int .i64 P, .int .i64 1, .int .i64 D, .slice (some ⟨b1, o1, none⟩) D D]] w fun e w' => ∃ b, e = .returned (.agg #[.int .i64 P, .int .i64 1, .int .i64 D, .slice (some ⟨b, 0, none⟩) D D]) ∧ w.heap.size ≤ b ∧ b < w'.heap.size ∧ Has w' b (brL P D l xs ys) ∧ Ext w w' := by
  have A0 := Lib.hid ((cells_new' w #[.int .i64 P, .int .i64 1, .int .i64 D, .slice (some ⟨b1, o1, none⟩) D D] 36 w.heap.size rfl).ext ((Ext.refl _).alloc (.cells #[.int .i64 0, .int .i64 0, .int .i64 0, .slice none 0 0] 36)))
  have R0 := Lib.hid (cells_new' (w.alloc (.cells #[.int .i64 P, .int .i64 1, .int .i64 D, .slice (some ⟨b1, o1, none⟩) D D] 36)) #[.int .i64 0, .int .i64 0, .int .i64 0, .slice none 0 0] 36 (w.heap.size + 1) (by simp))
  have E0 := Lib.hid (((Ext.refl w).alloc (.cells #[.int .i64 P, .int .i64 1, .int .i64 D, .slice (some ⟨b1, o1, none⟩) D D] 36)).alloc (.cells #[.int .i64 0, .int .i64 0, .int .i64 0, .slice none 0 0] 36))
  have lA := A0.out.1
  have qA0 := A0.out.2 0 _ rfl
  have qA1 := A0.out.2 1 _ rfl
  have qA2 := A0.out.2 2 _ rfl
  have qA3 := A0.out.2 3 _ rfl
  have qR0 := R0.out.2 0 _ rfl
  have qR1 := R0.out.2 1 _ rfl
  have qR2 := R0.out.2 2 _ rfl
  have qR3 := R0.out.2 3 _ rfl
  have tR := R0.out.3
  try simp only [World.size_alloc] at lA
  have lR := R0.out.1
  have HY := Lib.hid hY
  have cX : ∀ w1, Ext w w1 → Calls Try.prog 137 #[.pointer (some ⟨B, 0, none⟩), .slice (some ⟨b', o', none⟩) D c'] w1 (fun e w' => ∃ b, e = .returned (.agg #[.int .i64 P, .int .i64 D, .int .i64 D, .slice (some ⟨b, 0, none⟩) (D * D) (D * D)]) ∧ w1.heap.size ≤ b ∧ b < w'.heap.size ∧ Has w' b (adTo P D l xs D) ∧ Ext w1 w') := fun w1 h => adjoint_impl P D B a0 oa n d b' o' c' l xs w1 (hc.ext h) hD hn hd hd2 (hT.ext h) (hX.ext h) hp hp2 hl hx
  have gB : w.heap.size ≤ w.heap.size + 1 := by omega
  have lad : (adTo P D l xs D).length = D * D := adTo_length D
  clear hc hX hY hT hn
  go_enter Try.func100, Try.ntmps100
  go_wp2_with fail
  go_region_held3 (fun w' => Ext w w' ∧ w.heap.size + 1 ≤ w'.heap.size ∧ ∀ b o, b < w.heap.size + 1 → w'.cell? ⟨b, o, none⟩ = ((w.alloc (.cells #[.int .i64 P, .int .i64 1, .int .i64 D, .slice (some ⟨b1, o1, none⟩) D D] 36)).alloc (.cells #[.int .i64 0, .int .i64 0, .int .i64 0, .slice none 0 0] 36)).cell? ⟨b, o, none⟩) (first | (with_reducible exact KeptR.call ‹Ext w _ ∧ w.heap.size + 1 ≤ _ ∧ _› ‹Ext _ _›) | exact ⟨E0.out, Nat.le_of_lt lR, fun _ _ _ => rfl⟩ | exact ⟨E0.out.drew, Nat.le_of_lt lR, fun _ _ _ => rfl⟩ | assumption | (with_reducible exact KeptR.set4 ‹Ext w _ ∧ w.heap.size + 1 ≤ _ ∧ _› gB _ _ _ _)) (first
      | (go_at_call 137; with_reducible refine (cX _ (And.left ‹Ext w _ ∧ w.heap.size + 1 ≤ _ ∧ _›)).mono ?_; rintro e wX ⟨bX, rfl, bX1, bX2, kX, EX⟩)
      | (go_at_call 72; with_reducible refine (product1_impl P D b1 o1 bX l xs ys _ (HY.out.ext (And.left ‹Ext w _ ∧ w.heap.size + 1 ≤ _ ∧ _›)) (kX.reads lad) hD hp hp2 hy).mono ?_; rintro e w5 ⟨bA, rfl, bA1, bA2, kA, EA⟩; have hall : Ext ((w.alloc (.cells #[.int .i64 P, .int .i64 1, .int .i64 D, .slice (some ⟨b1, o1, none⟩) D D] 36)).alloc (.cells #[.int .i64 0, .int .i64 0, .int .i64 0, .slice none 0 0] 36)) w5 := Ext.trans (Ext.drew (Ext.refl _)) (EX.trans EA); have lR1 := lR; have c1 := (hall.cells _ 0 lR1).trans qR0; have c2 := (hall.cells _ 1 lR1).trans qR1; have c3 := (hall.cells _ 2 lR1).trans qR2; have c4 := (hall.cells _ 3 lR1).trans qR3; have f1 : ∀ j, w5.frozen? ⟨w.heap.size + 1, j, none⟩ = false := fun j => (hall.frees _ j lR1).trans (tR j)))
  have hx2 := (‹Ext w _ ∧ w.heap.size + 1 ≤ _ ∧ _› : Ext w _ ∧ w.heap.size + 1 ≤ _ ∧ _).1
  have b0 : ((w.alloc (.cells #[.int .i64 P, .int .i64 1, .int .i64 D, .slice (some ⟨b1, o1, none⟩) D D] 36)).alloc (.cells #[.int .i64 0, .int .i64 0, .int .i64 0, .slice none 0 0] 36)).drew.heap.size ≤ bA := by with_reducible exact Nat.le_trans EX.le bA1
  simp only [World.size_drew, World.size_alloc] at b0
  go_wp2
  refine bodyPost_ret (v := .agg #[.int .i64 P, .int .i64 1, .int .i64 D, .slice (some ⟨bA, 0, none⟩) D D]) (by simp [results, Try.results100, go_sem, c1, c2, c3, c4]) rfl ⟨bA, rfl, by omega, ?_, ?_, hx2⟩
  · have := kA.lt; simpa using this
  · repeat with_reducible (first | exact kA | refine Has.setOther ?_ (by simp <;> omega) _)

end Go.Proofs.Ytgmipolgnpjmnaa
