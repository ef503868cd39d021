/-
  The commutator, the text of the document: plain part, and l1Commutator.
-/
import Derived.Test.YtnikfalpjieibaaMulM
import Derived.Test.YtnikfalpjieibaaScale
import Derived.Deep.RegionHeld3
namespace Go.Proofs.Ytnikfalpjieibaa
open Go.RowKit
set_option linter.unusedVariables false

theorem neg1_mod {p : Int} (hp : 2 ≤ p) : (-1) % p = p - 1 := by
  have h := Int.add_emod_right (-1) p
  rw [← h, Int.emod_eq_of_lt (by omega) (by omega)]
  omega
/-- the sum with -1 times the other is the sum of P - 1 times the other. -/
theorem addL_neg (p : Int) (hp : 2 ≤ p) (xs ys : List Int) (hl : xs.length = ys.length) : addL p 1 xs (scaleL p ((-1) % p) ys) = addL p (p - 1) xs ys := by
  rw [neg1_mod hp]
  simp only [addL]
  apply List.map_congr_left
  intro i hi
  have hi' : i < xs.length := by simpa using hi
  rw [gi_scaleL _ _ _ _ (by omega), Int.one_mul, Int.mul_comm (p - 1)]
  simp
theorem scaleL_res (p k : Int) (hp : 0 < p) (xs : List Int) : Res (scaleL p k xs) p := fun i hi => by
  rw [scaleL_length] at hi
  rw [gi_scaleL _ _ _ _ hi]
  exact ⟨Int.emod_nonneg _ (by omega), Int.emod_lt_of_pos _ hp⟩
/-- a b - b a, of square matrices with K rows. -/
noncomputable def commL (p : Int) (xs ys : List Int) (K : Nat) : List Int := addL p (p - 1) (mulTo p xs ys K K K K) (mulTo p ys xs K K K K)
theorem commL_length (p : Int) (xs ys : List Int) (K : Nat) : (commL p xs ys K).length = K * K := by rw [commL, addL_length, mulTo_length]
noncomputable def commM (P R C : Int) (xs : List Int) (P' R' C' : Int) (xs' : List Int) : Mat × Bool :=
  if mok P R C xs && mok P' R' C' xs' && (P == P') && (R == C) && (R' == R) && (C' == R) then (⟨P, R, C, commL P xs xs' R.toNat⟩, true) else (noMat, false)

set_option maxRecDepth 100000 in
set_option maxHeartbeats 3200000 in
theorem l1Commutator_spec (P : Int) (K : Nat) (a a' : Addr) (n c c' : Nat) (xs ys : List Int) (w : World) (hr : Reads w (some a) n xs) (hr' : Reads w (some a') n ys) (hn : n = K * K)
    (hK : K ≤ 40) (hp : 2 ≤ P) (hp2 : P ≤ 10007) (hx : Res xs P) (hy : Res ys P) :
    Calls Try.prog 53 #[.agg #[.int .i64 P, .int .i64 K, .int .i64 K, .slice (some a) n c], .agg #[.int .i64 P, .int .i64 K, .int .i64 K, .slice (some a') n c']] w fun e w' => ∃ b d, e = .returned (.agg #[.int .i64 P, .int .i64 K, .int .i64 K, .slice (some ⟨b, 0, none⟩) (K * K) d]) ∧ w.heap.size ≤ b ∧ b < w'.heap.size ∧ Has w' b (commL P xs ys K) ∧ Ext w w' := by
  have HR := Lib.hid hr
  have HR' := Lib.hid hr'
  have HN := Lib.hid hn
  have g40 := mul40 hK hK
  have rX := mulTo_res P (by omega) xs ys K K K K
  have rY := mulTo_res P (by omega) ys xs K K K K
  have lX := mulTo_length P xs ys K K K K
  have lY := mulTo_length P ys xs K K K K
  have rZ := scaleL_res P ((-1) % P) (by omega) (mulTo P ys xs K K K K)
  have lZ := scaleL_length P ((-1) % P) (mulTo P ys xs K K K K)
  have eq := addL_neg P hp (mulTo P xs ys K K K K) (mulTo P ys xs K K K K) (by rw [lX, lY])
  clear hr hr' hn
  go_enter Try.func53, Try.ntmps53
  have A0_1 := Lib.hid (((cells_new' w #[.int .i64 P, .int .i64 K, .int .i64 K, .slice (some a) n c] 37 (w.heap.size) (by simp)).ext ((Ext.refl _).alloc (.cells #[.int .i64 P, .int .i64 K, .int .i64 K, .slice (some a') n c'] 37))).ext ((Ext.refl _).alloc (.cells #[.int .i64 0, .int .i64 0, .int .i64 0, .slice none 0 0] 37)))
  have A1_2 := Lib.hid ((cells_new' (w.alloc (.cells #[.int .i64 P, .int .i64 K, .int .i64 K, .slice (some a) n c] 37)) #[.int .i64 P, .int .i64 K, .int .i64 K, .slice (some a') n c'] 37 (w.heap.size + 1) (by simp)).ext ((Ext.refl _).alloc (.cells #[.int .i64 0, .int .i64 0, .int .i64 0, .slice none 0 0] 37)))
  have R_3 := Lib.hid (cells_new' ((w.alloc (.cells #[.int .i64 P, .int .i64 K, .int .i64 K, .slice (some a) n c] 37)).alloc (.cells #[.int .i64 P, .int .i64 K, .int .i64 K, .slice (some a') n c'] 37)) #[.int .i64 0, .int .i64 0, .int .i64 0, .slice none 0 0] 37 (w.heap.size + 1 + 1) (by simp))
  have E_4 := Lib.hid ((((Ext.refl w).alloc (.cells #[.int .i64 P, .int .i64 K, .int .i64 K, .slice (some a) n c] 37)).alloc (.cells #[.int .i64 P, .int .i64 K, .int .i64 K, .slice (some a') n c'] 37)).alloc (.cells #[.int .i64 0, .int .i64 0, .int .i64 0, .slice none 0 0] 37))
  have lA0 := A0_1.out.1
  have qA00 := A0_1.out.2 0 _ rfl
  have qA01 := A0_1.out.2 1 _ rfl
  have qA02 := A0_1.out.2 2 _ rfl
  have qA03 := A0_1.out.2 3 _ rfl
  have lA1 := A1_2.out.1
  have qA10 := A1_2.out.2 0 _ rfl
  have qA11 := A1_2.out.2 1 _ rfl
  have qA12 := A1_2.out.2 2 _ rfl
  have qA13 := A1_2.out.2 3 _ rfl
  have lR := R_3.out.1
  have qR0 := R_3.out.2 0 _ rfl
  have qR1 := R_3.out.2 1 _ rfl
  have qR2 := R_3.out.2 2 _ rfl
  have qR3 := R_3.out.2 3 _ rfl
  have tR := R_3.out.3
  try simp only [World.size_alloc] at lA0 lA1 lR
  have lR := R_3.out.1
  have cX : ∀ w1, Ext w w1 → Calls Try.prog 97 #[.agg #[.int .i64 P, .int .i64 K, .int .i64 K, .slice (some a) n c], .agg #[.int .i64 P, .int .i64 K, .int .i64 K, .slice (some a') n c']] w1 (fun e w' => ∃ b, e = .returned (.agg #[.int .i64 P, .int .i64 K, .int .i64 K, .slice (some ⟨b, 0, none⟩) (K * K) (K * K)]) ∧ w1.heap.size ≤ b ∧ b < w'.heap.size ∧ Has w' b (mulTo P xs ys K K K K) ∧ Ext w1 w') := fun w1 h => l1Mul_spec _ _ _ _ _ _ _ _ _ _ xs ys _ (HR.out.ext h) (HR'.out.ext h) HN.out HN.out hK hK hK hp hp2 hx hy
  have cY : ∀ w1, Ext w w1 → Calls Try.prog 97 #[.agg #[.int .i64 P, .int .i64 K, .int .i64 K, .slice (some a') n c'], .agg #[.int .i64 P, .int .i64 K, .int .i64 K, .slice (some a) n c]] w1 (fun e w' => ∃ b, e = .returned (.agg #[.int .i64 P, .int .i64 K, .int .i64 K, .slice (some ⟨b, 0, none⟩) (K * K) (K * K)]) ∧ w1.heap.size ≤ b ∧ b < w'.heap.size ∧ Has w' b (mulTo P ys xs K K K K) ∧ Ext w1 w') := fun w1 h => l1Mul_spec _ _ _ _ _ _ _ _ _ _ ys xs _ (HR'.out.ext h) (HR.out.ext h) HN.out HN.out hK hK hK hp hp2 hy hx
  have gB : w.heap.size ≤ w.heap.size + 1 + 1 := by omega
  have gn : n ≤ 1048576 := by have := HN.out; omega
  have gk : K * K ≤ 1048576 := by omega
  go_wp2_with fail
  go_region_held3 (fun w' => Ext w w' ∧ w.heap.size + 1 + 1 ≤ w'.heap.size ∧ ∀ b o, b < w.heap.size + 1 + 1 → w'.cell? ⟨b, o, none⟩ = (((w.alloc (.cells #[.int .i64 P, .int .i64 K, .int .i64 K, .slice (some a) n c] 37)).alloc (.cells #[.int .i64 P, .int .i64 K, .int .i64 K, .slice (some a') n c'] 37)).alloc (.cells #[.int .i64 0, .int .i64 0, .int .i64 0, .slice none 0 0] 37)).cell? ⟨b, o, none⟩) (first | (with_reducible exact KeptR.call ‹Ext w _ ∧ w.heap.size + 1 + 1 ≤ _ ∧ _› ‹Ext _ _›) | exact ⟨E_4.out, Nat.le_of_lt lR, fun _ _ _ => rfl⟩ | exact ⟨E_4.out.drew, Nat.le_of_lt lR, fun _ _ _ => rfl⟩ | assumption | (with_reducible exact KeptR.set4 ‹Ext w _ ∧ w.heap.size + 1 + 1 ≤ _ ∧ _› gB _ _ _ _)) (first
      | (go_at_call 97; with_reducible refine (cX _ (And.left ‹Ext w _ ∧ w.heap.size + 1 + 1 ≤ _ ∧ _›)).mono ?_; rintro e wX ⟨bX, rfl, bX1, bX2, hX, EX⟩)
      | (go_at_call 97; with_reducible refine (cY _ (And.left ‹Ext w _ ∧ w.heap.size + 1 + 1 ≤ _ ∧ _›)).mono ?_; rintro e wY ⟨bY, rfl, bY1, bY2, hY, EY⟩)
      | (go_at_call 70; refine (l1Scale_spec _ _ _ _ _ _ _ _ _ (by first | with_reducible exact hY.reads lY | with_reducible exact (hY.ext EX).reads lY) gk hp hp2 rY).mono ?_; rintro e wZ ⟨bZ, dZ, rfl, bZ1, bZ2, hZ, EZ⟩)
      | (go_at_call 96; refine (l1Add_spec _ _ _ _ _ _ _ _ _ _ _ _ _ _ (by first | with_reducible exact hX.reads lX | with_reducible exact (hX.ext EZ).reads lX | with_reducible exact (hX.ext (EY.trans EZ)).reads lX) (by first | with_reducible exact hZ.reads (lZ.trans lY) | with_reducible exact (hZ.ext EX).reads (lZ.trans lY)) gk hp hp2 rX rZ).mono ?_; rintro e w5 ⟨bA, dA, rfl, bA1, bA2, hA, EA⟩; have hall : Ext ((((w.alloc (.cells #[.int .i64 P, .int .i64 K, .int .i64 K, .slice (some a) n c] 37)).alloc (.cells #[.int .i64 P, .int .i64 K, .int .i64 K, .slice (some a') n c'] 37)).alloc (.cells #[.int .i64 0, .int .i64 0, .int .i64 0, .slice none 0 0] 37))).drew w5 := (by first | with_reducible exact EX.trans (EY.trans (EZ.trans EA)) | with_reducible exact EY.trans (EX.trans (EZ.trans EA)) | with_reducible exact EY.trans (EZ.trans (EX.trans EA))); have lR1 : w.heap.size + 1 + 1 < ((((w.alloc (.cells #[.int .i64 P, .int .i64 K, .int .i64 K, .slice (some a) n c] 37)).alloc (.cells #[.int .i64 P, .int .i64 K, .int .i64 K, .slice (some a') n c'] 37)).alloc (.cells #[.int .i64 0, .int .i64 0, .int .i64 0, .slice none 0 0] 37))).drew.heap.size := lR; have c1 := (hall.cells _ 0 lR1).trans qR0; have c2 := (hall.cells _ 1 lR1).trans qR1; have c3 := (hall.cells _ 2 lR1).trans qR2; have c4 := (hall.cells _ 3 lR1).trans qR3; have f1 : ∀ j, w5.frozen? ⟨w.heap.size + 1 + 1, j, none⟩ = false := fun j => (hall.frees _ j lR1).trans (tR j)))
  have hx2 := (‹Ext w _ ∧ w.heap.size + 1 + 1 ≤ _ ∧ _› : Ext w _ ∧ w.heap.size + 1 + 1 ≤ _ ∧ _).1
  have b0 : ((((w.alloc (.cells #[.int .i64 P, .int .i64 K, .int .i64 K, .slice (some a) n c] 37)).alloc (.cells #[.int .i64 P, .int .i64 K, .int .i64 K, .slice (some a') n c'] 37)).alloc (.cells #[.int .i64 0, .int .i64 0, .int .i64 0, .slice none 0 0] 37))).drew.heap.size ≤ bA := by first | with_reducible exact Nat.le_trans (EX.trans (EY.trans EZ)).le bA1 | with_reducible exact Nat.le_trans (EY.trans (EX.trans EZ)).le bA1 | with_reducible exact Nat.le_trans (EY.trans (EZ.trans EX)).le bA1
  simp only [World.size_drew, World.size_alloc] at b0
  rw [eq] at hA
  change Has w5 bA (commL P xs ys K) at hA
  go_wp2
  refine bodyPost_ret (v := .agg #[.int .i64 P, .int .i64 K, .int .i64 K, .slice (some ⟨bA, 0, none⟩) (K * K) dA]) (by simp [results, Try.results53, go_sem, c1, c2, c3, c4]) rfl ⟨bA, dA, rfl, by omega, ?_, ?_, hx2⟩
  · have := hA.lt; simpa using this
  · repeat with_reducible (first | exact hA | refine Has.setOther ?_ (by simp <;> omega) _)
end Go.Proofs.Ytnikfalpjieibaa
