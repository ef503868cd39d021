/-
  CommutatorOf of both texts.
-/
import Derived.Test.YtnikfalpjieibaaComm
import Derived.Test.YtnikfalpjieibaaAd
namespace Go.Proofs.Ytnikfalpjieibaa
open Go.RowKit
set_option linter.unusedVariables false

theorem beq_of {a b : Int} (h : a = b) : (a == b) = true := by simpa using h
theorem bne_of {a b : Int} (h : a = b) : (a != b) = false := by simpa using h

set_option maxRecDepth 100000 in
set_option maxHeartbeats 3200000 in
theorem commutator_impl (P : Int) (K a0 oa b0 ob n : Nat) (xs ys : List Int) (w : World) (hr : Reads w (some ⟨a0, oa, none⟩) n xs) (hr' : Reads w (some ⟨b0, ob, none⟩) n ys) (hn : n = K * K)
    (hK : K ≤ 40) (hp : 2 ≤ P) (hp2 : P ≤ 10007) (hx : Res xs P) (hy : Res ys P) :
    Calls Try.prog 123 #[.agg #[.int .i64 P, .int .i64 K, .int .i64 K, .slice (some ⟨a0, oa, none⟩) n n], .agg #[.int .i64 P, .int .i64 K, .int .i64 K, .slice (some ⟨b0, ob, none⟩) n n]] w fun e w' => ∃ b, e = .returned (.agg #[.int .i64 P, .int .i64 K, .int .i64 K, .slice (some ⟨b, 0, none⟩) (K * K) (K * K)]) ∧ w.heap.size ≤ b ∧ b < w'.heap.size ∧ Has w' b (commL P xs ys K) ∧ Ext w w' := by
  have HR := Lib.hid hr
  have HR' := Lib.hid hr'
  have HN := Lib.hid hn
  have g40 := mul40 hK hK
  have rX := mulTo_res P (by omega) xs ys K K K K
  have rY := mulTo_res P (by omega) ys xs K K K K
  have lX := mulTo_length P xs ys K K K K
  have lY := mulTo_length P ys xs K K K K
  clear hr hr' hn
  go_enter Try.func123, Try.ntmps123
  have A0_1 := Lib.hid (((cells_new' w #[.int .i64 P, .int .i64 K, .int .i64 K, .slice (some ⟨a0, oa, none⟩) n n] 37 (w.heap.size) (by simp)).ext ((Ext.refl _).alloc (.cells #[.int .i64 P, .int .i64 K, .int .i64 K, .slice (some ⟨b0, ob, none⟩) n n] 37))).ext ((Ext.refl _).alloc (.cells #[.int .i64 0, .int .i64 0, .int .i64 0, .slice none 0 0] 37)))
  have A1_2 := Lib.hid ((cells_new' (w.alloc (.cells #[.int .i64 P, .int .i64 K, .int .i64 K, .slice (some ⟨a0, oa, none⟩) n n] 37)) #[.int .i64 P, .int .i64 K, .int .i64 K, .slice (some ⟨b0, ob, none⟩) n n] 37 (w.heap.size + 1) (by simp)).ext ((Ext.refl _).alloc (.cells #[.int .i64 0, .int .i64 0, .int .i64 0, .slice none 0 0] 37)))
  have R_3 := Lib.hid (cells_new' ((w.alloc (.cells #[.int .i64 P, .int .i64 K, .int .i64 K, .slice (some ⟨a0, oa, none⟩) n n] 37)).alloc (.cells #[.int .i64 P, .int .i64 K, .int .i64 K, .slice (some ⟨b0, ob, none⟩) n n] 37)) #[.int .i64 0, .int .i64 0, .int .i64 0, .slice none 0 0] 37 (w.heap.size + 1 + 1) (by simp))
  have E_4 := Lib.hid ((((Ext.refl w).alloc (.cells #[.int .i64 P, .int .i64 K, .int .i64 K, .slice (some ⟨a0, oa, none⟩) n n] 37)).alloc (.cells #[.int .i64 P, .int .i64 K, .int .i64 K, .slice (some ⟨b0, ob, none⟩) n n] 37)).alloc (.cells #[.int .i64 0, .int .i64 0, .int .i64 0, .slice none 0 0] 37))
  have lA0 := A0_1.out.1
  have qA00 := A0_1.out.2 0 _ rfl
  have qA01 := A0_1.out.2 1 _ rfl
  have qA02 := A0_1.out.2 2 _ rfl
  have qA03 := A0_1.out.2 3 _ rfl
  have lA1 := A1_2.out.1
  have qA10 := A1_2.out.2 0 _ rfl
  have qA11 := A1_2.out.2 1 _ rfl
  have qA12 := A1_2.out.2 2 _ rfl
  have qA13 := A1_2.out.2 3 _ rfl
  have lR := R_3.out.1
  have qR0 := R_3.out.2 0 _ rfl
  have qR1 := R_3.out.2 1 _ rfl
  have qR2 := R_3.out.2 2 _ rfl
  have qR3 := R_3.out.2 3 _ rfl
  have tR := R_3.out.3
  try simp only [World.size_alloc] at lA0 lA1 lR
  have lR := R_3.out.1
  have cX : ∀ w1, Ext w w1 → Calls Try.prog 117 #[.agg #[.int .i64 P, .int .i64 K, .int .i64 K, .slice (some ⟨a0, oa, none⟩) n n], .agg #[.int .i64 P, .int .i64 K, .int .i64 K, .slice (some ⟨b0, ob, none⟩) n n]] w1 (fun e w' => ∃ b, e = .returned (.agg #[.int .i64 P, .int .i64 K, .int .i64 K, .slice (some ⟨b, 0, none⟩) (K * K) (K * K)]) ∧ w1.heap.size ≤ b ∧ b < w'.heap.size ∧ Has w' b (mulTo P xs ys K K K K) ∧ Ext w1 w') := fun w1 h => product_impl _ _ _ _ _ _ _ _ _ _ xs ys _ (HR.out.ext h) (HR'.out.ext h) HN.out HN.out hK hK hK hp hp2 hx hy
  have cY : ∀ w1, Ext w w1 → Calls Try.prog 117 #[.agg #[.int .i64 P, .int .i64 K, .int .i64 K, .slice (some ⟨b0, ob, none⟩) n n], .agg #[.int .i64 P, .int .i64 K, .int .i64 K, .slice (some ⟨a0, oa, none⟩) n n]] w1 (fun e w' => ∃ b, e = .returned (.agg #[.int .i64 P, .int .i64 K, .int .i64 K, .slice (some ⟨b, 0, none⟩) (K * K) (K * K)]) ∧ w1.heap.size ≤ b ∧ b < w'.heap.size ∧ Has w' b (mulTo P ys xs K K K K) ∧ Ext w1 w') := fun w1 h => product_impl _ _ _ _ _ _ _ _ _ _ ys xs _ (HR'.out.ext h) (HR.out.ext h) HN.out HN.out hK hK hK hp hp2 hy hx
  have gB : w.heap.size ≤ w.heap.size + 1 + 1 := by omega
  have gk : K * K ≤ 1048576 := by omega
  have v1 : IntKind.i64.wrap (P - 1) = P - 1 := IntWalk.i64_in _ ⟨by omega, by omega⟩
  go_wp2_with fail
  go_region_held3 (fun w' => Ext w w' ∧ w.heap.size + 1 + 1 ≤ w'.heap.size ∧ ∀ b o, b < w.heap.size + 1 + 1 → w'.cell? ⟨b, o, none⟩ = (((w.alloc (.cells #[.int .i64 P, .int .i64 K, .int .i64 K, .slice (some ⟨a0, oa, none⟩) n n] 37)).alloc (.cells #[.int .i64 P, .int .i64 K, .int .i64 K, .slice (some ⟨b0, ob, none⟩) n n] 37)).alloc (.cells #[.int .i64 0, .int .i64 0, .int .i64 0, .slice none 0 0] 37)).cell? ⟨b, o, none⟩) (first | (with_reducible exact KeptR.call ‹Ext w _ ∧ w.heap.size + 1 + 1 ≤ _ ∧ _› ‹Ext _ _›) | exact ⟨E_4.out, Nat.le_of_lt lR, fun _ _ _ => rfl⟩ | exact ⟨E_4.out.drew, Nat.le_of_lt lR, fun _ _ _ => rfl⟩ | assumption | (with_reducible exact KeptR.set4 ‹Ext w _ ∧ w.heap.size + 1 + 1 ≤ _ ∧ _› gB _ _ _ _)) (first
      | (go_at_call 117; with_reducible refine (cX _ (And.left ‹Ext w _ ∧ w.heap.size + 1 + 1 ≤ _ ∧ _›)).mono ?_; rintro e wX ⟨bX, rfl, bX1, bX2, hX, EX⟩)
      | (go_at_call 117; with_reducible refine (cY _ (And.left ‹Ext w _ ∧ w.heap.size + 1 + 1 ≤ _ ∧ _›)).mono ?_; rintro e wY ⟨bY, rfl, bY1, bY2, hY, EY⟩)
      | (go_at_call 82; refine (addMultiple_impl _ _ _ (P - 1) _ _ _ _ _ _ _ _ _ _ _ (by first | with_reducible exact hX.reads lX | with_reducible exact (hX.ext EY).reads lX) (by first | with_reducible exact hY.reads lY | with_reducible exact (hY.ext EX).reads lY) gk (by simp) hp hp2 rX rY (by omega) (by omega)).mono ?_; rintro e w5 ⟨bA, rfl, bA1, bA2, hA, EA⟩; have hall : Ext ((((w.alloc (.cells #[.int .i64 P, .int .i64 K, .int .i64 K, .slice (some ⟨a0, oa, none⟩) n n] 37)).alloc (.cells #[.int .i64 P, .int .i64 K, .int .i64 K, .slice (some ⟨b0, ob, none⟩) n n] 37)).alloc (.cells #[.int .i64 0, .int .i64 0, .int .i64 0, .slice none 0 0] 37))).drew w5 := (by first | with_reducible exact EX.trans (EY.trans EA) | with_reducible exact EY.trans (EX.trans EA)); have lR1 : w.heap.size + 1 + 1 < ((((w.alloc (.cells #[.int .i64 P, .int .i64 K, .int .i64 K, .slice (some ⟨a0, oa, none⟩) n n] 37)).alloc (.cells #[.int .i64 P, .int .i64 K, .int .i64 K, .slice (some ⟨b0, ob, none⟩) n n] 37)).alloc (.cells #[.int .i64 0, .int .i64 0, .int .i64 0, .slice none 0 0] 37))).drew.heap.size := lR; have c1 := (hall.cells _ 0 lR1).trans qR0; have c2 := (hall.cells _ 1 lR1).trans qR1; have c3 := (hall.cells _ 2 lR1).trans qR2; have c4 := (hall.cells _ 3 lR1).trans qR3; have f1 : ∀ j, w5.frozen? ⟨w.heap.size + 1 + 1, j, none⟩ = false := fun j => (hall.frees _ j lR1).trans (tR j)))
  have hx2 := (‹Ext w _ ∧ w.heap.size + 1 + 1 ≤ _ ∧ _› : Ext w _ ∧ w.heap.size + 1 + 1 ≤ _ ∧ _).1
  have b0 : ((((w.alloc (.cells #[.int .i64 P, .int .i64 K, .int .i64 K, .slice (some ⟨a0, oa, none⟩) n n] 37)).alloc (.cells #[.int .i64 P, .int .i64 K, .int .i64 K, .slice (some ⟨b0, ob, none⟩) n n] 37)).alloc (.cells #[.int .i64 0, .int .i64 0, .int .i64 0, .slice none 0 0] 37))).drew.heap.size ≤ bA := by first | with_reducible exact Nat.le_trans (EX.trans EY).le bA1 | with_reducible exact Nat.le_trans (EY.trans EX).le bA1
  simp only [World.size_drew, World.size_alloc] at b0
  change Has w5 bA (commL P xs ys K) at hA
  clear v1
  go_wp2
  refine bodyPost_ret (v := .agg #[.int .i64 P, .int .i64 K, .int .i64 K, .slice (some ⟨bA, 0, none⟩) (K * K) (K * K)]) (by simp [results, Try.results123, go_sem, c1, c2, c3, c4]) rfl ⟨bA, rfl, by omega, ?_, ?_, hx2⟩
  · have := hA.lt; simpa using this
  · repeat with_reducible (first | exact hA | refine Has.setOther ?_ (by simp <;> omega) _)

end Go.Proofs.Ytnikfalpjieibaa
