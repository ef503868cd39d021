/-
  CommutatorOf of both texts.
-/
import Derived.Test.YtphopkihieofjaaComm
import Derived.Test.YtphopkihieofjaaTrace
namespace Go.Proofs.Ytphopkihieofjaa
open Go.RowKit
set_option linter.unusedVariables false

theorem beq_of {a b : Int} (h : a = b) : (a == b) = true := by simpa using h
theorem bne_of {a b : Int} (h : a = b) : (a != b) = false := by simpa using h

set_option maxRecDepth 100000 in
set_option maxHeartbeats 3200000 in
theorem commutator_impl (P : Int) (K a0 oa b0 ob n : Nat) (xs ys : List Int) (w : World) (hr : Reads w (some ⟨a0, oa, none⟩) n xs) (hr' : Reads w (some ⟨b0, ob, none⟩) n ys) (hn : n = K * K)
    (hK : K ≤ 40) (hp : 2 ≤ P) (hp2 : P ≤ 10007) (hx : Res xs P) (hy : Res ys P) :
    Calls Try.prog 52 #[.agg #[.int .i64 P, .int .i64 K, .int .i64 K, .slice (some ⟨a0, oa, none⟩) n n], .agg #[.int .i64 P, .int .i64 K, .int .i64 K, .slice (some ⟨b0, ob, none⟩) n n]] w fun e w' => ∃ b, e = .returned (.agg #[.int .i64 P, .int .i64 K, .int .i64 K, .slice (some ⟨b, 0, none⟩) (K * K) (K * K)]) ∧ w.heap.size ≤ b ∧ b < w'.heap.size ∧ Has w' b (commL P xs ys K) ∧ Ext w w' := by
  have HR := Lib.hid hr
  have HR' := Lib.hid hr'
  have HN := Lib.hid hn
  have g40 := mul40 hK hK
  have rX := mulTo_res P (by omega) xs ys K K K K
  have rY := mulTo_res P (by omega) ys xs K K K K
  have lX := mulTo_length P xs ys K K K K
  have lY := mulTo_length P ys xs K K K K
  clear hr hr' hn
  go_enter Try.func52, Try.ntmps52
  have A0_1 := Lib.hid (((cells_new' w #[.int .i64 P, .int .i64 K, .int .i64 K, .slice (some ⟨a0, oa, none⟩) n n] 26 (w.heap.size) (by simp)).ext ((Ext.refl _).alloc (.cells #[.int .i64 P, .int .i64 K, .int .i64 K, .slice (some ⟨b0, ob, none⟩) n n] 26))).ext ((Ext.refl _).alloc (.cells #[.int .i64 0, .int .i64 0, .int .i64 0, .slice none 0 0] 26)))
  have A1_2 := Lib.hid ((cells_new' (w.alloc (.cells #[.int .i64 P, .int .i64 K, .int .i64 K, .slice (some ⟨a0, oa, none⟩) n n] 26)) #[.int .i64 P, .int .i64 K, .int .i64 K, .slice (some ⟨b0, ob, none⟩) n n] 26 (w.heap.size + 1) (by simp)).ext ((Ext.refl _).alloc (.cells #[.int .i64 0, .int .i64 0, .int .i64 0, .slice none 0 0] 26)))
  have R_3 := Lib.hid (cells_new' ((w.alloc (.cells #[.int .i64 P, .int .i64 K, .int .i64 K, .slice (some ⟨a0, oa, none⟩) n n] 26)).alloc (.cells #[.int .i64 P, .int .i64 K, .int .i64 K, .slice (some ⟨b0, ob, none⟩) n n] 26)) #[.int .i64 0, .int .i64 0, .int .i64 0, .slice none 0 0] 26 (w.heap.size + 1 + 1) (by simp))
  have E_4 := Lib.hid ((((Ext.refl w).alloc (.cells #[.int .i64 P, .int .i64 K, .int .i64 K, .slice (some ⟨a0, oa, none⟩) n n] 26)).alloc (.cells #[.int .i64 P, .int .i64 K, .int .i64 K, .slice (some ⟨b0, ob, none⟩) n n] 26)).alloc (.cells #[.int .i64 0, .int .i64 0, .int .i64 0, .slice none 0 0] 26))
  have lA0 := A0_1.out.1
  have qA00 := A0_1.out.2 0 _ rfl
  have qA01 := A0_1.out.2 1 _ rfl
  have qA02 := A0_1.out.2 2 _ rfl
  have qA03 := A0_1.out.2 3 _ rfl
  have lA1 := A1_2.out.1
  have qA10 := A1_2.out.2 0 _ rfl
  have qA11 := A1_2.out.2 1 _ rfl
  have qA12 := A1_2.out.2 2 _ rfl
  have qA13 := A1_2.out.2 3 _ rfl
  have lR := R_3.out.1
  have qR0 := R_3.out.2 0 _ rfl
  have qR1 := R_3.out.2 1 _ rfl
  have qR2 := R_3.out.2 2 _ rfl
  have qR3 := R_3.out.2 3 _ rfl
  have tR := R_3.out.3
  try simp only [World.size_alloc] at lA0 lA1 lR
  have lR := R_3.out.1
  have cX : ∀ w1, Ext w w1 → Calls Try.prog 74 #[.agg #[.int .i64 P, .int .i64 K, .int .i64 K, .slice (some ⟨a0, oa, none⟩) n n], .agg #[.int .i64 P, .int .i64 K, .int .i64 K, .slice (some ⟨b0, ob, none⟩) n n]] w1 (fun e w' => ∃ b, e = .returned (.agg #[.int .i64 P, .int .i64 K, .int .i64 K, .slice (some ⟨b, 0, none⟩) (K * K) (K * K)]) ∧ w1.heap.size ≤ b ∧ b < w'.heap.size ∧ Has w' b (mulTo P xs ys K K K K) ∧ Ext w1 w') := fun w1 h => product_impl _ _ _ _ _ _ _ _ _ _ xs ys _ (HR.out.ext h) (HR'.out.ext h) HN.out HN.out hK hK hK hp hp2 hx hy
  have cY : ∀ w1, Ext w w1 → Calls Try.prog 74 #[.agg #[.int .i64 P, .int .i64 K, .int .i64 K, .slice (some ⟨b0, ob, none⟩) n n], .agg #[.int .i64 P, .int .i64 K, .int .i64 K, .slice (some ⟨a0, oa, none⟩) n n]] w1 (fun e w' => ∃ b, e = .returned (.agg #[.int .i64 P, .int .i64 K, .int .i64 K, .slice (some ⟨b, 0, none⟩) (K * K) (K * K)]) ∧ w1.heap.size ≤ b ∧ b < w'.heap.size ∧ Has w' b (mulTo P ys xs K K K K) ∧ Ext w1 w') := fun w1 h => product_impl _ _ _ _ _ _ _ _ _ _ ys xs _ (HR'.out.ext h) (HR.out.ext h) HN.out HN.out hK hK hK hp hp2 hy hx
  have gB : w.heap.size ≤ w.heap.size + 1 + 1 := by omega
  have gk : K * K ≤ 1048576 := by omega
  have v1 : IntKind.i64.wrap (P - 1) = P - 1 := IntWalk.i64_in _ ⟨by omega, by omega⟩
  go_wp2_with fail
  go_region_held3 (fun w' => Ext w w' ∧ w.heap.size + 1 + 1 ≤ w'.heap.size ∧ ∀ b o, b < w.heap.size + 1 + 1 → w'.cell? ⟨b, o, none⟩ = (((w.alloc (.cells #[.int .i64 P, .int .i64 K, .int .i64 K, .slice (some ⟨a0, oa, none⟩) n n] 26)).alloc (.cells #[.int .i64 P, .int .i64 K, .int .i64 K, .slice (some ⟨b0, ob, none⟩) n n] 26)).alloc (.cells #[.int .i64 0, .int .i64 0, .int .i64 0, .slice none 0 0] 26)).cell? ⟨b, o, none⟩) (first | (with_reducible exact KeptR.call ‹Ext w _ ∧ w.heap.size + 1 + 1 ≤ _ ∧ _› ‹Ext _ _›) | exact ⟨E_4.out, Nat.le_of_lt lR, fun _ _ _ => rfl⟩ | exact ⟨E_4.out.drew, Nat.le_of_lt lR, fun _ _ _ => rfl⟩ | assumption | (with_reducible exact KeptR.set4 ‹Ext w _ ∧ w.heap.size + 1 + 1 ≤ _ ∧ _› gB _ _ _ _)) (first
      | (go_at_call 74; with_reducible refine (cX _ (And.left ‹Ext w _ ∧ w.heap.size + 1 + 1 ≤ _ ∧ _›)).mono ?_; rintro e wX ⟨bX, rfl, bX1, bX2, hX, EX⟩)
      | (go_at_call 74; with_reducible refine (cY _ (And.left ‹Ext w _ ∧ w.heap.size + 1 + 1 ≤ _ ∧ _›)).mono ?_; rintro e wY ⟨bY, rfl, bY1, bY2, hY, EY⟩)
      | (go_at_call 86; refine (addMultiple_impl _ _ _ (P - 1) _ _ _ _ _ _ _ _ _ _ _ (by first | with_reducible exact hX.reads lX | with_reducible exact (hX.ext EY).reads lX) (by first | with_reducible exact hY.reads lY | with_reducible exact (hY.ext EX).reads lY) gk (by simp) hp hp2 rX rY (by omega) (by omega)).mono ?_; rintro e w5 ⟨bA, rfl, bA1, bA2, hA, EA⟩; have hall : Ext ((((w.alloc (.cells #[.int .i64 P, .int .i64 K, .int .i64 K, .slice (some ⟨a0, oa, none⟩) n n] 26)).alloc (.cells #[.int .i64 P, .int .i64 K, .int .i64 K, .slice (some ⟨b0, ob, none⟩) n n] 26)).alloc (.cells #[.int .i64 0, .int .i64 0, .int .i64 0, .slice none 0 0] 26))).drew w5 := (by first | with_reducible exact EX.trans (EY.trans EA) | with_reducible exact EY.trans (EX.trans EA)); have lR1 : w.heap.size + 1 + 1 < ((((w.alloc (.cells #[.int .i64 P, .int .i64 K, .int .i64 K, .slice (some ⟨a0, oa, none⟩) n n] 26)).alloc (.cells #[.int .i64 P, .int .i64 K, .int .i64 K, .slice (some ⟨b0, ob, none⟩) n n] 26)).alloc (.cells #[.int .i64 0, .int .i64 0, .int .i64 0, .slice none 0 0] 26))).drew.heap.size := lR; have c1 := (hall.cells _ 0 lR1).trans qR0; have c2 := (hall.cells _ 1 lR1).trans qR1; have c3 := (hall.cells _ 2 lR1).trans qR2; have c4 := (hall.cells _ 3 lR1).trans qR3; have f1 : ∀ j, w5.frozen? ⟨w.heap.size + 1 + 1, j, none⟩ = false := fun j => (hall.frees _ j lR1).trans (tR j)))
  have hx2 := (‹Ext w _ ∧ w.heap.size + 1 + 1 ≤ _ ∧ _› : Ext w _ ∧ w.heap.size + 1 + 1 ≤ _ ∧ _).1
  have b0 : ((((w.alloc (.cells #[.int .i64 P, .int .i64 K, .int .i64 K, .slice (some ⟨a0, oa, none⟩) n n] 26)).alloc (.cells #[.int .i64 P, .int .i64 K, .int .i64 K, .slice (some ⟨b0, ob, none⟩) n n] 26)).alloc (.cells #[.int .i64 0, .int .i64 0, .int .i64 0, .slice none 0 0] 26))).drew.heap.size ≤ bA := by first | with_reducible exact Nat.le_trans (EX.trans EY).le bA1 | with_reducible exact Nat.le_trans (EY.trans EX).le bA1
  simp only [World.size_drew, World.size_alloc] at b0
  change Has w5 bA (commL P xs ys K) at hA
  clear v1
  go_wp2
  refine bodyPost_ret (v := .agg #[.int .i64 P, .int .i64 K, .int .i64 K, .slice (some ⟨bA, 0, none⟩) (K * K) (K * K)]) (by simp [results, Try.results52, go_sem, c1, c2, c3, c4]) rfl ⟨bA, rfl, by omega, ?_, ?_, hx2⟩
  · have := hA.lt; simpa using this
  · repeat with_reducible (first | exact hA | refine Has.setOther ?_ (by simp <;> omega) _)

set_option maxRecDepth 100000 in
set_option maxHeartbeats 12800000 in
theorem commutatorOf_spec {P R C P' R' C' : Int} {a a' : Addr} {n c n' c' : Nat} {xs xs' : List Int} {w : World} {p r q : Int} {d : List Int} {ok : Bool} (h : Reads w (some a) n xs) (hm : n ≤ 1048576) (h' : Reads w (some a') n' xs') (hm' : n' ≤ 1048576) (hM : commM P R C xs P' R' C' xs' = (⟨p, r, q, d⟩, ok)) :
    Calls Try.prog 16 #[.agg #[.int .i64 P, .int .i64 R, .int .i64 C, .slice (some a) n c], .agg #[.int .i64 P', .int .i64 R', .int .i64 C', .slice (some a') n' c']] w fun e w' => ∃ v, e = .returned (.tuple #[v, .bool ok]) ∧ Rmat w w' v p r q d ∧ Ext w w' := by
  have HR := Lib.hid h
  have HR' := Lib.hid h'
  have hm1 : n ≤ maxLen := by unfold maxLen; omega
  have hm1' : n' ≤ maxLen := by unfold maxLen; omega
  have HT : ∀ b1 b2 b3 b4 b5 b6 : Bool, (b1 && b2 && b3 && b4 && b5 && b6) = false → b1 = true → b2 = true → b3 = true → b4 = true → b5 = true → b6 = true → False := by decide
  clear h h'
  rcases h1 : (mok P R C xs) with _ | _
  · have hM0 : commM P R C xs P' R' C' xs' = (noMat, false) := by
      rw [commM, if_neg (by simp only [Bool.and_eq_true, beq_iff_eq]; intro hh; simp [h1] at hh)]
    rw [hM0] at hM
    simp only [noMat, Prod.mk.injEq, Mat.mk.injEq] at hM
    obtain ⟨⟨rfl, rfl, rfl, rfl⟩, rfl⟩ := hM
    clear hM0
    go_enter Try.func16, Try.ntmps16
    have A0_1 := Lib.hid (((cells_new' w #[.int .i64 P, .int .i64 R, .int .i64 C, .slice (some a) n c] 26 (w.heap.size) (by simp)).ext ((Ext.refl _).alloc (.cells #[.int .i64 P', .int .i64 R', .int .i64 C', .slice (some a') n' c'] 26))).ext ((Ext.refl _).alloc (.cells #[.int .i64 0, .int .i64 0, .int .i64 0, .slice none 0 0] 26)))
    have A1_2 := Lib.hid ((cells_new' (w.alloc (.cells #[.int .i64 P, .int .i64 R, .int .i64 C, .slice (some a) n c] 26)) #[.int .i64 P', .int .i64 R', .int .i64 C', .slice (some a') n' c'] 26 (w.heap.size + 1) (by simp)).ext ((Ext.refl _).alloc (.cells #[.int .i64 0, .int .i64 0, .int .i64 0, .slice none 0 0] 26)))
    have R_3 := Lib.hid (cells_new' ((w.alloc (.cells #[.int .i64 P, .int .i64 R, .int .i64 C, .slice (some a) n c] 26)).alloc (.cells #[.int .i64 P', .int .i64 R', .int .i64 C', .slice (some a') n' c'] 26)) #[.int .i64 0, .int .i64 0, .int .i64 0, .slice none 0 0] 26 (w.heap.size + 1 + 1) (by simp))
    have E_4 := Lib.hid ((((Ext.refl w).alloc (.cells #[.int .i64 P, .int .i64 R, .int .i64 C, .slice (some a) n c] 26)).alloc (.cells #[.int .i64 P', .int .i64 R', .int .i64 C', .slice (some a') n' c'] 26)).alloc (.cells #[.int .i64 0, .int .i64 0, .int .i64 0, .slice none 0 0] 26))
    have lA0 := A0_1.out.1
    have qA00 := A0_1.out.2 0 _ rfl
    have qA01 := A0_1.out.2 1 _ rfl
    have qA02 := A0_1.out.2 2 _ rfl
    have qA03 := A0_1.out.2 3 _ rfl
    have lA1 := A1_2.out.1
    have qA10 := A1_2.out.2 0 _ rfl
    have qA11 := A1_2.out.2 1 _ rfl
    have qA12 := A1_2.out.2 2 _ rfl
    have qA13 := A1_2.out.2 3 _ rfl
    try simp only [World.size_alloc] at lA0 lA1
    go_wp2_with fail
    refine (matrixOk_spec _ _ _ _ _ _ xs _ (HR.out.ext E_4.out) hm1).mono ?_
    rintro e w_5 ⟨rfl, h_5⟩
    clear lA0 qA00 qA01 qA02 qA03 lA1 qA10 qA11 qA12 qA13
    have A0_6 := Lib.hid (A0_1.out.ext h_5)
    clear A0_1
    have A1_7 := Lib.hid (A1_2.out.ext h_5)
    clear A1_2
    have R_8 := Lib.hid (R_3.out.ext h_5)
    clear R_3
    have E_9 := Lib.hid (E_4.out.trans h_5)
    clear E_4
    rw [h1]
    have lA0 := A0_6.out.1
    have qA00 := A0_6.out.2 0 _ rfl
    have qA01 := A0_6.out.2 1 _ rfl
    have qA02 := A0_6.out.2 2 _ rfl
    have qA03 := A0_6.out.2 3 _ rfl
    have lA1 := A1_7.out.1
    have qA10 := A1_7.out.2 0 _ rfl
    have qA11 := A1_7.out.2 1 _ rfl
    have qA12 := A1_7.out.2 2 _ rfl
    have qA13 := A1_7.out.2 3 _ rfl
    try simp only [World.size_alloc] at lA0 lA1
    have lR := R_8.out.1
    have qR0 := R_8.out.2 0 _ rfl
    have qR1 := R_8.out.2 1 _ rfl
    have qR2 := R_8.out.2 2 _ rfl
    have qR3 := R_8.out.2 3 _ rfl
    have tR := R_8.out.3
    try simp only [World.size_alloc] at lA0 lA1 lR
    go_wp2
    refine bodyPost_ret (v := .tuple #[.agg #[.int .i64 0, .int .i64 0, .int .i64 0, .slice none 0 0], .bool false]) (by simp [results, Try.results16, go_sem, qR0, qR1, qR2, qR3]) rfl ⟨_, rfl, ⟨_, _, _, rfl, own_nil _ _ _, by omega⟩, ext4 E_9.out (by omega) _ _ _ _⟩
  rcases h2 : (mok P' R' C' xs') with _ | _
  · have hM0 : commM P R C xs P' R' C' xs' = (noMat, false) := by
      rw [commM, if_neg (by simp only [Bool.and_eq_true, beq_iff_eq]; intro hh; simp [h2] at hh)]
    rw [hM0] at hM
    simp only [noMat, Prod.mk.injEq, Mat.mk.injEq] at hM
    obtain ⟨⟨rfl, rfl, rfl, rfl⟩, rfl⟩ := hM
    clear hM0
    go_enter Try.func16, Try.ntmps16
    have A0_1 := Lib.hid (((cells_new' w #[.int .i64 P, .int .i64 R, .int .i64 C, .slice (some a) n c] 26 (w.heap.size) (by simp)).ext ((Ext.refl _).alloc (.cells #[.int .i64 P', .int .i64 R', .int .i64 C', .slice (some a') n' c'] 26))).ext ((Ext.refl _).alloc (.cells #[.int .i64 0, .int .i64 0, .int .i64 0, .slice none 0 0] 26)))
    have A1_2 := Lib.hid ((cells_new' (w.alloc (.cells #[.int .i64 P, .int .i64 R, .int .i64 C, .slice (some a) n c] 26)) #[.int .i64 P', .int .i64 R', .int .i64 C', .slice (some a') n' c'] 26 (w.heap.size + 1) (by simp)).ext ((Ext.refl _).alloc (.cells #[.int .i64 0, .int .i64 0, .int .i64 0, .slice none 0 0] 26)))
    have R_3 := Lib.hid (cells_new' ((w.alloc (.cells #[.int .i64 P, .int .i64 R, .int .i64 C, .slice (some a) n c] 26)).alloc (.cells #[.int .i64 P', .int .i64 R', .int .i64 C', .slice (some a') n' c'] 26)) #[.int .i64 0, .int .i64 0, .int .i64 0, .slice none 0 0] 26 (w.heap.size + 1 + 1) (by simp))
    have E_4 := Lib.hid ((((Ext.refl w).alloc (.cells #[.int .i64 P, .int .i64 R, .int .i64 C, .slice (some a) n c] 26)).alloc (.cells #[.int .i64 P', .int .i64 R', .int .i64 C', .slice (some a') n' c'] 26)).alloc (.cells #[.int .i64 0, .int .i64 0, .int .i64 0, .slice none 0 0] 26))
    have lA0 := A0_1.out.1
    have qA00 := A0_1.out.2 0 _ rfl
    have qA01 := A0_1.out.2 1 _ rfl
    have qA02 := A0_1.out.2 2 _ rfl
    have qA03 := A0_1.out.2 3 _ rfl
    have lA1 := A1_2.out.1
    have qA10 := A1_2.out.2 0 _ rfl
    have qA11 := A1_2.out.2 1 _ rfl
    have qA12 := A1_2.out.2 2 _ rfl
    have qA13 := A1_2.out.2 3 _ rfl
    try simp only [World.size_alloc] at lA0 lA1
    go_wp2_with fail
    refine (matrixOk_spec _ _ _ _ _ _ xs _ (HR.out.ext E_4.out) hm1).mono ?_
    rintro e w_5 ⟨rfl, h_5⟩
    clear lA0 qA00 qA01 qA02 qA03 lA1 qA10 qA11 qA12 qA13
    have A0_6 := Lib.hid (A0_1.out.ext h_5)
    clear A0_1
    have A1_7 := Lib.hid (A1_2.out.ext h_5)
    clear A1_2
    have R_8 := Lib.hid (R_3.out.ext h_5)
    clear R_3
    have E_9 := Lib.hid (E_4.out.trans h_5)
    clear E_4
    rw [h1]
    have lA0 := A0_6.out.1
    have qA00 := A0_6.out.2 0 _ rfl
    have qA01 := A0_6.out.2 1 _ rfl
    have qA02 := A0_6.out.2 2 _ rfl
    have qA03 := A0_6.out.2 3 _ rfl
    have lA1 := A1_7.out.1
    have qA10 := A1_7.out.2 0 _ rfl
    have qA11 := A1_7.out.2 1 _ rfl
    have qA12 := A1_7.out.2 2 _ rfl
    have qA13 := A1_7.out.2 3 _ rfl
    try simp only [World.size_alloc] at lA0 lA1
    go_wp2_with fail
    refine (matrixOk_spec _ _ _ _ _ _ xs' _ (HR'.out.ext E_9.out) hm1').mono ?_
    rintro e w_10 ⟨rfl, h_10⟩
    clear lA0 qA00 qA01 qA02 qA03 lA1 qA10 qA11 qA12 qA13
    have A0_11 := Lib.hid (A0_6.out.ext h_10)
    clear A0_6
    have A1_12 := Lib.hid (A1_7.out.ext h_10)
    clear A1_7
    have R_13 := Lib.hid (R_8.out.ext h_10)
    clear R_8
    have E_14 := Lib.hid (E_9.out.trans h_10)
    clear E_9
    rw [h2]
    have lA0 := A0_11.out.1
    have qA00 := A0_11.out.2 0 _ rfl
    have qA01 := A0_11.out.2 1 _ rfl
    have qA02 := A0_11.out.2 2 _ rfl
    have qA03 := A0_11.out.2 3 _ rfl
    have lA1 := A1_12.out.1
    have qA10 := A1_12.out.2 0 _ rfl
    have qA11 := A1_12.out.2 1 _ rfl
    have qA12 := A1_12.out.2 2 _ rfl
    have qA13 := A1_12.out.2 3 _ rfl
    try simp only [World.size_alloc] at lA0 lA1
    have lR := R_13.out.1
    have qR0 := R_13.out.2 0 _ rfl
    have qR1 := R_13.out.2 1 _ rfl
    have qR2 := R_13.out.2 2 _ rfl
    have qR3 := R_13.out.2 3 _ rfl
    have tR := R_13.out.3
    try simp only [World.size_alloc] at lA0 lA1 lR
    go_wp2
    refine bodyPost_ret (v := .tuple #[.agg #[.int .i64 0, .int .i64 0, .int .i64 0, .slice none 0 0], .bool false]) (by simp [results, Try.results16, go_sem, qR0, qR1, qR2, qR3]) rfl ⟨_, rfl, ⟨_, _, _, rfl, own_nil _ _ _, by omega⟩, ext4 E_14.out (by omega) _ _ _ _⟩
  by_cases e1 : P = P'
  case neg =>
    have hM0 : commM P R C xs P' R' C' xs' = (noMat, false) := by
      rw [commM, if_neg (by simp only [Bool.and_eq_true, beq_iff_eq]; intro hh; obtain ⟨⟨⟨⟨⟨x1, x2⟩, x3⟩, x4⟩, x5⟩, x6⟩ := hh; exact e1 (by first | exact x3 | exact x5.symm))]
    rw [hM0] at hM
    simp only [noMat, Prod.mk.injEq, Mat.mk.injEq] at hM
    obtain ⟨⟨rfl, rfl, rfl, rfl⟩, rfl⟩ := hM
    clear hM0
    have hb : (P == P') = false := by simpa using e1
    have hb2 : (P != P') = true := by simpa using e1
    have HE := Lib.hid e1
    clear e1
    go_enter Try.func16, Try.ntmps16
    have A0_1 := Lib.hid (((cells_new' w #[.int .i64 P, .int .i64 R, .int .i64 C, .slice (some a) n c] 26 (w.heap.size) (by simp)).ext ((Ext.refl _).alloc (.cells #[.int .i64 P', .int .i64 R', .int .i64 C', .slice (some a') n' c'] 26))).ext ((Ext.refl _).alloc (.cells #[.int .i64 0, .int .i64 0, .int .i64 0, .slice none 0 0] 26)))
    have A1_2 := Lib.hid ((cells_new' (w.alloc (.cells #[.int .i64 P, .int .i64 R, .int .i64 C, .slice (some a) n c] 26)) #[.int .i64 P', .int .i64 R', .int .i64 C', .slice (some a') n' c'] 26 (w.heap.size + 1) (by simp)).ext ((Ext.refl _).alloc (.cells #[.int .i64 0, .int .i64 0, .int .i64 0, .slice none 0 0] 26)))
    have R_3 := Lib.hid (cells_new' ((w.alloc (.cells #[.int .i64 P, .int .i64 R, .int .i64 C, .slice (some a) n c] 26)).alloc (.cells #[.int .i64 P', .int .i64 R', .int .i64 C', .slice (some a') n' c'] 26)) #[.int .i64 0, .int .i64 0, .int .i64 0, .slice none 0 0] 26 (w.heap.size + 1 + 1) (by simp))
    have E_4 := Lib.hid ((((Ext.refl w).alloc (.cells #[.int .i64 P, .int .i64 R, .int .i64 C, .slice (some a) n c] 26)).alloc (.cells #[.int .i64 P', .int .i64 R', .int .i64 C', .slice (some a') n' c'] 26)).alloc (.cells #[.int .i64 0, .int .i64 0, .int .i64 0, .slice none 0 0] 26))
    have lA0 := A0_1.out.1
    have qA00 := A0_1.out.2 0 _ rfl
    have qA01 := A0_1.out.2 1 _ rfl
    have qA02 := A0_1.out.2 2 _ rfl
    have qA03 := A0_1.out.2 3 _ rfl
    have lA1 := A1_2.out.1
    have qA10 := A1_2.out.2 0 _ rfl
    have qA11 := A1_2.out.2 1 _ rfl
    have qA12 := A1_2.out.2 2 _ rfl
    have qA13 := A1_2.out.2 3 _ rfl
    try simp only [World.size_alloc] at lA0 lA1
    go_wp2_with fail
    refine (matrixOk_spec _ _ _ _ _ _ xs _ (HR.out.ext E_4.out) hm1).mono ?_
    rintro e w_5 ⟨rfl, h_5⟩
    clear lA0 qA00 qA01 qA02 qA03 lA1 qA10 qA11 qA12 qA13
    have A0_6 := Lib.hid (A0_1.out.ext h_5)
    clear A0_1
    have A1_7 := Lib.hid (A1_2.out.ext h_5)
    clear A1_2
    have R_8 := Lib.hid (R_3.out.ext h_5)
    clear R_3
    have E_9 := Lib.hid (E_4.out.trans h_5)
    clear E_4
    rw [h1]
    have lA0 := A0_6.out.1
    have qA00 := A0_6.out.2 0 _ rfl
    have qA01 := A0_6.out.2 1 _ rfl
    have qA02 := A0_6.out.2 2 _ rfl
    have qA03 := A0_6.out.2 3 _ rfl
    have lA1 := A1_7.out.1
    have qA10 := A1_7.out.2 0 _ rfl
    have qA11 := A1_7.out.2 1 _ rfl
    have qA12 := A1_7.out.2 2 _ rfl
    have qA13 := A1_7.out.2 3 _ rfl
    try simp only [World.size_alloc] at lA0 lA1
    go_wp2_with fail
    refine (matrixOk_spec _ _ _ _ _ _ xs' _ (HR'.out.ext E_9.out) hm1').mono ?_
    rintro e w_10 ⟨rfl, h_10⟩
    clear lA0 qA00 qA01 qA02 qA03 lA1 qA10 qA11 qA12 qA13
    have A0_11 := Lib.hid (A0_6.out.ext h_10)
    clear A0_6
    have A1_12 := Lib.hid (A1_7.out.ext h_10)
    clear A1_7
    have R_13 := Lib.hid (R_8.out.ext h_10)
    clear R_8
    have E_14 := Lib.hid (E_9.out.trans h_10)
    clear E_9
    rw [h2]
    have lA0 := A0_11.out.1
    have qA00 := A0_11.out.2 0 _ rfl
    have qA01 := A0_11.out.2 1 _ rfl
    have qA02 := A0_11.out.2 2 _ rfl
    have qA03 := A0_11.out.2 3 _ rfl
    have lA1 := A1_12.out.1
    have qA10 := A1_12.out.2 0 _ rfl
    have qA11 := A1_12.out.2 1 _ rfl
    have qA12 := A1_12.out.2 2 _ rfl
    have qA13 := A1_12.out.2 3 _ rfl
    try simp only [World.size_alloc] at lA0 lA1
    have lR := R_13.out.1
    have qR0 := R_13.out.2 0 _ rfl
    have qR1 := R_13.out.2 1 _ rfl
    have qR2 := R_13.out.2 2 _ rfl
    have qR3 := R_13.out.2 3 _ rfl
    have tR := R_13.out.3
    try simp only [World.size_alloc] at lA0 lA1 lR
    go_wp2
    refine bodyPost_ret (v := .tuple #[.agg #[.int .i64 0, .int .i64 0, .int .i64 0, .slice none 0 0], .bool false]) (by simp [results, Try.results16, go_sem, qR0, qR1, qR2, qR3]) rfl ⟨_, rfl, ⟨_, _, _, rfl, own_nil _ _ _, by omega⟩, ext4 E_14.out (by omega) _ _ _ _⟩
  by_cases e2 : R = C
  case neg =>
    have hM0 : commM P R C xs P' R' C' xs' = (noMat, false) := by
      rw [commM, if_neg (by simp only [Bool.and_eq_true, beq_iff_eq]; intro hh; obtain ⟨⟨⟨⟨⟨x1, x2⟩, x3⟩, x4⟩, x5⟩, x6⟩ := hh; exact e2 (by first | exact x4 | exact x5.symm))]
    rw [hM0] at hM
    simp only [noMat, Prod.mk.injEq, Mat.mk.injEq] at hM
    obtain ⟨⟨rfl, rfl, rfl, rfl⟩, rfl⟩ := hM
    clear hM0
    have hb : (R == C) = false := by simpa using e2
    have hb2 : (R != C) = true := by simpa using e2
    have HE := Lib.hid e2
    clear e2
    have hbq_e1 := beq_of e1
    have hbn_e1 := bne_of e1
    have HS_e1 := Lib.hid e1
    clear e1
    go_enter Try.func16, Try.ntmps16
    have A0_1 := Lib.hid (((cells_new' w #[.int .i64 P, .int .i64 R, .int .i64 C, .slice (some a) n c] 26 (w.heap.size) (by simp)).ext ((Ext.refl _).alloc (.cells #[.int .i64 P', .int .i64 R', .int .i64 C', .slice (some a') n' c'] 26))).ext ((Ext.refl _).alloc (.cells #[.int .i64 0, .int .i64 0, .int .i64 0, .slice none 0 0] 26)))
    have A1_2 := Lib.hid ((cells_new' (w.alloc (.cells #[.int .i64 P, .int .i64 R, .int .i64 C, .slice (some a) n c] 26)) #[.int .i64 P', .int .i64 R', .int .i64 C', .slice (some a') n' c'] 26 (w.heap.size + 1) (by simp)).ext ((Ext.refl _).alloc (.cells #[.int .i64 0, .int .i64 0, .int .i64 0, .slice none 0 0] 26)))
    have R_3 := Lib.hid (cells_new' ((w.alloc (.cells #[.int .i64 P, .int .i64 R, .int .i64 C, .slice (some a) n c] 26)).alloc (.cells #[.int .i64 P', .int .i64 R', .int .i64 C', .slice (some a') n' c'] 26)) #[.int .i64 0, .int .i64 0, .int .i64 0, .slice none 0 0] 26 (w.heap.size + 1 + 1) (by simp))
    have E_4 := Lib.hid ((((Ext.refl w).alloc (.cells #[.int .i64 P, .int .i64 R, .int .i64 C, .slice (some a) n c] 26)).alloc (.cells #[.int .i64 P', .int .i64 R', .int .i64 C', .slice (some a') n' c'] 26)).alloc (.cells #[.int .i64 0, .int .i64 0, .int .i64 0, .slice none 0 0] 26))
    have lA0 := A0_1.out.1
    have qA00 := A0_1.out.2 0 _ rfl
    have qA01 := A0_1.out.2 1 _ rfl
    have qA02 := A0_1.out.2 2 _ rfl
    have qA03 := A0_1.out.2 3 _ rfl
    have lA1 := A1_2.out.1
    have qA10 := A1_2.out.2 0 _ rfl
    have qA11 := A1_2.out.2 1 _ rfl
    have qA12 := A1_2.out.2 2 _ rfl
    have qA13 := A1_2.out.2 3 _ rfl
    try simp only [World.size_alloc] at lA0 lA1
    go_wp2_with fail
    refine (matrixOk_spec _ _ _ _ _ _ xs _ (HR.out.ext E_4.out) hm1).mono ?_
    rintro e w_5 ⟨rfl, h_5⟩
    clear lA0 qA00 qA01 qA02 qA03 lA1 qA10 qA11 qA12 qA13
    have A0_6 := Lib.hid (A0_1.out.ext h_5)
    clear A0_1
    have A1_7 := Lib.hid (A1_2.out.ext h_5)
    clear A1_2
    have R_8 := Lib.hid (R_3.out.ext h_5)
    clear R_3
    have E_9 := Lib.hid (E_4.out.trans h_5)
    clear E_4
    rw [h1]
    have lA0 := A0_6.out.1
    have qA00 := A0_6.out.2 0 _ rfl
    have qA01 := A0_6.out.2 1 _ rfl
    have qA02 := A0_6.out.2 2 _ rfl
    have qA03 := A0_6.out.2 3 _ rfl
    have lA1 := A1_7.out.1
    have qA10 := A1_7.out.2 0 _ rfl
    have qA11 := A1_7.out.2 1 _ rfl
    have qA12 := A1_7.out.2 2 _ rfl
    have qA13 := A1_7.out.2 3 _ rfl
    try simp only [World.size_alloc] at lA0 lA1
    go_wp2_with fail
    refine (matrixOk_spec _ _ _ _ _ _ xs' _ (HR'.out.ext E_9.out) hm1').mono ?_
    rintro e w_10 ⟨rfl, h_10⟩
    clear lA0 qA00 qA01 qA02 qA03 lA1 qA10 qA11 qA12 qA13
    have A0_11 := Lib.hid (A0_6.out.ext h_10)
    clear A0_6
    have A1_12 := Lib.hid (A1_7.out.ext h_10)
    clear A1_7
    have R_13 := Lib.hid (R_8.out.ext h_10)
    clear R_8
    have E_14 := Lib.hid (E_9.out.trans h_10)
    clear E_9
    rw [h2]
    have lA0 := A0_11.out.1
    have qA00 := A0_11.out.2 0 _ rfl
    have qA01 := A0_11.out.2 1 _ rfl
    have qA02 := A0_11.out.2 2 _ rfl
    have qA03 := A0_11.out.2 3 _ rfl
    have lA1 := A1_12.out.1
    have qA10 := A1_12.out.2 0 _ rfl
    have qA11 := A1_12.out.2 1 _ rfl
    have qA12 := A1_12.out.2 2 _ rfl
    have qA13 := A1_12.out.2 3 _ rfl
    try simp only [World.size_alloc] at lA0 lA1
    have lR := R_13.out.1
    have qR0 := R_13.out.2 0 _ rfl
    have qR1 := R_13.out.2 1 _ rfl
    have qR2 := R_13.out.2 2 _ rfl
    have qR3 := R_13.out.2 3 _ rfl
    have tR := R_13.out.3
    try simp only [World.size_alloc] at lA0 lA1 lR
    go_wp2
    refine bodyPost_ret (v := .tuple #[.agg #[.int .i64 0, .int .i64 0, .int .i64 0, .slice none 0 0], .bool false]) (by simp [results, Try.results16, go_sem, qR0, qR1, qR2, qR3]) rfl ⟨_, rfl, ⟨_, _, _, rfl, own_nil _ _ _, by omega⟩, ext4 E_14.out (by omega) _ _ _ _⟩
  by_cases e3 : R' = R
  case neg =>
    have hM0 : commM P R C xs P' R' C' xs' = (noMat, false) := by
      rw [commM, if_neg (by simp only [Bool.and_eq_true, beq_iff_eq]; intro hh; obtain ⟨⟨⟨⟨⟨x1, x2⟩, x3⟩, x4⟩, x5⟩, x6⟩ := hh; exact e3 (by first | exact x5 | exact x5.symm))]
    rw [hM0] at hM
    simp only [noMat, Prod.mk.injEq, Mat.mk.injEq] at hM
    obtain ⟨⟨rfl, rfl, rfl, rfl⟩, rfl⟩ := hM
    clear hM0
    have hb : (R' == R) = false := by simpa using e3
    have hb2 : (R' != R) = true := by simpa using e3
    have HE := Lib.hid e3
    clear e3
    have hbq_e1 := beq_of e1
    have hbn_e1 := bne_of e1
    have hbq_e2 := beq_of e2
    have hbn_e2 := bne_of e2
    have HS_e1 := Lib.hid e1
    clear e1
    have HS_e2 := Lib.hid e2
    clear e2
    go_enter Try.func16, Try.ntmps16
    have A0_1 := Lib.hid (((cells_new' w #[.int .i64 P, .int .i64 R, .int .i64 C, .slice (some a) n c] 26 (w.heap.size) (by simp)).ext ((Ext.refl _).alloc (.cells #[.int .i64 P', .int .i64 R', .int .i64 C', .slice (some a') n' c'] 26))).ext ((Ext.refl _).alloc (.cells #[.int .i64 0, .int .i64 0, .int .i64 0, .slice none 0 0] 26)))
    have A1_2 := Lib.hid ((cells_new' (w.alloc (.cells #[.int .i64 P, .int .i64 R, .int .i64 C, .slice (some a) n c] 26)) #[.int .i64 P', .int .i64 R', .int .i64 C', .slice (some a') n' c'] 26 (w.heap.size + 1) (by simp)).ext ((Ext.refl _).alloc (.cells #[.int .i64 0, .int .i64 0, .int .i64 0, .slice none 0 0] 26)))
    have R_3 := Lib.hid (cells_new' ((w.alloc (.cells #[.int .i64 P, .int .i64 R, .int .i64 C, .slice (some a) n c] 26)).alloc (.cells #[.int .i64 P', .int .i64 R', .int .i64 C', .slice (some a') n' c'] 26)) #[.int .i64 0, .int .i64 0, .int .i64 0, .slice none 0 0] 26 (w.heap.size + 1 + 1) (by simp))
    have E_4 := Lib.hid ((((Ext.refl w).alloc (.cells #[.int .i64 P, .int .i64 R, .int .i64 C, .slice (some a) n c] 26)).alloc (.cells #[.int .i64 P', .int .i64 R', .int .i64 C', .slice (some a') n' c'] 26)).alloc (.cells #[.int .i64 0, .int .i64 0, .int .i64 0, .slice none 0 0] 26))
    have lA0 := A0_1.out.1
    have qA00 := A0_1.out.2 0 _ rfl
    have qA01 := A0_1.out.2 1 _ rfl
    have qA02 := A0_1.out.2 2 _ rfl
    have qA03 := A0_1.out.2 3 _ rfl
    have lA1 := A1_2.out.1
    have qA10 := A1_2.out.2 0 _ rfl
    have qA11 := A1_2.out.2 1 _ rfl
    have qA12 := A1_2.out.2 2 _ rfl
    have qA13 := A1_2.out.2 3 _ rfl
    try simp only [World.size_alloc] at lA0 lA1
    go_wp2_with fail
    refine (matrixOk_spec _ _ _ _ _ _ xs _ (HR.out.ext E_4.out) hm1).mono ?_
    rintro e w_5 ⟨rfl, h_5⟩
    clear lA0 qA00 qA01 qA02 qA03 lA1 qA10 qA11 qA12 qA13
    have A0_6 := Lib.hid (A0_1.out.ext h_5)
    clear A0_1
    have A1_7 := Lib.hid (A1_2.out.ext h_5)
    clear A1_2
    have R_8 := Lib.hid (R_3.out.ext h_5)
    clear R_3
    have E_9 := Lib.hid (E_4.out.trans h_5)
    clear E_4
    rw [h1]
    have lA0 := A0_6.out.1
    have qA00 := A0_6.out.2 0 _ rfl
    have qA01 := A0_6.out.2 1 _ rfl
    have qA02 := A0_6.out.2 2 _ rfl
    have qA03 := A0_6.out.2 3 _ rfl
    have lA1 := A1_7.out.1
    have qA10 := A1_7.out.2 0 _ rfl
    have qA11 := A1_7.out.2 1 _ rfl
    have qA12 := A1_7.out.2 2 _ rfl
    have qA13 := A1_7.out.2 3 _ rfl
    try simp only [World.size_alloc] at lA0 lA1
    go_wp2_with fail
    refine (matrixOk_spec _ _ _ _ _ _ xs' _ (HR'.out.ext E_9.out) hm1').mono ?_
    rintro e w_10 ⟨rfl, h_10⟩
    clear lA0 qA00 qA01 qA02 qA03 lA1 qA10 qA11 qA12 qA13
    have A0_11 := Lib.hid (A0_6.out.ext h_10)
    clear A0_6
    have A1_12 := Lib.hid (A1_7.out.ext h_10)
    clear A1_7
    have R_13 := Lib.hid (R_8.out.ext h_10)
    clear R_8
    have E_14 := Lib.hid (E_9.out.trans h_10)
    clear E_9
    rw [h2]
    have lA0 := A0_11.out.1
    have qA00 := A0_11.out.2 0 _ rfl
    have qA01 := A0_11.out.2 1 _ rfl
    have qA02 := A0_11.out.2 2 _ rfl
    have qA03 := A0_11.out.2 3 _ rfl
    have lA1 := A1_12.out.1
    have qA10 := A1_12.out.2 0 _ rfl
    have qA11 := A1_12.out.2 1 _ rfl
    have qA12 := A1_12.out.2 2 _ rfl
    have qA13 := A1_12.out.2 3 _ rfl
    try simp only [World.size_alloc] at lA0 lA1
    have lR := R_13.out.1
    have qR0 := R_13.out.2 0 _ rfl
    have qR1 := R_13.out.2 1 _ rfl
    have qR2 := R_13.out.2 2 _ rfl
    have qR3 := R_13.out.2 3 _ rfl
    have tR := R_13.out.3
    try simp only [World.size_alloc] at lA0 lA1 lR
    go_wp2
    refine bodyPost_ret (v := .tuple #[.agg #[.int .i64 0, .int .i64 0, .int .i64 0, .slice none 0 0], .bool false]) (by simp [results, Try.results16, go_sem, qR0, qR1, qR2, qR3]) rfl ⟨_, rfl, ⟨_, _, _, rfl, own_nil _ _ _, by omega⟩, ext4 E_14.out (by omega) _ _ _ _⟩
  by_cases e4 : C' = R
  case neg =>
    have hM0 : commM P R C xs P' R' C' xs' = (noMat, false) := by
      rw [commM, if_neg (by simp only [Bool.and_eq_true, beq_iff_eq]; intro hh; obtain ⟨⟨⟨⟨⟨x1, x2⟩, x3⟩, x4⟩, x5⟩, x6⟩ := hh; exact e4 (by first | exact x6 | exact x5.symm))]
    rw [hM0] at hM
    simp only [noMat, Prod.mk.injEq, Mat.mk.injEq] at hM
    obtain ⟨⟨rfl, rfl, rfl, rfl⟩, rfl⟩ := hM
    clear hM0
    have hb : (C' == R) = false := by simpa using e4
    have hb2 : (C' != R) = true := by simpa using e4
    have HE := Lib.hid e4
    clear e4
    have hbq_e1 := beq_of e1
    have hbn_e1 := bne_of e1
    have hbq_e2 := beq_of e2
    have hbn_e2 := bne_of e2
    have hbq_e3 := beq_of e3
    have hbn_e3 := bne_of e3
    have HS_e1 := Lib.hid e1
    clear e1
    have HS_e2 := Lib.hid e2
    clear e2
    have HS_e3 := Lib.hid e3
    clear e3
    go_enter Try.func16, Try.ntmps16
    have A0_1 := Lib.hid (((cells_new' w #[.int .i64 P, .int .i64 R, .int .i64 C, .slice (some a) n c] 26 (w.heap.size) (by simp)).ext ((Ext.refl _).alloc (.cells #[.int .i64 P', .int .i64 R', .int .i64 C', .slice (some a') n' c'] 26))).ext ((Ext.refl _).alloc (.cells #[.int .i64 0, .int .i64 0, .int .i64 0, .slice none 0 0] 26)))
    have A1_2 := Lib.hid ((cells_new' (w.alloc (.cells #[.int .i64 P, .int .i64 R, .int .i64 C, .slice (some a) n c] 26)) #[.int .i64 P', .int .i64 R', .int .i64 C', .slice (some a') n' c'] 26 (w.heap.size + 1) (by simp)).ext ((Ext.refl _).alloc (.cells #[.int .i64 0, .int .i64 0, .int .i64 0, .slice none 0 0] 26)))
    have R_3 := Lib.hid (cells_new' ((w.alloc (.cells #[.int .i64 P, .int .i64 R, .int .i64 C, .slice (some a) n c] 26)).alloc (.cells #[.int .i64 P', .int .i64 R', .int .i64 C', .slice (some a') n' c'] 26)) #[.int .i64 0, .int .i64 0, .int .i64 0, .slice none 0 0] 26 (w.heap.size + 1 + 1) (by simp))
    have E_4 := Lib.hid ((((Ext.refl w).alloc (.cells #[.int .i64 P, .int .i64 R, .int .i64 C, .slice (some a) n c] 26)).alloc (.cells #[.int .i64 P', .int .i64 R', .int .i64 C', .slice (some a') n' c'] 26)).alloc (.cells #[.int .i64 0, .int .i64 0, .int .i64 0, .slice none 0 0] 26))
    have lA0 := A0_1.out.1
    have qA00 := A0_1.out.2 0 _ rfl
    have qA01 := A0_1.out.2 1 _ rfl
    have qA02 := A0_1.out.2 2 _ rfl
    have qA03 := A0_1.out.2 3 _ rfl
    have lA1 := A1_2.out.1
    have qA10 := A1_2.out.2 0 _ rfl
    have qA11 := A1_2.out.2 1 _ rfl
    have qA12 := A1_2.out.2 2 _ rfl
    have qA13 := A1_2.out.2 3 _ rfl
    try simp only [World.size_alloc] at lA0 lA1
    go_wp2_with fail
    refine (matrixOk_spec _ _ _ _ _ _ xs _ (HR.out.ext E_4.out) hm1).mono ?_
    rintro e w_5 ⟨rfl, h_5⟩
    clear lA0 qA00 qA01 qA02 qA03 lA1 qA10 qA11 qA12 qA13
    have A0_6 := Lib.hid (A0_1.out.ext h_5)
    clear A0_1
    have A1_7 := Lib.hid (A1_2.out.ext h_5)
    clear A1_2
    have R_8 := Lib.hid (R_3.out.ext h_5)
    clear R_3
    have E_9 := Lib.hid (E_4.out.trans h_5)
    clear E_4
    rw [h1]
    have lA0 := A0_6.out.1
    have qA00 := A0_6.out.2 0 _ rfl
    have qA01 := A0_6.out.2 1 _ rfl
    have qA02 := A0_6.out.2 2 _ rfl
    have qA03 := A0_6.out.2 3 _ rfl
    have lA1 := A1_7.out.1
    have qA10 := A1_7.out.2 0 _ rfl
    have qA11 := A1_7.out.2 1 _ rfl
    have qA12 := A1_7.out.2 2 _ rfl
    have qA13 := A1_7.out.2 3 _ rfl
    try simp only [World.size_alloc] at lA0 lA1
    go_wp2_with fail
    refine (matrixOk_spec _ _ _ _ _ _ xs' _ (HR'.out.ext E_9.out) hm1').mono ?_
    rintro e w_10 ⟨rfl, h_10⟩
    clear lA0 qA00 qA01 qA02 qA03 lA1 qA10 qA11 qA12 qA13
    have A0_11 := Lib.hid (A0_6.out.ext h_10)
    clear A0_6
    have A1_12 := Lib.hid (A1_7.out.ext h_10)
    clear A1_7
    have R_13 := Lib.hid (R_8.out.ext h_10)
    clear R_8
    have E_14 := Lib.hid (E_9.out.trans h_10)
    clear E_9
    rw [h2]
    have lA0 := A0_11.out.1
    have qA00 := A0_11.out.2 0 _ rfl
    have qA01 := A0_11.out.2 1 _ rfl
    have qA02 := A0_11.out.2 2 _ rfl
    have qA03 := A0_11.out.2 3 _ rfl
    have lA1 := A1_12.out.1
    have qA10 := A1_12.out.2 0 _ rfl
    have qA11 := A1_12.out.2 1 _ rfl
    have qA12 := A1_12.out.2 2 _ rfl
    have qA13 := A1_12.out.2 3 _ rfl
    try simp only [World.size_alloc] at lA0 lA1
    have lR := R_13.out.1
    have qR0 := R_13.out.2 0 _ rfl
    have qR1 := R_13.out.2 1 _ rfl
    have qR2 := R_13.out.2 2 _ rfl
    have qR3 := R_13.out.2 3 _ rfl
    have tR := R_13.out.3
    try simp only [World.size_alloc] at lA0 lA1 lR
    go_wp2
    refine bodyPost_ret (v := .tuple #[.agg #[.int .i64 0, .int .i64 0, .int .i64 0, .slice none 0 0], .bool false]) (by simp [results, Try.results16, go_sem, qR0, qR1, qR2, qR3]) rfl ⟨_, rfl, ⟨_, _, _, rfl, own_nil _ _ _, by omega⟩, ext4 E_14.out (by omega) _ _ _ _⟩
  have k1 : mok P R C xs = true := by exact h1
  have k2 : mok P' R' C' xs' = true := by exact h2
  obtain rfl : P = P' := e1
  obtain rfl : R = C := e2
  obtain rfl : R = R' := e3.symm
  obtain rfl : R = C' := e4.symm
  have hM0 : commM P R R xs P R R xs' = (⟨P, R, R, commL P xs xs' R.toNat⟩, true) := by
    rw [commM, if_pos (by rw [k1, k2]; simp)]
  rw [hM0] at hM
  simp only [Prod.mk.injEq, Mat.mk.injEq] at hM
  obtain ⟨⟨rfl, rfl, rfl, rfl⟩, rfl⟩ := hM
  clear hM0
  have hl1 := mok_len k1
  have hl2 := mok_len k2
  have hp1 := mok_lo k1
  have hp2 := mok_hi k1
  have hq1 := inB_iff.1 (mok_iff.1 k1).2.1
  have HX := Lib.hid (mok_res k1)
  have HY := Lib.hid (mok_res k2)
  obtain ⟨K, rfl⟩ := Int.eq_ofNat_of_zero_le hq1.1
  have hK : K ≤ 40 := by omega
  have HN1 : Hid (n = K * K) := by rw [HR.out.1, ← Int.natCast_mul] at hl1; show n = K * K; omega
  have HN2 : Hid (n' = n) := by rw [HR'.out.1, ← Int.natCast_mul] at hl2; have := HN1.out; show n' = n; omega
  obtain rfl := HN2.out
  have H1 := Lib.hid h1
  have H2 := Lib.hid h2
  have g40 := mul40 hK hK
  clear hl1 hl2 hq1 k1 k2 h1 h2 HN2
  simp only [Int.toNat_natCast]
  go_enter Try.func16, Try.ntmps16
  have A0_1 := Lib.hid (((cells_new' w #[.int .i64 P, .int .i64 K, .int .i64 K, .slice (some a) n' c] 26 (w.heap.size) (by simp)).ext ((Ext.refl _).alloc (.cells #[.int .i64 P, .int .i64 K, .int .i64 K, .slice (some a') n' c'] 26))).ext ((Ext.refl _).alloc (.cells #[.int .i64 0, .int .i64 0, .int .i64 0, .slice none 0 0] 26)))
  have A1_2 := Lib.hid ((cells_new' (w.alloc (.cells #[.int .i64 P, .int .i64 K, .int .i64 K, .slice (some a) n' c] 26)) #[.int .i64 P, .int .i64 K, .int .i64 K, .slice (some a') n' c'] 26 (w.heap.size + 1) (by simp)).ext ((Ext.refl _).alloc (.cells #[.int .i64 0, .int .i64 0, .int .i64 0, .slice none 0 0] 26)))
  have R_3 := Lib.hid (cells_new' ((w.alloc (.cells #[.int .i64 P, .int .i64 K, .int .i64 K, .slice (some a) n' c] 26)).alloc (.cells #[.int .i64 P, .int .i64 K, .int .i64 K, .slice (some a') n' c'] 26)) #[.int .i64 0, .int .i64 0, .int .i64 0, .slice none 0 0] 26 (w.heap.size + 1 + 1) (by simp))
  have E_4 := Lib.hid ((((Ext.refl w).alloc (.cells #[.int .i64 P, .int .i64 K, .int .i64 K, .slice (some a) n' c] 26)).alloc (.cells #[.int .i64 P, .int .i64 K, .int .i64 K, .slice (some a') n' c'] 26)).alloc (.cells #[.int .i64 0, .int .i64 0, .int .i64 0, .slice none 0 0] 26))
  have lA0 := A0_1.out.1
  have qA00 := A0_1.out.2 0 _ rfl
  have qA01 := A0_1.out.2 1 _ rfl
  have qA02 := A0_1.out.2 2 _ rfl
  have qA03 := A0_1.out.2 3 _ rfl
  have lA1 := A1_2.out.1
  have qA10 := A1_2.out.2 0 _ rfl
  have qA11 := A1_2.out.2 1 _ rfl
  have qA12 := A1_2.out.2 2 _ rfl
  have qA13 := A1_2.out.2 3 _ rfl
  try simp only [World.size_alloc] at lA0 lA1
  go_wp2_with fail
  refine (matrixOk_spec _ _ _ _ _ _ xs _ (HR.out.ext E_4.out) hm1).mono ?_
  rintro e w_5 ⟨rfl, h_5⟩
  clear lA0 qA00 qA01 qA02 qA03 lA1 qA10 qA11 qA12 qA13
  have A0_6 := Lib.hid (A0_1.out.ext h_5)
  clear A0_1
  have A1_7 := Lib.hid (A1_2.out.ext h_5)
  clear A1_2
  have R_8 := Lib.hid (R_3.out.ext h_5)
  clear R_3
  have E_9 := Lib.hid (E_4.out.trans h_5)
  clear E_4
  rw [H1.out]
  have lA0 := A0_6.out.1
  have qA00 := A0_6.out.2 0 _ rfl
  have qA01 := A0_6.out.2 1 _ rfl
  have qA02 := A0_6.out.2 2 _ rfl
  have qA03 := A0_6.out.2 3 _ rfl
  have lA1 := A1_7.out.1
  have qA10 := A1_7.out.2 0 _ rfl
  have qA11 := A1_7.out.2 1 _ rfl
  have qA12 := A1_7.out.2 2 _ rfl
  have qA13 := A1_7.out.2 3 _ rfl
  try simp only [World.size_alloc] at lA0 lA1
  go_wp2_with fail
  refine (matrixOk_spec _ _ _ _ _ _ xs' _ (HR'.out.ext E_9.out) hm1').mono ?_
  rintro e w_10 ⟨rfl, h_10⟩
  clear lA0 qA00 qA01 qA02 qA03 lA1 qA10 qA11 qA12 qA13
  have A0_11 := Lib.hid (A0_6.out.ext h_10)
  clear A0_6
  have A1_12 := Lib.hid (A1_7.out.ext h_10)
  clear A1_7
  have R_13 := Lib.hid (R_8.out.ext h_10)
  clear R_8
  have E_14 := Lib.hid (E_9.out.trans h_10)
  clear E_9
  rw [H2.out]
  have l_R := R_13.out.1
  have lA0 := A0_11.out.1
  have qA00 := A0_11.out.2 0 _ rfl
  have qA01 := A0_11.out.2 1 _ rfl
  have qA02 := A0_11.out.2 2 _ rfl
  have qA03 := A0_11.out.2 3 _ rfl
  have lA1 := A1_12.out.1
  have qA10 := A1_12.out.2 0 _ rfl
  have qA11 := A1_12.out.2 1 _ rfl
  have qA12 := A1_12.out.2 2 _ rfl
  have qA13 := A1_12.out.2 3 _ rfl
  try simp only [World.size_alloc] at lA0 lA1
  go_wp2_with fail
  refine (l1Commutator_spec P K _ _ _ _ _ xs xs' _ (HR.out.ext E_14.out) (HR'.out.ext E_14.out) HN1.out hK hp1 hp2 HX.out HY.out).mono ?_
  rintro e w_15 ⟨b, cc, rfl, hb1, hb2, hh, h_15⟩
  clear lA0 qA00 qA01 qA02 qA03 lA1 qA10 qA11 qA12 qA13
  have A0_16 := Lib.hid (A0_11.out.ext h_15)
  clear A0_11
  have A1_17 := Lib.hid (A1_12.out.ext h_15)
  clear A1_12
  have R_18 := Lib.hid (R_13.out.ext h_15)
  clear R_13
  have E_19 := Lib.hid (E_14.out.trans h_15)
  clear E_14
  have HH := Lib.hid hh
  clear hh
  have lR := R_18.out.1
  have qR0 := R_18.out.2 0 _ rfl
  have qR1 := R_18.out.2 1 _ rfl
  have qR2 := R_18.out.2 2 _ rfl
  have qR3 := R_18.out.2 3 _ rfl
  have tR := R_18.out.3
  try simp only [World.size_alloc] at lR
  go_wp2
  refine bodyPost_ret (v := .tuple #[.agg #[.int .i64 P, .int .i64 K, .int .i64 K, .slice (some ⟨b, 0, none⟩) (K * K) cc], .bool true]) (by simp [results, Try.results16, go_sem, qR0, qR1, qR2, qR3]) rfl ⟨_, rfl, ⟨_, _, _, rfl, ?_, by omega⟩, ext4 E_19.out (by omega) _ _ _ _⟩
  exact Own.mono (own4 (HH.out.own (lo := w.heap.size + 1 + 1 + 1) (hi := w_15.heap.size) (by omega) (by omega) (commL_length _ _ _ _)) (by omega) _ _ _ _) (by omega) (by simp)

set_option maxRecDepth 100000 in
set_option maxHeartbeats 12800000 in
theorem commutatorOf_impl {P R C P' R' C' : Int} {a0 oa b0 ob n n' : Nat} {xs xs' : List Int} {w : World} {p r q : Int} {d : List Int} {ok : Bool} (h : Reads w (some ⟨a0, oa, none⟩) n xs) (hm : n ≤ 1048576) (h' : Reads w (some ⟨b0, ob, none⟩) n' xs') (hm' : n' ≤ 1048576) (hM : commM P R C xs P' R' C' xs' = (⟨p, r, q, d⟩, ok)) :
    Calls Try.prog 18 #[.agg #[.int .i64 P, .int .i64 R, .int .i64 C, .slice (some ⟨a0, oa, none⟩) n n], .agg #[.int .i64 P', .int .i64 R', .int .i64 C', .slice (some ⟨b0, ob, none⟩) n' n']] w fun e w' => ∃ v, e = .returned (.tuple #[v, .bool ok]) ∧ Rmat w w' v p r q d ∧ Ext w w' := by
  have HR := Lib.hid h
  have HR' := Lib.hid h'
  have hm1 : n ≤ maxLen := by unfold maxLen; omega
  have hm1' : n' ≤ maxLen := by unfold maxLen; omega
  have HT : ∀ b1 b2 b3 b4 b5 b6 : Bool, (b1 && b2 && b3 && b4 && b5 && b6) = false → b1 = true → b2 = true → b3 = true → b4 = true → b5 = true → b6 = true → False := by decide
  clear h h'
  rcases h1 : (mok P R C xs && (R == C)) with _ | _
  · have hM0 : commM P R C xs P' R' C' xs' = (noMat, false) := by
      rw [commM, if_neg (by simp only [Bool.and_eq_true, beq_iff_eq]; intro hh; obtain ⟨⟨⟨⟨⟨x1, x2⟩, x3⟩, x4⟩, x5⟩, x6⟩ := hh; subst x4; simp [x1] at h1)]
    rw [hM0] at hM
    simp only [noMat, Prod.mk.injEq, Mat.mk.injEq] at hM
    obtain ⟨⟨rfl, rfl, rfl, rfl⟩, rfl⟩ := hM
    clear hM0
    go_enter Try.func18, Try.ntmps18
    have A0_1 := Lib.hid (((cells_new' w #[.int .i64 P, .int .i64 R, .int .i64 C, .slice (some ⟨a0, oa, none⟩) n n] 26 (w.heap.size) (by simp)).ext ((Ext.refl _).alloc (.cells #[.int .i64 P', .int .i64 R', .int .i64 C', .slice (some ⟨b0, ob, none⟩) n' n'] 26))).ext ((Ext.refl _).alloc (.cells #[.int .i64 0, .int .i64 0, .int .i64 0, .slice none 0 0] 26)))
    have A1_2 := Lib.hid ((cells_new' (w.alloc (.cells #[.int .i64 P, .int .i64 R, .int .i64 C, .slice (some ⟨a0, oa, none⟩) n n] 26)) #[.int .i64 P', .int .i64 R', .int .i64 C', .slice (some ⟨b0, ob, none⟩) n' n'] 26 (w.heap.size + 1) (by simp)).ext ((Ext.refl _).alloc (.cells #[.int .i64 0, .int .i64 0, .int .i64 0, .slice none 0 0] 26)))
    have R_3 := Lib.hid (cells_new' ((w.alloc (.cells #[.int .i64 P, .int .i64 R, .int .i64 C, .slice (some ⟨a0, oa, none⟩) n n] 26)).alloc (.cells #[.int .i64 P', .int .i64 R', .int .i64 C', .slice (some ⟨b0, ob, none⟩) n' n'] 26)) #[.int .i64 0, .int .i64 0, .int .i64 0, .slice none 0 0] 26 (w.heap.size + 1 + 1) (by simp))
    have E_4 := Lib.hid ((((Ext.refl w).alloc (.cells #[.int .i64 P, .int .i64 R, .int .i64 C, .slice (some ⟨a0, oa, none⟩) n n] 26)).alloc (.cells #[.int .i64 P', .int .i64 R', .int .i64 C', .slice (some ⟨b0, ob, none⟩) n' n'] 26)).alloc (.cells #[.int .i64 0, .int .i64 0, .int .i64 0, .slice none 0 0] 26))
    have lA0 := A0_1.out.1
    have qA00 := A0_1.out.2 0 _ rfl
    have qA01 := A0_1.out.2 1 _ rfl
    have qA02 := A0_1.out.2 2 _ rfl
    have qA03 := A0_1.out.2 3 _ rfl
    have lA1 := A1_2.out.1
    have qA10 := A1_2.out.2 0 _ rfl
    have qA11 := A1_2.out.2 1 _ rfl
    have qA12 := A1_2.out.2 2 _ rfl
    have qA13 := A1_2.out.2 3 _ rfl
    try simp only [World.size_alloc] at lA0 lA1
    go_wp2_with fail
    refine (squareOk_impl _ _ _ _ _ _ xs _ (HR.out.ext E_4.out) hm1).mono ?_
    rintro e w_5 ⟨rfl, h_5⟩
    clear lA0 qA00 qA01 qA02 qA03 lA1 qA10 qA11 qA12 qA13
    have A0_6 := Lib.hid (A0_1.out.ext h_5)
    clear A0_1
    have A1_7 := Lib.hid (A1_2.out.ext h_5)
    clear A1_2
    have R_8 := Lib.hid (R_3.out.ext h_5)
    clear R_3
    have E_9 := Lib.hid (E_4.out.trans h_5)
    clear E_4
    rw [h1]
    have lA0 := A0_6.out.1
    have qA00 := A0_6.out.2 0 _ rfl
    have qA01 := A0_6.out.2 1 _ rfl
    have qA02 := A0_6.out.2 2 _ rfl
    have qA03 := A0_6.out.2 3 _ rfl
    have lA1 := A1_7.out.1
    have qA10 := A1_7.out.2 0 _ rfl
    have qA11 := A1_7.out.2 1 _ rfl
    have qA12 := A1_7.out.2 2 _ rfl
    have qA13 := A1_7.out.2 3 _ rfl
    try simp only [World.size_alloc] at lA0 lA1
    have lR := R_8.out.1
    have qR0 := R_8.out.2 0 _ rfl
    have qR1 := R_8.out.2 1 _ rfl
    have qR2 := R_8.out.2 2 _ rfl
    have qR3 := R_8.out.2 3 _ rfl
    have tR := R_8.out.3
    try simp only [World.size_alloc] at lA0 lA1 lR
    go_wp2
    refine bodyPost_ret (v := .tuple #[.agg #[.int .i64 0, .int .i64 0, .int .i64 0, .slice none 0 0], .bool false]) (by simp [results, Try.results18, go_sem, qR0, qR1, qR2, qR3]) rfl ⟨_, rfl, ⟨_, _, _, rfl, own_nil _ _ _, by omega⟩, ext4 E_9.out (by omega) _ _ _ _⟩
  rcases h2 : (mok P' R' C' xs' && (R' == C')) with _ | _
  · have hM0 : commM P R C xs P' R' C' xs' = (noMat, false) := by
      rw [commM, if_neg (by simp only [Bool.and_eq_true, beq_iff_eq]; intro hh; obtain ⟨⟨⟨⟨⟨x1, x2⟩, x3⟩, x4⟩, x5⟩, x6⟩ := hh; rw [x5, x6] at h2 x2; simp [x2] at h2)]
    rw [hM0] at hM
    simp only [noMat, Prod.mk.injEq, Mat.mk.injEq] at hM
    obtain ⟨⟨rfl, rfl, rfl, rfl⟩, rfl⟩ := hM
    clear hM0
    go_enter Try.func18, Try.ntmps18
    have A0_1 := Lib.hid (((cells_new' w #[.int .i64 P, .int .i64 R, .int .i64 C, .slice (some ⟨a0, oa, none⟩) n n] 26 (w.heap.size) (by simp)).ext ((Ext.refl _).alloc (.cells #[.int .i64 P', .int .i64 R', .int .i64 C', .slice (some ⟨b0, ob, none⟩) n' n'] 26))).ext ((Ext.refl _).alloc (.cells #[.int .i64 0, .int .i64 0, .int .i64 0, .slice none 0 0] 26)))
    have A1_2 := Lib.hid ((cells_new' (w.alloc (.cells #[.int .i64 P, .int .i64 R, .int .i64 C, .slice (some ⟨a0, oa, none⟩) n n] 26)) #[.int .i64 P', .int .i64 R', .int .i64 C', .slice (some ⟨b0, ob, none⟩) n' n'] 26 (w.heap.size + 1) (by simp)).ext ((Ext.refl _).alloc (.cells #[.int .i64 0, .int .i64 0, .int .i64 0, .slice none 0 0] 26)))
    have R_3 := Lib.hid (cells_new' ((w.alloc (.cells #[.int .i64 P, .int .i64 R, .int .i64 C, .slice (some ⟨a0, oa, none⟩) n n] 26)).alloc (.cells #[.int .i64 P', .int .i64 R', .int .i64 C', .slice (some ⟨b0, ob, none⟩) n' n'] 26)) #[.int .i64 0, .int .i64 0, .int .i64 0, .slice none 0 0] 26 (w.heap.size + 1 + 1) (by simp))
    have E_4 := Lib.hid ((((Ext.refl w).alloc (.cells #[.int .i64 P, .int .i64 R, .int .i64 C, .slice (some ⟨a0, oa, none⟩) n n] 26)).alloc (.cells #[.int .i64 P', .int .i64 R', .int .i64 C', .slice (some ⟨b0, ob, none⟩) n' n'] 26)).alloc (.cells #[.int .i64 0, .int .i64 0, .int .i64 0, .slice none 0 0] 26))
    have lA0 := A0_1.out.1
    have qA00 := A0_1.out.2 0 _ rfl
    have qA01 := A0_1.out.2 1 _ rfl
    have qA02 := A0_1.out.2 2 _ rfl
    have qA03 := A0_1.out.2 3 _ rfl
    have lA1 := A1_2.out.1
    have qA10 := A1_2.out.2 0 _ rfl
    have qA11 := A1_2.out.2 1 _ rfl
    have qA12 := A1_2.out.2 2 _ rfl
    have qA13 := A1_2.out.2 3 _ rfl
    try simp only [World.size_alloc] at lA0 lA1
    go_wp2_with fail
    refine (squareOk_impl _ _ _ _ _ _ xs _ (HR.out.ext E_4.out) hm1).mono ?_
    rintro e w_5 ⟨rfl, h_5⟩
    clear lA0 qA00 qA01 qA02 qA03 lA1 qA10 qA11 qA12 qA13
    have A0_6 := Lib.hid (A0_1.out.ext h_5)
    clear A0_1
    have A1_7 := Lib.hid (A1_2.out.ext h_5)
    clear A1_2
    have R_8 := Lib.hid (R_3.out.ext h_5)
    clear R_3
    have E_9 := Lib.hid (E_4.out.trans h_5)
    clear E_4
    rw [h1]
    have lA0 := A0_6.out.1
    have qA00 := A0_6.out.2 0 _ rfl
    have qA01 := A0_6.out.2 1 _ rfl
    have qA02 := A0_6.out.2 2 _ rfl
    have qA03 := A0_6.out.2 3 _ rfl
    have lA1 := A1_7.out.1
    have qA10 := A1_7.out.2 0 _ rfl
    have qA11 := A1_7.out.2 1 _ rfl
    have qA12 := A1_7.out.2 2 _ rfl
    have qA13 := A1_7.out.2 3 _ rfl
    try simp only [World.size_alloc] at lA0 lA1
    go_wp2_with fail
    refine (squareOk_impl _ _ _ _ _ _ xs' _ (HR'.out.ext E_9.out) hm1').mono ?_
    rintro e w_10 ⟨rfl, h_10⟩
    clear lA0 qA00 qA01 qA02 qA03 lA1 qA10 qA11 qA12 qA13
    have A0_11 := Lib.hid (A0_6.out.ext h_10)
    clear A0_6
    have A1_12 := Lib.hid (A1_7.out.ext h_10)
    clear A1_7
    have R_13 := Lib.hid (R_8.out.ext h_10)
    clear R_8
    have E_14 := Lib.hid (E_9.out.trans h_10)
    clear E_9
    rw [h2]
    have lA0 := A0_11.out.1
    have qA00 := A0_11.out.2 0 _ rfl
    have qA01 := A0_11.out.2 1 _ rfl
    have qA02 := A0_11.out.2 2 _ rfl
    have qA03 := A0_11.out.2 3 _ rfl
    have lA1 := A1_12.out.1
    have qA10 := A1_12.out.2 0 _ rfl
    have qA11 := A1_12.out.2 1 _ rfl
    have qA12 := A1_12.out.2 2 _ rfl
    have qA13 := A1_12.out.2 3 _ rfl
    try simp only [World.size_alloc] at lA0 lA1
    have lR := R_13.out.1
    have qR0 := R_13.out.2 0 _ rfl
    have qR1 := R_13.out.2 1 _ rfl
    have qR2 := R_13.out.2 2 _ rfl
    have qR3 := R_13.out.2 3 _ rfl
    have tR := R_13.out.3
    try simp only [World.size_alloc] at lA0 lA1 lR
    go_wp2
    refine bodyPost_ret (v := .tuple #[.agg #[.int .i64 0, .int .i64 0, .int .i64 0, .slice none 0 0], .bool false]) (by simp [results, Try.results18, go_sem, qR0, qR1, qR2, qR3]) rfl ⟨_, rfl, ⟨_, _, _, rfl, own_nil _ _ _, by omega⟩, ext4 E_14.out (by omega) _ _ _ _⟩
  by_cases e1 : P = P'
  case neg =>
    have hM0 : commM P R C xs P' R' C' xs' = (noMat, false) := by
      rw [commM, if_neg (by simp only [Bool.and_eq_true, beq_iff_eq]; intro hh; obtain ⟨⟨⟨⟨⟨x1, x2⟩, x3⟩, x4⟩, x5⟩, x6⟩ := hh; exact e1 (by first | exact x3 | exact x5.symm))]
    rw [hM0] at hM
    simp only [noMat, Prod.mk.injEq, Mat.mk.injEq] at hM
    obtain ⟨⟨rfl, rfl, rfl, rfl⟩, rfl⟩ := hM
    clear hM0
    have hb : (P == P') = false := by simpa using e1
    have hb2 : (P != P') = true := by simpa using e1
    have HE := Lib.hid e1
    clear e1
    go_enter Try.func18, Try.ntmps18
    have A0_1 := Lib.hid (((cells_new' w #[.int .i64 P, .int .i64 R, .int .i64 C, .slice (some ⟨a0, oa, none⟩) n n] 26 (w.heap.size) (by simp)).ext ((Ext.refl _).alloc (.cells #[.int .i64 P', .int .i64 R', .int .i64 C', .slice (some ⟨b0, ob, none⟩) n' n'] 26))).ext ((Ext.refl _).alloc (.cells #[.int .i64 0, .int .i64 0, .int .i64 0, .slice none 0 0] 26)))
    have A1_2 := Lib.hid ((cells_new' (w.alloc (.cells #[.int .i64 P, .int .i64 R, .int .i64 C, .slice (some ⟨a0, oa, none⟩) n n] 26)) #[.int .i64 P', .int .i64 R', .int .i64 C', .slice (some ⟨b0, ob, none⟩) n' n'] 26 (w.heap.size + 1) (by simp)).ext ((Ext.refl _).alloc (.cells #[.int .i64 0, .int .i64 0, .int .i64 0, .slice none 0 0] 26)))
    have R_3 := Lib.hid (cells_new' ((w.alloc (.cells #[.int .i64 P, .int .i64 R, .int .i64 C, .slice (some ⟨a0, oa, none⟩) n n] 26)).alloc (.cells #[.int .i64 P', .int .i64 R', .int .i64 C', .slice (some ⟨b0, ob, none⟩) n' n'] 26)) #[.int .i64 0, .int .i64 0, .int .i64 0, .slice none 0 0] 26 (w.heap.size + 1 + 1) (by simp))
    have E_4 := Lib.hid ((((Ext.refl w).alloc (.cells #[.int .i64 P, .int .i64 R, .int .i64 C, .slice (some ⟨a0, oa, none⟩) n n] 26)).alloc (.cells #[.int .i64 P', .int .i64 R', .int .i64 C', .slice (some ⟨b0, ob, none⟩) n' n'] 26)).alloc (.cells #[.int .i64 0, .int .i64 0, .int .i64 0, .slice none 0 0] 26))
    have lA0 := A0_1.out.1
    have qA00 := A0_1.out.2 0 _ rfl
    have qA01 := A0_1.out.2 1 _ rfl
    have qA02 := A0_1.out.2 2 _ rfl
    have qA03 := A0_1.out.2 3 _ rfl
    have lA1 := A1_2.out.1
    have qA10 := A1_2.out.2 0 _ rfl
    have qA11 := A1_2.out.2 1 _ rfl
    have qA12 := A1_2.out.2 2 _ rfl
    have qA13 := A1_2.out.2 3 _ rfl
    try simp only [World.size_alloc] at lA0 lA1
    go_wp2_with fail
    refine (squareOk_impl _ _ _ _ _ _ xs _ (HR.out.ext E_4.out) hm1).mono ?_
    rintro e w_5 ⟨rfl, h_5⟩
    clear lA0 qA00 qA01 qA02 qA03 lA1 qA10 qA11 qA12 qA13
    have A0_6 := Lib.hid (A0_1.out.ext h_5)
    clear A0_1
    have A1_7 := Lib.hid (A1_2.out.ext h_5)
    clear A1_2
    have R_8 := Lib.hid (R_3.out.ext h_5)
    clear R_3
    have E_9 := Lib.hid (E_4.out.trans h_5)
    clear E_4
    rw [h1]
    have lA0 := A0_6.out.1
    have qA00 := A0_6.out.2 0 _ rfl
    have qA01 := A0_6.out.2 1 _ rfl
    have qA02 := A0_6.out.2 2 _ rfl
    have qA03 := A0_6.out.2 3 _ rfl
    have lA1 := A1_7.out.1
    have qA10 := A1_7.out.2 0 _ rfl
    have qA11 := A1_7.out.2 1 _ rfl
    have qA12 := A1_7.out.2 2 _ rfl
    have qA13 := A1_7.out.2 3 _ rfl
    try simp only [World.size_alloc] at lA0 lA1
    go_wp2_with fail
    refine (squareOk_impl _ _ _ _ _ _ xs' _ (HR'.out.ext E_9.out) hm1').mono ?_
    rintro e w_10 ⟨rfl, h_10⟩
    clear lA0 qA00 qA01 qA02 qA03 lA1 qA10 qA11 qA12 qA13
    have A0_11 := Lib.hid (A0_6.out.ext h_10)
    clear A0_6
    have A1_12 := Lib.hid (A1_7.out.ext h_10)
    clear A1_7
    have R_13 := Lib.hid (R_8.out.ext h_10)
    clear R_8
    have E_14 := Lib.hid (E_9.out.trans h_10)
    clear E_9
    rw [h2]
    have lA0 := A0_11.out.1
    have qA00 := A0_11.out.2 0 _ rfl
    have qA01 := A0_11.out.2 1 _ rfl
    have qA02 := A0_11.out.2 2 _ rfl
    have qA03 := A0_11.out.2 3 _ rfl
    have lA1 := A1_12.out.1
    have qA10 := A1_12.out.2 0 _ rfl
    have qA11 := A1_12.out.2 1 _ rfl
    have qA12 := A1_12.out.2 2 _ rfl
    have qA13 := A1_12.out.2 3 _ rfl
    try simp only [World.size_alloc] at lA0 lA1
    have lR := R_13.out.1
    have qR0 := R_13.out.2 0 _ rfl
    have qR1 := R_13.out.2 1 _ rfl
    have qR2 := R_13.out.2 2 _ rfl
    have qR3 := R_13.out.2 3 _ rfl
    have tR := R_13.out.3
    try simp only [World.size_alloc] at lA0 lA1 lR
    go_wp2
    refine bodyPost_ret (v := .tuple #[.agg #[.int .i64 0, .int .i64 0, .int .i64 0, .slice none 0 0], .bool false]) (by simp [results, Try.results18, go_sem, qR0, qR1, qR2, qR3]) rfl ⟨_, rfl, ⟨_, _, _, rfl, own_nil _ _ _, by omega⟩, ext4 E_14.out (by omega) _ _ _ _⟩
  by_cases e3 : R = R'
  case neg =>
    have hM0 : commM P R C xs P' R' C' xs' = (noMat, false) := by
      rw [commM, if_neg (by simp only [Bool.and_eq_true, beq_iff_eq]; intro hh; obtain ⟨⟨⟨⟨⟨x1, x2⟩, x3⟩, x4⟩, x5⟩, x6⟩ := hh; exact e3 (by first | exact x5 | exact x5.symm))]
    rw [hM0] at hM
    simp only [noMat, Prod.mk.injEq, Mat.mk.injEq] at hM
    obtain ⟨⟨rfl, rfl, rfl, rfl⟩, rfl⟩ := hM
    clear hM0
    have hb : (R == R') = false := by simpa using e3
    have hb2 : (R != R') = true := by simpa using e3
    have HE := Lib.hid e3
    clear e3
    have hbq_e1 := beq_of e1
    have hbn_e1 := bne_of e1
    have HS_e1 := Lib.hid e1
    clear e1
    go_enter Try.func18, Try.ntmps18
    have A0_1 := Lib.hid (((cells_new' w #[.int .i64 P, .int .i64 R, .int .i64 C, .slice (some ⟨a0, oa, none⟩) n n] 26 (w.heap.size) (by simp)).ext ((Ext.refl _).alloc (.cells #[.int .i64 P', .int .i64 R', .int .i64 C', .slice (some ⟨b0, ob, none⟩) n' n'] 26))).ext ((Ext.refl _).alloc (.cells #[.int .i64 0, .int .i64 0, .int .i64 0, .slice none 0 0] 26)))
    have A1_2 := Lib.hid ((cells_new' (w.alloc (.cells #[.int .i64 P, .int .i64 R, .int .i64 C, .slice (some ⟨a0, oa, none⟩) n n] 26)) #[.int .i64 P', .int .i64 R', .int .i64 C', .slice (some ⟨b0, ob, none⟩) n' n'] 26 (w.heap.size + 1) (by simp)).ext ((Ext.refl _).alloc (.cells #[.int .i64 0, .int .i64 0, .int .i64 0, .slice none 0 0] 26)))
    have R_3 := Lib.hid (cells_new' ((w.alloc (.cells #[.int .i64 P, .int .i64 R, .int .i64 C, .slice (some ⟨a0, oa, none⟩) n n] 26)).alloc (.cells #[.int .i64 P', .int .i64 R', .int .i64 C', .slice (some ⟨b0, ob, none⟩) n' n'] 26)) #[.int .i64 0, .int .i64 0, .int .i64 0, .slice none 0 0] 26 (w.heap.size + 1 + 1) (by simp))
    have E_4 := Lib.hid ((((Ext.refl w).alloc (.cells #[.int .i64 P, .int .i64 R, .int .i64 C, .slice (some ⟨a0, oa, none⟩) n n] 26)).alloc (.cells #[.int .i64 P', .int .i64 R', .int .i64 C', .slice (some ⟨b0, ob, none⟩) n' n'] 26)).alloc (.cells #[.int .i64 0, .int .i64 0, .int .i64 0, .slice none 0 0] 26))
    have lA0 := A0_1.out.1
    have qA00 := A0_1.out.2 0 _ rfl
    have qA01 := A0_1.out.2 1 _ rfl
    have qA02 := A0_1.out.2 2 _ rfl
    have qA03 := A0_1.out.2 3 _ rfl
    have lA1 := A1_2.out.1
    have qA10 := A1_2.out.2 0 _ rfl
    have qA11 := A1_2.out.2 1 _ rfl
    have qA12 := A1_2.out.2 2 _ rfl
    have qA13 := A1_2.out.2 3 _ rfl
    try simp only [World.size_alloc] at lA0 lA1
    go_wp2_with fail
    refine (squareOk_impl _ _ _ _ _ _ xs _ (HR.out.ext E_4.out) hm1).mono ?_
    rintro e w_5 ⟨rfl, h_5⟩
    clear lA0 qA00 qA01 qA02 qA03 lA1 qA10 qA11 qA12 qA13
    have A0_6 := Lib.hid (A0_1.out.ext h_5)
    clear A0_1
    have A1_7 := Lib.hid (A1_2.out.ext h_5)
    clear A1_2
    have R_8 := Lib.hid (R_3.out.ext h_5)
    clear R_3
    have E_9 := Lib.hid (E_4.out.trans h_5)
    clear E_4
    rw [h1]
    have lA0 := A0_6.out.1
    have qA00 := A0_6.out.2 0 _ rfl
    have qA01 := A0_6.out.2 1 _ rfl
    have qA02 := A0_6.out.2 2 _ rfl
    have qA03 := A0_6.out.2 3 _ rfl
    have lA1 := A1_7.out.1
    have qA10 := A1_7.out.2 0 _ rfl
    have qA11 := A1_7.out.2 1 _ rfl
    have qA12 := A1_7.out.2 2 _ rfl
    have qA13 := A1_7.out.2 3 _ rfl
    try simp only [World.size_alloc] at lA0 lA1
    go_wp2_with fail
    refine (squareOk_impl _ _ _ _ _ _ xs' _ (HR'.out.ext E_9.out) hm1').mono ?_
    rintro e w_10 ⟨rfl, h_10⟩
    clear lA0 qA00 qA01 qA02 qA03 lA1 qA10 qA11 qA12 qA13
    have A0_11 := Lib.hid (A0_6.out.ext h_10)
    clear A0_6
    have A1_12 := Lib.hid (A1_7.out.ext h_10)
    clear A1_7
    have R_13 := Lib.hid (R_8.out.ext h_10)
    clear R_8
    have E_14 := Lib.hid (E_9.out.trans h_10)
    clear E_9
    rw [h2]
    have lA0 := A0_11.out.1
    have qA00 := A0_11.out.2 0 _ rfl
    have qA01 := A0_11.out.2 1 _ rfl
    have qA02 := A0_11.out.2 2 _ rfl
    have qA03 := A0_11.out.2 3 _ rfl
    have lA1 := A1_12.out.1
    have qA10 := A1_12.out.2 0 _ rfl
    have qA11 := A1_12.out.2 1 _ rfl
    have qA12 := A1_12.out.2 2 _ rfl
    have qA13 := A1_12.out.2 3 _ rfl
    try simp only [World.size_alloc] at lA0 lA1
    have lR := R_13.out.1
    have qR0 := R_13.out.2 0 _ rfl
    have qR1 := R_13.out.2 1 _ rfl
    have qR2 := R_13.out.2 2 _ rfl
    have qR3 := R_13.out.2 3 _ rfl
    have tR := R_13.out.3
    try simp only [World.size_alloc] at lA0 lA1 lR
    go_wp2
    refine bodyPost_ret (v := .tuple #[.agg #[.int .i64 0, .int .i64 0, .int .i64 0, .slice none 0 0], .bool false]) (by simp [results, Try.results18, go_sem, qR0, qR1, qR2, qR3]) rfl ⟨_, rfl, ⟨_, _, _, rfl, own_nil _ _ _, by omega⟩, ext4 E_14.out (by omega) _ _ _ _⟩
  have k1 : mok P R C xs = true := by exact (Bool.and_eq_true_iff.1 h1).1
  have k2 : mok P' R' C' xs' = true := by exact (Bool.and_eq_true_iff.1 h2).1
  obtain rfl : P = P' := e1
  obtain rfl : R = C := by have := (Bool.and_eq_true_iff.1 h1).2; simpa using this
  obtain rfl : R = R' := e3
  obtain rfl : R = C' := by have := (Bool.and_eq_true_iff.1 h2).2; simpa using this
  have hM0 : commM P R R xs P R R xs' = (⟨P, R, R, commL P xs xs' R.toNat⟩, true) := by
    rw [commM, if_pos (by rw [k1, k2]; simp)]
  rw [hM0] at hM
  simp only [Prod.mk.injEq, Mat.mk.injEq] at hM
  obtain ⟨⟨rfl, rfl, rfl, rfl⟩, rfl⟩ := hM
  clear hM0
  have hl1 := mok_len k1
  have hl2 := mok_len k2
  have hp1 := mok_lo k1
  have hp2 := mok_hi k1
  have hq1 := inB_iff.1 (mok_iff.1 k1).2.1
  have HX := Lib.hid (mok_res k1)
  have HY := Lib.hid (mok_res k2)
  obtain ⟨K, rfl⟩ := Int.eq_ofNat_of_zero_le hq1.1
  have hK : K ≤ 40 := by omega
  have HN1 : Hid (n = K * K) := by rw [HR.out.1, ← Int.natCast_mul] at hl1; show n = K * K; omega
  have HN2 : Hid (n' = n) := by rw [HR'.out.1, ← Int.natCast_mul] at hl2; have := HN1.out; show n' = n; omega
  obtain rfl := HN2.out
  have H1 := Lib.hid h1
  have H2 := Lib.hid h2
  have g40 := mul40 hK hK
  clear hl1 hl2 hq1 k1 k2 h1 h2 HN2
  simp only [Int.toNat_natCast]
  go_enter Try.func18, Try.ntmps18
  have A0_1 := Lib.hid (((cells_new' w #[.int .i64 P, .int .i64 K, .int .i64 K, .slice (some ⟨a0, oa, none⟩) n' n'] 26 (w.heap.size) (by simp)).ext ((Ext.refl _).alloc (.cells #[.int .i64 P, .int .i64 K, .int .i64 K, .slice (some ⟨b0, ob, none⟩) n' n'] 26))).ext ((Ext.refl _).alloc (.cells #[.int .i64 0, .int .i64 0, .int .i64 0, .slice none 0 0] 26)))
  have A1_2 := Lib.hid ((cells_new' (w.alloc (.cells #[.int .i64 P, .int .i64 K, .int .i64 K, .slice (some ⟨a0, oa, none⟩) n' n'] 26)) #[.int .i64 P, .int .i64 K, .int .i64 K, .slice (some ⟨b0, ob, none⟩) n' n'] 26 (w.heap.size + 1) (by simp)).ext ((Ext.refl _).alloc (.cells #[.int .i64 0, .int .i64 0, .int .i64 0, .slice none 0 0] 26)))
  have R_3 := Lib.hid (cells_new' ((w.alloc (.cells #[.int .i64 P, .int .i64 K, .int .i64 K, .slice (some ⟨a0, oa, none⟩) n' n'] 26)).alloc (.cells #[.int .i64 P, .int .i64 K, .int .i64 K, .slice (some ⟨b0, ob, none⟩) n' n'] 26)) #[.int .i64 0, .int .i64 0, .int .i64 0, .slice none 0 0] 26 (w.heap.size + 1 + 1) (by simp))
  have E_4 := Lib.hid ((((Ext.refl w).alloc (.cells #[.int .i64 P, .int .i64 K, .int .i64 K, .slice (some ⟨a0, oa, none⟩) n' n'] 26)).alloc (.cells #[.int .i64 P, .int .i64 K, .int .i64 K, .slice (some ⟨b0, ob, none⟩) n' n'] 26)).alloc (.cells #[.int .i64 0, .int .i64 0, .int .i64 0, .slice none 0 0] 26))
  have lA0 := A0_1.out.1
  have qA00 := A0_1.out.2 0 _ rfl
  have qA01 := A0_1.out.2 1 _ rfl
  have qA02 := A0_1.out.2 2 _ rfl
  have qA03 := A0_1.out.2 3 _ rfl
  have lA1 := A1_2.out.1
  have qA10 := A1_2.out.2 0 _ rfl
  have qA11 := A1_2.out.2 1 _ rfl
  have qA12 := A1_2.out.2 2 _ rfl
  have qA13 := A1_2.out.2 3 _ rfl
  try simp only [World.size_alloc] at lA0 lA1
  go_wp2_with fail
  refine (squareOk_impl _ _ _ _ _ _ xs _ (HR.out.ext E_4.out) hm1).mono ?_
  rintro e w_5 ⟨rfl, h_5⟩
  clear lA0 qA00 qA01 qA02 qA03 lA1 qA10 qA11 qA12 qA13
  have A0_6 := Lib.hid (A0_1.out.ext h_5)
  clear A0_1
  have A1_7 := Lib.hid (A1_2.out.ext h_5)
  clear A1_2
  have R_8 := Lib.hid (R_3.out.ext h_5)
  clear R_3
  have E_9 := Lib.hid (E_4.out.trans h_5)
  clear E_4
  rw [H1.out]
  have lA0 := A0_6.out.1
  have qA00 := A0_6.out.2 0 _ rfl
  have qA01 := A0_6.out.2 1 _ rfl
  have qA02 := A0_6.out.2 2 _ rfl
  have qA03 := A0_6.out.2 3 _ rfl
  have lA1 := A1_7.out.1
  have qA10 := A1_7.out.2 0 _ rfl
  have qA11 := A1_7.out.2 1 _ rfl
  have qA12 := A1_7.out.2 2 _ rfl
  have qA13 := A1_7.out.2 3 _ rfl
  try simp only [World.size_alloc] at lA0 lA1
  go_wp2_with fail
  refine (squareOk_impl _ _ _ _ _ _ xs' _ (HR'.out.ext E_9.out) hm1').mono ?_
  rintro e w_10 ⟨rfl, h_10⟩
  clear lA0 qA00 qA01 qA02 qA03 lA1 qA10 qA11 qA12 qA13
  have A0_11 := Lib.hid (A0_6.out.ext h_10)
  clear A0_6
  have A1_12 := Lib.hid (A1_7.out.ext h_10)
  clear A1_7
  have R_13 := Lib.hid (R_8.out.ext h_10)
  clear R_8
  have E_14 := Lib.hid (E_9.out.trans h_10)
  clear E_9
  rw [H2.out]
  have l_R := R_13.out.1
  have lA0 := A0_11.out.1
  have qA00 := A0_11.out.2 0 _ rfl
  have qA01 := A0_11.out.2 1 _ rfl
  have qA02 := A0_11.out.2 2 _ rfl
  have qA03 := A0_11.out.2 3 _ rfl
  have lA1 := A1_12.out.1
  have qA10 := A1_12.out.2 0 _ rfl
  have qA11 := A1_12.out.2 1 _ rfl
  have qA12 := A1_12.out.2 2 _ rfl
  have qA13 := A1_12.out.2 3 _ rfl
  try simp only [World.size_alloc] at lA0 lA1
  go_wp2_with fail
  refine (commutator_impl P K _ _ _ _ _ xs xs' _ (HR.out.ext E_14.out) (HR'.out.ext E_14.out) HN1.out hK hp1 hp2 HX.out HY.out).mono ?_
  rintro e w_15 ⟨b, rfl, hb1, hb2, hh, h_15⟩
  clear lA0 qA00 qA01 qA02 qA03 lA1 qA10 qA11 qA12 qA13
  have A0_16 := Lib.hid (A0_11.out.ext h_15)
  clear A0_11
  have A1_17 := Lib.hid (A1_12.out.ext h_15)
  clear A1_12
  have R_18 := Lib.hid (R_13.out.ext h_15)
  clear R_13
  have E_19 := Lib.hid (E_14.out.trans h_15)
  clear E_14
  have HH := Lib.hid hh
  clear hh
  have lR := R_18.out.1
  have qR0 := R_18.out.2 0 _ rfl
  have qR1 := R_18.out.2 1 _ rfl
  have qR2 := R_18.out.2 2 _ rfl
  have qR3 := R_18.out.2 3 _ rfl
  have tR := R_18.out.3
  try simp only [World.size_alloc] at lR
  go_wp2
  refine bodyPost_ret (v := .tuple #[.agg #[.int .i64 P, .int .i64 K, .int .i64 K, .slice (some ⟨b, 0, none⟩) (K * K) (K * K)], .bool true]) (by simp [results, Try.results18, go_sem, qR0, qR1, qR2, qR3]) rfl ⟨_, rfl, ⟨_, _, _, rfl, ?_, by omega⟩, ext4 E_19.out (by omega) _ _ _ _⟩
  exact Own.mono (own4 (HH.out.own (lo := w.heap.size + 1 + 1 + 1) (hi := w_15.heap.size) (by omega) (by omega) (commL_length _ _ _ _)) (by omega) _ _ _ _) (by omega) (by simp)
end Go.Proofs.Ytphopkihieofjaa
