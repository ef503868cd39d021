/-
  All brackets of the rows of two matrices, in the program.
-/
import Derived.Test.YtapaopapgnfdkaaBr
import Derived.Test.YtapaopapgnfdkaaRi
namespace Go.Proofs.Ytapaopapgnfdkaa
open Go.ChangeShapes Go.WideShapes Go.ChangeAt Go.RowKit
set_option linter.unusedVariables false
set_option linter.unusedSimpArgs false

set_option maxRecDepth 100000 in
set_option maxHeartbeats 3200000 in
theorem bracketsR_impl (P : Int) (D R2 n2 B a0 oa n d b' o' c' b1 o1 : Nat) (l xs ts : List Int) (w : World) (hc : Cells w B [.int .i64 P, .int .i64 D, .slice (some ⟨a0, oa, none⟩) n d]) (hD : D ≤ 28) (hR2 : R2 ≤ 40) (hn2 : n2 = R2 * D) (hn : n = D * D * D) (hd : n ≤ d) (hd2 : d ≤ maxLen)
    (hT : Reads w (some ⟨a0, oa, none⟩) n l) (hX : Reads w (some ⟨b', o', none⟩) D xs) (hY : Reads w (some ⟨b1, o1, none⟩) n2 ts) (hp : 2 ≤ P) (hp2 : P ≤ 10007) (hl : Res l P) (hx : Res xs P) (hy : Res ts P) :
    Calls Try.prog 163 #[.pointer (some ⟨B, 0, none⟩), .slice (some ⟨b', o', none⟩) D c', .agg #[.int .i64 P, .int .i64 R2, .int .i64 D, .slice (some ⟨b1, o1, none⟩) n2 n2]] w fun e w' => ∃ b, e = .returned (.agg #[.int .i64 P, .int .i64 R2, .int .i64 D, .slice (some ⟨b, 0, none⟩) n2 n2]) ∧ w.heap.size ≤ b ∧ b < w'.heap.size ∧ Has w' b (bRows P D l xs ts R2).flatten ∧ Ext w w' := by
  have A0 := Lib.hid ((cells_new' w #[.int .i64 P, .int .i64 R2, .int .i64 D, .slice (some ⟨b1, o1, none⟩) n2 n2] 40 w.heap.size rfl).ext ((Ext.refl _).alloc (.cells #[.int .i64 0, .int .i64 0, .int .i64 0, .slice none 0 0] 40)))
  have R0 := Lib.hid (cells_new' (w.alloc (.cells #[.int .i64 P, .int .i64 R2, .int .i64 D, .slice (some ⟨b1, o1, none⟩) n2 n2] 40)) #[.int .i64 0, .int .i64 0, .int .i64 0, .slice none 0 0] 40 (w.heap.size + 1) (by simp))
  have E0 := Lib.hid (((Ext.refl w).alloc (.cells #[.int .i64 P, .int .i64 R2, .int .i64 D, .slice (some ⟨b1, o1, none⟩) n2 n2] 40)).alloc (.cells #[.int .i64 0, .int .i64 0, .int .i64 0, .slice none 0 0] 40))
  have lA := A0.out.1
  have qA0 := A0.out.2 0 _ rfl
  have qA1 := A0.out.2 1 _ rfl
  have qA2 := A0.out.2 2 _ rfl
  have qA3 := A0.out.2 3 _ rfl
  have qR0 := R0.out.2 0 _ rfl
  have qR1 := R0.out.2 1 _ rfl
  have qR2 := R0.out.2 2 _ rfl
  have qR3 := R0.out.2 3 _ rfl
  have tR := R0.out.3
  try simp only [World.size_alloc] at lA
  have lR := R0.out.1
  have cX : ∀ w1, Ext w w1 → Calls Try.prog 145 #[.pointer (some ⟨B, 0, none⟩), .slice (some ⟨b', o', none⟩) D c'] w1 (fun e w' => ∃ b, e = .returned (.agg #[.int .i64 P, .int .i64 D, .int .i64 D, .slice (some ⟨b, 0, none⟩) (D * D) (D * D)]) ∧ w1.heap.size ≤ b ∧ b < w'.heap.size ∧ Has w' b (adTo P D l xs D) ∧ Ext w1 w') := fun w1 h => adjoint_impl P D B a0 oa n d b' o' c' l xs w1 (hc.ext h) hD hn hd hd2 (hT.ext h) (hX.ext h) hp hp2 hl hx
  have cP : ∀ w1 bX, Ext w w1 → Has w1 bX (adTo P D l xs D) → Calls Try.prog 119 #[.agg #[.int .i64 P, .int .i64 R2, .int .i64 D, .slice (some ⟨b1, o1, none⟩) n2 n2], .agg #[.int .i64 P, .int .i64 D, .int .i64 D, .slice (some ⟨bX, 0, none⟩) (D * D) (D * D)]] w1 (fun e w' => ∃ b, e = .returned (.agg #[.int .i64 P, .int .i64 R2, .int .i64 D, .slice (some ⟨b, 0, none⟩) n2 n2]) ∧ w1.heap.size ≤ b ∧ b < w'.heap.size ∧ Has w' b (bRows P D l xs ts R2).flatten ∧ Ext w1 w') := fun w1 bX h k => by
    have := product_impl P R2 D D b1 o1 bX 0 n2 (D * D) ts (adTo P D l xs D) w1 (hY.ext h) (k.reads (adTo_length D)) hn2 rfl hR2 (by omega) (by omega) hp hp2 hy (adTo_res (by omega) D)
    rw [mul_rows (by omega), ← hn2] at this
    exact this
  have gB : w.heap.size ≤ w.heap.size + 1 := by omega
  clear hc hX hY hT hn hn2
  go_enter Try.func163, Try.ntmps163
  go_wp2_with fail
  go_region_held3 (fun w' => Ext w w' ∧ w.heap.size + 1 ≤ w'.heap.size ∧ ∀ b o, b < w.heap.size + 1 → w'.cell? ⟨b, o, none⟩ = ((w.alloc (.cells #[.int .i64 P, .int .i64 R2, .int .i64 D, .slice (some ⟨b1, o1, none⟩) n2 n2] 40)).alloc (.cells #[.int .i64 0, .int .i64 0, .int .i64 0, .slice none 0 0] 40)).cell? ⟨b, o, none⟩) (first | (with_reducible exact KeptR.call ‹Ext w _ ∧ w.heap.size + 1 ≤ _ ∧ _› ‹Ext _ _›) | exact ⟨E0.out, Nat.le_of_lt lR, fun _ _ _ => rfl⟩ | exact ⟨E0.out.drew, Nat.le_of_lt lR, fun _ _ _ => rfl⟩ | assumption | (with_reducible exact KeptR.set4 ‹Ext w _ ∧ w.heap.size + 1 ≤ _ ∧ _› gB _ _ _ _)) (first
      | (go_at_call 145; (with_reducible refine (cX _ (And.left ‹Ext w _ ∧ w.heap.size + 1 ≤ _ ∧ _›)).mono ?_); rintro e wX ⟨bX, rfl, bX1, bX2, kX, EX⟩)
      | (go_at_call 119; (with_reducible refine (cP _ _ (And.left ‹Ext w _ ∧ w.heap.size + 1 ≤ _ ∧ _›) kX).mono ?_); rintro e w5 ⟨bA, rfl, bA1, bA2, kA, EA⟩; have hall : Ext ((w.alloc (.cells #[.int .i64 P, .int .i64 R2, .int .i64 D, .slice (some ⟨b1, o1, none⟩) n2 n2] 40)).alloc (.cells #[.int .i64 0, .int .i64 0, .int .i64 0, .slice none 0 0] 40)) w5 := Ext.trans (Ext.drew (Ext.refl _)) (EX.trans EA); have lR1 := lR; have c1 := (hall.cells _ 0 lR1).trans qR0; have c2 := (hall.cells _ 1 lR1).trans qR1; have c3 := (hall.cells _ 2 lR1).trans qR2; have c4 := (hall.cells _ 3 lR1).trans qR3; have f1 : ∀ j, w5.frozen? ⟨w.heap.size + 1, j, none⟩ = false := fun j => (hall.frees _ j lR1).trans (tR j)))
  have hx2 := (‹Ext w _ ∧ w.heap.size + 1 ≤ _ ∧ _› : Ext w _ ∧ w.heap.size + 1 ≤ _ ∧ _).1
  have b0 : ((w.alloc (.cells #[.int .i64 P, .int .i64 R2, .int .i64 D, .slice (some ⟨b1, o1, none⟩) n2 n2] 40)).alloc (.cells #[.int .i64 0, .int .i64 0, .int .i64 0, .slice none 0 0] 40)).drew.heap.size ≤ bA := by with_reducible exact Nat.le_trans EX.le bA1
  simp only [World.size_drew, World.size_alloc] at b0
  go_wp2
  refine bodyPost_ret (v := .agg #[.int .i64 P, .int .i64 R2, .int .i64 D, .slice (some ⟨bA, 0, none⟩) n2 n2]) (by simp [results, Try.results163, go_sem, c1, c2, c3, c4]) rfl ⟨bA, rfl, by omega, ?_, ?_, hx2⟩
  · have := kA.lt; simpa using this
  · repeat with_reducible (first | exact kA | refine Has.setOther ?_ (by simp <;> omega) _)

/-- What the copies keep. -/
def PS (W0 wr : World) (MB b : Nat) (vm : List Value) (N off : Nat) (cs l2 : List Int) : Prop := ∃ l, Loc W0 wr MB b vm l ∧ l.length = N ∧ spl l off cs = l2
theorem PS.mk' {W0 wr : World} {MB b : Nat} {vm : List Value} {N off : Nat} {cs l2 l : List Int} (h1 : Loc W0 wr MB b vm l) (h2 : l.length = N) (h3 : spl l off cs = l2) : PS W0 wr MB b vm N off cs l2 := ⟨l, h1, h2, h3⟩
theorem PS.step {W0 wr wr' : World} {MB b : Nat} {vm : List Value} {N off : Nat} {cs l2 : List Int} (h : PS W0 wr MB b vm N off cs l2) (hE : Ext wr wr') : PS W0 wr' MB b vm N off cs l2 := by
  obtain ⟨l, h1, h2⟩ := h
  exact ⟨l, h1.step hE, h2⟩
theorem PS.ext {W0 wr : World} {MB b : Nat} {vm : List Value} {N off : Nat} {cs l2 : List Int} (h : PS W0 wr MB b vm N off cs l2) : Ext W0 wr := by
  obtain ⟨l, h1, _⟩ := h
  exact h1.ext
theorem ps3 {W0 wr : World} {MB b : Nat} {v0 v1 v2 v3 : Value} {N off : Nat} {cs l2 : List Int} (h : PS W0 wr MB b [v0, v1, v2, v3] N off cs l2) : (∀ b o, b < W0.heap.size → wr.cell? ⟨b, o, none⟩ = W0.cell? ⟨b, o, none⟩) ∧ wr.cell? ⟨MB, 3, none⟩ = some v3 ∧ PS W0 wr MB b [v0, v1, v2, v3] N off cs l2 := by
  obtain ⟨l, h1, h2⟩ := h
  exact ⟨h1.ext.cells, h1.box.2 3 _ rfl, l, h1, h2⟩

set_option maxRecDepth 100000 in
set_option maxHeartbeats 12800000 in
theorem products_impl (P : Int) (D R1 R2 n1 n2 N B a0 oa n d s0 so t0 tq : Nat) (l ss ts : List Int) (w : World) (hc : Cells w B [.int .i64 P, .int .i64 D, .slice (some ⟨a0, oa, none⟩) n d]) (hD : D ≤ 28) (hR1 : R1 ≤ 28) (hR2 : R2 ≤ 28) (hn : n = D * D * D) (hn1 : n1 = R1 * D) (hn2 : n2 = R2 * D) (hN : N = R1 * n2) (hd : n ≤ d) (hd2 : d ≤ maxLen)
    (hT : Reads w (some ⟨a0, oa, none⟩) n l) (hSr : Reads w (some ⟨s0, so, none⟩) n1 ss) (hTr : Reads w (some ⟨t0, tq, none⟩) n2 ts) (hp : 2 ≤ P) (hp2 : P ≤ 10007) (hl : Res l P) (hs : Res ss P) (ht : Res ts P) :
    Calls Try.prog 88 #[.pointer (some ⟨B, 0, none⟩), .agg #[.int .i64 P, .int .i64 R1, .int .i64 D, .slice (some ⟨s0, so, none⟩) n1 n1], .agg #[.int .i64 P, .int .i64 R2, .int .i64 D, .slice (some ⟨t0, tq, none⟩) n2 n2]] w fun e w' => ∃ b, e = .returned (.agg #[.int .i64 P, .int .i64 ((R1 : Int) * (R2 : Int)), .int .i64 D, .slice (some ⟨b, 0, none⟩) N N]) ∧ w.heap.size ≤ b ∧ b < w'.heap.size ∧ Has w' b (pL P D l ss ts R2 R1) ∧ Ext w w' := by
  have HC := Lib.hid hc
  have HT := Lib.hid hT
  have HSR := Lib.hid hSr
  have HTR := Lib.hid hTr
  have HN := Lib.hid hn
  have HN1 := Lib.hid hn1
  have HN2 := Lib.hid hn2
  have HNQ := Lib.hid hN
  have HL1 : Hid (ss.length = R1 * D) := by rw [Hid, hSr.1, hn1]
  have HRL := Lib.hid hl
  have HRS := Lib.hid hs
  have HRT := Lib.hid ht
  have HD2 := Lib.hid hd2
  have HD := Lib.hid hd
  have hk1 : n1 ≤ 784 := by rw [hn1]; exact Nat.mul_le_mul hR1 hD
  have hk2 : n2 ≤ 784 := by rw [hn2]; exact Nat.mul_le_mul hR2 hD
  have hk3 : R1 * R2 ≤ 784 := Nat.mul_le_mul hR1 hR2
  have hk4 : N ≤ 21952 := by rw [hN]; exact Nat.mul_le_mul hR1 hk2
  have e1 : (R1 : Int) * (R2 : Int) = ((R1 * R2 : Nat) : Int) := by simp
  have e2 : (R1 : Int) * (R2 : Int) * (D : Int) = (N : Int) := by rw [hN, hn2]; simp [Int.mul_assoc]
  have e3 : (R2 : Int) * (D : Int) = (n2 : Int) := by rw [hn2]; simp
  have E3 := Lib.hid e3
  have v1 : IntKind.i64.wrap ((R1 : Int) * (R2 : Int)) = (R1 : Int) * (R2 : Int) := IntWalk.i64_in _ ⟨by omega, by omega⟩
  have v2 : IntKind.i64.wrap ((R2 : Int) * (D : Int)) = (R2 : Int) * (D : Int) := IntWalk.i64_in _ ⟨by omega, by omega⟩
  have g0 : 0 ≤ (R1 : Int) * (R2 : Int) * (D : Int) := by omega
  have g1 : (R1 : Int) * (R2 : Int) * (D : Int) ≤ 1048576 := by omega
  have E1 : Hid (((R1 : Int) * (R2 : Int) * (D : Int)).toNat = N) := by rw [Hid, e2, Int.toNat_natCast]
  have HZ : Hid (∀ w1, Calls Try.prog 66 #[.int .i64 P, .int .i64 ((R1 : Int) * (R2 : Int)), .int .i64 D] w1 fun e w' => ∃ b, e = .returned (.agg #[.int .i64 P, .int .i64 ((R1 : Int) * (R2 : Int)), .int .i64 D, .slice (some ⟨b, 0, none⟩) N N]) ∧ w1.heap.size ≤ b ∧ b < w'.heap.size ∧ Has w' b (List.replicate N 0) ∧ Ext w1 w') := fun w1 => by
    have := zeros_impl P ((R1 : Int) * (R2 : Int)) D w1 g0 g1
    rw [E1.out] at this
    exact this
  have HPZ : Hid (List.replicate N (0 : Int) = pAt P D l ss ts R1 R2 0) := by rw [Hid, pAt_zero, hN, hn2]
  have HPE : Hid (pAt P D l ss ts R1 R2 R1 = pL P D l ss ts R2 R1) := pAt_end _ _ _ _
  have HPL : Hid (∀ i, i ≤ R1 → (pAt P D l ss ts R1 R2 i).length = N) := fun i hi => by rw [pAt_length _ _ _ _ _ hi, hN, hn2]
  have HPS : Hid (∀ i, i < R1 → spl (pAt P D l ss ts R1 R2 i) (i * n2) (bRows P D l (rowL D ss i) ts R2).flatten = pAt P D l ss ts R1 R2 (i + 1)) := fun i hi => by rw [hn2]; exact pAt_step _ _ _ _ _ hi
  have HBL : Hid (∀ i, (bRows P D l (rowL D ss i) ts R2).flatten.length = n2) := fun i => by rw [bRows_flen, hn2]
  have HRR : Hid (∀ i, i < R1 → Res (rowL D ss i) P) := fun i hi j hj => by
    rw [rowL_length HL1.out hi] at hj
    rw [gi_rowL2 _ _ hj]
    exact hs _ (by rw [HL1.out]; exact place_lt hi hj)
  clear hc hT hSr hTr hn hn1 hn2 hN hl hs ht e1 e2 e3 hd hd2
  have M0 := Lib.hid (cells_new' ((w.alloc (.cells #[.int .i64 P, .int .i64 R1, .int .i64 D, .slice (some ⟨s0, so, none⟩) n1 n1] 40)).alloc (.cells #[.int .i64 P, .int .i64 R2, .int .i64 D, .slice (some ⟨t0, tq, none⟩) n2 n2] 40)) #[.int .i64 0, .int .i64 0, .int .i64 0, .slice none 0 0] 40 (w.heap.size + 1 + 1) (by simp))
  have S0 := Lib.hid (((cells_new' w #[.int .i64 P, .int .i64 R1, .int .i64 D, .slice (some ⟨s0, so, none⟩) n1 n1] 40 w.heap.size rfl).ext ((Ext.refl _).alloc (.cells #[.int .i64 P, .int .i64 R2, .int .i64 D, .slice (some ⟨t0, tq, none⟩) n2 n2] 40))).ext ((Ext.refl _).alloc (.cells #[.int .i64 0, .int .i64 0, .int .i64 0, .slice none 0 0] 40)))
  have T0 := Lib.hid ((cells_new' (w.alloc (.cells #[.int .i64 P, .int .i64 R1, .int .i64 D, .slice (some ⟨s0, so, none⟩) n1 n1] 40)) #[.int .i64 P, .int .i64 R2, .int .i64 D, .slice (some ⟨t0, tq, none⟩) n2 n2] 40 (w.heap.size + 1) (by simp)).ext ((Ext.refl _).alloc (.cells #[.int .i64 0, .int .i64 0, .int .i64 0, .slice none 0 0] 40)))
  have E0 := Lib.hid ((((Ext.refl w).alloc (.cells #[.int .i64 P, .int .i64 R1, .int .i64 D, .slice (some ⟨s0, so, none⟩) n1 n1] 40)).alloc (.cells #[.int .i64 P, .int .i64 R2, .int .i64 D, .slice (some ⟨t0, tq, none⟩) n2 n2] 40)).alloc (.cells #[.int .i64 0, .int .i64 0, .int .i64 0, .slice none 0 0] 40))
  have B0 := Lib.hid (HC.out.ext E0.out)
  have hsz : (((w.alloc (.cells #[.int .i64 P, .int .i64 R1, .int .i64 D, .slice (some ⟨s0, so, none⟩) n1 n1] 40)).alloc (.cells #[.int .i64 P, .int .i64 R2, .int .i64 D, .slice (some ⟨t0, tq, none⟩) n2 n2] 40)).alloc (.cells #[.int .i64 0, .int .i64 0, .int .i64 0, .slice none 0 0] 40)).heap.size = w.heap.size + 1 + 1 + 1 := by simp
  have HSZ := Lib.hid hsz
  go_enter Try.func88, Try.ntmps88
  go_upto_region 1 with fail
  clear hsz
  generalize (((w.alloc (.cells #[.int .i64 P, .int .i64 R1, .int .i64 D, .slice (some ⟨s0, so, none⟩) n1 n1] 40)).alloc (.cells #[.int .i64 P, .int .i64 R2, .int .i64 D, .slice (some ⟨t0, tq, none⟩) n2 n2] 40)).alloc (.cells #[.int .i64 0, .int .i64 0, .int .i64 0, .slice none 0 0] 40)) = W0 at *
  have lB := B0.out.1
  have q0 := B0.out.2 0 _ rfl
  have q1 := B0.out.2 1 _ rfl
  have lS := S0.out.1
  have s1 := S0.out.2 1 _ rfl
  have lT := T0.out.1
  have t1 := T0.out.2 1 _ rfl
  go_cut [7] (fun s7 wx => ∃ MB b, s7 = .pointer (some ⟨MB, 0, none⟩) ∧ Hid (Loc W0 wx MB b [.int .i64 P, .int .i64 ((R1 : Int) * (R2 : Int)), .int .i64 D, .slice (some ⟨b, 0, none⟩) N N] (pAt P D l ss ts R1 R2 0)) ∧ W0.heap.size ≤ MB)
  case first =>
    go_region_held3 (fun w' => Ext W0 w' ∧ (∀ b o, b < W0.heap.size → w'.cell? ⟨b, o, none⟩ = W0.cell? ⟨b, o, none⟩)) ((first | (with_reducible exact ext2 (Ext.trans (And.left ‹Ext W0 _ ∧ _›) ‹Ext _ _›)) | (refine ext2 ?_; with_reducible repeat (first | exact Ext.refl _ | exact And.left ‹Ext W0 _ ∧ _› | exact Ext.trans (Ext.drew (Ext.refl _)) ‹Ext _ _› | exact Ext.trans (Ext.alloc (Ext.drew (Ext.refl _)) _) ‹Ext _ _› | exact Ext.trans (Ext.drew (Ext.alloc (Ext.refl _) _)) ‹Ext _ _› | refine Ext.drew ?_ | refine Ext.drewN ?_ _ | refine Ext.alloc ?_ _ | refine Ext.setCell ?_ (by simp <;> omega) _)))) ((go_at_call 66; (with_reducible refine (HZ.out _).mono ?_); rintro e w1 ⟨b, rfl, hb1, hb2, hh, h1⟩; have c1 := h1.cells; have f1 := h1.frees; have y1 := h1.le; have x1 := fun k hk => Nat.lt_of_lt_of_le (n := k) hk h1.le; (try simp only [World.size_drew] at y1 x1 hb1); (try simp only [World.size_alloc] at y1 x1 hb1); (try simp only [World.size_drew] at y1 x1 hb1)))
    all_goals (go_wp2_with fail; go_meet; first
      | exact ⟨w1.heap.size, b, rfl, ⟨cells_new _ _ _, by rw [← HPZ.out]; exact hh.alloc _, And.left ‹Ext W0 _ ∧ _›, by omega, by simp; omega, by omega⟩, by omega⟩
      | exact ⟨W0.heap.size, b, rfl, ⟨early4 (lo := 0) ((((cells_new W0 _ _).ext (Ext.drew (Ext.refl _)))).ext h1), by rw [← HPZ.out]; repeat with_reducible (first | exact hh | refine Has.setOther ?_ (by simp <;> omega) _), And.left ‹Ext W0 _ ∧ _›, by omega, by simp; omega, by omega⟩, by omega⟩)
  case rest =>
    obtain ⟨MB, b, rfl, L0, hMB⟩ := hcut
    have hW : w.heap.size + 1 + 1 + 1 ≤ MB ∧ w.heap.size + 1 + 1 + 1 ≤ b := by have := HSZ.out; have := L0.out.lo; omega
    have HW := Lib.hid hW
    have HMB := Lib.hid hMB
    have TL := T0.out.ext L0.out.ext
    have BL := B0.out.ext L0.out.ext
    have SL := S0.out.ext L0.out.ext
    clear lB q0 q1 lS s1 lT t1 hMB hW v1 g0 g1
    have lB := BL.1
    have q1 := BL.2 1 _ rfl
    have lT := TL.1
    have t1 := TL.2 1 _ rfl
    have lS := SL.1
    have s1 := SL.2 1 _ rfl
    obtain ⟨wl, hwl⟩ : ∃ wl : World, wl = wc := ⟨_, rfl⟩
    subst hwl
    clear TL BL SL
    go_wp2_with fail
    go_region_held3 (fun w' => Ext wl w' ∧ (∀ b o, b < wl.heap.size → w'.cell? ⟨b, o, none⟩ = wl.cell? ⟨b, o, none⟩)) ((refine ext2 ?_; with_reducible repeat (first | exact Ext.refl _ | exact And.left ‹Ext wl _ ∧ _› | refine Ext.drew ?_ | refine Ext.drewN ?_ _))) (fail)
    rw [E3.out]
    have L1 := Lib.hid (L0.out.step (Ext.drew (Ext.refl _)))
    go_wp2_with fail
    clear L0 lB q1 lT t1 lS s1 v2
    generalize wl.drew = W1 at *
    go_loopw [36, 9] (fun z _ wr => ∃ i : Nat, i ≤ R1 ∧ z = .int .i64 i ∧ Hid (Loc W0 wr MB b [.int .i64 P, .int .i64 ((R1 : Int) * (R2 : Int)), .int .i64 D, .slice (some ⟨b, 0, none⟩) N N] (pAt P D l ss ts R1 R2 i))) (fun z _ _ => R1 - (intOf z).toNat)
    case atStart => exact ⟨0, by omega, rfl, L1⟩
    case round =>
      clear L1
      obtain ⟨i, hi, rfl, K⟩ := hrel
      by_cases hlt : i < R1
      · have r0 : i * n2 + n2 ≤ N := by rw [HNQ.out]; exact row_le hlt
        have r1 : (i + 1) * D ≤ n1 := by rw [HN1.out]; exact Nat.mul_le_mul_right D hlt
        have e5 : (i : Int) * (n2 : Int) = ((i * n2 : Nat) : Int) := by simp
        have v4 : IntKind.i64.wrap ((i : Int) * (n2 : Int)) = (i : Int) * (n2 : Int) := IntWalk.i64_in _ ⟨by omega, by omega⟩
        have g3 : 0 ≤ (i : Int) * (n2 : Int) := by omega
        have g4 : (i : Int) * (n2 : Int) ≤ (N : Int) := by omega
        have t2 : ((i : Int) * (n2 : Int)).toNat = i * n2 := by omega
        have HCS := Lib.hid (HBL.out i)
        have HS1 := Lib.hid (HPS.out i hlt)
        have HIV := Lib.hid (HPL.out i hi)
        have HIV2 := Lib.hid (HPL.out (i + 1) hlt)
        have HS2 : Hid (spl (pAt P D l ss ts R1 R2 (i + 1)) (i * n2) (bRows P D l (rowL D ss i) ts R2).flatten = pAt P D l ss ts R1 R2 (i + 1)) := by
          rw [Hid, ← HS1.out]; exact spl_idem _ _ _ (by rw [HIV.out, HCS.out]; exact r0)
        have K3 : Hid (PS W0 wr MB b [.int .i64 P, .int .i64 ((R1 : Int) * (R2 : Int)), .int .i64 D, .slice (some ⟨b, 0, none⟩) N N] N (i * n2) (bRows P D l (rowL D ss i) ts R2).flatten (pAt P D l ss ts R1 R2 (i + 1))) := ⟨_, K.out, HIV.out, HS1.out⟩
        have HK : Hid (i * n2 + n2 ≤ N) := r0
        have HROW := Lib.hid (HRR.out i hlt)
        have hz : n2 = 0 ∨ 0 < n2 := by omega
        have lB := B0.out.1
        have q0 := B0.out.2 0 _ rfl
        have q1 := B0.out.2 1 _ rfl
        have lS := S0.out.1
        have s0' := S0.out.2 0 _ rfl
        have s1 := S0.out.2 1 _ rfl
        have s2 := S0.out.2 2 _ rfl
        have s3 := S0.out.2 3 _ rfl
        have lT := T0.out.1
        have t0' := T0.out.2 0 _ rfl
        have t1' := T0.out.2 1 _ rfl
        have t2' := T0.out.2 2 _ rfl
        have t3' := T0.out.2 3 _ rfl
        have lBr := Nat.lt_of_lt_of_le lB K.out.ext.le
        have lSr := Nat.lt_of_lt_of_le lS K.out.ext.le
        have lTr := Nat.lt_of_lt_of_le lT K.out.ext.le
        have lMB := K.out.box.1
        have m3 := K.out.box.2 3 _ rfl
        have hc1 : ∀ wx, Calls Try.prog 78 #[.agg #[.int .i64 P, .int .i64 R1, .int .i64 D, .slice (some ⟨s0, so, none⟩) n1 n1], .int .i64 i] wx fun e w' => e = .returned (.slice (some ⟨s0, so + i * D, none⟩) D (n1 - i * D)) ∧ Ext wx w' := fun wx => rowOf_impl P R1 D i s0 so n1 wx r1 (by omega) (by omega)
        have HC1 := Lib.hid hc1
        have HBX : Hid (∀ wx, Ext W0 wx → Calls Try.prog 163 #[.pointer (some ⟨B, 0, none⟩), .slice (some ⟨s0, so + i * D, none⟩) D (n1 - i * D), .agg #[.int .i64 P, .int .i64 R2, .int .i64 D, .slice (some ⟨t0, tq, none⟩) n2 n2]] wx fun e w' => ∃ b5, e = .returned (.agg #[.int .i64 P, .int .i64 R2, .int .i64 D, .slice (some ⟨b5, 0, none⟩) n2 n2]) ∧ wx.heap.size ≤ b5 ∧ b5 < w'.heap.size ∧ Has w' b5 (bRows P D l (rowL D ss i) ts R2).flatten ∧ Ext wx w') := fun wx h => bracketsR_impl P D R2 n2 B a0 oa n d s0 (so + i * D) (n1 - i * D) t0 tq l (rowL D ss i) ts wx (B0.out.ext h) hD (by omega) HN2.out HN.out HD.out HD2.out (HT.out.ext (E0.out.trans h)) (reads_row (HSR.out.ext (E0.out.trans h)) HN1.out hlt) (HTR.out.ext (E0.out.trans h)) hp hp2 HRL.out HROW.out HRT.out
        have hfd := run_fieldM
        clear hc1 r1 e5 r0
        rcases hz with hz0 | hz0
        · have HZ0 := Lib.hid hz0
          have hq0 : N = i * n2 := by have := HNQ.out; rw [hz0] at this ⊢; simpa using this
          have hq : (N = i * n2) = True := eq_true hq0
          have hq2 : (i * n2 = N) = True := eq_true hq0.symm
          clear hz0 hq0
          go_wp2_with fail
          go_region_held3 (fun wx => (∀ b o, b < W0.heap.size → wx.cell? ⟨b, o, none⟩ = W0.cell? ⟨b, o, none⟩) ∧ wx.cell? ⟨MB, 3, none⟩ = some (.slice (some ⟨b, 0, none⟩) N N) ∧ PS W0 wx MB b [.int .i64 P, .int .i64 ((R1 : Int) * (R2 : Int)), .int .i64 D, .slice (some ⟨b, 0, none⟩) N N] N (i * n2) (bRows P D l (rowL D ss i) ts R2).flatten (pAt P D l ss ts R1 R2 (i + 1))) (first | assumption | (with_reducible exact ps3 (PS.step (And.right (And.right ‹_ ∧ _ ∧ PS _ _ _ _ _ _ _ _ _›)) ‹Ext _ _›)) | (with_reducible exact ps3 (PS.mk' ‹Loc _ _ _ _ _ _› HIV2.out HS2.out)) | (refine ps3 (PS.step K3.out ?_); with_reducible repeat (first | exact Ext.refl _ | refine Ext.drew ?_))) (first
            | (go_at_call 78; (with_reducible refine (HC1.out _).mono ?_); rintro e w4 ⟨rfl, h4⟩)
            | (go_at_call 163; (with_reducible refine (HBX.out _ (PS.ext (And.right (And.right ‹_ ∧ _ ∧ PS _ _ _ _ _ _ _ _ _›)))).mono ?_); rintro e w5 ⟨b5, rfl, hb5, hb6, k5, h5⟩)
            | ((have hi9 := And.right (And.right ‹_ ∧ _ ∧ PS _ _ _ _ _ _ _ _ _›); have hrd := k5.reads HCS.out; obtain ⟨l0, hJ, hl, he⟩ := hi9; refine step_copyM rfl (.tmp 44) (.tmp 51) rfl _ b (i * n2) (N - i * n2) (N - i * n2) (some ⟨b5, 0, none⟩) n2 n2 rfl rfl l0 _ hJ.has hrd n2 (Nat.min_eq_left (by have := HZ0.out; omega)) (fun h => absurd h (by have := HZ0.out; omega)) (by rw [hl]; exact HK.out) ?_; intro w6 h6 g6; rw [List.take_of_length_le (Nat.le_of_eq HCS.out), he] at h6; have hj6 := hJ.row h6 g6)))
          all_goals
            have KK := Lib.hid hj6
            clear K K3 hj6 g6 h6 hJ
            go_wp2
            exact ⟨⟨i + 1, by omega, by simp, KK⟩, by simp [intOf]; omega⟩
        · have hne : ¬ N = i * n2 := by have := HK.out; omega
          have hne2 : ¬ i * n2 = N := by omega
          go_wp2_with fail
          go_region_held3 (fun wx => (∀ b o, b < W0.heap.size → wx.cell? ⟨b, o, none⟩ = W0.cell? ⟨b, o, none⟩) ∧ wx.cell? ⟨MB, 3, none⟩ = some (.slice (some ⟨b, 0, none⟩) N N) ∧ PS W0 wx MB b [.int .i64 P, .int .i64 ((R1 : Int) * (R2 : Int)), .int .i64 D, .slice (some ⟨b, 0, none⟩) N N] N (i * n2) (bRows P D l (rowL D ss i) ts R2).flatten (pAt P D l ss ts R1 R2 (i + 1))) (first | assumption | (with_reducible exact ps3 (PS.step (And.right (And.right ‹_ ∧ _ ∧ PS _ _ _ _ _ _ _ _ _›)) ‹Ext _ _›)) | (with_reducible exact ps3 (PS.mk' ‹Loc _ _ _ _ _ _› HIV2.out HS2.out)) | (refine ps3 (PS.step K3.out ?_); with_reducible repeat (first | exact Ext.refl _ | refine Ext.drew ?_))) (first
            | (go_at_call 78; (with_reducible refine (HC1.out _).mono ?_); rintro e w4 ⟨rfl, h4⟩)
            | (go_at_call 163; (with_reducible refine (HBX.out _ (PS.ext (And.right (And.right ‹_ ∧ _ ∧ PS _ _ _ _ _ _ _ _ _›)))).mono ?_); rintro e w5 ⟨b5, rfl, hb5, hb6, k5, h5⟩)
            | ((have hi9 := And.right (And.right ‹_ ∧ _ ∧ PS _ _ _ _ _ _ _ _ _›); have hrd := k5.reads HCS.out; obtain ⟨l0, hJ, hl, he⟩ := hi9; refine step_copyM rfl (.tmp 44) (.tmp 51) rfl _ b (i * n2) (N - i * n2) (N - i * n2) (some ⟨b5, 0, none⟩) n2 n2 rfl rfl l0 _ hJ.has hrd n2 (Nat.min_eq_left (by have := HK.out; omega)) (fun _ => rfl) (by rw [hl]; exact HK.out) ?_; intro w6 h6 g6; rw [List.take_of_length_le (Nat.le_of_eq HCS.out), he] at h6; have hj6 := hJ.row h6 g6)))
          all_goals
            have KK := Lib.hid hj6
            clear K K3 hj6 g6 h6 hJ
            go_wp2
            exact ⟨⟨i + 1, by omega, by simp, KK⟩, by simp [intOf]; omega⟩
      · obtain rfl : R1 = i := by omega
        have hfin := K.out.has
        rw [HPE.out] at hfin
        have HF := Lib.hid hfin
        have HE9 := Lib.hid (E0.out.trans K.out.ext)
        have RZ := M0.out.ext K.out.ext
        have hbl := K.out.lt
        have hW := HW.out
        have hle := K.out.ext.le
        have hs9 := HSZ.out
        have lD := K.out.box.1
        have p0 := K.out.box.2 0 _ rfl
        have p1 := K.out.box.2 1 _ rfl
        have p2 := K.out.box.2 2 _ rfl
        have p3 := K.out.box.2 3 _ rfl
        have r0 := RZ.2 0 _ rfl
        have r1 := RZ.2 1 _ rfl
        have r2 := RZ.2 2 _ rfl
        have r3 := RZ.2 3 _ rfl
        have tR := RZ.3
        have lR := RZ.1
        clear K RZ hfin
        go_wp2
        refine bodyPost_ret (v := .agg #[.int .i64 P, .int .i64 ((R1 : Int) * (R2 : Int)), .int .i64 D, .slice (some ⟨b, 0, none⟩) N N]) (by simp [results, Try.results88, go_sem, r0, r1, r2, r3]) rfl ⟨b, rfl, by omega, ?_, ?_, ?_⟩
        · simpa using hbl
        · repeat with_reducible (first | exact HF.out | refine Has.setOther ?_ (by simp <;> omega) _)
        · exact ext4 HE9.out (by omega) _ _ _ _
end Go.Proofs.Ytapaopapgnfdkaa
