/-
  Modules: plain mathematics.
-/
import Derived.Test.YtnikfalpjieibaaMtA
import Derived.Test.YtnikfalpjieibaaAdj
import Derived.Test.YtnikfalpjieibaaComm2
namespace Go.Proofs.Ytnikfalpjieibaa
open Go.ChangeShapes Go.WideShapes Go.ChangeAt Go.RowKit
set_option linter.unusedVariables false
set_option linter.unusedSimpArgs false

/-- The sum of the first k matrices, each as often as xs says. -/
def smK (P : Int) (N : Nat) (ms : List Mat) (xs : List Int) (k : Nat) : List Int := (List.range N).map fun q => (sumN k fun c => gi xs c * gi (mt ms c).d q) % P
section
variable {P : Int} {N : Nat} {ms : List Mat} {xs : List Int}
theorem smK_length (k : Nat) : (smK P N ms xs k).length = N := by simp [smK]
theorem gi_smK (k : Nat) {q : Nat} (hq : q < N) : gi (smK P N ms xs k) q = (sumN k fun c => gi xs c * gi (mt ms c).d q) % P := gi_map N _ hq
theorem smK_zero : smK P N ms xs 0 = List.replicate N 0 := by
  refine ext_gi (by rw [smK_length, List.length_replicate]) (fun q hq => ?_)
  rw [smK_length] at hq
  rw [gi_smK 0 hq, gi_repl]; simp [sumN]
theorem smK_res (hp : 0 < P) (k : Nat) : Res (smK P N ms xs k) P := fun q hq => by
  rw [smK_length] at hq
  rw [gi_smK k hq]
  exact ⟨Int.emod_nonneg _ (by omega), Int.emod_lt_of_pos _ hp⟩
theorem smK_succ (k : Nat) : axL P (gi xs k) (mt ms k).d 0 0 N (smK P N ms xs k) = smK P N ms xs (k + 1) := by
  refine ext_gi (by rw [axL_length, smK_length, smK_length]) (fun q hq => ?_)
  rw [axL_length, smK_length] at hq
  by_cases h : gi xs k = 0
  · rw [axL, if_pos h, gi_smK k hq, gi_smK (k + 1) hq, sumN, h]; simp
  · rw [axL, if_neg h]
    have h1 := gi_axTo_in P (gi xs k) 0 0 N (smK P N ms xs k) (mt ms k).d (by rw [smK_length]; omega) q N hq (Nat.le_refl _)
    simp only [Nat.zero_add] at h1
    rw [h1, gi_smK k hq, gi_smK (k + 1) hq, sumN]
    exact Int.emod_add_emod _ _ _
theorem smK_skip {k : Nat} (h : gi xs k = 0) : smK P N ms xs (k + 1) = smK P N ms xs k := by
  rw [← smK_succ, axL, if_pos h]
theorem smK_add (k : Nat) (hl : (mt ms k).d.length = N) (h0 : 0 ≤ gi xs k) (h1 : gi xs k < P) : addL P 1 (smK P N ms xs k) (scaleL P (gi xs k % P) (mt ms k).d) = smK P N ms xs (k + 1) := by
  refine ext_gi (by rw [addL_length, smK_length, smK_length]) (fun q hq => ?_)
  rw [addL_length, smK_length] at hq
  rw [gi_addL _ _ _ _ _ (by rw [smK_length]; exact hq), gi_scaleL _ _ _ _ (by rw [hl]; exact hq), gi_smK k hq, gi_smK (k + 1) hq, sumN, Int.emod_eq_of_lt h0 h1, Int.one_mul, Int.mul_comm (gi (mt ms k).d q)]
  exact (Int.add_emod _ _ _).symm
end
/-- Square matrices as large as the first one, modulo the same prime. -/
def SqI (ms : List Mat) (i : Nat) : Prop := mok (mt ms i).p (mt ms i).r (mt ms i).c (mt ms i).d = true ∧ (mt ms i).r = (mt ms i).c ∧ (mt ms i).p = (mt ms 0).p ∧ (mt ms i).r = (mt ms 0).r
noncomputable def sqsB (ms : List Mat) : Bool := @decide (∀ i, i < ms.length → SqI ms i) (Classical.propDecidable _)
theorem sqsB_true {ms : List Mat} (h : ∀ i, i < ms.length → SqI ms i) : sqsB ms = true := by simp only [sqsB, decide_eq_true_eq]; exact h
theorem sqsB_false {ms : List Mat} {i : Nat} (hi : i < ms.length) (h : ¬ SqI ms i) : sqsB ms = false := by simp only [sqsB, decide_eq_false_iff_not]; exact fun h' => h (h' i hi)
theorem sqsB_iff {ms : List Mat} : sqsB ms = true ↔ ∀ i, i < ms.length → SqI ms i := by simp only [sqsB, decide_eq_true_eq]
/-- The law of a module: brackets of basis elements, in one order. -/
def LawI (P : Int) (D S : Nat) (l : List Int) (ms : List Mat) (i j : Nat) : Prop := smK P (S * S) ms (rowT D l i j) D = commL P (mt ms j).d (mt ms i).d S
/-- The matrices of a module. -/
structure ModP (P : Int) (D S n : Nat) (l : List Int) (ms : List Mat) : Prop where
  alg : AlgP P D n l
  pos : 0 < D
  cnt : ms.length = D
  sz : S ≤ 30
  mok : ∀ i, i < D → mok P S S (mt ms i).d = true
  at_ : ∀ i, i < D → mt ms i = ⟨P, S, S, (mt ms i).d⟩
  law : ∀ i j, j < i → i < D → LawI P D S l ms i j
noncomputable def modB (P D : Int) (l : List Int) (ms : List Mat) : Bool := @decide (algB P D l = true ∧ ∃ d S : Nat, D = d ∧ ModP P d S l.length l ms) (Classical.propDecidable _)
theorem modB_iff {P D : Int} {l : List Int} {ms : List Mat} : modB P D l ms = true ↔ algB P D l = true ∧ ∃ d S : Nat, D = d ∧ ModP P d S l.length l ms := by simp only [modB, decide_eq_true_eq]
theorem modB_false {P D : Int} {l : List Int} {ms : List Mat} (h : ¬ (algB P D l = true ∧ ∃ d S : Nat, D = d ∧ ModP P d S l.length l ms)) : modB P D l ms = false := by simp only [modB, decide_eq_false_iff_not]; exact h
theorem mod_noalg {P D : Int} {l : List Int} {ms : List Mat} (h : algB P D l = false) : modB P D l ms = false := modB_false (fun h' => by rw [h] at h'; exact absurd h'.1 (by simp))
theorem mod_nodim {P D : Int} {l : List Int} {ms : List Mat} (h : D = 0) : modB P D l ms = false := modB_false (fun h' => by
  obtain ⟨_, d, S, e, hm⟩ := h'
  have := hm.pos; omega)
theorem mod_nocnt {P D : Int} {l : List Int} {ms : List Mat} (h : ¬ (ms.length : Int) = D) : modB P D l ms = false := modB_false (fun h' => by
  obtain ⟨_, d, S, e, hm⟩ := h'
  have := hm.cnt; omega)
/-- What the specification asks of the matrix i. -/
def SpI (P : Int) (ms : List Mat) (i : Nat) : Prop := mok (mt ms i).p (mt ms i).r (mt ms i).c (mt ms i).d = true ∧ (mt ms i).p = P ∧ (mt ms i).r = (mt ms i).c ∧ (mt ms i).r = (mt ms 0).r ∧ (mt ms i).r ≤ 30
theorem ModP.spI {P : Int} {D S n : Nat} {l : List Int} {ms : List Mat} (h : ModP P D S n l ms) {i : Nat} (hi : i < D) : SpI P ms i := by
  have h0 := h.at_ 0 h.pos
  have h1 := h.at_ i hi
  have h2 := h.mok i hi
  have h3 := h.sz
  unfold SpI
  rw [h0, h1]
  exact ⟨h2, rfl, rfl, rfl, by show ((S : Nat) : Int) ≤ 30; omega⟩
theorem mod_nomat {P : Int} {D : Nat} {l : List Int} {ms : List Mat} {i : Nat} (hi : i < D) (h : ¬ SpI P ms i) : modB P D l ms = false := modB_false (fun h' => by
  obtain ⟨_, d, S, e, hm⟩ := h'
  obtain rfl : D = d := by omega
  exact h (hm.spI hi))
theorem spI_mk {P : Int} {D : Nat} {l : List Int} {ms : List Mat} (ha : algB P D l = true) (h0 : 0 < D) (hc : ms.length = D) (h : ∀ i, i < D → SpI P ms i) : ∃ S : Nat, S ≤ 30 ∧ (∀ i, i < D → mok P S S (mt ms i).d = true ∧ mt ms i = ⟨P, S, S, (mt ms i).d⟩) := by
  obtain ⟨g1, g2, g3, g4, g5⟩ := h 0 h0
  have hb := inB_iff.1 (mok_iff.1 g1).2.1
  obtain ⟨S, hS⟩ := Int.eq_ofNat_of_zero_le hb.1
  refine ⟨S, by omega, fun i hi => ?_⟩
  obtain ⟨e1, e2, e3, e4, e5⟩ := h i hi
  rw [e2, ← e3, e4, hS] at e1
  refine ⟨e1, ?_⟩
  rcases hm : mt ms i with ⟨p, r, c, d⟩
  rw [hm] at e2 e3 e4
  dsimp only at e2 e3 e4
  rw [e2, ← e3, e4, hS]
theorem mod_yes {P : Int} {D S n : Nat} {l : List Int} {ms : List Mat} (hn : l.length = n) (ha : algB P D l = true) (h0 : 0 < D) (hc : ms.length = D) (hS : S ≤ 30) (hm : ∀ i, i < D → mok P S S (mt ms i).d = true ∧ mt ms i = ⟨P, S, S, (mt ms i).d⟩) (hl : ∀ i j, j < i → i < D → LawI P D S l ms i j) : modB P D l ms = true ∧ ModP P D S n l ms := by
  obtain ⟨d, e, hA⟩ := algB_parts ha hn
  obtain rfl : D = d := by omega
  have h : ModP P D S n l ms := ⟨hA, h0, hc, hS, fun i hi => (hm i hi).1, fun i hi => (hm i hi).2, hl⟩
  exact ⟨modB_iff.2 ⟨ha, D, S, rfl, by rw [hn]; exact h⟩, h⟩
theorem mod_nolaw {P : Int} {D S : Nat} {l : List Int} {ms : List Mat} {i j : Nat} (h0 : 0 < D) (hm : mt ms 0 = ⟨P, S, S, (mt ms 0).d⟩) (hj : j < i) (hi : i < D) (h : ¬ LawI P D S l ms i j) : modB P D l ms = false := modB_false (fun h' => by
  obtain ⟨_, d, S', e, h''⟩ := h'
  obtain rfl : D = d := by omega
  have h1 := h''.at_ 0 h0
  rw [hm] at h1
  have : (S : Int) = S' := by injection h1
  obtain rfl : S = S' := by omega
  exact h (h''.law i j hj hi))
theorem mod_parts {P D : Int} {l : List Int} {ms : List Mat} {n : Nat} (h : modB P D l ms = true) (hn : l.length = n) : ∃ d S : Nat, D = d ∧ algB P d l = true ∧ ModP P d S n l ms := by
  obtain ⟨h1, d, S, rfl, h2⟩ := modB_iff.1 h
  exact ⟨d, S, rfl, h1, by rw [← hn]; exact h2⟩
theorem ModP.len {P : Int} {D S n : Nat} {l : List Int} {ms : List Mat} (h : ModP P D S n l ms) {i : Nat} (hi : i < D) : (mt ms i).d.length = S * S := by
  have := mok_len (h.mok i hi)
  rw [← Int.natCast_mul] at this
  omega
theorem ModP.res {P : Int} {D S n : Nat} {l : List Int} {ms : List Mat} (h : ModP P D S n l ms) {i : Nat} (hi : i < D) : Res (mt ms i).d P := mok_res (h.mok i hi)
/-- The program's way to ask the same. -/
theorem sq_spI {P : Int} {ms : List Mat} (h : ∀ i, i < ms.length → SqI ms i) (h0 : 0 < ms.length) (hp : (mt ms 0).p = P) (hs : (mt ms 0).r ≤ 30) (i : Nat) (hi : i < ms.length) : SpI P ms i := by
  obtain ⟨e1, e2, e3, e4⟩ := h i hi
  exact ⟨e1, by rw [e3, hp], e2, e4, by rw [e4]; exact hs⟩
theorem spI_sq {P : Int} {ms : List Mat} (h : ∀ i, i < ms.length → SpI P ms i) (i : Nat) (hi : i < ms.length) : SqI ms i := by
  obtain ⟨e1, e2, e3, e4, e5⟩ := h i hi
  obtain ⟨f1, f2, _⟩ := h 0 (by omega)
  exact ⟨e1, e3, by rw [e2, f2], e4⟩
theorem mod_nosq {P D : Int} {l : List Int} {ms : List Mat} (h : sqsB ms = false) (hl : (ms.length : Int) = D) : modB P D l ms = false := modB_false (fun h' => by
  obtain ⟨_, d, S, e, hm⟩ := h'
  have : sqsB ms = true := sqsB_true (spI_sq (fun i hi => hm.spI (by have := hm.cnt; omega)))
  rw [h] at this; exact absurd this (by simp))
theorem mod_noprime {P D : Int} {l : List Int} {ms : List Mat} (h : ¬ (mt ms 0).p = P) : modB P D l ms = false := modB_false (fun h' => by
  obtain ⟨_, d, S, e, hm⟩ := h'
  exact h (hm.spI hm.pos).2.1)
theorem mod_nosize {P D : Int} {l : List Int} {ms : List Mat} (h : ¬ (mt ms 0).r ≤ 30) : modB P D l ms = false := modB_false (fun h' => by
  obtain ⟨_, d, S, e, hm⟩ := h'
  exact h (hm.spI hm.pos).2.2.2.2)
end Go.Proofs.Ytnikfalpjieibaa
