/-
  Kernels, in the program.
-/
import Derived.Test.YtnikfalpjieibaaRi
import Derived.Test.YtnikfalpjieibaaRs
import Derived.Deep.RegionHeld3
import Derived.Test.YtnikfalpjieibaaR1
import Derived.Test.YtnikfalpjieibaaAd
namespace Go.Proofs.Ytnikfalpjieibaa
open Go.ChangeShapes Go.WideShapes Go.ChangeAt Go.RowKit
set_option linter.unusedVariables false

def FreePost (w : World) (pv : List Nat) (n : Nat) (e : Ending) (w' : World) : Prop := ∃ a cap, e = .returned (.slice a (freeTo pv n).length cap) ∧ Own w' w.heap.size w'.heap.size a (freeTo pv n).length (pvI (freeTo pv n)) ∧ Ext w w'
theorem freeTo_le (pv : List Nat) (c : Nat) : (freeTo pv c).length ≤ c := by
  induction c with
  | zero => simp [freeTo]
  | succ c ih =>
    rw [freeTo]; split
    · omega
    · rw [List.length_append, List.length_singleton]; omega
theorem redTo_asc {P : Int} {R C : Nat} {xs : List Int} (c : Nat) : (redTo P R C xs c).pv.Pairwise (· < ·) := by
  induction c with
  | zero => simp [redTo]
  | succ c ih =>
    rw [redTo, colS]; split
    · exact ih
    · have h := (redTo_pv (P := P) (R := R) (C := C) (xs := xs) c).2.2
      rw [colP, List.pairwise_append]
      exact ⟨ih, by simp, fun x hx y hy => by simp at hy; subst hy; exact h x hx⟩
theorem freeTo_lt (pv : List Nat) (c : Nat) : ∀ x, x ∈ freeTo pv c → x < c := by
  induction c with
  | zero => simp [freeTo]
  | succ c ih =>
    intro x hx
    rw [freeTo] at hx
    split at hx
    · have := ih x hx; omega
    · rcases List.mem_append.1 hx with h | h
      · have := ih x h; omega
      · simp at h; omega
/-! The rows of a kernel, one behind the other. -/
def kRows (P : Int) (C : Nat) (m : List Int) (pv : List Nat) (c : Nat) : List (List Int) := (freeTo pv c).map fun q => krTo P C m pv q pv.length
theorem kRows_flat (P : Int) (C : Nat) (m : List Int) (pv : List Nat) (c : Nat) : (kRows P C m pv c).flatten = kerTo P C m pv c := by
  induction c with
  | zero => rfl
  | succ c ih =>
    rw [kRows, freeTo, kerTo]
    split
    · exact ih
    · rw [List.map_append, List.flatten_append, ← kRows, ih]; simp
theorem kRows_length (P : Int) (C : Nat) (m : List Int) (pv : List Nat) (c : Nat) : (kRows P C m pv c).length = (freeTo pv c).length := by simp [kRows]
theorem flat_length {C : Nat} {rs : List (List Int)} (h : ∀ r, r ∈ rs → r.length = C) (i : Nat) (hi : i ≤ rs.length) : (rs.take i).flatten.length = i * C := by
  induction i with
  | zero => simp
  | succ i ih =>
    have e : i < rs.length := by omega
    rw [flatten_snoc rs i e, List.length_append, ih (by omega), Nat.add_mul, Nat.one_mul]
    congr 1
    refine h _ ?_
    simp [row, List.getD_eq_getElem?_getD, e]
theorem row_kRows {P : Int} {C : Nat} {m : List Int} {pv : List Nat} {c i : Nat} (hi : i < (freeTo pv c).length) : row (kRows P C m pv c) i = krTo P C m pv ((freeTo pv c).getD i 0) pv.length := by
  simp [row, kRows, List.getD_eq_getElem?_getD, hi]
theorem set_mid (A B Z : List Int) (q : Nat) (v : Int) (hq : q < B.length) (o : Nat) (ho : A.length = o) : (A ++ (B ++ Z)).set (o + q) v = A ++ (B.set q v ++ Z) := by
  subst ho
  rw [List.set_append_right _ _ (by omega), Nat.add_sub_cancel_left, List.set_append_left _ _ hq]
/-- k with i rows done, the next one at r. -/
def kSt (P : Int) (C : Nat) (m : List Int) (pv : List Nat) (n : Nat) (i : Nat) (B : List Int) : List Int := ((kRows P C m pv n).take i).flatten ++ (B ++ List.replicate (((freeTo pv n).length - i - 1) * C) 0)
def kAt (P : Int) (C : Nat) (m : List Int) (pv : List Nat) (n : Nat) (i : Nat) : List Int := ((kRows P C m pv n).take i).flatten ++ List.replicate (((freeTo pv n).length - i) * C) 0
section
variable {P : Int} {C : Nat} {m : List Int} {pv : List Nat} {n : Nat}
theorem kRow_len : ∀ r, r ∈ kRows P C m pv n → r.length = C := by
  intro r hr
  simp only [kRows, List.mem_map] at hr
  obtain ⟨q, _, rfl⟩ := hr
  exact krTo_length _ _
theorem kTake_len {i : Nat} (hi : i ≤ (freeTo pv n).length) : ((kRows P C m pv n).take i).flatten.length = i * C := flat_length kRow_len i (by rw [kRows_length]; exact hi)
theorem kAt_zero : kAt P C m pv n 0 = List.replicate ((freeTo pv n).length * C) 0 := by simp [kAt]
theorem kAt_len {i : Nat} (hi : i ≤ (freeTo pv n).length) : (kAt P C m pv n i).length = (freeTo pv n).length * C := by
  rw [kAt, List.length_append, kTake_len hi, List.length_replicate, ← Nat.add_mul]; congr 1; omega
theorem kSt_len {i : Nat} (hi : i < (freeTo pv n).length) {B : List Int} (hB : B.length = C) : (kSt P C m pv n i B).length = (freeTo pv n).length * C := by
  rw [kSt, List.length_append, kTake_len (by omega), List.length_append, hB, List.length_replicate]
  have : C = 1 * C := (Nat.one_mul C).symm
  calc i * C + (C + ((freeTo pv n).length - i - 1) * C) = i * C + 1 * C + ((freeTo pv n).length - i - 1) * C := by omega
    _ = (i + 1 + ((freeTo pv n).length - i - 1)) * C := by rw [← Nat.add_mul, ← Nat.add_mul]
    _ = _ := by congr 1; omega
theorem kAt_open {i : Nat} (hi : i < (freeTo pv n).length) : kAt P C m pv n i = kSt P C m pv n i (List.replicate C 0) := by
  rw [kAt, kSt, List.replicate_append_replicate]
  congr 2
  have : ((freeTo pv n).length - i) = 1 + ((freeTo pv n).length - i - 1) := by omega
  rw [this, Nat.add_mul, Nat.one_mul]; congr 2; omega
theorem kSt_set {i : Nat} (hi : i < (freeTo pv n).length) {B : List Int} {q : Nat} (hq : q < B.length) (v : Int) : (kSt P C m pv n i B).set (i * C + q) v = kSt P C m pv n i (B.set q v) :=
  set_mid _ _ _ _ _ hq _ (kTake_len (by omega))
theorem kSt_close {i : Nat} (hi : i < (freeTo pv n).length) : kSt P C m pv n i (krTo P C m pv ((freeTo pv n).getD i 0) pv.length) = kAt P C m pv n (i + 1) := by
  rw [kSt, kAt, flatten_snoc _ _ (by rw [kRows_length]; exact hi), row_kRows hi, List.append_assoc]
  congr 3
theorem kAt_end : kAt P C m pv n (freeTo pv n).length = kerTo P C m pv n := by
  rw [kAt, Nat.sub_self, Nat.zero_mul, List.replicate_zero, List.append_nil, ← kRows_length P C m pv n, List.take_length, kRows_flat]
end
/-- The kernel's dimension and its rows. -/
def kerN (P : Int) (R C : Nat) (xs : List Int) : Nat := (redM P (nullN P R C xs) C (kerL P R C xs)).pv.length
def kerS (P : Int) (R C : Nat) (xs : List Int) : List Int := spanL P (nullN P R C xs) C (kerL P R C xs)

end Go.Proofs.Ytnikfalpjieibaa

/-
  Kernels, in the specification.
-/
namespace Go.Proofs.Ytnikfalpjieibaa
open Go.ChangeShapes Go.WideShapes Go.ChangeAt Go.RowKit
set_option linter.unusedVariables false
theorem gi_zeros (n k : Nat) : gi (List.replicate n (0 : Int)) k = 0 := by
  simp only [gi, List.getD_eq_getElem?_getD, List.getElem?_replicate]; split <;> rfl

end Go.Proofs.Ytnikfalpjieibaa
