/-
  The size of a list of matrices.
-/
import Derived.Test.YtnikfalpjieibaaMod0
namespace Go.Proofs.Ytnikfalpjieibaa
theorem hm_len {w : World} {g k : Nat} {ms : List Mat} (h : MatsI w g k ms) : ms.length = k := h.1
/-- The size of the matrices. -/
def szM (ms : List Mat) : Nat := (mt ms 0).r.toNat
theorem ModP.szM {P : Int} {D S n : Nat} {l : List Int} {ms : List Mat} (h : ModP P D S n l ms) : szM ms = S := by
  rw [Go.Proofs.Ytnikfalpjieibaa.szM, h.at_ 0 h.pos]; simp
end Go.Proofs.Ytnikfalpjieibaa
