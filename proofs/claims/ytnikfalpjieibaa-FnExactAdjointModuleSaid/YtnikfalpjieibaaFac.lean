/-
  Lists of matrices: AdjointModule, its closure.
-/
import Derived.Test.YtnikfalpjieibaaMs1
import Derived.Test.YtnikfalpjieibaaFea
import Derived.Test.YtnikfalpjieibaaSp
import Derived.Test.YtnikfalpjieibaaAdj
import Derived.Test.YtnikfalpjieibaaRi
namespace Go.Proofs.Ytnikfalpjieibaa
open Go.ChangeShapes Go.WideShapes Go.ChangeAt Go.RowKit
set_option linter.unusedVariables false
set_option linter.unusedSimpArgs false

set_option maxRecDepth 100000 in
set_option maxHeartbeats 3200000 in
theorem adjointModule_clo (P : Int) (D BL F0 a0 oa n i : Nat) (l : List Int) (w : World) (hf : Cells w F0 [.pointer (some ⟨BL, 0, none⟩)]) (hb : Cells w BL [.int .i64 P, .int .i64 D, .slice (some ⟨a0, oa, none⟩) n n]) (hT : Reads w (some ⟨a0, oa, none⟩) n l) (hD : D ≤ 28) (hn : n = D * D * D) (hi : i < D) :
    Calls Try.prog 63 #[.int .i64 i, .pointer (some ⟨F0, 0, none⟩)] w fun e w' => ∃ b, e = .returned (.agg #[.int .i64 P, .int .i64 D, .int .i64 D, .slice (some ⟨b, 0, none⟩) (D * D) (D * D)]) ∧ Own w' w.heap.size w'.heap.size (some ⟨b, 0, none⟩) (D * D) (rowL (D * D) l i) ∧ Ext w w' := by
  have hdd : D * D ≤ 784 := Nat.mul_le_mul hD hD
  have hn3 : D * D * D ≤ 21952 := Nat.mul_le_mul hdd hD
  have hmx : n ≤ maxLen := by unfold maxLen; omega
  have hnn : n = D * (D * D) := by rw [hn, Nat.mul_assoc]
  have R0 := Lib.hid (cells_new w #[.int .i64 0, .int .i64 0, .int .i64 0, .slice none 0 0] 37)
  have E0 := Lib.hid ((Ext.refl w).alloc (.cells #[.int .i64 0, .int .i64 0, .int .i64 0, .slice none 0 0] 37))
  have HF := hf.ext E0.out
  have lF := HF.1
  have qF := HF.2 0 _ rfl
  have HB := Lib.hid (hb.ext E0.out)
  have HRD := Lib.hid (reads_row hT hnn hi)
  have HRL : Hid ((rowL (D * D) l i).length = D * D) := rowL_length (by rw [hT.1, hnn]) hi
  have HN := Lib.hid hn
  clear hf hb HF hT hnn hn hn3
  go_enter Try.func63, Try.ntmps63
  go_wp2_with fail
  refine (adjointTo_impl P D BL a0 oa n n i _ HB.out hD HN.out (Nat.le_refl _) hmx hi).mono ?_
  rintro e w1 ⟨rfl, h1⟩
  clear lF qF
  go_wp2_with fail
  refine (copyMatrix_impl P D D (D * D) (n - i * (D * D)) (some ⟨a0, oa + i * (D * D), none⟩) (rowL (D * D) l i) _ (HRD.out.ext (E0.out.trans h1)) rfl (by omega)).mono ?_
  rintro e w2 ⟨b, rfl, hb1, hb2, hh, h2⟩
  have X2 := Lib.hid ((E0.out.trans h1).trans h2)
  have M1 := (R0.out.ext h1).ext h2
  have lN := M1.1
  have f0 := M1.2 0 _ rfl
  have f1 := M1.2 1 _ rfl
  have f2 := M1.2 2 _ rfl
  have f3 := M1.2 3 _ rfl
  have tN := M1.3
  have hbw : w.heap.size + 1 ≤ b := by have := (R0.out.ext h1).1; omega
  have HH := Lib.hid hh
  clear M1 h1 h2 hh
  go_wp2
  refine bodyPost_ret (v := .agg #[.int .i64 P, .int .i64 D, .int .i64 D, .slice (some ⟨b, 0, none⟩) (D * D) (D * D)]) (by simp [results, Try.results63, go_sem, f0, f1, f2, f3]) rfl ⟨b, rfl, ?_, ext4 X2.out (Nat.le_refl _) _ _ _ _⟩
  exact (own4 ((HH.out.own (lo := w.heap.size + 1) hbw hb2 HRL.out)) (by omega) _ _ _ _).mono (by omega) (by simp)
end Go.Proofs.Ytnikfalpjieibaa
