/-
  The first row with a number in a column; rows exchanged: the program's.
-/
import Derived.Test.YtgmipolgnpjmnaaSol
import Derived.BigRegion
namespace Go.Proofs.Ytgmipolgnpjmnaa
open Go.RowKit
set_option linter.unusedVariables false

/-- What 'nonzeroRow' answers. -/
def nzR (xs : List Int) (C c R k : Nat) : Int := if fnz xs C c R k = R then -1 else (fnz xs C c R k : Int)

set_option maxHeartbeats 800000 in
theorem nonzeroRow_impl (P : Int) (R C c k b0 o0 n d : Nat) (xs : List Int) (w : World) (hr : Reads w (some ⟨b0, o0, none⟩) n xs) (hn : n = R * C) (hb : n ≤ 1048576) (hc : c < C) (hk : k ≤ R) (hR : R ≤ 1048576) :
    Calls Try.prog 149 #[.agg #[.int .i64 P, .int .i64 R, .int .i64 C, .slice (some ⟨b0, o0, none⟩) n d], .int .i64 k, .int .i64 c] w fun e w' => e = .returned (.int .i64 (nzR xs C c R k)) ∧ Ext w w' := by
  have HR := Lib.hid hr
  have HN := Lib.hid hn
  clear hr hn
  have A := cells_new w #[.int .i64 P, .int .i64 R, .int .i64 C, .slice (some ⟨b0, o0, none⟩) n d] 36
  have hE : Hid (Ext w (w.alloc (.cells #[.int .i64 P, .int .i64 R, .int .i64 C, .slice (some ⟨b0, o0, none⟩) n d] 36))) := (Ext.refl w).alloc _
  have HA := Lib.hid A
  clear A
  go_enter Try.func149, Try.ntmps149
  go_wp2
  go_loop [7] (fun z => ∃ i : Nat, k ≤ i ∧ i ≤ R ∧ z = .int .i64 i ∧ Hid (fnz xs C c R k = fnz xs C c R i)) (fun z => R - (intOf z).toNat)
  case atStart => exact ⟨k, by omega, hk, rfl, rfl⟩
  case round =>
    obtain ⟨i, hi, hi2, rfl, hf⟩ := hrel
    by_cases hlt : i < R
    · have hpl := place_lt hlt hc
      have hcell : (w.alloc (.cells #[.int .i64 P, .int .i64 R, .int .i64 C, .slice (some ⟨b0, o0, none⟩) n d] 36)).cell? ⟨b0, o0 + (i * C + c), none⟩ = some (.int .i64 (gi xs (i * C + c))) := by
        rcases (HR.out.ext hE.out).2 with h | ⟨b', off', h, hb', hc'⟩
        · have := HN.out; omega
        simp only [Option.some.injEq, Addr.mk.injEq, and_true] at h
        obtain ⟨rfl, rfl⟩ := h
        exact hc' _ (by rw [HN.out]; exact hpl)
      have e1 : (i : Int) * (C : Int) = ((i * C : Nat) : Int) := by simp
      have g1 : 0 ≤ (i : Int) * (C : Int) := by rw [e1]; omega
      have g2 : (i : Int) * (C : Int) + (c : Int) < (n : Int) := by rw [e1, HN.out]; omega
      have g3 : 0 ≤ (i : Int) * (C : Int) + (c : Int) := by omega
      have hz := @fnz_zero xs C c R i hlt
      have hh := @fnz_here xs C c R i hlt
      have HZ := Lib.hid hz
      have HH := Lib.hid hh
      clear e1 hpl hz hh
      by_cases h0 : gi xs (i * C + c) = 0
      · have hb0 : (gi xs (i * C + c) != 0) = false := by simpa using h0
        have HF : Hid (fnz xs C c R k = fnz xs C c R (i + 1)) := hf.out.trans (HZ.out h0)
        clear h0
        go_wp2
        exact ⟨⟨i + 1, by omega, by omega, by simp, HF⟩, by simp [intOf]; omega⟩
      · have hb0 : (gi xs (i * C + c) != 0) = true := by simpa using h0
        have HF : Hid (nzR xs C c R k = (i : Int)) := by rw [Hid, nzR, hf.out, HH.out h0, if_neg (by omega)]
        clear h0
        go_wp2
        go_ret
        exact ⟨ret_int HF.out.symm, hE.out⟩
    · obtain rfl : i = R := by omega
      have HF : Hid (nzR xs C c i k = -1) := by rw [Hid, nzR, hf.out, fnz_end (Nat.le_refl _), if_pos rfl]
      go_wp2
      go_ret
      exact ⟨ret_int HF.out.symm, hE.out⟩
end Go.Proofs.Ytgmipolgnpjmnaa
