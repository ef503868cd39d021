/-
  Lists of small numbers as bits, with the sign of the exchange: setOf of the program.
-/
import Derived.Test.YtapaopapgnfdkaaBits
namespace Go.Proofs.Ytapaopapgnfdkaa
open Go.ChangeShapes Go.WideShapes Go.ChangeAt Go.RowKit
set_option linter.unusedVariables false
set_option linter.unusedSimpArgs false

/-- The bits and the sign after q numbers; nothing if one of them occurs twice. -/
def setSt (xs : List Int) : Nat → Option (Nat × Int)
  | 0 => some (0, 1)
  | q + 1 => match setSt xs q with
    | none => none
    | some (s, g) => if s / 2 ^ (gi xs q).toNat % 2 = 1 then none else some (s + 2 ^ (gi xs q).toNat, g * (1 - 2 * (popN 7 (s / 2 ^ (gi xs q).toNat) % 2 : Nat)))
def setL (xs : List Int) : Nat × Int := (setSt xs xs.length).getD (0, 0)
theorem setSt_none {xs : List Int} {q : Nat} (h : setSt xs q = none) : ∀ m, setSt xs (q + m) = none
  | 0 => h
  | m + 1 => by rw [← Nat.add_assoc, setSt, setSt_none h m]
theorem bit_and : ∀ s : Fin 128, ∀ b : Fin 7, bits BinOp.and IntKind.i64 ((s.val : Int) / 2 ^ b.val) 1 = ((s.val / 2 ^ b.val % 2 : Nat) : Int) := by decide +kernel
theorem bit_or : ∀ s : Fin 128, ∀ b : Fin 7, s.val / 2 ^ b.val % 2 ≠ 1 → bits BinOp.or IntKind.i64 (s.val : Int) (2 ^ b.val) = ((s.val + 2 ^ b.val : Nat) : Int) := by decide +kernel
theorem bit_lt : ∀ s : Fin 128, ∀ b : Fin 7, s.val / 2 ^ b.val % 2 ≠ 1 → s.val + 2 ^ b.val < 128 := by decide +kernel
theorem setSt_bd {xs : List Int} (hx : ∀ q, q < xs.length → 0 ≤ gi xs q ∧ gi xs q < 7) (q : Nat) (hq : q ≤ xs.length) (s : Nat) (g : Int) (h : setSt xs q = some (s, g)) : s < 128 ∧ (g = 1 ∨ g = -1) := by
  induction q generalizing s g with
  | zero => simp only [setSt, Option.some.injEq, Prod.mk.injEq] at h; omega
  | succ q ih =>
    rw [setSt] at h
    rcases h1 : setSt xs q with _ | ⟨s1, g1⟩
    · rw [h1] at h; cases h
    · rw [h1] at h
      simp only at h
      have h2 := ih (by omega) s1 g1 h1
      have h3 := hx q (by omega)
      split at h
      · cases h
      · next h4 =>
        simp only [Option.some.injEq, Prod.mk.injEq] at h
        obtain ⟨rfl, rfl⟩ := h
        refine ⟨bit_lt ⟨s1, h2.1⟩ ⟨(gi xs q).toNat, by omega⟩ h4, ?_⟩
        rcases Nat.mod_two_eq_zero_or_one (popN 7 (s1 / 2 ^ (gi xs q).toNat)) with e | e <;> rw [e] <;> rcases h2.2 with e2 | e2 <;> rw [e2] <;> simp
set_option maxRecDepth 100000 in
set_option maxHeartbeats 3200000 in
theorem setOf_impl (a : Option Addr) (n c : Nat) (xs : List Int) (w : World) (hr : Reads w a n xs) (hn : n ≤ 7) (hx : ∀ q, q < n → 0 ≤ gi xs q ∧ gi xs q < 7) :
    Calls Try.prog 226 #[.slice a n c] w fun e w' => e = .returned (.tuple #[.int .i64 ((setL xs).1 : Nat), .int .i64 (setL xs).2]) ∧ Ext w w' := by
  have HR := Lib.hid hr
  have HX := Lib.hid hx
  have hlen : Hid (xs.length = n) := hr.1
  have HB : Hid (∀ q s g, q ≤ n → setSt xs q = some (s, g) → s < 128 ∧ (g = 1 ∨ g = -1)) := fun q s g h h2 => setSt_bd (by rw [hlen.out]; exact hx) q (by rw [hlen.out]; exact h) s g h2
  clear hr hx
  go_enter Try.func226, Try.ntmps226
  go_wp2_with fail
  go_loopw [10, 7, 4, 5] (fun z _ st sg wr => ∃ (q s : Nat) (g : Int), q ≤ n ∧ z = .int .i64 q ∧ st = .int .i64 s ∧ sg = .int .i64 g ∧ Hid (setSt xs q = some (s, g)) ∧ Hid (Ext w wr)) (fun z _ _ _ _ => n - (intOf z).toNat)
  case atStart => exact ⟨0, 0, 1, by omega, rfl, rfl, rfl, rfl, Lib.hid (Ext.refl w)⟩
  case round =>
    obtain ⟨q, s, g, hq, rfl, rfl, rfl, hS, hE⟩ := hrel
    by_cases hlt : q < n
    · have hb := HX.out q hlt
      obtain ⟨b, hbe⟩ := Int.eq_ofNat_of_zero_le hb.1
      have hb7 : b < 7 := by omega
      obtain ⟨hs, hg⟩ := HB.out q s g hq hS.out
      have HRW := HR.out.ext hE.out
      obtain ⟨b0, o0, rfl⟩ : ∃ b0 o0, a = some ⟨b0, o0, none⟩ := by
        rcases HRW.2 with h | ⟨b3, o3, h, _⟩
        · omega
        · exact ⟨b3, o3, h⟩
      have c0 : wr.cell? ⟨b0, o0 + q, none⟩ = some (.int .i64 (b : Nat)) := by
        rcases HRW.2 with h | ⟨b3, o3, h, hb3, hc3⟩
        · omega
        · simp only [Option.some.injEq, Addr.mk.injEq, and_true] at h
          obtain ⟨rfl, rfl⟩ := h
          rw [← hbe]
          exact hc3 q (by first | exact hlt | (rw [hlen.out]; exact hlt))
      have hb0 : (0 : Int) ≤ (b : Int) := by omega
      clear HRW
      have w0 := bit_and ⟨s, hs⟩ ⟨b, hb7⟩
      simp only at w0
      have hdv : s / 2 ^ b < 128 := Nat.lt_of_le_of_lt (Nat.div_le_self _ _) hs
      have e1 : (s : Int) / 2 ^ b = ((s / 2 ^ b : Nat) : Int) := by simp
      have eu : IntKind.u64.wrap ((s : Int) / 2 ^ b) = (s : Int) / 2 ^ b := by
        rw [e1]
        exact IntWalk.u64_in _ ⟨Int.natCast_nonneg _, Int.le_trans (Int.le_of_lt (Int.ofNat_lt.2 hdv)) (by decide)⟩
      have HS1 : Hid (setSt xs (q + 1) = if s / 2 ^ b % 2 = 1 then none else some (s + 2 ^ b, g * (1 - 2 * (popN 7 (s / 2 ^ b) % 2 : Nat)))) := by
        rw [Hid, setSt, hS.out, hbe]
        simp only [Int.toNat_natCast]
      by_cases e : s / 2 ^ b % 2 = 1
      · rw [e] at w0
        have w1 : (bits BinOp.and IntKind.i64 ((s : Int) / 2 ^ b) 1 == 1) = true := by rw [w0]; rfl
        have HNO : Hid (setL xs = (0, 0)) := by
          have h1 := HS1.out
          rw [if_pos e] at h1
          have h2 := setSt_none h1 (n - (q + 1))
          rw [show q + 1 + (n - (q + 1)) = n by omega] at h2
          rw [Hid, setL, hlen.out, h2]; rfl
        clear HS1 hS w0 eu e1
        go_wp2
        go_ret2
        rw [HNO.out]
        exact ⟨rfl, hE.out⟩
      · have e2 : s / 2 ^ b % 2 = 0 := by omega
        rw [e2] at w0
        have w1 : (bits BinOp.and IntKind.i64 ((s : Int) / 2 ^ b) 1 == 1) = false := by rw [w0]; rfl
        have w2 := bit_or ⟨s, hs⟩ ⟨b, hb7⟩ e
        simp only at w2
        have w4 := bit_lt ⟨s, hs⟩ ⟨b, hb7⟩ e
        simp only at w4
        have hp7 : (2 : Int) ^ b ≤ 64 := by
          have : ∀ b : Fin 7, (2 : Int) ^ b.val ≤ 64 := by decide
          exact this ⟨b, hb7⟩
        have hp0 : 0 ≤ (2 : Int) ^ b := Int.pow_nonneg (by omega)
        have w5 : IntKind.i64.wrap ((2 : Int) ^ b) = 2 ^ b := IntWalk.i64_in _ ⟨by omega, by omega⟩
        have w6 : IntKind.i64.wrap (1 * (2 : Int) ^ b) = 2 ^ b := by rw [Int.one_mul]; exact w5
        rw [if_neg e] at HS1
        generalize hpn : popN 7 (s / 2 ^ b) = pn at *
        have hpl : pn < 128 := by
          have : ∀ x : Fin 128, popN 7 x.val < 128 := by decide +kernel
          rw [← hpn]; exact this ⟨_, hdv⟩
        have HON : Hid (∀ w1, Calls Try.prog 233 #[.int .u64 ((s / 2 ^ b : Nat) : Int)] w1 fun e w' => e = .returned (.int .i64 (pn : Nat)) ∧ Ext w1 w') := fun w1 => by
          rw [← hpn]; exact onesCount_impl _ w1 hdv
        have hgg : g * (1 - 2 * (pn % 2 : Nat)) = 1 ∨ g * (1 - 2 * (pn % 2 : Nat)) = -1 := by
          rcases Nat.mod_two_eq_zero_or_one pn with e3 | e3 <;> rw [e3] <;> rcases hg with e4 | e4 <;> rw [e4] <;> simp
        have w7 : IntKind.i64.wrap (g * (1 - 2 * ((pn % 2 : Nat) : Int))) = g * (1 - 2 * ((pn % 2 : Nat) : Int)) := IntWalk.i64_in _ ⟨by omega, by omega⟩
        have HSG := Lib.hid (fun w1 => signOf_impl pn w1 hpl)
        have HQ : Hid (s + 2 ^ b < 128) := w4
        clear e e2 hS hbe hpn hb
        generalize hsg : (1 - 2 * ((pn % 2 : Nat) : Int)) = sg at *
        clear hsg hgg
        rw [← e1] at HON
        clear e1
        go_wp2_with fail
        refine (HON.out _).mono ?_
        rintro e w3 ⟨rfl, h3⟩
        go_wp2_with fail
        refine (HSG.out _).mono ?_
        rintro e w4 ⟨rfl, h4⟩
        have E4 := Lib.hid ((hE.out.trans h3).trans h4)
        clear h3 h4 hE
        go_wp2
        exact ⟨⟨q + 1, _, _, by omega, by simp, rfl, rfl, HS1, E4⟩, by simp [intOf]; omega⟩
    · obtain rfl : n = q := by omega
      have HF : Hid (setL xs = (s, g)) := by rw [Hid, setL, hlen.out, hS.out]; rfl
      clear hS
      go_wp2
      go_ret2
      rw [HF.out]
      exact ⟨rfl, hE.out⟩
end Go.Proofs.Ytapaopapgnfdkaa
