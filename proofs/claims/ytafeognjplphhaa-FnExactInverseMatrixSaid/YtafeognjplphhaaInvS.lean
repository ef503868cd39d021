/-
  InverseMatrix, in the specification.
-/
import Derived.Test.YtafeognjplphhaaInvP
import Derived.Test.YtafeognjplphhaaRedS
namespace Go.Proofs.Ytafeognjplphhaa
open Go.ChangeShapes Go.WideShapes Go.ChangeAt Go.RowKit
set_option linter.unusedVariables false
set_option linter.unusedSimpArgs false

/-- The wide matrix, k numbers of it, and zeros behind. -/
def wdAt (n : Nat) (xs : List Int) (k : Nat) : List Int := mix (wideL n xs) (List.replicate (n * (n + n)) 0) k
section
variable {n : Nat} {xs : List Int}
theorem wdAt_zero : wdAt n xs 0 = List.replicate (n * (n + n)) 0 := mix_zero _ _
theorem wdAt_full (hl : xs.length = n * n) : wdAt n xs (n * (n + n)) = wideL n xs := by
  have := mix_full (wideL n xs) (List.replicate (n * (n + n)) 0) (by rw [wideL_length hl]; simp)
  rwa [List.length_replicate] at this
theorem wdAt_length (hl : xs.length = n * n) {k : Nat} (hk : k ≤ n * (n + n)) : (wdAt n xs k).length = n * (n + n) := by
  rw [wdAt, mix_length _ _ _ (by rw [wideL_length hl]; simp) (by simpa using hk)]; simp
theorem gi_wide (hl : xs.length = n * n) {i c : Nat} (hi : i < n) (hc : c < n + n) : gi (wideL n xs) (i * (n + n) + c) = if c < n then gi xs (i * n + c) else unitF i (c - n) := by
  have := at2_jmTo hl (unitTo_length n n) n (Nat.le_refl _) i c hi hc
  rw [at2] at this
  rw [wideL, this]
  by_cases h : c < n
  · rw [if_pos h, if_pos h]; rfl
  · rw [if_neg h, if_neg h, at2_unitTo hi (by omega)]
theorem wdAt_set (hl : xs.length = n * n) {i j : Nat} (hi : i < n) (hj : j < n) : (wdAt n xs (i * (n + n) + j)).set (i * (n + n) + j) (gi xs (i * n + j)) = wdAt n xs (i * (n + n) + (j + 1)) := by
  have h : i * (n + n) + j < n * (n + n) := place_lt hi (show j < n + n by omega)
  have e := gi_wide hl hi (show j < n + n by omega)
  rw [if_pos hj] at e
  rw [← e, wdAt, mix_set _ _ _ (by rw [wideL_length hl]; simp) (by simpa using h)]
  rfl
theorem gi_mix_in {t xs : List Int} {k q : Nat} (h : t.length = xs.length) (hk : k ≤ xs.length) : gi (mix t xs k) q = if q < k then gi t q else gi xs q := by
  have hl : (t.take k).length = k := by rw [List.length_take]; omega
  rw [mix]
  by_cases e : q < k
  · rw [if_pos e, gi_append_l (by omega), gi_take _ _ _ e]
  · rw [if_neg e, gi_append_r (by omega), hl, gi_drop]; congr 1; omega
theorem wdAt_one (hl : xs.length = n * n) {i : Nat} (hi : i < n) : (wdAt n xs (i * (n + n) + n)).set (i * (n + n) + n + i) 1 = wdAt n xs ((i + 1) * (n + n)) := by
  have h1 : i * (n + n) + (n + n) ≤ n * (n + n) := row_le hi
  have e1 : (i + 1) * (n + n) = i * (n + n) + (n + n) := by rw [Nat.add_mul, Nat.one_mul]
  have hw : (wideL n xs).length = (List.replicate (n * (n + n)) (0 : Int)).length := by rw [wideL_length hl]; simp
  have hr : (List.replicate (n * (n + n)) (0 : Int)).length = n * (n + n) := by simp
  refine ext_gi (by rw [List.length_set, wdAt_length hl (by omega), wdAt_length hl (by omega)]) (fun q hq => ?_)
  rw [List.length_set, wdAt_length hl (by omega)] at hq
  rw [gi_set _ _ _ _ (by rw [wdAt_length hl (by omega)]; omega), wdAt, wdAt, gi_mix_in hw (by omega), gi_mix_in hw (by omega), gi_replicate]
  by_cases e : q = i * (n + n) + n + i
  · rw [if_pos e, if_pos (by omega), e]
    have := gi_wide hl hi (show n + i < n + n by omega)
    rw [if_neg (by omega), Nat.add_sub_cancel_left, unitF, if_pos rfl, ← Nat.add_assoc] at this
    exact this.symm
  · rw [if_neg e]
    by_cases e2 : q < i * (n + n) + n
    · rw [if_pos e2, if_pos (by omega)]
    · rw [if_neg e2]
      by_cases e3 : q < (i + 1) * (n + n)
      · rw [if_pos e3]
        have h2 : q = i * (n + n) + (q - i * (n + n)) := by omega
        have := gi_wide hl hi (show q - i * (n + n) < n + n by omega)
        rw [if_neg (by omega), unitF, if_neg (by omega), ← h2] at this
        exact this.symm
      · rw [if_neg e3]
end

set_option maxRecDepth 100000 in
set_option maxHeartbeats 12800000 in
theorem l1Invert_spec (P : Int) (n nn a0 oa : Nat) (xs : List Int) (w : World) {p r c : Int} {d : List Int} {ok : Bool} (h : Reads w (some ⟨a0, oa, none⟩) nn xs) (hnn : nn = n * n) (hn40 : n ≤ 40) (hpr : isP P = true) (hx : Res xs P) (hM : (if invOk P n xs then ((⟨P, n, n, invR n (invS P n xs).m⟩, true) : Mat × Bool) else (noMat, false)) = (⟨p, r, c, d⟩, ok)) :
    Calls Try.prog 62 #[.agg #[.int .i64 P, .int .i64 n, .int .i64 n, .slice (some ⟨a0, oa, none⟩) nn nn]] w fun e w' => ∃ v, e = .returned (.tuple #[v, .bool ok]) ∧ Rmat w w' v p r c d ∧ Ext w w' := by
  have HR := Lib.hid h
  have hp := isP_lo hpr
  have hp2 := isP_hi hpr
  have HPR := Lib.hid hpr
  have hlx : xs.length = n * n := by rw [h.1, hnn]
  obtain ⟨E, hE1⟩ : ∃ E, E = n + n := ⟨_, rfl⟩
  obtain ⟨N, hN⟩ : ∃ N, N = n * (n + n) := ⟨_, rfl⟩
  have hNb : N ≤ 3200 := by rw [hN]; exact Nat.le_trans (Nat.mul_le_mul hn40 (show n + n ≤ 80 by omega)) (by decide)
  have HLJ : Hid ((wideL n xs).length = N) := by rw [Hid, wideL_length hlx, hN]
  have HXJ : Hid (Res (wideL n xs) P) := jmTo_res (C := n) (D := n) hp hx (unitTo_res2 P hp n n) n
  have HE := Lib.hid hE1
  have HNN := Lib.hid hnn
  have HLX := Lib.hid hlx
  have HNQ := Lib.hid hN
  have HNE : Hid (N = n * E) := by rw [Hid, hE1]; exact hN
  have HNO := Lib.hid (fun h => inv_no (isP_iff.1 hpr) hlx hx (P := P) (n := n) (xs := xs) h)
  have HYES := Lib.hid (fun h => inv_yes (P := P) (n := n) (xs := xs) h)
  have HM := Lib.hid hM
  have HRD : Hid (redM P n E (wideL n xs) = redM P n (n + n) (wideL n xs)) := by rw [Hid, hE1]
  have hsl : (redM P n (n + n) (wideL n xs)).m.length = N := by rw [redM, redTo_length, wideL_length hlx, hN]
  have HSL := Lib.hid hsl
  have hEb : E ≤ 80 := by omega
  have hE2 : n + n ≤ E := by omega
  have HIL : Hid (∀ i c, i < n → c ≤ n + n → i * (n + n) + c ≤ n * (n + n)) := fun i c hi hc => by have := row_le (Q := n + n) hi; omega
  have hnnb : nn ≤ 1600 := by rw [hnn]; exact Nat.mul_le_mul hn40 hn40
  have e1 : (n : Int) * (n : Int) = ((n * n : Nat) : Int) := by simp
  have Z0 : Hid (0 ≤ (n : Int) * (n : Int)) := by rw [Hid, e1]; omega
  have Z9 : Hid ((n : Int) * (n : Int) ≤ 1048576) := by rw [Hid, e1]; omega
  have Z1 : Hid (((n : Int) * (n : Int)).toNat = nn) := by rw [Hid, e1, Int.toNat_natCast]; exact hnn.symm
  have h2n : 2 * (n : Int) = (E : Int) := by omega
  have H2N := Lib.hid h2n
  have v2 : IntKind.i64.wrap (2 * (n : Int)) = 2 * (n : Int) := IntWalk.i64_in _ ⟨by omega, by omega⟩
  have e3 : (n : Int) * (2 * (n : Int)) = ((n * E : Nat) : Int) := by rw [h2n]; simp
  have Y0 : Hid (0 ≤ (n : Int) * (2 * (n : Int))) := by rw [Hid, e3]; omega
  have Y9 : Hid ((n : Int) * (2 * (n : Int)) ≤ 1048576) := by rw [Hid, e3, ← HNE.out]; omega
  have Y1 : Hid (((n : Int) * (2 * (n : Int))).toNat = N) := by rw [Hid, e3, Int.toNat_natCast]; exact HNE.out.symm
  have HZN : Hid (List.replicate N (0 : Int) = wdAt n xs (0 * (n + n))) := by rw [Hid, Nat.zero_mul, wdAt_zero, hN]
  clear h hlx hN hM hE1 hnn hsl e1 e3 h2n hpr
  have A0 := Lib.hid ((cells_new' w #[.int .i64 P, .int .i64 n, .int .i64 n, .slice (some ⟨a0, oa, none⟩) nn nn] 26 w.heap.size rfl).ext ((Ext.refl _).alloc (.cells #[.int .i64 0, .int .i64 0, .int .i64 0, .slice none 0 0] 26)))
  have R0 := Lib.hid (cells_new' (w.alloc (.cells #[.int .i64 P, .int .i64 n, .int .i64 n, .slice (some ⟨a0, oa, none⟩) nn nn] 26)) #[.int .i64 0, .int .i64 0, .int .i64 0, .slice none 0 0] 26 (w.heap.size + 1) (by simp))
  have E0 := Lib.hid (((Ext.refl w).alloc (.cells #[.int .i64 P, .int .i64 n, .int .i64 n, .slice (some ⟨a0, oa, none⟩) nn nn] 26)).alloc (.cells #[.int .i64 0, .int .i64 0, .int .i64 0, .slice none 0 0] 26))
  have hsz : ((w.alloc (.cells #[.int .i64 P, .int .i64 n, .int .i64 n, .slice (some ⟨a0, oa, none⟩) nn nn] 26)).alloc (.cells #[.int .i64 0, .int .i64 0, .int .i64 0, .slice none 0 0] 26)).heap.size = w.heap.size + 1 + 1 := by simp
  have HSZ := Lib.hid hsz
  go_enter Try.func62, Try.ntmps62
  have lA := A0.out.1
  have q0 := A0.out.2 0 _ rfl
  have q1 := A0.out.2 1 _ rfl
  try simp only [World.size_alloc] at lA
  go_wp2_with fail
  refine (l1Zero_spec _ _ _ _ Y0.out Y9.out).mono ?_
  rintro e w1 ⟨b, rfl, hb1, hb2, hh, h1⟩
  rw [Y1.out] at hh ⊢
  rw [H2N.out]
  clear lA q0 q1 v2 hsz
  generalize ((w.alloc (.cells #[.int .i64 P, .int .i64 n, .int .i64 n, .slice (some ⟨a0, oa, none⟩) nn nn] 26)).alloc (.cells #[.int .i64 0, .int .i64 0, .int .i64 0, .slice none 0 0] 26)) = W0 at *
  have L0 : Hid (Loc W0 (w1.alloc (.cells #[.int .i64 P, .int .i64 n, .int .i64 E, .slice (some ⟨b, 0, none⟩) N N] 26)) w1.heap.size b [.int .i64 P, .int .i64 n, .int .i64 E, .slice (some ⟨b, 0, none⟩) N N] (wdAt n xs (0 * (n + n)))) :=
    ⟨cells_new _ _ _, by rw [← HZN.out]; exact hh.alloc _, Ext.alloc h1 _, hb1, by simp; omega, by omega⟩
  have HMB : Hid (W0.heap.size ≤ w1.heap.size) := h1.le
  clear hh h1 hb1 hb2
  go_wp2_with fail
  generalize w1.alloc (.cells #[.int .i64 P, .int .i64 n, .int .i64 E, .slice (some ⟨b, 0, none⟩) N N] 26) = W1 at *
  generalize w1.heap.size = MB at *
  go_loopw [6, 7] (fun z _ wr => ∃ i : Nat, i ≤ n ∧ z = .int .i64 i ∧ Hid (Loc W0 wr MB b [.int .i64 P, .int .i64 n, .int .i64 E, .slice (some ⟨b, 0, none⟩) N N] (wdAt n xs (i * (n + n))))) (fun z _ _ => n - (intOf z).toNat)
  case atStart => exact ⟨0, by omega, rfl, L0⟩
  case round =>
    clear L0
    obtain ⟨i, hi, rfl, L⟩ := hrel
    by_cases hlt : i < n
    · have s1 : i * 2 ≤ 80 := by omega
      have s2 : i * 2 * n = i * E := by rw [HE.out, Nat.mul_assoc]; congr 1; omega
      have s3 : i * E + E ≤ N := by rw [HNE.out]; exact row_le hlt
      have SE := Lib.hid s2
      have SL := Lib.hid s3
      have t1 : (i : Int) * 2 * (n : Int) = ((i * 2 * n : Nat) : Int) := by simp
      have T0 : Hid (0 ≤ (i : Int) * 2 * (n : Int) ∧ (i : Int) * 2 * (n : Int) + (E : Int) ≤ (N : Int)) := by rw [Hid, t1, s2]; omega
      clear s2 s3 t1
      go_wp2_with fail
      go_loopw [7] (fun z wr => ∃ j : Nat, j ≤ n ∧ z = .int .i64 j ∧ Hid (Loc W0 wr MB b [.int .i64 P, .int .i64 n, .int .i64 E, .slice (some ⟨b, 0, none⟩) N N] (wdAt n xs (i * (n + n) + j)))) (fun z _ => n - (intOf z).toNat)
      case atStart => exact ⟨0, by omega, rfl, L⟩
      case round =>
        clear L
        obtain ⟨j, hj, rfl, L⟩ := hrel
        by_cases hlt2 : j < n
        · have hpl : i * n + j < nn := by rw [HNN.out]; exact place_lt hlt hlt2
          have AW := A0.out.ext L.out.ext
          have lA := AW.1
          have q0 := AW.2 0 _ rfl
          have q1 := AW.2 1 _ rfl
          have q2 := AW.2 2 _ rfl
          have q3 := AW.2 3 _ rfl
          have lM := L.out.box.1
          have m3 := L.out.box.2 3 _ rfl
          have nM : MB ≠ b := L.out.ne
          have nA : w.heap.size ≠ b := by have := L.out.lo; have := HSZ.out; omega
          have hll := Lib.hid (wdAt_length (n := n) HLX.out (k := i * (n + n) + j) (HIL.out i j hlt (by omega)))
          have HPW : Hid (i * 2 * n + j < (wdAt n xs (i * (n + n) + j)).length) := by rw [Hid, hll.out, ← HNQ.out, SE.out]; have := SL.out; omega
          have x3 := L.out.has.cell (i * 2 * n + j) HPW.out
          have f3 := L.out.has.free (i * 2 * n + j)
          have hat : ∀ wx, Ext W0 wx → Calls Try.prog 97 #[.agg #[.int .i64 P, .int .i64 n, .int .i64 n, .slice (some ⟨a0, oa, none⟩) nn nn], .int .i64 i, .int .i64 j] wx fun e w' => e = .returned (.int .i64 (gi xs (i * n + j))) ∧ Ext wx w' := fun wx hh => l1At_spec _ _ _ _ _ _ _ _ xs _ (HR.out.ext (E0.out.trans hh)) hpl (by omega)
          have HAT := Lib.hid hat
          have g1 := T0.out.1
          have g2 := T0.out.2
          have v1 : IntKind.i64.wrap ((i : Int) * 2) = (i : Int) * 2 := IntWalk.i64_in _ ⟨by omega, by omega⟩
          have v2 : IntKind.i64.wrap ((i : Int) * 2 * (n : Int)) = (i : Int) * 2 * (n : Int) := IntWalk.i64_in _ ⟨by omega, by omega⟩
          have v3 : IntKind.i64.wrap ((i : Int) * 2 * (n : Int) + (j : Int)) = (i : Int) * 2 * (n : Int) + (j : Int) := IntWalk.i64_in _ ⟨by omega, by omega⟩
          have g3 : 0 ≤ (i : Int) * 2 * (n : Int) + (j : Int) := by omega
          have g4 : (i : Int) * 2 * (n : Int) + (j : Int) < (N : Int) := by omega
          have t2 : ((i : Int) * 2 * (n : Int) + (j : Int)).toNat = i * 2 * n + j := by
            have : (i : Int) * 2 * (n : Int) = ((i * 2 * n : Nat) : Int) := by simp
            rw [this]; omega
          clear hat AW hpl
          go_wp2_with fail
          go_region_held3 (fun w' => wr.grownBy w' (some b) ∧ ∀ B o, B ≠ b → B < wr.heap.size → w'.cell? ⟨B, o, none⟩ = wr.cell? ⟨B, o, none⟩) (first | assumption | exact keptB_refl _ _ | exact keptB_drew | (with_reducible exact keptB_call ‹wr.grownBy _ (some b) ∧ _› ‹Ext _ _›) | (with_reducible exact keptB_set ‹wr.grownBy _ (some b) ∧ _› _ _)) (first
            | (go_at_call 97; (with_reducible refine (HAT.out _ (Ext.drew L.out.ext)).mono ?_); rintro e w4 ⟨rfl, hE4⟩; have c1 : w4.cell? ⟨b, i * 2 * n + j, none⟩ = _ := (L.out.has.ext ((Ext.refl _).drew.trans hE4)).cell (i * 2 * n + j) HPW.out; have f1 : w4.frozen? ⟨b, i * 2 * n + j, none⟩ = false := (L.out.has.ext ((Ext.refl _).drew.trans hE4)).free _))
          all_goals
            have N1 : Hid (Loc W0 (w4.setCell ⟨b, i * 2 * n + j, none⟩ (.int .i64 (gi xs (i * n + j)))) MB b [.int .i64 P, .int .i64 n, .int .i64 E, .slice (some ⟨b, 0, none⟩) N N] (wdAt n xs (i * (n + n) + (j + 1)))) := by
              have := (L.out.step ((Ext.refl _).drew.trans hE4)).set (i * 2 * n + j) HPW.out (gi xs (i * n + j))
              have e5 : i * 2 * n + j = i * (n + n) + j := by rw [SE.out, HE.out]
              rw [Hid, ← wdAt_set HLX.out hlt hlt2, ← e5]
              rw [← e5] at this
              exact this
            clear L hE4 c1 f1 x3 f3 lA q0 q1 q2 q3 lM m3 v1 v2 v3
            go_wp2
            exact ⟨⟨j + 1, by omega, by simp, N1⟩, by simp [intOf]; omega⟩
        · obtain rfl : n = j := by omega
          have lM := L.out.box.1
          have m3 := L.out.box.2 3 _ rfl
          have hll := Lib.hid (wdAt_length (n := n) HLX.out (k := i * (n + n) + n) (HIL.out i n hlt (by omega)))
          have HPW : Hid (i * 2 * n + n + i < (wdAt n xs (i * (n + n) + n)).length) := by rw [Hid, hll.out, ← HNQ.out, SE.out]; have := SL.out; have := HE.out; omega
          have x3 := L.out.has.cell (i * 2 * n + n + i) HPW.out
          have f3 := L.out.has.free (i * 2 * n + n + i)
          have g1 := T0.out.1
          have g2 := T0.out.2
          have v1 : IntKind.i64.wrap ((i : Int) * 2) = (i : Int) * 2 := IntWalk.i64_in _ ⟨by omega, by omega⟩
          have v2 : IntKind.i64.wrap ((i : Int) * 2 * (n : Int)) = (i : Int) * 2 * (n : Int) := IntWalk.i64_in _ ⟨by omega, by omega⟩
          have v3 : IntKind.i64.wrap ((i : Int) * 2 * (n : Int) + (n : Int)) = (i : Int) * 2 * (n : Int) + (n : Int) := IntWalk.i64_in _ ⟨by omega, by omega⟩
          have v4 : IntKind.i64.wrap ((i : Int) * 2 * (n : Int) + (n : Int) + (i : Int)) = (i : Int) * 2 * (n : Int) + (n : Int) + (i : Int) := IntWalk.i64_in _ ⟨by omega, by omega⟩
          have g3 : 0 ≤ (i : Int) * 2 * (n : Int) + (n : Int) + (i : Int) := by omega
          have g4 : (i : Int) * 2 * (n : Int) + (n : Int) + (i : Int) < (N : Int) := by have := HE.out; omega
          have t2 : ((i : Int) * 2 * (n : Int) + (n : Int) + (i : Int)).toNat = i * 2 * n + n + i := by
            have : (i : Int) * 2 * (n : Int) = ((i * 2 * n : Nat) : Int) := by simp
            rw [this]; omega
          have N1 : Hid (Loc W0 (wr.setCell ⟨b, i * 2 * n + n + i, none⟩ (.int .i64 1)) MB b [.int .i64 P, .int .i64 n, .int .i64 E, .slice (some ⟨b, 0, none⟩) N N] (wdAt n xs ((i + 1) * (n + n)))) := by
            have := L.out.set (i * 2 * n + n + i) HPW.out 1
            have e5 : i * 2 * n + n + i = i * (n + n) + n + i := by rw [SE.out, HE.out]
            rw [Hid, ← wdAt_one HLX.out hlt, ← e5]
            exact this
          clear L
          go_wp2
          exact ⟨⟨i + 1, by omega, by simp, N1⟩, by simp [intOf]; omega⟩
    · obtain rfl : n = i := by omega
      have L1 := Lib.hid L.out
      have hLf := wdAt_full (n := n) HLX.out
      have HH0 : Hid (Has wr b (wideL n xs)) := by rw [Hid, ← hLf]; exact L.out.has
      have lM := L.out.box.1
      have m0 := L.out.box.2 0 _ rfl
      have m1 := L.out.box.2 1 _ rfl
      have m2 := L.out.box.2 2 _ rfl
      have m3 := L.out.box.2 3 _ rfl
      have EW := Lib.hid L.out.ext
      have hrd := l1Reduce_spec P n E N N (some ⟨b, 0, none⟩) (wideL n xs) wr (HH0.out.reads HLJ.out) HNE.out (by omega) (by omega) (by omega) HPR.out HXJ.out (fun h => by cases h)
      rw [HRD.out] at hrd
      have HRDC := Lib.hid hrd
      clear hrd L L1 hLf
      go_wp2_with fail
      refine HRDC.out.mono ?_
      rintro e w5 ⟨b3, c3, a2, cap, mid, rfl, hb31, hb32, hmid, hh3, ho3, h5, hc3⟩
      clear lM m0 m1 m2 m3 HRDC
      have HH3 := Lib.hid hh3
      have HO3 := Lib.hid ho3
      have E5 := Lib.hid (EW.out.trans h5)
      have hb33 : W0.heap.size ≤ b3 := Nat.le_trans EW.out.le hb31
      clear hh3 ho3 h5 EW HH0
      rcases hok : invOk P n xs with _ | _
      · obtain ⟨hn0, _, hpl, hge⟩ := HNO.out hok
        have hM := HM.out
        simp only [hok, Bool.false_eq_true, if_false, noMat, Prod.mk.injEq, Mat.mk.injEq] at hM
        obtain ⟨⟨rfl, rfl, rfl, rfl⟩, rfl⟩ := hM
        rcases HO3.out.reads.2 with h | ⟨pb, po, rfl, hpb, hpc⟩
        · omega
        have x1 := hpc (n - 1) (by omega)
        rw [gi_pvI] at x1
        generalize (redM P n (n + n) (wideL n xs)).pv.getD (n - 1) 0 = q at x1 hge
        rw [hpl] at *
        clear hok HYES HNO HM hpc HSL HRD hpl
        generalize (redM P n (n + n) (wideL n xs)).m = S at *
        have c1 : (0 : Int) < (n : Int) := by omega
        have c2 : (n : Int) ≤ (q : Int) := by omega
        have t3 : ((n : Int) - 1).toNat = n - 1 := by omega
        have v5 : IntKind.i64.wrap ((n : Int) - 1) = (n : Int) - 1 := IntWalk.i64_in _ ⟨by omega, by omega⟩
        have RZ := R0.out.ext E5.out
        have E6 := Lib.hid ((E0.out.trans E5.out).alloc (.cells #[.int .i64 P, .int .i64 n, .int .i64 E, .slice (some ⟨b3, 0, none⟩) N c3] 26))
        have RZ2 := RZ.ext ((Ext.refl _).alloc (.cells #[.int .i64 P, .int .i64 n, .int .i64 E, .slice (some ⟨b3, 0, none⟩) N c3] 26))
        have r0 := RZ2.2 0 _ rfl
        have r1 := RZ2.2 1 _ rfl
        have r2 := RZ2.2 2 _ rfl
        have r3 := RZ2.2 3 _ rfl
        have tR := RZ2.3
        have lR := RZ2.1
        go_wp2
        refine bodyPost_ret (v := .tuple #[.agg #[.int .i64 0, .int .i64 0, .int .i64 0, .slice none 0 0], .bool false]) (by simp [results, Try.results62, go_sem, r0, r1, r2, r3]) rfl ⟨_, rfl, ⟨_, _, _, rfl, own_nil _ _ _, by omega⟩, ext4 E6.out (by omega) _ _ _ _⟩
      obtain ⟨hSe, hpl, hlt5⟩ := HYES.out hok
      have hM := HM.out
      simp only [hok, if_true, Prod.mk.injEq, Mat.mk.injEq] at hM
      obtain ⟨⟨rfl, rfl, rfl, rfl⟩, rfl⟩ := hM
      rw [hSe] at HH3 HO3 HSL ⊢
      clear hok HYES HNO HM HRD hSe
      generalize hSS : invS P n xs = S at *
      have HSS := Lib.hid hSS
      clear hSS
      have P5 := (Ext.refl w5).alloc (.cells #[.int .i64 P, .int .i64 n, .int .i64 E, .slice (some ⟨b3, 0, none⟩) N c3] 26)
      have A5 := Lib.hid ((A0.out.ext E5.out).ext P5)
      have R5 := Lib.hid ((R0.out.ext E5.out).ext P5)
      have EE5 := Lib.hid ((E0.out.trans E5.out).trans P5)
      have HS5 := Lib.hid (HH3.out.ext P5)
      have B5 := Lib.hid (cells_new w5 #[.int .i64 P, .int .i64 n, .int .i64 E, .slice (some ⟨b3, 0, none⟩) N c3] 26)
      have HW0 := Lib.hid HSZ.out
      have hle5 := E5.out.le
      have hs5 : (w5.alloc (.cells #[.int .i64 P, .int .i64 n, .int .i64 E, .slice (some ⟨b3, 0, none⟩) N c3] 26)).heap.size = w5.heap.size + 1 := by simp
      have HS6 := Lib.hid hs5
      have hpvc : n = 0 ∨ ∃ pb po, a2 = some ⟨pb, po, none⟩ ∧ pb < w5.heap.size ∧ w5.cell? ⟨pb, po + (n - 1), none⟩ = some (.int .i64 (S.pv.getD (n - 1) 0 : Nat)) := by
        rcases HO3.out.reads.2 with h | ⟨pb, po, h2, hpb, hpc⟩
        · exact .inl (by omega)
        · rcases Nat.eq_zero_or_pos n with h0 | h0
          · exact .inl h0
          · refine .inr ⟨pb, po, h2, hpb, ?_⟩
            have := hpc (n - 1) (by omega)
            rwa [gi_pvI] at this
      have hq5 := hlt5 (n - 1)
      rw [hpl] at HO3 ⊢
      generalize S.pv.getD (n - 1) 0 = q at hpvc hq5
      have cut : n = 0 ∨ (0 < n ∧ q < n ∧ ∃ pb po, a2 = some ⟨pb, po, none⟩ ∧ pb < w5.heap.size ∧ w5.cell? ⟨pb, po + (n - 1), none⟩ = some (.int .i64 (q : Nat))) := by
        rcases hpvc with h | h
        · exact .inl h
        · rcases Nat.eq_zero_or_pos n with h0 | h0
          · exact .inl h0
          · exact .inr ⟨h0, hq5 (by omega), h⟩
      clear hpvc hq5 hlt5 hpl P5 hs5 HH3 HO3 HSZ
      have t3 : 0 < n → ((n : Int) - 1).toNat = n - 1 := by omega
      go_upto_region 12 with fail
      go_cut [72] (fun z wx => z = .bool false ∧ Hid (wx = w5.alloc (.cells #[.int .i64 P, .int .i64 n, .int .i64 E, .slice (some ⟨b3, 0, none⟩) N c3] 26)))
      case first =>
        rcases cut with rfl | ⟨h0, hq, pb, po, rfl, hpb, hpc⟩
        · clear t3
          go_wp2_with fail
          go_meet
          exact ⟨rfl, rfl⟩
        · have t4 := t3 h0
          have c1 : (0 : Int) < (n : Int) := by omega
          have c2 : ¬ (n : Int) ≤ (q : Int) := by omega
          have v5 : IntKind.i64.wrap ((n : Int) - 1) = (n : Int) - 1 := IntWalk.i64_in _ ⟨by omega, by omega⟩
          clear t3
          go_wp2_with fail
          go_meet
          exact ⟨rfl, rfl⟩
      case rest =>
        obtain ⟨rfl, hwc⟩ := hcut
        have hwq := hwc.out
        subst hwq
        clear cut t3 hwc
        generalize w5.alloc (.cells #[.int .i64 P, .int .i64 n, .int .i64 E, .slice (some ⟨b3, 0, none⟩) N c3] 26) = W5 at *
        generalize w5.heap.size = RB at *
        have lA := A5.out.1
        have q0 := A5.out.2 0 _ rfl
        go_wp2_with fail
        refine (l1Zero_spec _ _ _ _ Z0.out Z9.out).mono ?_
        rintro e w6 ⟨b4, rfl, hb41, hb42, hh6, h6⟩
        rw [Z1.out] at hh6 ⊢
        clear lA q0
        have L6 : Hid (Loc W5 (w6.alloc (.cells #[.int .i64 P, .int .i64 n, .int .i64 n, .slice (some ⟨b4, 0, none⟩) nn nn] 26)) w6.heap.size b4 [.int .i64 P, .int .i64 n, .int .i64 n, .slice (some ⟨b4, 0, none⟩) nn nn] (ivAt n S.m (0 * n))) :=
          ⟨cells_new _ _ _, by rw [Nat.zero_mul, ivAt_zero, ← HNN.out]; exact hh6.alloc _, Ext.alloc h6 _, hb41, by simp; omega, by omega⟩
        have HOB : Hid (W5.heap.size ≤ w6.heap.size) := h6.le
        clear hh6 h6 hb41 hb42
        go_wp2_with fail
        generalize w6.alloc (.cells #[.int .i64 P, .int .i64 n, .int .i64 n, .slice (some ⟨b4, 0, none⟩) nn nn] 26) = W6 at *
        generalize w6.heap.size = OB at *
        go_loopw [12, 13] (fun z _ wr => ∃ i : Nat, i ≤ n ∧ z = .int .i64 i ∧ Hid (Loc W5 wr OB b4 [.int .i64 P, .int .i64 n, .int .i64 n, .slice (some ⟨b4, 0, none⟩) nn nn] (ivAt n S.m (i * n)))) (fun z _ _ => n - (intOf z).toNat)
        case atStart => exact ⟨0, by omega, rfl, L6⟩
        case round =>
          clear L6
          obtain ⟨i, hi, rfl, L⟩ := hrel
          by_cases hlt : i < n
          · have s3 : i * n + n ≤ nn := by rw [HNN.out]; exact row_le hlt
            have s4 : i * E + E ≤ N := by rw [HNE.out]; exact row_le hlt
            have t1 : (i : Int) * (n : Int) = ((i * n : Nat) : Int) := by simp
            have T0 : Hid (0 ≤ (i : Int) * (n : Int) ∧ (i : Int) * (n : Int) + (n : Int) ≤ (nn : Int)) := by rw [Hid, t1]; omega
            clear t1
            go_wp2_with fail
            go_loopw [13] (fun z wr => ∃ j : Nat, j ≤ n ∧ z = .int .i64 j ∧ Hid (Loc W5 wr OB b4 [.int .i64 P, .int .i64 n, .int .i64 n, .slice (some ⟨b4, 0, none⟩) nn nn] (ivAt n S.m (i * n + j)))) (fun z _ => n - (intOf z).toNat)
            case atStart => exact ⟨0, by omega, rfl, L⟩
            case round =>
              clear L
              obtain ⟨j, hj, rfl, L⟩ := hrel
              by_cases hlt2 : j < n
              · have hpl : i * E + (n + j) < N := by omega
                have AW := B5.out.ext L.out.ext
                have lB := AW.1
                have q0 := AW.2 0 _ rfl
                have q1 := AW.2 1 _ rfl
                have q2 := AW.2 2 _ rfl
                have q3 := AW.2 3 _ rfl
                have lM := L.out.box.1
                have m3 := L.out.box.2 3 _ rfl
                have nM : OB ≠ b4 := L.out.ne
                have hlo4 := L.out.lo
                have nB : RB ≠ b4 := by have := B5.out.1; omega
                have hll := Lib.hid (ivAt_length n S.m (i * n + j) (by rw [← HNN.out]; omega))
                have HPW : Hid (i * n + j < (ivAt n S.m (i * n + j)).length) := by rw [Hid, hll.out, ← HNN.out]; omega
                have x3 := L.out.has.cell (i * n + j) HPW.out
                have f3 := L.out.has.free (i * n + j)
                have hat : ∀ wx, Ext W5 wx → Calls Try.prog 97 #[.agg #[.int .i64 P, .int .i64 n, .int .i64 E, .slice (some ⟨b3, 0, none⟩) N c3], .int .i64 i, .int .i64 ((n : Int) + (j : Int))] wx fun e w' => e = .returned (.int .i64 (gi S.m (i * E + (n + j)))) ∧ Ext wx w' := fun wx hh => by
                  have := l1At_spec P n E i (n + j) (some ⟨b3, 0, none⟩) N c3 S.m wx ((HS5.out.ext hh).reads HSL.out) hpl (by omega)
                  rw [Int.natCast_add] at this
                  exact this
                have HAT := Lib.hid hat
                have g1 := T0.out.1
                have g2 := T0.out.2
                have v1 : IntKind.i64.wrap ((n : Int) + (j : Int)) = (n : Int) + (j : Int) := IntWalk.i64_in _ ⟨by omega, by omega⟩
                have v2 : IntKind.i64.wrap ((i : Int) * (n : Int)) = (i : Int) * (n : Int) := IntWalk.i64_in _ ⟨by omega, by omega⟩
                have v3 : IntKind.i64.wrap ((i : Int) * (n : Int) + (j : Int)) = (i : Int) * (n : Int) + (j : Int) := IntWalk.i64_in _ ⟨by omega, by omega⟩
                have g3 : 0 ≤ (i : Int) * (n : Int) + (j : Int) := by omega
                have g4 : (i : Int) * (n : Int) + (j : Int) < (nn : Int) := by omega
                have t2 : ((i : Int) * (n : Int) + (j : Int)).toNat = i * n + j := by
                  have : (i : Int) * (n : Int) = ((i * n : Nat) : Int) := by simp
                  rw [this]; omega
                clear hat AW hpl
                go_wp2_with fail
                go_region_held3 (fun w' => wr.grownBy w' (some b4) ∧ ∀ B o, B ≠ b4 → B < wr.heap.size → w'.cell? ⟨B, o, none⟩ = wr.cell? ⟨B, o, none⟩) (first | assumption | exact keptB_refl _ _ | exact keptB_drew | (with_reducible exact keptB_call ‹wr.grownBy _ (some b4) ∧ _› ‹Ext _ _›) | (with_reducible exact keptB_set ‹wr.grownBy _ (some b4) ∧ _› _ _)) (first
                  | (go_at_call 97; (with_reducible refine (HAT.out _ (Ext.drew L.out.ext)).mono ?_); rintro e w7 ⟨rfl, hE7⟩; have c1 : w7.cell? ⟨b4, i * n + j, none⟩ = _ := (L.out.has.ext ((Ext.refl _).drew.trans hE7)).cell (i * n + j) HPW.out; have f1 : w7.frozen? ⟨b4, i * n + j, none⟩ = false := (L.out.has.ext ((Ext.refl _).drew.trans hE7)).free _))
                all_goals
                  have N1 : Hid (Loc W5 (w7.setCell ⟨b4, i * n + j, none⟩ (.int .i64 (gi S.m (i * E + (n + j))))) OB b4 [.int .i64 P, .int .i64 n, .int .i64 n, .slice (some ⟨b4, 0, none⟩) nn nn] (ivAt n S.m (i * n + (j + 1)))) := by
                    have := (L.out.step ((Ext.refl _).drew.trans hE7)).set (i * n + j) HPW.out (gi S.m (i * E + (n + j)))
                    rw [Hid, ← ivAt_set n S.m hlt hlt2, ← HE.out]
                    exact this
                  clear L hE7 c1 f1 x3 f3 lB q0 q1 q2 q3 lM m3 v1 v2 v3
                  go_wp2
                  exact ⟨⟨j + 1, by omega, by simp, N1⟩, by simp [intOf]; omega⟩
              · obtain rfl : n = j := by omega
                have N1 : Hid (Loc W5 wr OB b4 [.int .i64 P, .int .i64 n, .int .i64 n, .slice (some ⟨b4, 0, none⟩) nn nn] (ivAt n S.m ((i + 1) * n))) := by rw [Hid, Nat.add_mul, Nat.one_mul]; exact L.out
                clear L
                go_wp2
                exact ⟨⟨i + 1, by omega, by simp, N1⟩, by simp [intOf]; omega⟩
          · obtain rfl : n = i := by omega
            have hfin := L.out.has
            rw [ivAt_full] at hfin
            have HF := Lib.hid hfin
            have HE9 := Lib.hid (EE5.out.trans L.out.ext)
            have RZ := R5.out.ext L.out.ext
            have hb4l := L.out.lt
            have hb4o := L.out.lo
            have hw5 := EE5.out.le
            have hr5 := R5.out.1
            have lD := L.out.box.1
            have p0 := L.out.box.2 0 _ rfl
            have p1 := L.out.box.2 1 _ rfl
            have p2 := L.out.box.2 2 _ rfl
            have p3 := L.out.box.2 3 _ rfl
            have r0 := RZ.2 0 _ rfl
            have r1 := RZ.2 1 _ rfl
            have r2 := RZ.2 2 _ rfl
            have r3 := RZ.2 3 _ rfl
            have tR := RZ.3
            have lR := RZ.1
            have hil : (invR n S.m).length = nn := by rw [invR_length]; exact HNN.out.symm
            have HIL := Lib.hid hil
            clear L RZ hfin hil
            go_wp2
            rw [HSS.out]
            refine bodyPost_ret (v := .tuple #[.agg #[.int .i64 P, .int .i64 n, .int .i64 n, .slice (some ⟨b4, 0, none⟩) nn nn], .bool true]) (by simp [results, Try.results62, go_sem, r0, r1, r2, r3]) rfl ⟨_, rfl, ⟨_, _, _, rfl, ?_, by omega⟩, ext4 HE9.out (by omega) _ _ _ _⟩
            refine Own.mono (own4 (HF.out.own (lo := w.heap.size + 1 + 1) (hi := wr.heap.size) (by omega) (by omega) HIL.out) (by omega) _ _ _ _) (by omega) (by simp)

set_option maxRecDepth 100000 in
set_option maxHeartbeats 6400000 in
theorem inverseMatrix_spec {P R C : Int} {a0 oa nn : Nat} {xs : List Int} {w : World} {p r c : Int} {d : List Int} {ok : Bool} (h : Reads w (some ⟨a0, oa, none⟩) nn xs) (hm : nn ≤ 1048576) (hM : invertM P R C xs = (⟨p, r, c, d⟩, ok)) :
    Calls Try.prog 28 #[.agg #[.int .i64 P, .int .i64 R, .int .i64 C, .slice (some ⟨a0, oa, none⟩) nn nn]] w fun e w' => ∃ v, e = .returned (.tuple #[v, .bool ok]) ∧ Rmat w w' v p r c d ∧ Ext w w' := by
  have HR := Lib.hid h
  have hm2 : nn ≤ maxLen := by unfold maxLen; omega
  rcases h1 : mok P R C xs with _ | _
  · simp only [invertM, h1, noMat, Bool.false_and, Bool.false_eq_true, if_false, Prod.mk.injEq, Mat.mk.injEq] at hM
    obtain ⟨⟨rfl, rfl, rfl, rfl⟩, rfl⟩ := hM
    have H1 := Lib.hid h1
    clear h1 h
    go_enter Try.func28, Try.ntmps28
    have A0_1 := Lib.hid ((cells_new' w #[.int .i64 P, .int .i64 R, .int .i64 C, .slice (some ⟨a0, oa, none⟩) nn nn] 26 (w.heap.size) (by simp)).ext ((Ext.refl _).alloc (.cells #[.int .i64 0, .int .i64 0, .int .i64 0, .slice none 0 0] 26)))
    have R_2 := Lib.hid (cells_new' (w.alloc (.cells #[.int .i64 P, .int .i64 R, .int .i64 C, .slice (some ⟨a0, oa, none⟩) nn nn] 26)) #[.int .i64 0, .int .i64 0, .int .i64 0, .slice none 0 0] 26 (w.heap.size + 1) (by simp))
    have E_3 := Lib.hid (((Ext.refl w).alloc (.cells #[.int .i64 P, .int .i64 R, .int .i64 C, .slice (some ⟨a0, oa, none⟩) nn nn] 26)).alloc (.cells #[.int .i64 0, .int .i64 0, .int .i64 0, .slice none 0 0] 26))
    have lA0 := A0_1.out.1
    have qA00 := A0_1.out.2 0 _ rfl
    have qA01 := A0_1.out.2 1 _ rfl
    have qA02 := A0_1.out.2 2 _ rfl
    have qA03 := A0_1.out.2 3 _ rfl
    try simp only [World.size_alloc] at lA0
    go_wp2_with fail
    refine (matrixOk_spec _ _ _ _ _ _ xs _ (HR.out.ext E_3.out) hm2).mono ?_
    rintro e w_4 ⟨rfl, h_4⟩
    clear lA0 qA00 qA01 qA02 qA03
    have A0_5 := Lib.hid (A0_1.out.ext h_4)
    clear A0_1
    have R_6 := Lib.hid (R_2.out.ext h_4)
    clear R_2
    have E_7 := Lib.hid (E_3.out.trans h_4)
    clear E_3
    rw [H1.out]
    have lA0 := A0_5.out.1
    have qA00 := A0_5.out.2 0 _ rfl
    have qA01 := A0_5.out.2 1 _ rfl
    have qA02 := A0_5.out.2 2 _ rfl
    have qA03 := A0_5.out.2 3 _ rfl
    try simp only [World.size_alloc] at lA0
    have r0 := R_6.out.2 0 _ rfl
    have r1 := R_6.out.2 1 _ rfl
    have r2 := R_6.out.2 2 _ rfl
    have r3 := R_6.out.2 3 _ rfl
    have tR := R_6.out.3
    have lR := R_6.out.1
    go_wp2
    refine bodyPost_ret (v := .tuple #[.agg #[.int .i64 0, .int .i64 0, .int .i64 0, .slice none 0 0], .bool false]) (by simp [results, Try.results28, go_sem, r0, r1, r2, r3]) rfl ⟨_, rfl, ⟨_, _, _, rfl, own_nil _ _ _, by omega⟩, ext4 E_7.out (by omega) _ _ _ _⟩
  have H1 := Lib.hid h1
  by_cases hRC : R = C
  case neg =>
    have hb : (R == C) = false := by simpa using hRC
    have hb2 : (R != C) = true := by simpa using hRC
    simp only [invertM, hb, noMat, Bool.and_false, Bool.false_eq_true, if_false, Prod.mk.injEq, Mat.mk.injEq] at hM
    obtain ⟨⟨rfl, rfl, rfl, rfl⟩, rfl⟩ := hM
    clear h1 h hRC hb
    go_enter Try.func28, Try.ntmps28
    have A0_1 := Lib.hid ((cells_new' w #[.int .i64 P, .int .i64 R, .int .i64 C, .slice (some ⟨a0, oa, none⟩) nn nn] 26 (w.heap.size) (by simp)).ext ((Ext.refl _).alloc (.cells #[.int .i64 0, .int .i64 0, .int .i64 0, .slice none 0 0] 26)))
    have R_2 := Lib.hid (cells_new' (w.alloc (.cells #[.int .i64 P, .int .i64 R, .int .i64 C, .slice (some ⟨a0, oa, none⟩) nn nn] 26)) #[.int .i64 0, .int .i64 0, .int .i64 0, .slice none 0 0] 26 (w.heap.size + 1) (by simp))
    have E_3 := Lib.hid (((Ext.refl w).alloc (.cells #[.int .i64 P, .int .i64 R, .int .i64 C, .slice (some ⟨a0, oa, none⟩) nn nn] 26)).alloc (.cells #[.int .i64 0, .int .i64 0, .int .i64 0, .slice none 0 0] 26))
    have lA0 := A0_1.out.1
    have qA00 := A0_1.out.2 0 _ rfl
    have qA01 := A0_1.out.2 1 _ rfl
    have qA02 := A0_1.out.2 2 _ rfl
    have qA03 := A0_1.out.2 3 _ rfl
    try simp only [World.size_alloc] at lA0
    go_wp2_with fail
    refine (matrixOk_spec _ _ _ _ _ _ xs _ (HR.out.ext E_3.out) hm2).mono ?_
    rintro e w_4 ⟨rfl, h_4⟩
    clear lA0 qA00 qA01 qA02 qA03
    have A0_5 := Lib.hid (A0_1.out.ext h_4)
    clear A0_1
    have R_6 := Lib.hid (R_2.out.ext h_4)
    clear R_2
    have E_7 := Lib.hid (E_3.out.trans h_4)
    clear E_3
    rw [H1.out]
    have lA0 := A0_5.out.1
    have qA00 := A0_5.out.2 0 _ rfl
    have qA01 := A0_5.out.2 1 _ rfl
    have qA02 := A0_5.out.2 2 _ rfl
    have qA03 := A0_5.out.2 3 _ rfl
    try simp only [World.size_alloc] at lA0
    have r0 := R_6.out.2 0 _ rfl
    have r1 := R_6.out.2 1 _ rfl
    have r2 := R_6.out.2 2 _ rfl
    have r3 := R_6.out.2 3 _ rfl
    have tR := R_6.out.3
    have lR := R_6.out.1
    go_wp2
    refine bodyPost_ret (v := .tuple #[.agg #[.int .i64 0, .int .i64 0, .int .i64 0, .slice none 0 0], .bool false]) (by simp [results, Try.results28, go_sem, r0, r1, r2, r3]) rfl ⟨_, rfl, ⟨_, _, _, rfl, own_nil _ _ _, by omega⟩, ext4 E_7.out (by omega) _ _ _ _⟩
  subst hRC
  have hp := mok_lo h1
  have hl1 := mok_len h1
  have HPR := Lib.hid (mok_iff.1 h1).1
  have HX := Lib.hid (mok_res h1)
  have hq1 := inB_iff.1 (mok_iff.1 h1).2.1
  simp only [invertM, h1, beq_self_eq_true, Bool.and_self, if_true] at hM
  obtain ⟨n, rfl⟩ := Int.eq_ofNat_of_zero_le hq1.1
  have hn40 : n ≤ 40 := by omega
  have hnn : nn = n * n := by rw [HR.out.1, ← Int.natCast_mul] at hl1; omega
  simp only [Int.toNat_natCast] at hM
  have HM := Lib.hid hM
  have HNN := Lib.hid hnn
  clear hl1 hq1 h1 h hM hnn
  go_enter Try.func28, Try.ntmps28
  have A0_1 := Lib.hid ((cells_new' w #[.int .i64 P, .int .i64 n, .int .i64 n, .slice (some ⟨a0, oa, none⟩) nn nn] 26 (w.heap.size) (by simp)).ext ((Ext.refl _).alloc (.cells #[.int .i64 0, .int .i64 0, .int .i64 0, .slice none 0 0] 26)))
  have R_2 := Lib.hid (cells_new' (w.alloc (.cells #[.int .i64 P, .int .i64 n, .int .i64 n, .slice (some ⟨a0, oa, none⟩) nn nn] 26)) #[.int .i64 0, .int .i64 0, .int .i64 0, .slice none 0 0] 26 (w.heap.size + 1) (by simp))
  have E_3 := Lib.hid (((Ext.refl w).alloc (.cells #[.int .i64 P, .int .i64 n, .int .i64 n, .slice (some ⟨a0, oa, none⟩) nn nn] 26)).alloc (.cells #[.int .i64 0, .int .i64 0, .int .i64 0, .slice none 0 0] 26))
  have lA0 := A0_1.out.1
  have qA00 := A0_1.out.2 0 _ rfl
  have qA01 := A0_1.out.2 1 _ rfl
  have qA02 := A0_1.out.2 2 _ rfl
  have qA03 := A0_1.out.2 3 _ rfl
  try simp only [World.size_alloc] at lA0
  go_wp2_with fail
  refine (matrixOk_spec _ _ _ _ _ _ xs _ (HR.out.ext E_3.out) hm2).mono ?_
  rintro e w_4 ⟨rfl, h_4⟩
  clear lA0 qA00 qA01 qA02 qA03
  have A0_5 := Lib.hid (A0_1.out.ext h_4)
  clear A0_1
  have R_6 := Lib.hid (R_2.out.ext h_4)
  clear R_2
  have E_7 := Lib.hid (E_3.out.trans h_4)
  clear E_3
  rw [H1.out]
  have lA0 := A0_5.out.1
  have qA00 := A0_5.out.2 0 _ rfl
  have qA01 := A0_5.out.2 1 _ rfl
  have qA02 := A0_5.out.2 2 _ rfl
  have qA03 := A0_5.out.2 3 _ rfl
  try simp only [World.size_alloc] at lA0
  go_wp2_with fail
  refine (l1Invert_spec P n nn a0 oa xs _ (HR.out.ext E_7.out) HNN.out hn40 HPR.out HX.out HM.out).mono ?_
  rintro e w_8 ⟨v, rfl, ⟨va, vn, vc, rfl, ho, hvn⟩, h_8⟩
  clear lA0 qA00 qA01 qA02 qA03
  have hle := R_6.out.1
  have HO := Lib.hid ho
  clear ho
  have A0_9 := Lib.hid (A0_5.out.ext h_8)
  clear A0_5
  have R_10 := Lib.hid (R_6.out.ext h_8)
  clear R_6
  have E_11 := Lib.hid (E_7.out.trans h_8)
  clear E_7
  have lA0 := A0_9.out.1
  have qA00 := A0_9.out.2 0 _ rfl
  have qA01 := A0_9.out.2 1 _ rfl
  have qA02 := A0_9.out.2 2 _ rfl
  have qA03 := A0_9.out.2 3 _ rfl
  try simp only [World.size_alloc] at lA0
  have r0 := R_10.out.2 0 _ rfl
  have r1 := R_10.out.2 1 _ rfl
  have r2 := R_10.out.2 2 _ rfl
  have r3 := R_10.out.2 3 _ rfl
  have tR := R_10.out.3
  have lR := R_10.out.1
  go_wp2
  refine bodyPost_ret (v := .tuple #[.agg #[.int .i64 p, .int .i64 r, .int .i64 c, .slice va vn vc], .bool ok]) (by simp [results, Try.results28, go_sem, r0, r1, r2, r3]) rfl ⟨_, rfl, ⟨_, _, _, rfl, ?_, by omega⟩, ext4 E_11.out (by omega) _ _ _ _⟩
  refine Own.mono (own4 HO.out (by omega) _ _ _ _) (by omega) (by simp)
end Go.Proofs.Ytafeognjplphhaa
