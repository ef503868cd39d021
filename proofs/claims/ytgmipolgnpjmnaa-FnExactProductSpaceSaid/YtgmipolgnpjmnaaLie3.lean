/-
  Tables behind a pointer: the law of Jacobi, and whether an algebra is valid, in the program.
-/
import Derived.Test.YtgmipolgnpjmnaaLie2
namespace Go.Proofs.Ytgmipolgnpjmnaa
open Go.ChangeShapes Go.WideShapes Go.ChangeAt Go.RowKit
set_option linter.unusedVariables false

/-- A list of the call's own in block b. -/
def Holds (w : World) (b D : Nat) : Prop := ∃ s, Has w b s ∧ s.length = D
theorem zeroInt (w : World) : (zeroValue 3).run Try.prog w = .ok (.int .i64 0) w := by kernel_rfl
/-- The three terms of the law, one behind the other. -/
def jac3 (D : Nat) (l : List Int) (i j k : Nat) : List Int := abTo D l (rowT D l k i) j (abTo D l (rowT D l j k) i (abTo D l (rowT D l i j) k (List.replicate D 0) D) D) D
theorem gi_repl (n k : Nat) : gi (List.replicate n (0 : Int)) k = 0 := by
  simp only [gi, List.getD_eq_getElem?_getD, List.getElem?_replicate]; split <;> rfl
theorem gi_jac3 {D : Nat} {l : List Int} {i j k m : Nat} (hm : m < D) : gi (jac3 D l i j k) m = jacN D l i j k m := by
  have e : ∀ x y, (sumN D fun c => gi (rowT D l x y) c * tb D l c k m) = adN D l (tb D l x y) k m := fun x y => sumN_congr (fun c hc => by rw [gi_rowT hc])
  have e2 : ∀ x y, (sumN D fun c => gi (rowT D l x y) c * tb D l c i m) = adN D l (tb D l x y) i m := fun x y => sumN_congr (fun c hc => by rw [gi_rowT hc])
  have e3 : ∀ x y, (sumN D fun c => gi (rowT D l x y) c * tb D l c j m) = adN D l (tb D l x y) j m := fun x y => sumN_congr (fun c hc => by rw [gi_rowT hc])
  rw [jac3, gi_abTo _ hm, gi_abTo _ hm, gi_abTo _ hm, gi_repl, e, e2, e3, jacN]; omega
def Jac2 (P : Int) (D : Nat) (l : List Int) (i j : Nat) : Prop := ∀ k, k < j → ∀ m, m < D → jacN D l i j k m % P = 0
def Jac1 (P : Int) (D : Nat) (l : List Int) (i : Nat) : Prop := ∀ j, j < i → Jac2 P D l i j
set_option maxRecDepth 100000 in
set_option maxHeartbeats 6400000 in
theorem obeysJacobi_impl (P : Int) (D B a0 oa n d : Nat) (l : List Int) (w : World) (hc : Cells w B [.int .i64 P, .int .i64 D, .slice (some ⟨a0, oa, none⟩) n d]) (hD : D ≤ 28) (hn : n = D * D * D) (hd : n ≤ d) (hd2 : d ≤ maxLen)
    (hT : Reads w (some ⟨a0, oa, none⟩) n l) (hp : 2 ≤ P) (hp2 : P ≤ 10007) (hl : Res l P) :
    Calls Try.prog 111 #[.pointer (some ⟨B, 0, none⟩)] w fun e w' => e = .returned (.bool (jacB P D l)) ∧ Ext w w' := by
  have HC := Lib.hid hc
  have HN := Lib.hid hn
  have HT := Lib.hid hT
  have HRL := Lib.hid hl
  have HD2 := Lib.hid hd2
  have lB := hc.1
  have q1 := hc.2 1 _ rfl
  have hmk := make_ints D (by omega)
  have HLL := Lib.hid (hT.1.trans hn)
  have S0 : Hid (Holds (w.alloc (.cells (ints (List.replicate D 0)) 3)) w.heap.size D) := ⟨_, Has.new w _, by simp⟩
  have E0 : Hid (Ext w (w.alloc (.cells (ints (List.replicate D 0)) 3))) := (Ext.refl w).alloc _
  clear hc hn hT hl hd2
  go_enter Try.func111, Try.ntmps111
  go_wp2_with fail
  clear lB q1 hmk
  go_loopw [18, 4] (fun z _ wr => ∃ i : Nat, i ≤ D ∧ z = .int .i64 i ∧ Hid (Ext w wr) ∧ Hid (Holds wr w.heap.size D) ∧ Hid (∀ q, q < i → Jac1 P D l q)) (fun z _ _ => D - (intOf z).toNat)
  case atStart => exact ⟨0, by omega, rfl, E0, S0, fun q hq => by omega⟩
  case round =>
    clear E0 S0
    obtain ⟨i, hi, rfl, hE, hS, hF⟩ := hrel
    by_cases hlt : i < D
    · go_wp2_with fail
      go_loopw [22, 5] (fun z _ wr => ∃ j : Nat, j ≤ i ∧ z = .int .i64 j ∧ Hid (Ext w wr) ∧ Hid (Holds wr w.heap.size D) ∧ Hid (∀ q, q < j → Jac2 P D l i q)) (fun z _ _ => i - (intOf z).toNat)
      case atStart => exact ⟨0, by omega, rfl, hE, hS, fun q hq => by omega⟩
      case round =>
        clear hE hS
        obtain ⟨j, hj, rfl, hE, hS, hG⟩ := hrel
        by_cases hlt2 : j < i
        · go_wp2_with fail
          go_loopw [26, 6] (fun z _ wr => ∃ k : Nat, k ≤ j ∧ z = .int .i64 k ∧ Hid (Ext w wr) ∧ Hid (Holds wr w.heap.size D) ∧ Hid (∀ q, q < k → ∀ m, m < D → jacN D l i j q m % P = 0)) (fun z _ _ => j - (intOf z).toNat)
          case atStart => exact ⟨0, by omega, rfl, hE, hS, fun q hq => by omega⟩
          case round =>
            clear hE hS
            obtain ⟨k, hk, rfl, hE, hS, hK⟩ := hrel
            by_cases hlt3 : k < j
            · have hjD : j < D := by omega
              have hkD : k < D := by omega
              obtain ⟨s, hs, hsl⟩ := hS.out
              have hcl : ∀ ty, (Builtin.clear_ #[22] ty #[.slice (some ⟨w.heap.size, 0, none⟩) D D]).run Try.prog wr = .ok (.tuple #[]) (wr.setCells w.heap.size 0 (List.replicate D (.int .i64 0))) :=
                fun ty => Lib.run_clear_slice wr 22 3 ty (.int .i64 0) Try.underlying22 zeroInt rfl rfl w.heap.size 0 D D (by omega) (fun q hq => by rw [hs.cell (0 + q) (by omega)]; rfl) (fun q hq => hs.free (0 + q))
              have hcr := has_clear hs hsl
              have H1 := Lib.hid hcr.1
              have EW := Lib.hid (hE.out.grown hcr.2 (fun k hk => by simp at hk; omega))
              have HB0 : Hid (B < w.heap.size) := HC.out.1
              have HA0 : Hid (a0 < w.heap.size) := by
                have := (reads_at HT.out (k := 0) (by rw [HN.out]; have := tb_lt (k := k) hlt hjD hkD; omega)).1
                exact this
              have hP0 : 0 < P := by omega
              have hr1 := rowT_res (D := D) hP0 HRL.out i j
              have hr2 := rowT_res (D := D) hP0 HRL.out j k
              have hr3 := rowT_res (D := D) hP0 HRL.out k i
              have hb1 := fun m hm => abTo_bd (j := k) hP0 hp2 hr1 (rowT_length HLL.out hlt hjD) HRL.out HLL.out hkD hD (S := 0) (s := List.replicate D 0) (fun m hm => by rw [gi_repl]; omega) D (Nat.le_refl _) m hm
              have hb2 := fun m hm => abTo_bd (j := i) hP0 hp2 hr2 (rowT_length HLL.out hjD hkD) HRL.out HLL.out hlt hD hb1 D (Nat.le_refl _) m hm
              have hb3 := fun m hm => abTo_bd (j := j) hP0 hp2 hr3 (rowT_length HLL.out hkD hlt) HRL.out HLL.out hjD hD hb2 D (Nat.le_refl _) m hm
              have HR1 := Lib.hid hr1
              have HR2 := Lib.hid hr2
              have HR3 := Lib.hid hr3
              have HB1 := Lib.hid hb1
              have HB2 := Lib.hid hb2
              have HB3 := Lib.hid hb3
              have HJ3 : Hid (abTo D l (rowT D l k i) j (abTo D l (rowT D l j k) i (abTo D l (rowT D l i j) k (List.replicate D 0) D) D) D = jac3 D l i j k) := rfl
              clear hs hsl hcr hr1 hr2 hr3 hb1 hb2 hb3 hE hS
              go_wp2_with (simp only [hcl])
              clear hcl
              generalize wr.setCells w.heap.size 0 (List.replicate D (.int .i64 0)) = W1 at *
              refine (bracket_impl P D B a0 oa n d i j _ (HC.out.ext EW.out) hD HN.out hd HD2.out hlt hjD).mono ?_
              rintro e w2 ⟨rfl, h2⟩
              go_wp2_with fail
              refine (addBracket_impl P D B a0 oa n d a0 (oa + (i * D + j) * D) _ _ w.heap.size k l (List.replicate D 0) (rowT D l i j) w2 (HC.out.ext (EW.out.trans h2)) hD HN.out hd HD2.out hkD (H1.out.ext h2) (by simp) (by have := HB0.out; omega) (HT.out.ext (EW.out.trans h2)) (by have := HA0.out; omega) (rowT_reads (HT.out.ext (EW.out.trans h2)) HN.out hlt hjD) (by have := HA0.out; omega) hp hp2 HRL.out HR1.out (fun m hm => by rw [gi_repl]; omega)).mono ?_
              rintro e w3 ⟨rfl, hs3, hg3⟩
              have E3 := Lib.hid ((EW.out.trans h2).grown hg3 (fun k hk => by simp at hk; omega))
              have H3 := Lib.hid hs3
              clear H1 EW h2 hs3 hg3
              go_wp2_with fail
              refine (bracket_impl P D B a0 oa n d j k _ (HC.out.ext E3.out) hD HN.out hd HD2.out hjD hkD).mono ?_
              rintro e w4 ⟨rfl, h4⟩
              go_wp2_with fail
              refine (addBracket_impl P D B a0 oa n d a0 (oa + (j * D + k) * D) _ _ w.heap.size i l _ (rowT D l j k) w4 (HC.out.ext (E3.out.trans h4)) hD HN.out hd HD2.out hlt (H3.out.ext h4) (abTo_length _) (by have := HB0.out; omega) (HT.out.ext (E3.out.trans h4)) (by have := HA0.out; omega) (rowT_reads (HT.out.ext (E3.out.trans h4)) HN.out hjD hkD) (by have := HA0.out; omega) hp hp2 HRL.out HR2.out (fun m hm => by have := HB1.out m hm; omega)).mono ?_
              rintro e w5 ⟨rfl, hs5, hg5⟩
              have E5 := Lib.hid ((E3.out.trans h4).grown hg5 (fun k hk => by simp at hk; omega))
              have H5 := Lib.hid hs5
              clear H3 E3 h4 hs5 hg5
              go_wp2_with fail
              refine (bracket_impl P D B a0 oa n d k i _ (HC.out.ext E5.out) hD HN.out hd HD2.out hkD hlt).mono ?_
              rintro e w6 ⟨rfl, h6⟩
              go_wp2_with fail
              refine (addBracket_impl P D B a0 oa n d a0 (oa + (k * D + i) * D) _ _ w.heap.size j l _ (rowT D l k i) w6 (HC.out.ext (E5.out.trans h6)) hD HN.out hd HD2.out hjD (H5.out.ext h6) (abTo_length _) (by have := HB0.out; omega) (HT.out.ext (E5.out.trans h6)) (by have := HA0.out; omega) (rowT_reads (HT.out.ext (E5.out.trans h6)) HN.out hkD hlt) (by have := HA0.out; omega) hp hp2 HRL.out HR3.out (fun m hm => by have := HB2.out m hm; omega)).mono ?_
              rintro e w7 ⟨rfl, hs7, hg7⟩
              have E7 := Lib.hid ((E5.out.trans h6).grown hg7 (fun k hk => by simp at hk; omega))
              rw [HJ3.out] at hs7
              have H7 := Lib.hid hs7
              have HS7 : Hid (Holds w7 w.heap.size D) := ⟨_, hs7, by rw [← HJ3.out]; exact abTo_length _⟩
              have HJL : Hid ((jac3 D l i j k).length = D) := by rw [← HJ3.out]; exact abTo_length _
              have HJP : Hid (∀ m, m < D → 0 ≤ gi (jac3 D l i j k) m) := fun m hm => by rw [← HJ3.out]; exact (HB3.out m hm).1
              clear H5 E5 h6 hs7 hg7
              have CW := HC.out.ext E7.out
              have lB := CW.1
              have q0 := CW.2 0 _ rfl
              clear CW
              go_wp2_with fail
              refine (multiplesOf_impl P _ D _ (jac3 D l i j k) w7 (H7.out.reads HJL.out) (by omega) hp hp2 HJP.out).mono ?_
              rintro e w' ⟨rfl, rfl⟩
              rcases hok : mulB P D (jac3 D l i j k) with _ | _
              · have HF2 : Hid (jacB P D l = false) := jacB_false (fun h => by
                  have := mulB_true (P := P) (n := D) (xs := jac3 D l i j k) (fun m hm => by rw [gi_jac3 hm]; exact h i j k hlt hlt2 hlt3 m hm)
                  rw [hok] at this; exact absurd this (by decide))
                clear hok
                go_wp2
                go_ret
                exact ⟨ret_bool HF2.out.symm, E7.out⟩
              · have HK2 : Hid (∀ q, q < k + 1 → ∀ m, m < D → jacN D l i j q m % P = 0) := fun q hq m hm => by
                  by_cases e : q = k
                  · subst e
                    rw [← gi_jac3 hm]
                    refine Classical.byContradiction (fun h => ?_)
                    have := mulB_false (P := P) (n := D) (xs := jac3 D l i j q) (fun h2 => h (h2 m hm))
                    rw [hok] at this; exact absurd this (by decide)
                  · exact hK.out q (by omega) m hm
                clear hok hK lB q0
                go_wp2
                exact ⟨⟨k + 1, by omega, by simp, E7, HS7, HK2⟩, by simp [intOf]; omega⟩
            · obtain rfl : j = k := by omega
              have HG2 : Hid (∀ q, q < j + 1 → Jac2 P D l i q) := fun q hq => by
                by_cases e : q = j
                · subst e; exact hK.out
                · exact hG.out q (by omega)
              clear hK hG
              go_wp2
              exact ⟨⟨j + 1, by omega, by simp, hE, hS, HG2⟩, by simp [intOf]; omega⟩
        · obtain rfl : i = j := by omega
          have HG2 : Hid (∀ q, q < i + 1 → Jac1 P D l q) := fun q hq => by
            by_cases e : q = i
            · subst e; exact hG.out
            · exact hF.out q (by omega)
          clear hG hF
          go_wp2
          exact ⟨⟨i + 1, by omega, by simp, hE, hS, HG2⟩, by simp [intOf]; omega⟩
    · obtain rfl : D = i := by omega
      have HF2 : Hid (jacB P D l = true) := jacB_true (fun i j k h1 h2 h3 m hm => hF.out i h1 j h2 k h3 m hm)
      clear hF
      go_wp2
      go_ret
      exact ⟨ret_bool HF2.out.symm, hE.out⟩
end Go.Proofs.Ytgmipolgnpjmnaa
