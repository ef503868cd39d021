/-
  Tables of brackets of rows, in the program.
-/
import Derived.Test.YtapaopapgnfdkaaTkC
import Derived.Test.YtapaopapgnfdkaaTk
import Derived.Test.YtapaopapgnfdkaaBr
import Derived.Test.YtapaopapgnfdkaaPrI0
import Derived.Test.YtapaopapgnfdkaaCs
import Derived.Test.YtapaopapgnfdkaaClC
import Derived.Laws.EntriesVeiled
import Derived.RegionTactic
namespace Go.Proofs.Ytapaopapgnfdkaa
open Go.ChangeShapes Go.WideShapes Go.ChangeAt Go.RowKit
set_option linter.unusedVariables false
set_option linter.unusedSimpArgs false

theorem KeptR.set3' {w W0 w1 : World} {N : Nat} (h : Ext w w1 ∧ N ≤ w1.heap.size ∧ ∀ b o, b < N → w1.cell? ⟨b, o, none⟩ = W0.cell? ⟨b, o, none⟩) (hN : w.heap.size ≤ N) (v0 v1 v2 : Value) :
    Ext w (((w1.setCell ⟨N, 0, none⟩ v0).setCell ⟨N, 1, none⟩ v1).setCell ⟨N, 2, none⟩ v2) ∧ N ≤ (((w1.setCell ⟨N, 0, none⟩ v0).setCell ⟨N, 1, none⟩ v1).setCell ⟨N, 2, none⟩ v2).heap.size ∧ ∀ b o, b < N → (((w1.setCell ⟨N, 0, none⟩ v0).setCell ⟨N, 1, none⟩ v1).setCell ⟨N, 2, none⟩ v2).cell? ⟨b, o, none⟩ = W0.cell? ⟨b, o, none⟩ :=
  KeptR.set (KeptR.set (KeptR.set h hN 0 v0) hN 1 v1) hN 2 v2

set_option maxRecDepth 100000 in
set_option maxHeartbeats 6400000 in
theorem tableOf_Q (P : Int) (D nn n1 B a0 oa n m0 mo F0 F1 : Nat) (l ms : List Int) (f : Nat → List Int) (w : World) (hc : Cells w B [.int .i64 P, .int .i64 D, .slice (some ⟨a0, oa, none⟩) n n]) (hD : D ≤ 28) (hnn : nn ≤ 28) (hn1 : n1 = nn * D) (hn : n = D * D * D) (hT : Reads w (some ⟨a0, oa, none⟩) n l) (hX : Reads w (some ⟨m0, mo, none⟩) n1 ms) (hp : 2 ≤ P) (hp2 : P ≤ 10007) (hl : Res l P) (hx : Res ms P) (hf : ∀ i, i < nn → (f i).length = nn * nn)
    (hcl : ∀ i, i < nn → ∀ w1 b, Ext w w1 → Has w1 b (bRows P D l (rowL D ms i) ms nn).flatten → Calls Try.prog 112 #[.agg #[.int .i64 P, .int .i64 (nn : Nat), .int .i64 D, .slice (some ⟨b, 0, none⟩) n1 n1], .pointer (some ⟨F0, 0, none⟩), .pointer (some ⟨F1, 0, none⟩)] w1 fun e w' => ∃ b' x0 x1 x2 c', e = .returned (.agg #[x0, x1, x2, .slice (some ⟨b', 0, none⟩) (nn * nn) c']) ∧ w1.heap.size ≤ b' ∧ b' < w'.heap.size ∧ Has w' b' (f i) ∧ Ext w1 w') :
    Calls Try.prog 102 #[.pointer (some ⟨B, 0, none⟩), .agg #[.int .i64 P, .int .i64 (nn : Nat), .int .i64 D, .slice (some ⟨m0, mo, none⟩) n1 n1], .func (.func 112) #[] #[.pointer (some ⟨F0, 0, none⟩), .pointer (some ⟨F1, 0, none⟩)]] w fun e w' => ∃ a m c, e = .returned (.agg #[.int .i64 P, .int .i64 (nn : Nat), .slice a m c]) ∧ Own w' w.heap.size w'.heap.size a m (bk f nn) ∧ m = nn * (nn * nn) ∧ Ext w w' := by
  have HC := Lib.hid hc
  have HX := Lib.hid hX
  have HN1 := Lib.hid hn1
  have HF := Lib.hid hf
  have HCL := Lib.hid hcl
  have h28 := cube28 hnn
  have h27 : nn * D ≤ 784 := Nat.mul_le_mul hnn hD
  have h26 : nn * nn ≤ 784 := Nat.mul_le_mul hnn hnn
  have h25 : n1 ≤ 784 := by rw [hn1]; exact h27
  have HRW : Hid (∀ wx i, i < nn → Calls Try.prog 78 #[.agg #[.int .i64 P, .int .i64 (nn : Nat), .int .i64 D, .slice (some ⟨m0, mo, none⟩) n1 n1], .int .i64 (i : Nat)] wx fun e w' => e = .returned (.slice (some ⟨m0, mo + i * D, none⟩) D (n1 - i * D)) ∧ Ext wx w') := fun wx i hi => rowOf_impl P nn D i m0 mo n1 wx (by rw [hn1]; exact Nat.mul_le_mul_right D hi) (by omega) (by omega)
  have HBR : Hid (∀ wx i, i < nn → Ext w wx → Calls Try.prog 163 #[.pointer (some ⟨B, 0, none⟩), .slice (some ⟨m0, mo + i * D, none⟩) D (n1 - i * D), .agg #[.int .i64 P, .int .i64 (nn : Nat), .int .i64 D, .slice (some ⟨m0, mo, none⟩) n1 n1]] wx fun e w' => ∃ b, e = .returned (.agg #[.int .i64 P, .int .i64 (nn : Nat), .int .i64 D, .slice (some ⟨b, 0, none⟩) n1 n1]) ∧ wx.heap.size ≤ b ∧ b < w'.heap.size ∧ Has w' b (bRows P D l (rowL D ms i) ms nn).flatten ∧ Ext wx w') := fun wx i hi h =>
    bracketsR_impl P D nn n1 B a0 oa n n m0 (mo + i * D) (n1 - i * D) m0 mo l (rowL D ms i) ms wx (hc.ext h) hD (by omega) hn1 hn (Nat.le_refl _) (by unfold maxLen; have := cube28 hD; omega) (hT.ext h) (reads_row (hX.ext h) hn1 hi) (hX.ext h) hp hp2 hl (rowR_res (by omega) hx i) hx
  have HBK : Hid (∀ k, k ≤ nn → (bk f k).length = k * (nn * nn)) := fun k hk => bk_length (n := nn) hf k hk
  have e1 : (nn : Int) * (nn : Int) = ((nn * nn : Nat) : Int) := by simp
  have e2 : (nn : Int) * (nn : Int) * (nn : Int) = ((nn * nn * nn : Nat) : Int) := by simp
  have v1 : IntKind.i64.wrap ((nn : Int) * (nn : Int)) = (nn : Int) * (nn : Int) := IntWalk.i64_in _ ⟨by rw [e1]; omega, by rw [e1]; omega⟩
  obtain ⟨N3, hN3⟩ : ∃ N3, nn * nn * nn = N3 := ⟨_, rfl⟩
  have v2 : IntKind.i64.wrap ((nn : Int) * (nn : Int) * (nn : Int)) = (N3 : Int) := by rw [← hN3, ← e2]; exact IntWalk.i64_in _ ⟨by rw [e2]; omega, by rw [e2]; omega⟩
  have hfd := run_fieldM
  have HN3 := Lib.hid hN3
  have hN3b : N3 ≤ 21952 := by omega
  clear hc hX hn1 hf hcl hT hl hx hn e1 e2 hN3
  go_enter Try.func102, Try.ntmps102
  have A0_1 := Lib.hid ((cells_new' w #[.int .i64 P, .int .i64 (nn : Nat), .int .i64 D, .slice (some ⟨m0, mo, none⟩) n1 n1] 40 (w.heap.size) (by simp)).ext ((Ext.refl _).alloc (.cells #[.int .i64 0, .int .i64 0, .slice none 0 0] 28)))
  have R_2 := Lib.hid (cells_new' (w.alloc (.cells #[.int .i64 P, .int .i64 (nn : Nat), .int .i64 D, .slice (some ⟨m0, mo, none⟩) n1 n1] 40)) #[.int .i64 0, .int .i64 0, .slice none 0 0] 28 (w.heap.size + 1) (by simp))
  have E_3 := Lib.hid (((Ext.refl w).alloc (.cells #[.int .i64 P, .int .i64 (nn : Nat), .int .i64 D, .slice (some ⟨m0, mo, none⟩) n1 n1] 40)).alloc (.cells #[.int .i64 0, .int .i64 0, .slice none 0 0] 28))
  have hmk := make_ints0 N3 (by omega) ((w.alloc (.cells #[.int .i64 P, .int .i64 (nn : Nat), .int .i64 D, .slice (some ⟨m0, mo, none⟩) n1 n1] 40)).alloc (.cells #[.int .i64 0, .int .i64 0, .slice none 0 0] 28))
  have lA := A0_1.out.1
  have a1' := A0_1.out.2 1 _ rfl
  try simp only [World.size_alloc] at lA
  go_wp2_with fail
  generalize hWX : ((w.alloc (.cells #[.int .i64 P, .int .i64 (nn : Nat), .int .i64 D, .slice (some ⟨m0, mo, none⟩) n1 n1] 40)).alloc (.cells #[.int .i64 0, .int .i64 0, .slice none 0 0] 28)) = WX at *
  have hws : WX.heap.size = w.heap.size + 1 + 1 := by rw [← hWX]; simp
  have HWS := Lib.hid hws
  clear lA a1' hmk hws hWX
  have G0 : Hid (Grows (WX.alloc (.cells (ints (List.replicate N3 0)) 3)) WX.heap.size (.slice (some ⟨WX.heap.size, 0, none⟩) (0 * (nn * nn)) N3) (0 * (nn * nn)) (bk f 0)) := by
    rw [Nat.zero_mul, bk_zero]; exact grows_made0 WX WX.heap.size N3 (Nat.le_refl _) (by unfold maxLen; omega)
  have E0 := Lib.hid ((Ext.refl WX).alloc (.cells (ints (List.replicate N3 0)) 3))
  go_loopw [19, 8, 9] (fun z tv _ wr => ∃ (i : Nat) (va : Option Addr) (vc : Nat), i ≤ nn ∧ z = .int .i64 i ∧ tv = .slice va (i * (nn * nn)) vc ∧ Hid (Grows wr WX.heap.size (.slice va (i * (nn * nn)) vc) (i * (nn * nn)) (bk f i)) ∧ Hid (Ext WX wr)) (fun z _ _ _ => nn - (intOf z).toNat)
  case atStart => exact ⟨0, some ⟨WX.heap.size, 0, none⟩, N3, by omega, rfl, by simp [HWS.out], G0, E0⟩
  case round =>
    clear G0 E0
    obtain ⟨i, va, vc, hi, rfl, rfl, hG, hE⟩ := hrel
    by_cases hlt : i < nn
    · have lW := A0_1.out.1
      have u0 := A0_1.out.2 0 _ rfl
      have u1 := A0_1.out.2 1 _ rfl
      have u2 := A0_1.out.2 2 _ rfl
      have u3 := A0_1.out.2 3 _ rfl
      have HRW1 := Lib.hid (fun wx => HRW.out wx i hlt)
      have HBR1 := Lib.hid (fun wx => HBR.out wx i hlt)
      have HCL1 := Lib.hid (HCL.out i hlt)
      have hfl := HF.out i hlt
      have hbl := HBK.out i (by omega)
      have hin : i * (nn * nn) + nn * nn ≤ 21952 := by
        have h9 : (i + 1) * (nn * nn) ≤ nn * (nn * nn) := Nat.mul_le_mul_right _ hlt
        rw [Nat.add_mul, Nat.one_mul, ← Nat.mul_assoc nn nn nn] at h9; have := HN3.out; omega
      have HIN := Lib.hid hin
      have HSC0 : Hid (i * (nn * nn) + nn * nn = (i + 1) * (nn * nn)) := by rw [Hid, Nat.add_mul, Nat.one_mul]
      clear hin
      generalize hNQ : nn * nn = NQ at *
      have HNQ := Lib.hid hNQ
      clear hNQ
      generalize hIQ : i * NQ = IQ at *
      have HIQ := Lib.hid hIQ
      clear hIQ
      go_wp2_with fail
      go_region_held3 (fun w' => Ext WX w' ∧ (∀ b o, b < WX.heap.size → w'.cell? ⟨b, o, none⟩ = WX.cell? ⟨b, o, none⟩)) (first | assumption | (with_reducible exact ext2 (Ext.trans (And.left ‹Ext WX _ ∧ _›) ‹Ext _ _›)) | (refine ext2 ?_; with_reducible repeat (first | exact Ext.refl _ | exact And.left ‹Ext WX _ ∧ _› | exact hE.out | refine Ext.drew ?_ | refine Ext.drewN ?_ _))) (first
        | (go_at_call 78; (with_reducible refine (HRW1.out _).mono ?_); rintro e w3 ⟨rfl, h3⟩)
        | (go_at_call 163; (with_reducible refine (HBR1.out _ (E_3.out.trans (And.left ‹Ext WX _ ∧ _›))).mono ?_); rintro e w4 ⟨b4, rfl, hb41, hb42, kb4, h4⟩)
        | (go_at_call 112; (with_reducible refine (HCL1.out _ b4 (E_3.out.trans (And.left ‹Ext WX _ ∧ _›)) kb4).mono ?_); rintro e w5 ⟨b5, x0, x1, x2, c5, rfl, hb51, hb52, kb5, h5⟩)
        | (have e35 : Ext wr w5 := Ext.trans (Ext.trans (Ext.trans (Ext.drew (Ext.refl _)) h3) h4) h5
           have sz0 := hE.out.le
           have sz5 := e35.le
           refine step_appendM rfl (.tmp 22) (.tmp 31) rfl _ (info_parts Try.infoInt).choose_spec.1 (info_parts Try.infoInt).choose_spec.2.1 (info_parts Try.infoInt).choose_spec.2.2.1 (info_parts Try.infoInt).choose_spec.2.2.2 (base := WX.heap.size) (.slice va IQ vc) IQ (bk f i) rfl (hG.out.ext e35) ⟨b5, 0, none⟩ NQ c5 (f i) rfl (kb5.reads hfl) (by have := HIN.out; omega) (by omega) ?_
           intro v6 w6 hG6 hg6 hn6
           have E6 : Ext WX w6 := Ext.grown (Ext.trans hE.out e35) hg6 (fun z hz => by have := (hG.out.blk z hz).1; omega)
           have E62 := ext2 E6))
      all_goals
        have hG7 : Hid (Grows w6 WX.heap.size v6 ((i + 1) * NQ) (bk f (i + 1))) := by rw [Hid, bk_succ, Nat.add_mul, Nat.one_mul, HIQ.out]; exact hG6
        have E7 := Lib.hid E6
        clear hG hE E6 E62 hg6 hn6 h3 h4 h5 kb4 kb5 e35
        obtain ⟨va6, vc6, rfl, _⟩ := hG7.out.shape
        go_wp2
        exact ⟨⟨i + 1, va6, vc6, by omega, by simp, rfl, hG7, E7⟩, by simp [intOf]; omega⟩
    · obtain rfl : nn = i := by omega
      have KB := HC.out.ext ((E_3.out.trans hE.out))
      have KR := R_2.out.ext hE.out
      have r0 := KR.2 0 _ rfl
      have r1 := KR.2 1 _ rfl
      have r2 := KR.2 2 _ rfl
      have tR := KR.3
      have lR := KR.1
      have lB := KB.1
      have b0 := KB.2 0 _ rfl
      have EE := Lib.hid (E_3.out.trans hE.out)
      have hws := HWS.out
      have hgo : Own wr w.heap.size wr.heap.size va (nn * (nn * nn)) (bk f nn) := by
        obtain ⟨a9, c9, h9, ho⟩ := hG.out.shape
        injection h9 with h91 h92 h93
        subst h91
        exact ho.mono (by omega) (Nat.le_refl _)
      have hgo2 : Own wr (w.heap.size + 1 + 1) wr.heap.size va (nn * (nn * nn)) (bk f nn) := by
        obtain ⟨a9, c9, h9, ho⟩ := hG.out.shape
        injection h9 with h91 h92 h93
        subst h91
        exact ho.mono (by omega) (Nat.le_refl _)
      have HGO := Lib.hid hgo2
      clear KB KR hG hE hgo hgo2
      generalize hN4 : nn * (nn * nn) = N4 at *
      have HN4 := Lib.hid hN4.symm
      clear hN4
      go_wp2
      refine bodyPost_ret (v := .agg #[.int .i64 P, .int .i64 (nn : Nat), .slice va N4 vc]) (by simp [results, Try.results102, go_sem, r0, r1, r2]) rfl ⟨va, N4, vc, rfl, ?_, HN4.out, ext3 EE.out (by omega) _ _ _⟩
      exact Own.mono (own3 HGO.out (by omega) _ _ _) (by omega) (by simp)

set_option maxRecDepth 100000 in
set_option maxHeartbeats 6400000 in
theorem tableOf_S (P : Int) (D nn n1 B a0 oa n m0 mo F0 : Nat) (l ms : List Int) (f : Nat → List Int) (w : World) (hc : Cells w B [.int .i64 P, .int .i64 D, .slice (some ⟨a0, oa, none⟩) n n]) (hD : D ≤ 28) (hnn : nn ≤ 28) (hn1 : n1 = nn * D) (hn : n = D * D * D) (hT : Reads w (some ⟨a0, oa, none⟩) n l) (hX : Reads w (some ⟨m0, mo, none⟩) n1 ms) (hp : 2 ≤ P) (hp2 : P ≤ 10007) (hl : Res l P) (hx : Res ms P) (hf : ∀ i, i < nn → (f i).length = nn * nn)
    (hcl : ∀ i, i < nn → ∀ w1 b, Ext w w1 → Has w1 b (bRows P D l (rowL D ms i) ms nn).flatten → Calls Try.prog 103 #[.agg #[.int .i64 P, .int .i64 (nn : Nat), .int .i64 D, .slice (some ⟨b, 0, none⟩) n1 n1], .pointer (some ⟨F0, 0, none⟩)] w1 fun e w' => ∃ b' x0 x1 x2 c', e = .returned (.agg #[x0, x1, x2, .slice (some ⟨b', 0, none⟩) (nn * nn) c']) ∧ w1.heap.size ≤ b' ∧ b' < w'.heap.size ∧ Has w' b' (f i) ∧ Ext w1 w') :
    Calls Try.prog 102 #[.pointer (some ⟨B, 0, none⟩), .agg #[.int .i64 P, .int .i64 (nn : Nat), .int .i64 D, .slice (some ⟨m0, mo, none⟩) n1 n1], .func (.func 103) #[] #[.pointer (some ⟨F0, 0, none⟩)]] w fun e w' => ∃ a m c, e = .returned (.agg #[.int .i64 P, .int .i64 (nn : Nat), .slice a m c]) ∧ Own w' w.heap.size w'.heap.size a m (bk f nn) ∧ m = nn * (nn * nn) ∧ Ext w w' := by
  have HC := Lib.hid hc
  have HX := Lib.hid hX
  have HN1 := Lib.hid hn1
  have HF := Lib.hid hf
  have HCL := Lib.hid hcl
  have h28 := cube28 hnn
  have h27 : nn * D ≤ 784 := Nat.mul_le_mul hnn hD
  have h26 : nn * nn ≤ 784 := Nat.mul_le_mul hnn hnn
  have h25 : n1 ≤ 784 := by rw [hn1]; exact h27
  have HRW : Hid (∀ wx i, i < nn → Calls Try.prog 78 #[.agg #[.int .i64 P, .int .i64 (nn : Nat), .int .i64 D, .slice (some ⟨m0, mo, none⟩) n1 n1], .int .i64 (i : Nat)] wx fun e w' => e = .returned (.slice (some ⟨m0, mo + i * D, none⟩) D (n1 - i * D)) ∧ Ext wx w') := fun wx i hi => rowOf_impl P nn D i m0 mo n1 wx (by rw [hn1]; exact Nat.mul_le_mul_right D hi) (by omega) (by omega)
  have HBR : Hid (∀ wx i, i < nn → Ext w wx → Calls Try.prog 163 #[.pointer (some ⟨B, 0, none⟩), .slice (some ⟨m0, mo + i * D, none⟩) D (n1 - i * D), .agg #[.int .i64 P, .int .i64 (nn : Nat), .int .i64 D, .slice (some ⟨m0, mo, none⟩) n1 n1]] wx fun e w' => ∃ b, e = .returned (.agg #[.int .i64 P, .int .i64 (nn : Nat), .int .i64 D, .slice (some ⟨b, 0, none⟩) n1 n1]) ∧ wx.heap.size ≤ b ∧ b < w'.heap.size ∧ Has w' b (bRows P D l (rowL D ms i) ms nn).flatten ∧ Ext wx w') := fun wx i hi h =>
    bracketsR_impl P D nn n1 B a0 oa n n m0 (mo + i * D) (n1 - i * D) m0 mo l (rowL D ms i) ms wx (hc.ext h) hD (by omega) hn1 hn (Nat.le_refl _) (by unfold maxLen; have := cube28 hD; omega) (hT.ext h) (reads_row (hX.ext h) hn1 hi) (hX.ext h) hp hp2 hl (rowR_res (by omega) hx i) hx
  have HBK : Hid (∀ k, k ≤ nn → (bk f k).length = k * (nn * nn)) := fun k hk => bk_length (n := nn) hf k hk
  have e1 : (nn : Int) * (nn : Int) = ((nn * nn : Nat) : Int) := by simp
  have e2 : (nn : Int) * (nn : Int) * (nn : Int) = ((nn * nn * nn : Nat) : Int) := by simp
  have v1 : IntKind.i64.wrap ((nn : Int) * (nn : Int)) = (nn : Int) * (nn : Int) := IntWalk.i64_in _ ⟨by rw [e1]; omega, by rw [e1]; omega⟩
  obtain ⟨N3, hN3⟩ : ∃ N3, nn * nn * nn = N3 := ⟨_, rfl⟩
  have v2 : IntKind.i64.wrap ((nn : Int) * (nn : Int) * (nn : Int)) = (N3 : Int) := by rw [← hN3, ← e2]; exact IntWalk.i64_in _ ⟨by rw [e2]; omega, by rw [e2]; omega⟩
  have hfd := run_fieldM
  have HN3 := Lib.hid hN3
  have hN3b : N3 ≤ 21952 := by omega
  clear hc hX hn1 hf hcl hT hl hx hn e1 e2 hN3
  go_enter Try.func102, Try.ntmps102
  have A0_1 := Lib.hid ((cells_new' w #[.int .i64 P, .int .i64 (nn : Nat), .int .i64 D, .slice (some ⟨m0, mo, none⟩) n1 n1] 40 (w.heap.size) (by simp)).ext ((Ext.refl _).alloc (.cells #[.int .i64 0, .int .i64 0, .slice none 0 0] 28)))
  have R_2 := Lib.hid (cells_new' (w.alloc (.cells #[.int .i64 P, .int .i64 (nn : Nat), .int .i64 D, .slice (some ⟨m0, mo, none⟩) n1 n1] 40)) #[.int .i64 0, .int .i64 0, .slice none 0 0] 28 (w.heap.size + 1) (by simp))
  have E_3 := Lib.hid (((Ext.refl w).alloc (.cells #[.int .i64 P, .int .i64 (nn : Nat), .int .i64 D, .slice (some ⟨m0, mo, none⟩) n1 n1] 40)).alloc (.cells #[.int .i64 0, .int .i64 0, .slice none 0 0] 28))
  have hmk := make_ints0 N3 (by omega) ((w.alloc (.cells #[.int .i64 P, .int .i64 (nn : Nat), .int .i64 D, .slice (some ⟨m0, mo, none⟩) n1 n1] 40)).alloc (.cells #[.int .i64 0, .int .i64 0, .slice none 0 0] 28))
  have lA := A0_1.out.1
  have a1' := A0_1.out.2 1 _ rfl
  try simp only [World.size_alloc] at lA
  go_wp2_with fail
  generalize hWX : ((w.alloc (.cells #[.int .i64 P, .int .i64 (nn : Nat), .int .i64 D, .slice (some ⟨m0, mo, none⟩) n1 n1] 40)).alloc (.cells #[.int .i64 0, .int .i64 0, .slice none 0 0] 28)) = WX at *
  have hws : WX.heap.size = w.heap.size + 1 + 1 := by rw [← hWX]; simp
  have HWS := Lib.hid hws
  clear lA a1' hmk hws hWX
  have G0 : Hid (Grows (WX.alloc (.cells (ints (List.replicate N3 0)) 3)) WX.heap.size (.slice (some ⟨WX.heap.size, 0, none⟩) (0 * (nn * nn)) N3) (0 * (nn * nn)) (bk f 0)) := by
    rw [Nat.zero_mul, bk_zero]; exact grows_made0 WX WX.heap.size N3 (Nat.le_refl _) (by unfold maxLen; omega)
  have E0 := Lib.hid ((Ext.refl WX).alloc (.cells (ints (List.replicate N3 0)) 3))
  go_loopw [19, 8, 9] (fun z tv _ wr => ∃ (i : Nat) (va : Option Addr) (vc : Nat), i ≤ nn ∧ z = .int .i64 i ∧ tv = .slice va (i * (nn * nn)) vc ∧ Hid (Grows wr WX.heap.size (.slice va (i * (nn * nn)) vc) (i * (nn * nn)) (bk f i)) ∧ Hid (Ext WX wr)) (fun z _ _ _ => nn - (intOf z).toNat)
  case atStart => exact ⟨0, some ⟨WX.heap.size, 0, none⟩, N3, by omega, rfl, by simp [HWS.out], G0, E0⟩
  case round =>
    clear G0 E0
    obtain ⟨i, va, vc, hi, rfl, rfl, hG, hE⟩ := hrel
    by_cases hlt : i < nn
    · have lW := A0_1.out.1
      have u0 := A0_1.out.2 0 _ rfl
      have u1 := A0_1.out.2 1 _ rfl
      have u2 := A0_1.out.2 2 _ rfl
      have u3 := A0_1.out.2 3 _ rfl
      have HRW1 := Lib.hid (fun wx => HRW.out wx i hlt)
      have HBR1 := Lib.hid (fun wx => HBR.out wx i hlt)
      have HCL1 := Lib.hid (HCL.out i hlt)
      have hfl := HF.out i hlt
      have hbl := HBK.out i (by omega)
      have hin : i * (nn * nn) + nn * nn ≤ 21952 := by
        have h9 : (i + 1) * (nn * nn) ≤ nn * (nn * nn) := Nat.mul_le_mul_right _ hlt
        rw [Nat.add_mul, Nat.one_mul, ← Nat.mul_assoc nn nn nn] at h9; have := HN3.out; omega
      have HIN := Lib.hid hin
      have HSC0 : Hid (i * (nn * nn) + nn * nn = (i + 1) * (nn * nn)) := by rw [Hid, Nat.add_mul, Nat.one_mul]
      clear hin
      generalize hNQ : nn * nn = NQ at *
      have HNQ := Lib.hid hNQ
      clear hNQ
      generalize hIQ : i * NQ = IQ at *
      have HIQ := Lib.hid hIQ
      clear hIQ
      go_wp2_with fail
      go_region_held3 (fun w' => Ext WX w' ∧ (∀ b o, b < WX.heap.size → w'.cell? ⟨b, o, none⟩ = WX.cell? ⟨b, o, none⟩)) (first | assumption | (with_reducible exact ext2 (Ext.trans (And.left ‹Ext WX _ ∧ _›) ‹Ext _ _›)) | (refine ext2 ?_; with_reducible repeat (first | exact Ext.refl _ | exact And.left ‹Ext WX _ ∧ _› | exact hE.out | refine Ext.drew ?_ | refine Ext.drewN ?_ _))) (first
        | (go_at_call 78; (with_reducible refine (HRW1.out _).mono ?_); rintro e w3 ⟨rfl, h3⟩)
        | (go_at_call 163; (with_reducible refine (HBR1.out _ (E_3.out.trans (And.left ‹Ext WX _ ∧ _›))).mono ?_); rintro e w4 ⟨b4, rfl, hb41, hb42, kb4, h4⟩)
        | (go_at_call 103; (with_reducible refine (HCL1.out _ b4 (E_3.out.trans (And.left ‹Ext WX _ ∧ _›)) kb4).mono ?_); rintro e w5 ⟨b5, x0, x1, x2, c5, rfl, hb51, hb52, kb5, h5⟩)
        | (have e35 : Ext wr w5 := Ext.trans (Ext.trans (Ext.trans (Ext.drew (Ext.refl _)) h3) h4) h5
           have sz0 := hE.out.le
           have sz5 := e35.le
           refine step_appendM rfl (.tmp 22) (.tmp 31) rfl _ (info_parts Try.infoInt).choose_spec.1 (info_parts Try.infoInt).choose_spec.2.1 (info_parts Try.infoInt).choose_spec.2.2.1 (info_parts Try.infoInt).choose_spec.2.2.2 (base := WX.heap.size) (.slice va IQ vc) IQ (bk f i) rfl (hG.out.ext e35) ⟨b5, 0, none⟩ NQ c5 (f i) rfl (kb5.reads hfl) (by have := HIN.out; omega) (by omega) ?_
           intro v6 w6 hG6 hg6 hn6
           have E6 : Ext WX w6 := Ext.grown (Ext.trans hE.out e35) hg6 (fun z hz => by have := (hG.out.blk z hz).1; omega)
           have E62 := ext2 E6))
      all_goals
        have hG7 : Hid (Grows w6 WX.heap.size v6 ((i + 1) * NQ) (bk f (i + 1))) := by rw [Hid, bk_succ, Nat.add_mul, Nat.one_mul, HIQ.out]; exact hG6
        have E7 := Lib.hid E6
        clear hG hE E6 E62 hg6 hn6 h3 h4 h5 kb4 kb5 e35
        obtain ⟨va6, vc6, rfl, _⟩ := hG7.out.shape
        go_wp2
        exact ⟨⟨i + 1, va6, vc6, by omega, by simp, rfl, hG7, E7⟩, by simp [intOf]; omega⟩
    · obtain rfl : nn = i := by omega
      have KB := HC.out.ext ((E_3.out.trans hE.out))
      have KR := R_2.out.ext hE.out
      have r0 := KR.2 0 _ rfl
      have r1 := KR.2 1 _ rfl
      have r2 := KR.2 2 _ rfl
      have tR := KR.3
      have lR := KR.1
      have lB := KB.1
      have b0 := KB.2 0 _ rfl
      have EE := Lib.hid (E_3.out.trans hE.out)
      have hws := HWS.out
      have hgo : Own wr w.heap.size wr.heap.size va (nn * (nn * nn)) (bk f nn) := by
        obtain ⟨a9, c9, h9, ho⟩ := hG.out.shape
        injection h9 with h91 h92 h93
        subst h91
        exact ho.mono (by omega) (Nat.le_refl _)
      have hgo2 : Own wr (w.heap.size + 1 + 1) wr.heap.size va (nn * (nn * nn)) (bk f nn) := by
        obtain ⟨a9, c9, h9, ho⟩ := hG.out.shape
        injection h9 with h91 h92 h93
        subst h91
        exact ho.mono (by omega) (Nat.le_refl _)
      have HGO := Lib.hid hgo2
      clear KB KR hG hE hgo hgo2
      generalize hN4 : nn * (nn * nn) = N4 at *
      have HN4 := Lib.hid hN4.symm
      clear hN4
      go_wp2
      refine bodyPost_ret (v := .agg #[.int .i64 P, .int .i64 (nn : Nat), .slice va N4 vc]) (by simp [results, Try.results102, go_sem, r0, r1, r2]) rfl ⟨va, N4, vc, rfl, ?_, HN4.out, ext3 EE.out (by omega) _ _ _⟩
      exact Own.mono (own3 HGO.out (by omega) _ _ _) (by omega) (by simp)
end Go.Proofs.Ytapaopapgnfdkaa
