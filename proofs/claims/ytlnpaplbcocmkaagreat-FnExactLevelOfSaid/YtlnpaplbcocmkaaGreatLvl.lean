/-
  The level of a weight, in both texts.
-/
import Derived.Test.YtlnpaplbcocmkaaGreatPc5
import Derived.Test.YtlnpaplbcocmkaaGreatRsd
import Derived.Test.YtlnpaplbcocmkaaGreatClo
namespace Go.Proofs.YtlnpaplbcocmkaaGreat
open Go.ChangeShapes Go.WideShapes Go.ChangeAt Go.RowKit
set_option linter.unusedVariables false
set_option linter.unusedSimpArgs false

/-- The sum of the first k lists, and what it and they make of a weight. -/
def smS (co : Nat → List Int) (K : Nat) : Nat → List Int
  | 0 => List.replicate K 0
  | k + 1 => ptL (smS co K k) 1 (co k)
def lvS (co : Nat → List Int) (K : Nat) (w : List Int) : Nat → Int
  | 0 => 0
  | k + 1 => lvS co K w k + dotS (co k) w K
theorem smS_len (co : Nat → List Int) (K : Nat) : ∀ k, (smS co K k).length = K
  | 0 => by simp [smS]
  | k + 1 => by rw [smS, ptL_length, smS_len co K k]
theorem dot_pt {a b w : List Int} : ∀ n, n ≤ a.length → dotS (ptL a 1 b) w n = dotS a w n + dotS b w n
  | 0, _ => rfl
  | n + 1, h => by rw [dotS, dotS, dotS, dot_pt n (by omega), gi_ptL (by omega), Int.one_mul, Int.add_mul]; omega
theorem dot_zero (w : List Int) (K : Nat) : ∀ n, dotS (List.replicate K 0) w n = 0
  | 0 => rfl
  | n + 1 => by
    rw [dotS, dot_zero w K n]
    have : gi (List.replicate K (0 : Int)) n = 0 := by
      simp only [gi, List.getD_eq_getElem?_getD, List.getElem?_replicate]; split <;> rfl
    rw [this]; omega
theorem dot_sm (co : Nat → List Int) (K : Nat) (w : List Int) : ∀ k, dotS (smS co K k) w K = lvS co K w k
  | 0 => dot_zero w K K
  | k + 1 => by rw [smS, lvS, dot_pt K (by rw [smS_len]; exact Nat.le_refl _), dot_sm co K w k]
theorem smS_bnd {co : Nat → List Int} {K : Nat} (h : ∀ k e, -72 ≤ gi (co k) e ∧ gi (co k) e ≤ 72) : ∀ (k : Nat) (e : Nat), -(72 * (k : Int)) ≤ gi (smS co K k) e ∧ gi (smS co K k) e ≤ 72 * (k : Int)
  | 0, e => by
    have : gi (smS co K 0) e = 0 := by
      simp only [smS, gi, List.getD_eq_getElem?_getD, List.getElem?_replicate]; split <;> rfl
    rw [this]; omega
  | k + 1, e => by
    have h1 := smS_bnd (K := K) h k e
    have h2 := h k e
    by_cases he : e < K
    · rw [smS, gi_ptL (by rw [smS_len]; exact he)]; omega
    · have : gi (smS co K (k + 1)) e = 0 := by
        simp only [gi, List.getD_eq_getElem?_getD, List.getElem?_eq_none (show (smS co K (k + 1)).length ≤ e by rw [smS_len]; omega), Option.getD_none]
      rw [this]; omega
theorem dot_w {x w : List Int} {A : Int} (hA : 0 ≤ A) (hx : ∀ k, -A ≤ gi x k ∧ gi x k ≤ A) (hw : ∀ k, -1000 ≤ gi w k ∧ gi w k ≤ 1000) : ∀ n : Nat, -(A * 1000 * n) ≤ dotS x w n ∧ dotS x w n ≤ A * 1000 * n := dot_small hx hw
theorem lvS_bnd {co : Nat → List Int} {K : Nat} {w : List Int} (hK : K ≤ 4) (h : ∀ k e, -72 ≤ gi (co k) e ∧ gi (co k) e ≤ 72) (hw : ∀ k, -1000 ≤ gi w k ∧ gi w k ≤ 1000) : ∀ k : Nat, -(288000 * (k : Int)) ≤ lvS co K w k ∧ lvS co K w k ≤ 288000 * (k : Int)
  | 0 => by simp [lvS]
  | k + 1 => by
    have h1 := lvS_bnd hK h hw k
    have h2 := dot_small (h k) hw K
    have h3 : (72 * 1000 * (K : Int)) ≤ 288000 := by omega
    rw [lvS]; omega
theorem coM_bnd {xs ls r : List Int} {K : Nat} (hok : LenOk xs ls K) (hrb : ∀ e, -6 ≤ gi r e ∧ gi r e ≤ 6) (hrr : 2 ≤ innS xs ls r r K K ∧ innS xs ls r r K K ≤ 6) : ∀ e, -72 ≤ gi (coM xs ls r K) e ∧ gi (coM xs ls r K) e ≤ 72 := fun e => by
  by_cases he : e < K
  · rw [gi_coM he]
    have h1 := hrb e
    have h2 := hok.bnd e
    have h3 := mul_bnd (x := gi r e) (y := gi ls e) (A := 6) (B := 3) (by omega) (by omega) (by omega) (by omega)
    have h4 := tdiv_small (a := gi r e * gi ls e) (b := innS xs ls r r K K / 2) (M := 18) (by omega) (by omega) (by omega)
    omega
  · have : gi (coM xs ls r K) e = 0 := by
      simp only [gi, List.getD_eq_getElem?_getD, List.getElem?_eq_none (show (coM xs ls r K).length ≤ e by rw [coM_len]; omega), Option.getD_none]
    rw [this]; omega

/-- The roots, each with its coroot. -/
def coR (xs ls : List Int) (R : Nat) (k : Nat) : List Int := coM xs ls (row (posR xs R) k) R
theorem row_all {xs ls : List Int} {R k : Nat} (hR : R ≤ 4) (hR0 : 1 ≤ R) (hro : RootsOk xs ls R) (hk : k < (posR xs R).length) : (row (posR xs R) k).length = R ∧ (∀ e, -6 ≤ gi (row (posR xs R) k) e ∧ gi (row (posR xs R) k) e ≤ 6) ∧ 2 ≤ innS xs ls (row (posR xs R) k) (row (posR xs R) k) R R ∧ innS xs ls (row (posR xs R) k) (row (posR xs R) k) R R ≤ 6 := by
  have h1 := (posR_all hR hR0 hro).1 _ (row_mem hk)
  obtain ⟨a, b, _⟩ := hro.pos _ (row_mem hk)
  exact ⟨h1.1, fun e => by have := h1.2 e; omega, a, b⟩
theorem coR_bnd {xs ls : List Int} {R : Nat} (hR : R ≤ 4) (hR0 : 1 ≤ R) (hro : RootsOk xs ls R) (hlo : LenOk xs ls R) {k : Nat} (hk : k < (posR xs R).length) : ∀ e, -72 ≤ gi (coR xs ls R k) e ∧ gi (coR xs ls R k) e ≤ 72 := by
  obtain ⟨_, h2, h3⟩ := row_all hR hR0 hro hk
  exact coM_bnd hlo h2 h3
set_option maxRecDepth 100000 in
set_option maxHeartbeats 3200000 in
theorem l8Dot_spec (n c m c' : Nat) (a a' : Option Addr) (x y : List Int) (w : World) (hx : Reads w a n x) (hn0 : 0 < n) (hy : Reads w a' m y) (hm : n ≤ m) (hn : n ≤ 1024) (hb : ∀ k, k ≤ n → -1000000000 ≤ dotS x y k ∧ dotS x y k ≤ 1000000000) :
    Calls Tryz.prog 111 #[.slice a n c, .slice a' m c'] w fun e w' => e = .returned (.int .i64 (dotS x y n)) ∧ Ext w w' := by
  obtain ⟨ax, ox, rfl, hax, hxc⟩ := reads_shape hx hn0
  obtain ⟨ay, oy, rfl, hay, hyc⟩ := reads_shape hy (by omega)
  have HXC := Lib.hid hxc
  have HYC := Lib.hid hyc
  have HB := Lib.hid hb
  have HST : Hid (∀ k, dotS x y (k + 1) = dotS x y k + gi x k * gi y k) := fun k => rfl
  have HS0 : Hid (dotS x y 0 = 0) := rfl
  obtain ⟨S, hS⟩ : ∃ S, dotS x y = S := ⟨_, rfl⟩
  rw [hS] at HB HST HS0 ⊢
  clear hxc hyc hx hy hb hS
  go_enter Tryz.func111, Tryz.ntmps111
  go_wp2_with fail
  go_loopw [6, 5] (fun z s wr => ∃ i q : Nat, i ≤ n ∧ z = .int .i64 i ∧ s = .int .i64 (S i) ∧ wr = w.drewN q) (fun z _ _ => n - (intOf z).toNat)
  case atStart => exact ⟨0, 0, by omega, rfl, by rw [HS0.out], rfl⟩
  case round =>
    obtain ⟨i, q, hi, rfl, rfl, rfl⟩ := hrel
    by_cases hlt : i < n
    · have hltI : (i : Int) < (n : Int) := by omega
      have hltM : (i : Int) < (m : Int) := by omega
      have cx := HXC.out i hlt
      have cy := HYC.out i (by omega)
      have hb1 := HB.out i hi
      have hb2 := HB.out (i + 1) (by omega)
      have HS := Lib.hid (HST.out i)
      rw [HS.out] at hb2
      obtain ⟨s0, hs0⟩ : ∃ s0, S i = s0 := ⟨_, rfl⟩
      obtain ⟨x0, hx0⟩ : ∃ x0, gi x i = x0 := ⟨_, rfl⟩
      obtain ⟨y0, hy0⟩ : ∃ y0, gi y i = y0 := ⟨_, rfl⟩
      rw [hs0] at HS hb1 hb2 ⊢
      rw [hx0] at HS hb2 cx
      rw [hy0] at HS hb2 cy
      have v1 : IntKind.i64.wrap (x0 * y0) = x0 * y0 := IntWalk.i64_in _ ⟨by omega, by omega⟩
      have v3 : IntKind.i64.wrap (s0 + x0 * y0) = s0 + x0 * y0 := IntWalk.i64_in _ ⟨by omega, by omega⟩
      have HS2 := Lib.hid (congrArg (Value.int .i64) HS.out.symm)
      clear hs0 hx0 hy0 hb1 hb2 HS
      go_wp2_with fail
      go_quiet (fail)
      go_wp2
      exact ⟨⟨i + 1, q + nq, by omega, by simp, HS2.out, by simp⟩, by simp [intOf]; omega⟩
    · obtain rfl : n = i := by omega
      go_wp2
      go_ret
      exact ⟨rfl, (Ext.refl w).drewN q⟩

set_option maxRecDepth 100000 in
set_option maxHeartbeats 6400000 in
theorem l8Sums_spec (R da od n cD : Nat) (xs ls : List Int) (w : World) (hr : Reads w (some ⟨da, od, none⟩) n xs) (hn : n = R * R) (hR0 : 1 ≤ R) (hR : R ≤ 4) (hro : RootsOk xs ls R) (hlo : LenOk xs ls R) :
    Calls Tryz.prog 112 #[.agg #[.int .i64 (R : Nat), .slice (some ⟨da, od, none⟩) n cD]] w fun e w' => ∃ b c, e = .returned (.slice (some ⟨b, 0, none⟩) R c) ∧ w.heap.size ≤ b ∧ b < w'.heap.size ∧ Has w' b (smS (coR xs ls R) R (posR xs R).length) ∧ Ext w w' := by
  have HN := Lib.hid hn
  have HR := Lib.hid hr
  have HRO := Lib.hid hro
  have HLO := Lib.hid hlo
  have HPA := Lib.hid (posR_all hR hR0 hro)
  have HRA : Hid (∀ k, k < (posR xs R).length → _ ) := fun k hk => row_all hR hR0 hro hk
  have HCB : Hid (∀ k, k < (posR xs R).length → _ ) := fun k hk => coR_bnd hR hR0 hro hlo hk
  have HSB : Hid (∀ k, k ≤ (posR xs R).length → ∀ e, -1000000 ≤ gi (smS (coR xs ls R) R k) e ∧ gi (smS (coR xs ls R) R k) e ≤ 1000000) := fun k hk e => by
    have h1 := smS_bnd (co := fun j => if j < (posR xs R).length then coR xs ls R j else []) (K := R) (fun j e => by
      by_cases hj : j < (posR xs R).length
      · rw [if_pos hj]; exact coR_bnd hR hR0 hro hlo hj e
      · rw [if_neg hj]; simp [gi]) k e
    have h2 := (posR_all hR hR0 hro).2.2.1
    have h3 : ∀ k, k ≤ (posR xs R).length → smS (fun j => if j < (posR xs R).length then coR xs ls R j else []) R k = smS (coR xs ls R) R k := by
      intro k
      induction k with
      | zero => intro _; rw [smS, smS]
      | succ k ih => intro h; rw [smS, smS, ih (by omega), if_pos (by omega)]
    rw [h3 k hk] at h1
    omega
  have HST : Hid (∀ k, smS (coR xs ls R) R (k + 1) = ptL (smS (coR xs ls R) R k) 1 (coR xs ls R k)) := fun k => rfl
  have HSL : Hid (∀ k, (smS (coR xs ls R) R k).length = R) := fun k => smS_len _ _ k
  have HCE : Hid (∀ k, coM xs ls (row (posR xs R) k) R = coR xs ls R k) := fun k => rfl
  have HBX := Lib.hid (cells_new w #[.int .i64 (R : Nat), .slice (some ⟨da, od, none⟩) n cD] 27)
  have X0 := Lib.hid ((Ext.refl w).alloc (.cells #[.int .i64 (R : Nat), .slice (some ⟨da, od, none⟩) n cD] 27))
  have hmk := make_ints R (by omega)
  clear hr hn hro hlo
  go_enter Tryz.func112, Tryz.ntmps112
  go_wp2_with fail
  refine (l5Roots_spec R da od n cD xs ls _ (HR.out.ext X0.out) HN.out hR0 hR HRO.out HLO.out.xb).mono ?_
  rintro e w2 ⟨v, rfl, hP, h2⟩
  obtain ⟨g, cap, rfl, hrd, hlo2, hall⟩ := hP.rd HPA.out.2.1
  have HE2 := Lib.hid (X0.out.trans h2)
  have HB2 := Lib.hid (HBX.out.ext h2)
  have HRD := Lib.hid hrd
  clear hP hall h2 HBX X0
  obtain ⟨PR, hPR⟩ : ∃ PR, posR xs R = PR := ⟨_, rfl⟩
  have HFIN : Hid (smS (coR xs ls R) R (posR xs R).length = smS (coR xs ls R) R PR.length) := by rw [Hid, hPR]
  rw [hPR] at HPA HRA HCB HSB HCE HRD ⊢
  obtain ⟨N, hN⟩ : ∃ N, PR.length = N := ⟨_, rfl⟩
  have HNL := Lib.hid hN
  rw [hN] at HPA HRA HCB HSB HFIN ⊢
  have hN24 := HPA.out.2.2.1
  obtain ⟨co, hco⟩ : ∃ co, coR xs ls R = co := ⟨_, rfl⟩
  have HFIN : Hid (smS (coR xs ls R) R (posR xs R).length = smS co R N) := by rw [Hid, HFIN.out, hco]
  rw [hco] at HCB HSB HST HSL HCE
  obtain ⟨S, hS⟩ : ∃ S, smS co R = S := ⟨_, rfl⟩
  have HFIN : Hid (smS (coR xs ls R) R (posR xs R).length = S N) := by rw [Hid, HFIN.out, hS]
  rw [hS] at HSB HST HSL
  have H0 : Hid (Has (w2.alloc (.cells (ints (List.replicate R 0)) 3)) w2.heap.size (S 0)) := by rw [← hS]; exact Has.new w2 _
  have E0 := Lib.hid ((Ext.refl w2).alloc (.cells (ints (List.replicate R 0)) 3))
  have lB := HB2.out.1
  have q0 := HB2.out.2 0 _ rfl
  have hle2 := HE2.out.le
  clear hPR hN hco hS hrd
  go_wp2_with fail
  clear hmk lB q0
  go_loopw [5, 4] (fun z v wr => ∃ k b c : Nat, k ≤ N ∧ z = .int .i64 k ∧ v = .slice (some ⟨b, 0, none⟩) R c ∧ w2.heap.size ≤ b ∧ Hid (Has wr b (S k)) ∧ Hid (Ext w2 wr)) (fun z _ _ => N - (intOf z).toNat)
  case atStart => exact ⟨0, _, _, by omega, rfl, rfl, Nat.le_refl _, H0, E0⟩
  case round =>
    clear H0 E0
    obtain ⟨k, b, c, hk, rfl, rfl, hbb, hH, hE⟩ := hrel
    by_cases hlt : k < N
    · have hltI : (k : Int) < (N : Int) := by omega
      obtain ⟨bk, ck, hck, hrk⟩ := (HRD.out.ext hE.out).2 k (by rw [HNL.out]; exact hlt)
      have hra := HRA.out k hlt
      rw [hra.1] at hck hrk
      have HRK := Lib.hid hrk
      have HRAK := Lib.hid hra
      have lg := (HRD.out.ext hE.out).1
      have HEW := Lib.hid (HE2.out.trans hE.out)
      have hBr := HB2.out.ext hE.out
      have lB := hBr.1
      have q0 := hBr.2 0 _ rfl
      have q1 := hBr.2 1 _ rfl
      have hSl := HSL.out k
      have HCO1 : Hid (∀ w1, Ext wr w1 → Calls Tryz.prog 129 #[.agg #[.int .i64 (R : Nat), .slice (some ⟨da, od, none⟩) n cD], .slice (some ⟨bk, 0, none⟩) R ck] w1 fun e w' => ∃ b, e = .returned (.slice (some ⟨b, 0, none⟩) R R) ∧ w1.heap.size ≤ b ∧ b < w'.heap.size ∧ Has w' b (co k) ∧ Ext w1 w') := fun w1 h => by
        have h9 := l5Coroot_spec R da od n cD R ck xs ls (row PR k) _ w1 (HR.out.ext (HEW.out.trans h)) HN.out hR0 hR HLO.out (HRK.out.ext h) rfl HRAK.out.2.1 HRAK.out.2.2
        rw [HCE.out k] at h9
        exact h9
      have HPL : Hid (∀ w1 b4, Ext wr w1 → Has w1 b4 (co k) → Calls Tryz.prog 138 #[.slice (some ⟨b, 0, none⟩) R c, .int .i64 1, .slice (some ⟨b4, 0, none⟩) R R] w1 fun e w' => ∃ b c9, e = .returned (.slice (some ⟨b, 0, none⟩) R c9) ∧ w1.heap.size ≤ b ∧ b < w'.heap.size ∧ Has w' b (S (k + 1)) ∧ Ext w1 w') := fun w1 b4 h h4 => by
        rw [HST.out k]
        have hl : (co k).length = R := by rw [← HCE.out k]; exact coM_len _ _ _ _
        exact l5Plus_spec R c R R _ _ (S k) (co k) 1 w1 ((hH.out.ext h).reads (HSL.out k)) (by omega) (by omega) (h4.reads hl) (Nat.le_refl _) (by omega) (HSB.out k hk) (fun e => by have := HCB.out k hlt e; omega)
      clear hrk hra hBr hSl
      go_wp2_with fail
      refine wp_region_held_drew (S := (fun w' => Ext wr w' ∧ (∀ b o, b < wr.heap.size → w'.cell? ⟨b, o, none⟩ = wr.cell? ⟨b, o, none⟩))) (by kernel_rfl) (ext2 (Ext.refl wr).drew) (fun hHeld => ?_)
      refine wpAnyH_take (i := 0) (v := ?v1) rfl (by kernel_rfl) (by kernel_rfl) (by kernel_rfl) (fun _ _ _ h => h) (Or.inl ⟨by rfl, ?hy1⟩) hHeld ?rest1
      case hy1 => (intro wz hSw; (try dsimp only at hSw); go_simp; (try with_reducible rfl))
      (try simp only [Act.put, List.getElem_toArray, List.getElem_cons_succ, List.getElem_cons_zero]); (try simp only [List.setIfInBounds_toArray]); (try simp only [List.set_cons_succ]); (try simp only [List.set_cons_zero])
      refine wpAnyH_take (i := 1) (v := ?v2) rfl (by kernel_rfl) (by kernel_rfl) (by kernel_rfl) (fun _ _ _ h => h) (Or.inl ⟨by rfl, ?hy2⟩) hHeld ?rest2
      case hy2 => (intro wz hSw; (try dsimp only at hSw); go_simp; (try with_reducible rfl))
      (try simp only [Act.put, List.getElem_toArray, List.getElem_cons_succ, List.getElem_cons_zero]); (try simp only [List.setIfInBounds_toArray]); (try simp only [List.set_cons_succ]); (try simp only [List.set_cons_zero])
      refine wpAnyH_take (i := 2) (v := ?v3) rfl (by kernel_rfl) (by kernel_rfl) (by kernel_rfl) (fun _ _ _ h => h) (Or.inl ⟨by rfl, ?hy3⟩) hHeld ?rest3
      case hy3 => (intro wz hSw; (try dsimp only at hSw); go_simp; (try with_reducible rfl))
      (try simp only [Act.put, List.getElem_toArray, List.getElem_cons_succ, List.getElem_cons_zero]); (try simp only [List.setIfInBounds_toArray]); (try simp only [List.set_cons_succ]); (try simp only [List.set_cons_zero])
      refine wpAnyH_take (i := 3) (v := ?v4) rfl (by kernel_rfl) (by kernel_rfl) (by kernel_rfl) (fun _ _ _ h => h) (Or.inl ⟨by rfl, ?hy4⟩) hHeld ?rest4
      case hy4 => (intro wz hSw; (try dsimp only at hSw); go_simp; (try with_reducible rfl))
      (try simp only [Act.put, List.getElem_toArray, List.getElem_cons_succ, List.getElem_cons_zero]); (try simp only [List.setIfInBounds_toArray]); (try simp only [List.set_cons_succ]); (try simp only [List.set_cons_zero])
      refine wpAnyH_take (i := 4) (v := ?v5) rfl (by kernel_rfl) (by kernel_rfl) (by kernel_rfl) (fun _ _ _ h => h) (Or.inl ⟨by rfl, ?hy5⟩) hHeld ?rest5
      case hy5 => (intro wz hSw; (try dsimp only at hSw); go_simp; (try with_reducible rfl))
      (try simp only [Act.put, List.getElem_toArray, List.getElem_cons_succ, List.getElem_cons_zero]); (try simp only [List.setIfInBounds_toArray]); (try simp only [List.set_cons_succ]); (try simp only [List.set_cons_zero])
      refine wpAnyH_take (i := 5) (v := ?v6) rfl (by kernel_rfl) (by kernel_rfl) (by kernel_rfl) (fun _ _ _ h => h) (Or.inl ⟨by rfl, ?hy6⟩) hHeld ?rest6
      case hy6 => (intro wz hSw; (try dsimp only at hSw); go_simp; (try with_reducible rfl))
      (try simp only [Act.put, List.getElem_toArray, List.getElem_cons_succ, List.getElem_cons_zero]); (try simp only [List.setIfInBounds_toArray]); (try simp only [List.set_cons_succ]); (try simp only [List.set_cons_zero])
      refine wpAnyH_ready (rs := [6]) (by kernel_rfl) (by simp) ?_
      refine AllReadyH.cons rfl (fun K' hK => ?_) AllReadyH.nil
      go_simp
      refine (HCO1.out _ (And.left hHeld)).mono ?_
      rintro e w4 ⟨b4, rfl, hb4, hb42, hh4, hE4⟩
      have X4 := (And.left hHeld).trans hE4
      have HPL := Lib.hid (HPL.out w4 b4 X4 hh4)
      dsimp only
      refine hK.out _ _ (ext2 X4) (fun hHeld => ?_)
      clear hK
      refine wpAnyH_ready (rs := [7]) (by kernel_rfl) (by simp) ?_
      refine AllReadyH.cons rfl (fun K' hK => ?_) AllReadyH.nil
      go_simp
      refine HPL.out.mono ?_
      rintro e w5 ⟨b5, c5, rfl, hb5, hb52, hh5, hE5⟩
      have X5 := X4.trans hE5
      dsimp only
      refine hK.out _ _ (ext2 X5) (fun hHeld => ?_)
      clear hK
      refine wpAnyH_take (i := 8) (v := ?v7) rfl (by kernel_rfl) (by kernel_rfl) (by kernel_rfl) (fun _ _ _ h => h) (Or.inl ⟨by rfl, ?hy7⟩) hHeld ?rest7
      case hy7 => (intro wz hSw; (try dsimp only at hSw); go_simp; (try with_reducible rfl))
      (try simp only [Act.put, List.getElem_toArray, List.getElem_cons_succ, List.getElem_cons_zero]); (try simp only [List.setIfInBounds_toArray]); (try simp only [List.set_cons_succ]); (try simp only [List.set_cons_zero])
      refine wpAnyH_done (by kernel_rfl) ?_ _
      clear hHeld
      have HE5 := Lib.hid (hE.out.trans X5)
      have hle := hE.out.le
      have hle5 := X4.le
      clear HCO1 HPL hH hE X4 X5 hE4 hE5 hh4
      have HH5 := Lib.hid hh5
      clear hh5
      go_wp2
      exact ⟨⟨k + 1, b5, c5, by omega, by first | rfl | simp, rfl, by omega, HH5, HE5⟩, by (simp [intOf]) <;> omega⟩
    · obtain rfl : k = N := by omega
      have HE9 := Lib.hid (HE2.out.trans hE.out)
      go_wp2
      go_ret
      exact ⟨b, c, rfl, by omega, hH.out.lt, by rw [HFIN.out]; exact hH.out, HE9.out⟩

set_option maxRecDepth 100000 in
set_option maxHeartbeats 3200000 in
theorem l8Level_spec (R da od n cD m c : Nat) (xs ls y : List Int) (a : Option Addr) (w : World) (hr : Reads w (some ⟨da, od, none⟩) n xs) (hn : n = R * R) (hR0 : 1 ≤ R) (hR : R ≤ 4) (hro : RootsOk xs ls R) (hok : LenOk xs ls R) (hw : Reads w a m y) (hm : R ≤ m) (hwb : ∀ e, -1000 ≤ gi y e ∧ gi y e ≤ 1000) :
    Calls Tryz.prog 68 #[.agg #[.int .i64 (R : Nat), .slice (some ⟨da, od, none⟩) n cD], .slice a m c] w fun e w' => e = .returned (.int .i64 (lvS (coR xs ls R) R y (posR xs R).length)) ∧ Ext w w' := by
  have HR := Lib.hid hr
  have HN := Lib.hid hn
  have HRO := Lib.hid hro
  have HOK := Lib.hid hok
  have HW := Lib.hid hw
  have HWB := Lib.hid hwb
  have HSB : Hid (∀ e, -72 * 24 ≤ gi (smS (coR xs ls R) R (posR xs R).length) e ∧ gi (smS (coR xs ls R) R (posR xs R).length) e ≤ 72 * 24) := fun e => by
    have h1 := smS_bnd (co := fun j => if j < (posR xs R).length then coR xs ls R j else []) (K := R) (fun j e => by
      by_cases hj : j < (posR xs R).length
      · rw [if_pos hj]; exact coR_bnd hR hR0 hro hok hj e
      · rw [if_neg hj]; simp [gi]) (posR xs R).length e
    have h2 := (posR_all hR hR0 hro).2.2.1
    have h3 : ∀ k, k ≤ (posR xs R).length → smS (fun j => if j < (posR xs R).length then coR xs ls R j else []) R k = smS (coR xs ls R) R k := by
      intro k
      induction k with
      | zero => intro _; rw [smS, smS]
      | succ k ih => intro h; rw [smS, smS, ih (by omega), if_pos (by omega)]
    rw [h3 _ (Nat.le_refl _)] at h1
    omega
  have HDB : Hid (∀ k, k ≤ R → -1000000000 ≤ dotS (smS (coR xs ls R) R (posR xs R).length) y k ∧ dotS (smS (coR xs ls R) R (posR xs R).length) y k ≤ 1000000000) := fun k hk => by
    have h := dot_w (x := smS (coR xs ls R) R (posR xs R).length) (A := 72 * 24) (by omega) (fun e => by have := HSB.out e; omega) hwb k
    have h4 : (k : Int) ≤ 4 := by omega
    omega
  have HDS := Lib.hid (dot_sm (coR xs ls R) R y (posR xs R).length)
  have HSL := Lib.hid (smS_len (coR xs ls R) R (posR xs R).length)
  have X0 := Lib.hid ((Ext.refl w).alloc (.cells #[.int .i64 (R : Nat), .slice (some ⟨da, od, none⟩) n cD] 27))
  clear hr hn hro hok hw hwb HSB
  go_enter Tryz.func68, Tryz.ntmps68
  go_wp2_with fail
  refine (l8Sums_spec R da od n cD xs ls _ (HR.out.ext X0.out) HN.out hR0 hR HRO.out HOK.out).mono ?_
  rintro e w2 ⟨b, cb, rfl, hb1, hb2, hh, h2⟩
  have HE2 := Lib.hid (X0.out.trans h2)
  have HH := Lib.hid hh
  clear hh h2
  go_wp2_with fail
  refine (l8Dot_spec R cb m c _ a _ y w2 (HH.out.reads HSL.out) (by omega) (HW.out.ext HE2.out) hm (by omega) HDB.out).mono ?_
  rintro e w3 ⟨rfl, h3⟩
  go_wp2
  go_ret
  exact ⟨by rw [← HDS.out]; rfl, HE2.out.trans h3⟩

set_option maxRecDepth 100000 in
set_option maxHeartbeats 3200000 in
theorem corootLevel_impl (B LB R da od n cD m' c' m c : Nat) (v2 : Value) (xs ls r y : List Int) (a' a : Option Addr) (w : World) (hB : Cells w B [.int .i64 (R : Nat), .slice (some ⟨da, od, none⟩) n cD, v2, .slice (some ⟨LB, 0, none⟩) R R]) (hLB : Has w LB ls) (hr : Reads w (some ⟨da, od, none⟩) n xs) (hn : n = R * R) (hR0 : 1 ≤ R) (hR : R ≤ 4) (hok : LenOk xs ls R) (hy : Reads w a' m' r) (hm' : m' = R) (hrb : ∀ e, -6 ≤ gi r e ∧ gi r e ≤ 6) (hrr : 2 ≤ innS xs ls r r R R ∧ innS xs ls r r R R ≤ 6) (hw : Reads w a m y) (hm : R ≤ m) (hwb : ∀ e, -1000 ≤ gi y e ∧ gi y e ≤ 1000) :
    Calls Tryz.prog 115 #[.pointer (some ⟨B, 0, none⟩), .slice a' m' c', .slice a m c] w fun e w' => e = .returned (.int .i64 (dotS (coM xs ls r R) y R)) ∧ Ext w w' := by
  have HB := Lib.hid (dot_w (A := 72) (x := coM xs ls r R) (by omega) (coM_bnd hok hrb hrr) hwb)
  have HC := Lib.hid (coroot_impl B LB R da od n cD m' c' v2 xs ls r a' w hB hLB hr hn hR0 hR hok hy hm' hrb hrr)
  have HW := Lib.hid hw
  have HST : Hid (∀ k, dotS (coM xs ls r R) y (k + 1) = dotS (coM xs ls r R) y k + gi (coM xs ls r R) k * gi y k) := fun k => rfl
  have HS0 : Hid (dotS (coM xs ls r R) y 0 = 0) := rfl
  have HCL : Hid ((coM xs ls r R).length = R) := coM_len _ _ _ _
  obtain ⟨S, hS⟩ : ∃ S, dotS (coM xs ls r R) y = S := ⟨_, rfl⟩
  rw [hS] at HB HST HS0 ⊢
  clear hB hLB hr hn hok hy hm' hrb hrr hw hwb hS
  go_enter Tryz.func115, Tryz.ntmps115
  go_wp2_with fail
  refine HC.out.mono ?_
  rintro e w2 ⟨b, rfl, hb1, hb2, hh, hE⟩
  have HH := Lib.hid hh
  have HE := Lib.hid hE
  obtain ⟨aw, ow, rfl, hlw, hcw⟩ := reads5 HW.out (by omega)
  have HCW := Lib.hid hcw
  clear hh hE HC hcw
  go_wp2_with fail
  go_loopw [14, 8, 9, 7] (fun z _ _ s wr => ∃ i : Nat, i ≤ R ∧ z = .int .i64 i ∧ s = .int .i64 (S i) ∧ wr = w2) (fun z _ _ _ _ => R - (intOf z).toNat)
  case atStart => exact ⟨0, by omega, rfl, by rw [HS0.out], rfl⟩
  case round =>
    obtain ⟨i, hi, rfl, rfl, rfl⟩ := hrel
    by_cases hlt : i < R
    · have hltI : (i : Int) < (R : Int) := by omega
      have hltM : (i : Int) < (m : Int) := by omega
      have cx := HH.out.cell i (by rw [HCL.out]; exact hlt)
      have lb := HH.out.lt
      have cy := (HE.out.cells aw (ow + i) hlw).trans (HCW.out i (by omega))
      have ly := Nat.lt_of_lt_of_le hlw HE.out.le
      have hb1 := HB.out i
      have hb2 := HB.out (i + 1)
      have HS := Lib.hid (HST.out i)
      rw [HS.out] at hb2
      obtain ⟨s0, hs0⟩ : ∃ s0, S i = s0 := ⟨_, rfl⟩
      obtain ⟨x0, hx0⟩ : ∃ x0, gi (coM xs ls r R) i = x0 := ⟨_, rfl⟩
      obtain ⟨y0, hy0⟩ : ∃ y0, gi y i = y0 := ⟨_, rfl⟩
      rw [hs0] at HS hb1 hb2 ⊢
      rw [hx0] at HS hb2 cx
      rw [hy0] at HS hb2 cy
      have hi4 : (i : Int) ≤ 4 := by omega
      have v1 : IntKind.i64.wrap (x0 * y0) = x0 * y0 := IntWalk.i64_in _ ⟨by omega, by omega⟩
      have v3 : IntKind.i64.wrap (s0 + x0 * y0) = s0 + x0 * y0 := IntWalk.i64_in _ ⟨by omega, by omega⟩
      have HS2 := Lib.hid (congrArg (Value.int .i64) HS.out.symm)
      clear hs0 hx0 hy0 hb1 hb2 HS
      go_wp2
      exact ⟨⟨i + 1, by omega, by first | rfl | simp, HS2.out, by first | rfl | trivial⟩, by (simp [intOf]) <;> omega⟩
    · obtain rfl : i = R := by omega
      go_wp2
      go_ret
      exact ⟨rfl, HE.out⟩
set_option maxRecDepth 100000 in
set_option maxHeartbeats 3200000 in
theorem level_impl (S B LB R da od n cD g cg m c : Nat) (v2 : Value) (xs ls y : List Int) (a : Option Addr) (w : World) (hS : Cells w S [.pointer (some ⟨B, 0, none⟩), .slice (some ⟨g, 0, none⟩) (posR xs R).length cg]) (hB : Cells w B [.int .i64 (R : Nat), .slice (some ⟨da, od, none⟩) n cD, v2, .slice (some ⟨LB, 0, none⟩) R R]) (hLB : Has w LB ls) (hrd : RdR w g (posR xs R)) (hr : Reads w (some ⟨da, od, none⟩) n xs) (hn : n = R * R) (hR0 : 1 ≤ R) (hR : R ≤ 4) (hro : RootsOk xs ls R) (hok : LenOk xs ls R) (hw : Reads w a m y) (hm : R ≤ m) (hwb : ∀ e, -1000 ≤ gi y e ∧ gi y e ≤ 1000) :
    Calls Tryz.prog 71 #[.pointer (some ⟨S, 0, none⟩), .slice a m c] w fun e w' => e = .returned (.int .i64 (lvS (coR xs ls R) R y (posR xs R).length)) ∧ Ext w w' := by
  have HBB : Hid (∀ k, k ≤ (posR xs R).length → -(288000 * (k : Int)) ≤ lvS (coR xs ls R) R y k ∧ lvS (coR xs ls R) R y k ≤ 288000 * (k : Int)) := fun k => by
    induction k with
    | zero => intro _; simp [lvS]
    | succ k ih =>
      intro h
      have h1 := ih (by omega)
      have h2 := dot_w (A := 72) (by omega) (coR_bnd hR hR0 hro hok (k := k) (by omega)) hwb R
      have h3 : (72 * 1000 * (R : Int)) ≤ 288000 := by omega
      rw [lvS]; omega
  have HPA := Lib.hid (posR_all hR hR0 hro)
  have HCL : Hid (∀ w1 k, Ext w w1 → k < (posR xs R).length → ∃ bk ck, w1.cell? ⟨g, k, none⟩ = some (.slice (some ⟨bk, 0, none⟩) R ck) ∧ Calls Tryz.prog 115 #[.pointer (some ⟨B, 0, none⟩), .slice (some ⟨bk, 0, none⟩) R ck, .slice a m c] w1 fun e w' => e = .returned (.int .i64 (dotS (coR xs ls R k) y R)) ∧ Ext w1 w') := fun w1 k hE hk => by
    obtain ⟨bk, ck, h1, h2⟩ := (hrd.ext hE).2 k hk
    have hra := row_all hR hR0 hro hk
    rw [hra.1] at h1 h2
    exact ⟨bk, ck, h1, corootLevel_impl B LB R da od n cD R ck m c v2 xs ls _ y _ a w1 (hB.ext hE) (hLB.ext hE) (hr.ext hE) hn hR0 hR hok h2 rfl hra.2.1 hra.2.2 (hw.ext hE) hm hwb⟩
  have HST : Hid (∀ k, lvS (coR xs ls R) R y (k + 1) = lvS (coR xs ls R) R y k + dotS (coR xs ls R k) y R) := fun k => rfl
  have HS0 : Hid (lvS (coR xs ls R) R y 0 = 0) := rfl
  have HSS := Lib.hid hS
  have lg := hrd.1
  have lS := hS.1
  have q0 := hS.2 0 _ rfl
  have q1 := hS.2 1 _ rfl
  obtain ⟨LV, hLV⟩ : ∃ LV, lvS (coR xs ls R) R y = LV := ⟨_, rfl⟩
  rw [hLV] at HBB HST HS0 ⊢
  obtain ⟨DT, hDT⟩ : ∃ DT : Nat → Int, ∀ k, dotS (coR xs ls R k) y R = DT k := ⟨_, fun _ => rfl⟩
  simp only [hDT] at HCL HST
  obtain ⟨N, hN⟩ : ∃ N, (posR xs R).length = N := ⟨_, rfl⟩
  rw [hN] at HBB HCL HPA HSS q1 ⊢
  have hN24 := HPA.out.2.2.1
  clear hB hLB hrd hr hn hro hok hw hwb hLV hDT hN hS
  go_enter Tryz.func71, Tryz.ntmps71
  go_wp2_with fail
  clear q0 q1 lS
  go_loopw [13, 7, 5] (fun z _ s wr => ∃ i : Nat, i ≤ N ∧ z = .int .i64 i ∧ s = .int .i64 (LV i) ∧ Hid (Ext w wr)) (fun z _ _ _ => N - (intOf z).toNat)
  case atStart => exact ⟨0, by omega, rfl, by rw [HS0.out], Ext.refl _⟩
  case round =>
    obtain ⟨i, hi, rfl, rfl, hE⟩ := hrel
    by_cases hlt : i < N
    · have hltI : (i : Int) < (N : Int) := by omega
      obtain ⟨bk, ck, hck, hcall⟩ := HCL.out wr i hE.out hlt
      have HCA := Lib.hid hcall
      have lgw := Nat.lt_of_lt_of_le lg hE.out.le
      have hSr := HSS.out.ext hE.out
      have lS := hSr.1
      have q0 := hSr.2 0 _ rfl
      have hb1 := HBB.out i hi
      have hb2 := HBB.out (i + 1) (by omega)
      have HS := Lib.hid (HST.out i)
      rw [HS.out] at hb2
      obtain ⟨s0, hs0⟩ : ∃ s0, LV i = s0 := ⟨_, rfl⟩
      obtain ⟨d0, hd0⟩ : ∃ d0, DT i = d0 := ⟨_, rfl⟩
      rw [hs0] at HS hb1 hb2 ⊢
      rw [hd0] at HS hb2 HCA
      have v3 : IntKind.i64.wrap (s0 + d0) = s0 + d0 := IntWalk.i64_in _ ⟨by omega, by omega⟩
      have HS2 := Lib.hid (congrArg (Value.int .i64) HS.out.symm)
      clear hs0 hd0 hb1 hb2 HS hcall hSr
      go_wp2_with fail
      refine HCA.out.mono ?_
      rintro e w5 ⟨rfl, h5⟩
      have HE5 := Lib.hid (hE.out.trans h5)
      clear lgw lS q0 hck
      go_wp2
      exact ⟨⟨i + 1, by omega, by first | rfl | simp, HS2.out, HE5⟩, by (simp [intOf]) <;> omega⟩
    · obtain rfl : i = N := by omega
      go_wp2
      go_ret
      exact ⟨rfl, hE.out⟩
def lvO (R : Int) (l x : List Int) : Int := match carG R l with
  | some v => if latB R.toNat x then lvS (coR l v.2 R.toNat) R.toNat x (posR l R.toNat).length else 0
  | none => 0

set_option maxRecDepth 100000 in
set_option maxHeartbeats 3200000 in
theorem levelOf_spec {R : Int} {a0 oa n bx ox nx : Nat} {l x : List Int} {w : World} {i : Int} (hT : Reads w (some ⟨a0, oa, none⟩) n l) (hm0 : n ≤ 1048576) (hx : Reads w (some ⟨bx, ox, none⟩) nx x) (hmx : nx ≤ 1048576) (hM : lvO R l x = i) :
    Calls Tryz.prog 31 #[.agg #[.int .i64 R, .slice (some ⟨a0, oa, none⟩) n n], .slice (some ⟨bx, ox, none⟩) nx nx] w fun e w' => e = .returned (.int .i64 i) ∧ Ext w w' := by
  subst hM
  have HT := Lib.hid hT
  have Hx := Lib.hid hx
  rcases hG : carG R l with _ | v
  · have HF : Hid (lvO R l x = 0) := by rw [Hid, lvO, hG]
    clear hT hx
    go_enter Tryz.func31, Tryz.ntmps31
    go_wp2_with fail
    refine (isCartan_no (HT.out.ext ((Ext.refl w).alloc _)) hm0 hG).mono ?_
    rintro e w2 ⟨rfl, hE⟩
    go_wp2
    go_ret
    exact ⟨by rw [HF.out]; rfl, ((Ext.refl w).alloc _).trans hE⟩
  · obtain ⟨K, rfl, hK1, hK4, hlK, ht⟩ := carG_some hG
    have hnK : Hid (n = K * K) := by rw [Hid, ← hT.len]; exact hlK
    have HLO := Lib.hid (lenOk_tab (by omega) hK4 ht)
    have HRO := Lib.hid (rootsOk_tab (by omega) hK4 ht)
    have HF : Hid (lvO K l x = if latB K x then lvS (coR l v.2 K) K x (posR l K).length else 0) := by rw [Hid, lvO, hG]; rfl
    clear hT hx
    go_enter Tryz.func31, Tryz.ntmps31
    go_wp2_with fail
    refine (isCartan_yes (HT.out.ext ((Ext.refl w).alloc _)) hm0 hG).mono ?_
    rintro e w3 ⟨rfl, hE⟩
    have HE3 := Lib.hid (((Ext.refl w).alloc _).trans hE)
    have HB3 := Lib.hid ((cells_new w #[.int .i64 (K : Nat), .slice (some ⟨a0, oa, none⟩) n n] 27).ext hE)
    have lB := HB3.out.1
    have q0 := HB3.out.2 0 _ rfl
    have q1 := HB3.out.2 1 _ rfl
    clear hE
    go_wp2_with fail
    clear lB q0 q1
    refine (l5Lattice_spec K a0 oa n n bx ox nx nx x _ (Hx.out.ext HE3.out) hK4 hmx).mono ?_
    rintro e w4 ⟨rfl, h4⟩
    have HE4 := Lib.hid (HE3.out.trans h4)
    have HB4 := Lib.hid (HB3.out.ext h4)
    clear h4 HB3 HE3
    have lB := HB4.out.1
    have q0 := HB4.out.2 0 _ rfl
    have q1 := HB4.out.2 1 _ rfl
    rcases hL : latB K x with _ | _
    · have HF := Lib.hid (HF.out.trans (if_neg (by rw [hL]; simp)))
      go_wp2
      go_ret
      exact ⟨by rw [HF.out]; rfl, HE4.out⟩
    · have HF := Lib.hid (HF.out.trans (if_pos hL))
      have HLB := Lib.hid (latB_bnd hL)
      have HNX : Hid (nx = K) := by rw [Hid, ← Hx.out.len]; exact HLB.out.1
      go_wp2_with fail
      refine (l8Level_spec K a0 oa n n nx nx l v.2 x _ _ (HT.out.ext HE4.out) hnK.out hK1 hK4 HRO.out HLO.out (Hx.out.ext HE4.out) (by have := HNX.out; omega) HLB.out.2).mono ?_
      rintro e w5 ⟨rfl, h5⟩
      go_wp2
      go_ret
      exact ⟨by rw [HF.out]; rfl, HE4.out.trans h5⟩

set_option maxRecDepth 100000 in
set_option maxHeartbeats 3200000 in
theorem levelOf_impl {R : Int} {a0 oa n bx ox nx : Nat} {l x : List Int} {w : World} {i : Int} (hT : Reads w (some ⟨a0, oa, none⟩) n l) (hm0 : n ≤ 1048576) (hx : Reads w (some ⟨bx, ox, none⟩) nx x) (hmx : nx ≤ 1048576) (hM : lvO R l x = i) :
    Calls Tryz.prog 33 #[.agg #[.int .i64 R, .slice (some ⟨a0, oa, none⟩) n n], .slice (some ⟨bx, ox, none⟩) nx nx] w fun e w' => e = .returned (.int .i64 i) ∧ Ext w w' := by
  subst hM
  have HT := Lib.hid hT
  have Hx := Lib.hid hx
  rcases hG : carG R l with _ | v
  · have HF : Hid (lvO R l x = 0) := by rw [Hid, lvO, hG]
    clear hT hx
    go_enter Tryz.func33, Tryz.ntmps33
    go_wp2_with fail
    refine (wrapRoots_no (HT.out.ext ((Ext.refl w).alloc _)) hm0 hG).mono ?_
    rintro e w2 ⟨rfl, hE⟩
    go_wp2
    go_ret
    exact ⟨by rw [HF.out]; rfl, ((Ext.refl w).alloc _).trans hE⟩
  · obtain ⟨K, rfl, hK1, hK4, hlK, ht⟩ := carG_some hG
    have hnK : Hid (n = K * K) := by rw [Hid, ← hT.len]; exact hlK
    have HLO := Lib.hid (lenOk_tab (by omega) hK4 ht)
    have HRO := Lib.hid (rootsOk_tab (by omega) hK4 ht)
    have HF : Hid (lvO K l x = if latB K x then lvS (coR l v.2 K) K x (posR l K).length else 0) := by rw [Hid, lvO, hG]; rfl
    clear hT hx
    go_enter Tryz.func33, Tryz.ntmps33
    go_wp2_with fail
    refine (wrapRoots_yes (HT.out.ext ((Ext.refl w).alloc _)) hK1 hK4 ht hlK HRO.out HLO.out).mono ?_
    rintro e w2 ⟨S, B, LB, ns, g, c, rfl, hns, hS⟩
    have HS := Lib.hid (hS.low ((Ext.refl w).alloc _))
    have HE := Lib.hid HS.out.wr.ext
    have lS := hS.box.1
    have q0 := hS.box.2 0 _ rfl
    obtain ⟨xa, xn, xc, hbox, hstr⟩ := HS.out.wr.box
    have HBX := Lib.hid hbox
    have HLX := Lib.hid HS.out.wr.len
    clear hS hns hbox hstr
    go_wp2_with fail
    refine (hasWeight_impl B K a0 oa n n bx ox nx nx _ _ x _ HBX.out (Hx.out.ext HE.out) hK4 hmx).mono ?_
    rintro e w4 ⟨rfl, h4⟩
    have HE4 := Lib.hid (HE.out.trans h4)
    have HS4 := Lib.hid (HS.out.step h4)
    have HBX4 := Lib.hid (HBX.out.ext h4)
    have HLX4 := Lib.hid (HLX.out.ext h4)
    clear h4 HS HE HBX HLX lS q0
    have lS := HS4.out.box.1
    have q0 := HS4.out.box.2 0 _ rfl
    rcases hL : latB K x with _ | _
    · have HF := Lib.hid (HF.out.trans (if_neg (by rw [hL]; simp)))
      go_wp2
      go_ret
      exact ⟨by rw [HF.out]; rfl, HE4.out⟩
    · have HF := Lib.hid (HF.out.trans (if_pos hL))
      have HLB := Lib.hid (latB_bnd hL)
      have HNX : Hid (nx = K) := by rw [Hid, ← Hx.out.len]; exact HLB.out.1
      go_wp2_with fail
      refine (level_impl S B LB K a0 oa n n g c nx nx _ l v.2 x _ _ HS4.out.box HBX4.out HLX4.out HS4.out.rd (HT.out.ext HE4.out) hnK.out hK1 hK4 HRO.out HLO.out (Hx.out.ext HE4.out) (by have := HNX.out; omega) HLB.out.2).mono ?_
      rintro e w5 ⟨rfl, h5⟩
      go_wp2
      go_ret
      exact ⟨by rw [HF.out]; rfl, HE4.out.trans h5⟩
end Go.Proofs.YtlnpaplbcocmkaaGreat
