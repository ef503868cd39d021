/-
  Pairs and coroots, in both texts.
-/
import Derived.Test.YtlnpaplbcocmkaaGreatRs5
import Derived.Test.YtlnpaplbcocmkaaGreatInr
namespace Go.Proofs.YtlnpaplbcocmkaaGreat
open Go.ChangeShapes Go.WideShapes Go.ChangeAt Go.RowKit
set_option linter.unusedVariables false
set_option linter.unusedSimpArgs false

theorem wgS_neg (xs y : List Int) (R i : Nat) : ∀ j, wgS xs (negL y) R i j = - wgS xs y R i j
  | 0 => by simp [wgS]
  | j + 1 => by rw [wgS, wgS, wgS_neg xs y R i j, gi_negL, Int.mul_neg, Int.neg_add]
theorem innS_neg (xs ls x y : List Int) (R : Nat) : ∀ i, innS xs ls (negL x) (negL y) R i = innS xs ls x y R i
  | 0 => rfl
  | i + 1 => by rw [innS, innS, innS_neg xs ls x y R i, gi_negL, wgS_neg, Int.neg_mul, Int.neg_mul, Int.mul_neg, Int.neg_neg]
/-- What is known of a root. -/
theorem root_all {xs ls r : List Int} {K : Nat} (hok : RootsOk xs ls K) (h : irB (posR xs K) r = true) : r.length = K ∧ (∀ e, -6 ≤ gi r e ∧ gi r e ≤ 6) ∧ (2 ≤ innS xs ls r r K K ∧ innS xs ls r r K K ≤ 6) ∧ ∃ e, e < K ∧ gi r e ≠ 0 := by
  have hall := fun r hr => posR_row hok (x := r) hr
  obtain ⟨_, h1, h2⟩ := irB_lat hall h
  refine ⟨h1, h2, ?_⟩
  rw [irB, Bool.or_eq_true, List.contains_iff_mem, List.contains_iff_mem] at h
  rcases h with h | h
  · obtain ⟨a, b, c, _⟩ := hok.pos r h
    exact ⟨⟨a, b⟩, c⟩
  · obtain ⟨a, b, ⟨e, he, hne⟩, _⟩ := hok.pos _ h
    rw [innS_neg] at a b
    rw [gi_negL] at hne
    exact ⟨⟨a, b⟩, e, he, by omega⟩
def prM (xs ls x r : List Int) (K : Nat) : Int := (2 * innS xs ls x r K K).tdiv (innS xs ls r r K K)
theorem tdiv_bnd {a b M : Int} (hb : 2 ≤ b) (h1 : -M ≤ a) (h2 : a ≤ M) : -M ≤ (2 * a).tdiv b ∧ (2 * a).tdiv b ≤ M := by
  have key : ∀ c : Int, 0 ≤ c → c ≤ M → 0 ≤ (2 * c).tdiv b ∧ (2 * c).tdiv b ≤ M := fun c h3 h4 => by
    rw [Int.tdiv_eq_ediv_of_nonneg (by omega)]
    refine ⟨Int.ediv_nonneg (by omega) (by omega), ?_⟩
    have : 2 * c / b ≤ 2 * c / 2 := by
      apply Int.ediv_le_of_le_mul (by omega)
      have h5 : 2 * c / 2 = c := by omega
      rw [h5]
      have := Int.mul_le_mul_of_nonneg_left hb h3
      omega
    omega
  by_cases h : 0 ≤ a
  · have := key a h h2; omega
  · have h5 := key (-a) (by omega) (by omega)
    rw [show 2 * a = -(2 * -a) by omega, Int.neg_tdiv]
    omega
/-- The numbers that a pair is made of. -/
theorem pair_bnd {xs ls x r : List Int} {K : Nat} (hK : K ≤ 4) (hok : LenOk xs ls K) (hx : ∀ e, -1000 ≤ gi x e ∧ gi x e ≤ 1000) (hr : ∀ e, -6 ≤ gi r e ∧ gi r e ≤ 6) : -864000 ≤ innS xs ls x r K K ∧ innS xs ls x r K K ≤ 864000 := by
  have h := (innS_bnd (xs := xs) (ls := ls) (x := x) (y := r) (R := K) (B := 1000) (C := 72) (by omega) (by omega) hx hok.bnd (fun i => by have := wgS_bnd (B := 6) hok.xb hr K i K; omega) K).2.2
  omega

def coM (xs ls r : List Int) (K : Nat) : List Int := (List.range K).map fun i => (gi r i * gi ls i).tdiv (innS xs ls r r K K / 2)
theorem coM_len (xs ls r : List Int) (K : Nat) : (coM xs ls r K).length = K := by simp [coM]
theorem gi_coM {xs ls r : List Int} {K i : Nat} (h : i < K) : gi (coM xs ls r K) i = (gi r i * gi ls i).tdiv (innS xs ls r r K K / 2) := by simp [coM, gi, h]
theorem tdiv_small {a b M : Int} (hb : 1 ≤ b) (h1 : -M ≤ a) (h2 : a ≤ M) : -M ≤ a.tdiv b ∧ a.tdiv b ≤ M := by
  have key : ∀ c : Int, 0 ≤ c → c ≤ M → 0 ≤ c.tdiv b ∧ c.tdiv b ≤ M := fun c h3 h4 => by
    rw [Int.tdiv_eq_ediv_of_nonneg h3]
    exact ⟨Int.ediv_nonneg h3 (by omega), Int.le_trans (Int.ediv_le_self _ h3) h4⟩
  by_cases h : 0 ≤ a
  · have := key a h h2; omega
  · have h5 := key (-a) (by omega) (by omega)
    rw [show a = -(-a) by omega, Int.neg_tdiv]
    omega

set_option maxRecDepth 100000 in
set_option maxHeartbeats 6400000 in
theorem l5Coroot_spec (R da od n cD m' c' : Nat) (xs ls r : List Int) (a' : Option Addr) (w : World) (hr : Reads w (some ⟨da, od, none⟩) n xs) (hn : n = R * R) (hR0 : 1 ≤ R) (hR : R ≤ 4) (hok : LenOk xs ls R) (hy : Reads w a' m' r) (hm' : m' = R) (hrb : ∀ e, -6 ≤ gi r e ∧ gi r e ≤ 6) (hrr : 2 ≤ innS xs ls r r R R ∧ innS xs ls r r R R ≤ 6) :
    Calls Tryz.prog 129 #[.agg #[.int .i64 (R : Nat), .slice (some ⟨da, od, none⟩) n cD], .slice a' m' c'] w fun e w' => ∃ b, e = .returned (.slice (some ⟨b, 0, none⟩) R R) ∧ w.heap.size ≤ b ∧ b < w'.heap.size ∧ Has w' b (coM xs ls r R) ∧ Ext w w' := by
  obtain ⟨ax, ox, rfl, hax, hxc⟩ := reads5 hy (by omega)
  have HXC := Lib.hid hxc
  have HR := Lib.hid hr
  have HN := Lib.hid hn
  have HOK := Lib.hid hok
  have HY := Lib.hid hy
  have HRB : Hid (∀ e, -1000 ≤ gi r e ∧ gi r e ≤ 1000) := fun e => by have := hrb e; omega
  have HPB : Hid (∀ i, -18 ≤ gi r i * gi ls i ∧ gi r i * gi ls i ≤ 18) := fun i => mul_bnd (hrb i).1 (hrb i).2 (by have := hok.bnd i; omega) (hok.bnd i).2
  have HCM : Hid (∀ i, i < R → (mixL (coM xs ls r R) R i).set i ((gi r i * gi ls i).tdiv (innS xs ls r r R R / 2)) = mixL (coM xs ls r R) R (i + 1)) := fun i hi => by rw [← gi_coM hi]; exact mixL_step hi
  have HCD : Hid (mixL (coM xs ls r R) R R = coM xs ls r R) := mixL_done (coM_len _ _ _ _)
  have HC0 : Hid (mixL (coM xs ls r R) R 0 = List.replicate R 0) := mixL_zero _ _
  have HCL : Hid (∀ i, (mixL (coM xs ls r R) R i).length = R) := fun i => mixL_len
  obtain ⟨CM, hCM⟩ : ∃ CM, coM xs ls r R = CM := ⟨_, rfl⟩
  rw [hCM] at HCM HCD HC0 HCL ⊢
  have hv0 : IntKind.i64.wrap ((innS xs ls r r R R).tdiv 2) = innS xs ls r r R R / 2 := IntWalk.i64_quo _ _ ⟨by omega, by omega, by omega⟩
  have hhf : 1 ≤ innS xs ls r r R R / 2 ∧ innS xs ls r r R R / 2 ≤ 3 := by omega
  obtain ⟨hf, hhf9⟩ : ∃ hf, innS xs ls r r R R / 2 = hf := ⟨_, rfl⟩
  rw [hhf9] at HCM hv0 hhf
  have hmk := make_ints R (by omega)
  have HBX := Lib.hid (cells_new w #[.int .i64 (R : Nat), .slice (some ⟨da, od, none⟩) n cD] 27)
  have X0 := Lib.hid ((Ext.refl w).alloc (.cells #[.int .i64 (R : Nat), .slice (some ⟨da, od, none⟩) n cD] 27))
  have HLN := Lib.hid (l5Lengths_spec R da od n cD xs ls _ (HR.out.ext X0.out) HN.out hR0 hR HOK.out)
  obtain ⟨b0, hb0⟩ : ∃ b0, innS xs ls r r R R = b0 := ⟨_, rfl⟩
  have HB0 := Lib.hid hb0
  rw [hb0] at hv0
  have HM := Lib.hid hm'
  clear hr hy hok hrb hrr hxc hCM hhf9 hb0 hn hm'
  go_enter Tryz.func129, Tryz.ntmps129
  go_wp2_with fail
  refine HLN.out.mono ?_
  rintro e w2 ⟨bl, rfl, hbl1, hbl2, hhl, h2⟩
  have HE2 := Lib.hid (X0.out.trans h2)
  have HB2 := Lib.hid (HBX.out.ext h2)
  have HL2 := Lib.hid hhl
  have hblw : w.heap.size ≤ bl := Nat.le_trans X0.out.le hbl1
  have lB := HB2.out.1
  have q0 := HB2.out.2 0 _ rfl
  have q1 := HB2.out.2 1 _ rfl
  clear hhl h2 HBX hbl1
  go_wp2_with fail
  refine (l5Inner_spec R da od n cD m' c' m' c' xs ls r r _ _ _ (HR.out.ext HE2.out) HN.out hR0 hR HOK.out (HY.out.ext HE2.out) HM.out HRB.out (HY.out.ext HE2.out) HM.out HRB.out).mono ?_
  rw [HB0.out]
  rintro e w3 ⟨rfl, h3⟩
  have HE3 := Lib.hid (HE2.out.trans h3)
  have HB3 := Lib.hid (HB2.out.ext h3)
  have HL3 := Lib.hid (HL2.out.ext h3)
  clear lB q0 q1 h3 HB2 HL2
  have lB := HB3.out.1
  have q0 := HB3.out.2 0 _ rfl
  go_wp2_with fail
  clear lB q0
  have H0 : Hid (Has (w3.alloc (.cells (ints (List.replicate R 0)) 3)) w3.heap.size (mixL CM R 0)) := by rw [HC0.out]; exact Has.new w3 _
  have E0 : Hid (Ext w3 (w3.alloc (.cells (ints (List.replicate R 0)) 3))) := (Ext.refl w3).alloc _
  clear hmk
  go_loopw [8] (fun z wr => ∃ i : Nat, i ≤ R ∧ z = .int .i64 i ∧ Hid (Has wr w3.heap.size (mixL CM R i)) ∧ Hid (Ext w3 wr)) (fun z _ => R - (intOf z).toNat)
  case atStart => exact ⟨0, by omega, rfl, H0, E0⟩
  case round =>
    clear H0 E0
    obtain ⟨i, hi, rfl, hH, hE⟩ := hrel
    have HBW := Lib.hid (HB3.out.ext hE.out)
    have lB := HBW.out.1
    have q0 := HBW.out.2 0 _ rfl
    by_cases hlt : i < R
    · have HLW := Lib.hid (HL3.out.ext hE.out)
      have cd := HLW.out.cell i (by rw [HOK.out.len]; exact hlt)
      have ld := HLW.out.lt
      have cx := (((HE3.out.trans hE.out).cells ax (ox + i) hax)).trans (HXC.out i (by have := HM.out; omega))
      have lx := Nat.lt_of_lt_of_le hax (HE3.out.trans hE.out).le
      have c2 := hH.out.cell i (by rw [HCL.out i]; exact hlt)
      have f2 := hH.out.free i
      have l2 := hH.out.lt
      have hpb := HPB.out i
      have hq := tdiv_small (b := hf) hhf.1 hpb.1 hpb.2
      have nD : bl ≠ w3.heap.size := by have := HL3.out.lt; omega
      have nX : ax ≠ w3.heap.size := by have := HE3.out.le; omega
      have nB : w.heap.size ≠ w3.heap.size := by have := HB3.out.1; omega
      have hltI : (i : Int) < (R : Int) := by omega
      have hltX : (i : Int) < (m' : Int) := by have := HM.out; omega
      have HCi := Lib.hid (HCM.out i hlt)
      obtain ⟨x0, hx0⟩ : ∃ x0, gi r i = x0 := ⟨_, rfl⟩
      obtain ⟨d0, hd0⟩ : ∃ d0, gi ls i = d0 := ⟨_, rfl⟩
      rw [hx0] at cx HCi hpb hq
      rw [hd0] at cd HCi hpb hq
      have v1 : IntKind.i64.wrap (x0 * d0) = x0 * d0 := IntWalk.i64_in _ ⟨by omega, by omega⟩
      have v2'' : IntKind.i64.wrap ((x0 * d0).tdiv hf) = (x0 * d0).tdiv hf := IntWalk.i64_in _ ⟨by omega, by omega⟩
      have v3 : (hf = 0) = False := eq_false (by omega)
      clear hpb hq hx0 hd0
      skip
      have HH2 : Hid (Has (wr.drew.setCell ⟨w3.heap.size, i, none⟩ (.int .i64 ((x0 * d0).tdiv hf))) w3.heap.size (mixL CM R (i + 1))) := by rw [← HCi.out]; exact (hH.out.ext (Ext.refl _).drew).set i (by rw [HCL.out i]; exact hlt) _
      have HE9 : Hid (Ext w3 (wr.drew.setCell ⟨w3.heap.size, i, none⟩ (.int .i64 ((x0 * d0).tdiv hf)))) := (hE.out.trans (Ext.refl _).drew).setCell (p := ⟨w3.heap.size, i, none⟩) (Nat.le_refl _) _
      clear hH hE
      go_wp2_with fail
      refine wp_region_held_drew (S := (fun w' => wr.grownBy w' (some w3.heap.size) ∧ ∀ B o, B ≠ w3.heap.size → B < wr.heap.size → w'.cell? ⟨B, o, none⟩ = wr.cell? ⟨B, o, none⟩)) (by kernel_rfl) keptC_drew (fun hHeld => ?_)
      refine wpAnyH_take (i := 0) (v := ?v10) rfl (by kernel_rfl) (by kernel_rfl) (by kernel_rfl) (fun _ _ _ h => h) (Or.inl ⟨by rfl, ?hy10⟩) hHeld ?rest10
      case hy10 => (intro wz hSw; (try dsimp only at hSw); go_simp; (try with_reducible rfl))
      (try simp only [Act.put, List.getElem_toArray, List.getElem_cons_succ, List.getElem_cons_zero]); (try simp only [List.setIfInBounds_toArray]); (try simp only [List.set_cons_succ]); (try simp only [List.set_cons_zero])
      refine wpAnyH_take (i := 1) (v := ?v11) rfl (by kernel_rfl) (by kernel_rfl) (by kernel_rfl) (fun _ _ _ h => h) (Or.inl ⟨by rfl, ?hy11⟩) hHeld ?rest11
      case hy11 => (intro wz hSw; (try dsimp only at hSw); go_simp; (try with_reducible rfl))
      (try simp only [Act.put, List.getElem_toArray, List.getElem_cons_succ, List.getElem_cons_zero]); (try simp only [List.setIfInBounds_toArray]); (try simp only [List.set_cons_succ]); (try simp only [List.set_cons_zero])
      refine wpAnyH_take (i := 2) (v := ?v12) rfl (by kernel_rfl) (by kernel_rfl) (by kernel_rfl) (fun _ _ _ h => h) (Or.inl ⟨by rfl, ?hy12⟩) hHeld ?rest12
      case hy12 => (intro wz hSw; (try dsimp only at hSw); go_simp; (try with_reducible rfl))
      (try simp only [Act.put, List.getElem_toArray, List.getElem_cons_succ, List.getElem_cons_zero]); (try simp only [List.setIfInBounds_toArray]); (try simp only [List.set_cons_succ]); (try simp only [List.set_cons_zero])
      refine wpAnyH_take (i := 3) (v := ?v13) rfl (by kernel_rfl) (by kernel_rfl) (by kernel_rfl) (fun _ _ _ h => h) (Or.inl ⟨by rfl, ?hy13⟩) hHeld ?rest13
      case hy13 => (intro wz hSw; (try dsimp only at hSw); go_simp; (try with_reducible rfl))
      (try simp only [Act.put, List.getElem_toArray, List.getElem_cons_succ, List.getElem_cons_zero]); (try simp only [List.setIfInBounds_toArray]); (try simp only [List.set_cons_succ]); (try simp only [List.set_cons_zero])
      refine wpAnyH_take (i := 4) (v := ?v14) rfl (by kernel_rfl) (by kernel_rfl) (by kernel_rfl) (fun _ _ _ h => h) (Or.inl ⟨by rfl, ?hy14⟩) hHeld ?rest14
      case hy14 => (intro wz hSw; (try dsimp only at hSw); go_simp; (try with_reducible rfl))
      (try simp only [Act.put, List.getElem_toArray, List.getElem_cons_succ, List.getElem_cons_zero]); (try simp only [List.setIfInBounds_toArray]); (try simp only [List.set_cons_succ]); (try simp only [List.set_cons_zero])
      refine wpAnyH_take (i := 5) (v := ?v15) rfl (by kernel_rfl) (by kernel_rfl) (by kernel_rfl) (fun _ _ _ h => h) (Or.inl ⟨by rfl, ?hy15⟩) hHeld ?rest15
      case hy15 => (intro wz hSw; (try dsimp only at hSw); go_simp; (try with_reducible rfl))
      (try simp only [Act.put, List.getElem_toArray, List.getElem_cons_succ, List.getElem_cons_zero]); (try simp only [List.setIfInBounds_toArray]); (try simp only [List.set_cons_succ]); (try simp only [List.set_cons_zero])
      refine wpAnyH_take (i := 6) (v := ?v16) rfl (by kernel_rfl) (by kernel_rfl) (by kernel_rfl) (fun _ _ _ h => h) (Or.inl ⟨by rfl, ?hy16⟩) hHeld ?rest16
      case hy16 => (intro wz hSw; (try dsimp only at hSw); go_simp; (try with_reducible rfl))
      (try simp only [Act.put, List.getElem_toArray, List.getElem_cons_succ, List.getElem_cons_zero]); (try simp only [List.setIfInBounds_toArray]); (try simp only [List.set_cons_succ]); (try simp only [List.set_cons_zero])
      refine wpAnyH_take (i := 7) (v := ?v17) rfl (by kernel_rfl) (by kernel_rfl) (by kernel_rfl) (fun _ _ _ h => h) (Or.inl ⟨by rfl, ?hy17⟩) hHeld ?rest17
      case hy17 => (intro wz hSw; (try dsimp only at hSw); go_simp; (try with_reducible rfl))
      (try simp only [Act.put, List.getElem_toArray, List.getElem_cons_succ, List.getElem_cons_zero]); (try simp only [List.setIfInBounds_toArray]); (try simp only [List.set_cons_succ]); (try simp only [List.set_cons_zero])
      refine wpAnyH_take (i := 8) (v := ?v18) rfl (by kernel_rfl) (by kernel_rfl) (by kernel_rfl) (fun _ _ _ h => h) (Or.inl ⟨by rfl, ?hy18⟩) hHeld ?rest18
      case hy18 => (intro wz hSw; (try dsimp only at hSw); go_simp; (try with_reducible rfl))
      (try simp only [Act.put, List.getElem_toArray, List.getElem_cons_succ, List.getElem_cons_zero]); (try simp only [List.setIfInBounds_toArray]); (try simp only [List.set_cons_succ]); (try simp only [List.set_cons_zero])
      refine wpAnyH_take (i := 9) (v := ?v19) rfl (by kernel_rfl) (by kernel_rfl) (by kernel_rfl) (fun _ _ _ h => h) (Or.inl ⟨by rfl, ?hy19⟩) hHeld ?rest19
      case hy19 => (intro wz hSw; (try dsimp only at hSw); go_simp; (try with_reducible rfl))
      (try simp only [Act.put, List.getElem_toArray, List.getElem_cons_succ, List.getElem_cons_zero]); (try simp only [List.setIfInBounds_toArray]); (try simp only [List.set_cons_succ]); (try simp only [List.set_cons_zero])
      refine wpAnyH_take (i := 10) (v := ?v20) rfl (by kernel_rfl) (by kernel_rfl) (by kernel_rfl) (fun _ _ _ h => h) (Or.inl ⟨by rfl, ?hy20⟩) hHeld ?rest20
      case hy20 => (intro wz hSw; (try dsimp only at hSw); go_simp; (try with_reducible rfl))
      (try simp only [Act.put, List.getElem_toArray, List.getElem_cons_succ, List.getElem_cons_zero]); (try simp only [List.setIfInBounds_toArray]); (try simp only [List.set_cons_succ]); (try simp only [List.set_cons_zero])
      refine wpAnyH_take (i := 11) (v := ?v21) rfl (by kernel_rfl) (by kernel_rfl) (by kernel_rfl) (fun _ _ _ h => h) (Or.inl ⟨by rfl, ?hy21⟩) hHeld ?rest21
      case hy21 => (intro wz hSw; (try dsimp only at hSw); go_simp; (try with_reducible rfl))
      (try simp only [Act.put, List.getElem_toArray, List.getElem_cons_succ, List.getElem_cons_zero]); (try simp only [List.setIfInBounds_toArray]); (try simp only [List.set_cons_succ]); (try simp only [List.set_cons_zero])
      refine wpAnyH_take (i := 12) (v := ?v22) rfl (by kernel_rfl) (by kernel_rfl) (by kernel_rfl) (fun _ _ _ h => h) (Or.inl ⟨by rfl, ?hy22⟩) hHeld ?rest22
      case hy22 => (intro wz hSw; (try dsimp only at hSw); go_simp; (try with_reducible rfl))
      (try simp only [Act.put, List.getElem_toArray, List.getElem_cons_succ, List.getElem_cons_zero]); (try simp only [List.setIfInBounds_toArray]); (try simp only [List.set_cons_succ]); (try simp only [List.set_cons_zero])
      refine wpAnyH_take (i := 13) (v := ?v23) rfl (by kernel_rfl) (by kernel_rfl) (by kernel_rfl) (fun _ _ _ h => h) (Or.inl ⟨by rfl, ?hy23⟩) hHeld ?rest23
      case hy23 => (intro wz hSw; (try dsimp only at hSw); go_simp; (try with_reducible rfl))
      (try simp only [Act.put, List.getElem_toArray, List.getElem_cons_succ, List.getElem_cons_zero]); (try simp only [List.setIfInBounds_toArray]); (try simp only [List.set_cons_succ]); (try simp only [List.set_cons_zero])
      refine wpAnyH_ready (rs := [14]) (by kernel_rfl) (by simp) ?_
      refine AllReadyH.cons rfl (fun K' hK => ?_) AllReadyH.nil
      go_simp
      refine hK.out _ _ (keptC_set hHeld _ _) (fun hHeld => ?_)
      refine wpAnyH_done (by kernel_rfl) ?_ _
      clear hHeld hK
      go_wp2
      exact ⟨⟨i + 1, by omega, by simp, HH2, HE9⟩, by simp [intOf]; omega⟩
    · obtain rfl : R = i := by omega
      have hge : ¬ ((R : Int) < (m' : Int)) := by have := HM.out; omega
      rw [HCD.out] at hH
      go_wp2
      go_ret
      exact ⟨_, rfl, HE3.out.le, hH.out.lt, hH.out, HE3.out.trans hE.out⟩

set_option maxRecDepth 100000 in
set_option maxHeartbeats 6400000 in
theorem coroot_impl (B LB R da od n cD m' c' : Nat) (v2 : Value) (xs ls r : List Int) (a' : Option Addr) (w : World) (hB : Cells w B [.int .i64 (R : Nat), .slice (some ⟨da, od, none⟩) n cD, v2, .slice (some ⟨LB, 0, none⟩) R R]) (hLB : Has w LB ls) (hr : Reads w (some ⟨da, od, none⟩) n xs) (hn : n = R * R) (hR0 : 1 ≤ R) (hR : R ≤ 4) (hok : LenOk xs ls R) (hy : Reads w a' m' r) (hm' : m' = R) (hrb : ∀ e, -6 ≤ gi r e ∧ gi r e ≤ 6) (hrr : 2 ≤ innS xs ls r r R R ∧ innS xs ls r r R R ≤ 6) :
    Calls Tryz.prog 170 #[.pointer (some ⟨B, 0, none⟩), .slice a' m' c'] w fun e w' => ∃ b, e = .returned (.slice (some ⟨b, 0, none⟩) R R) ∧ w.heap.size ≤ b ∧ b < w'.heap.size ∧ Has w' b (coM xs ls r R) ∧ Ext w w' := by
  obtain ⟨ax, ox, rfl, hax, hxc⟩ := reads5 hy (by omega)
  have HXC := Lib.hid hxc
  have HR := Lib.hid hr
  have HN := Lib.hid hn
  have HOK := Lib.hid hok
  have HY := Lib.hid hy
  have HRB : Hid (∀ e, -1000 ≤ gi r e ∧ gi r e ≤ 1000) := fun e => by have := hrb e; omega
  have HPB : Hid (∀ i, -18 ≤ gi r i * gi ls i ∧ gi r i * gi ls i ≤ 18) := fun i => mul_bnd (hrb i).1 (hrb i).2 (by have := hok.bnd i; omega) (hok.bnd i).2
  have HCM : Hid (∀ i, i < R → (mixL (coM xs ls r R) R i).set i ((gi r i * gi ls i).tdiv (innS xs ls r r R R / 2)) = mixL (coM xs ls r R) R (i + 1)) := fun i hi => by rw [← gi_coM hi]; exact mixL_step hi
  have HCD : Hid (mixL (coM xs ls r R) R R = coM xs ls r R) := mixL_done (coM_len _ _ _ _)
  have HC0 : Hid (mixL (coM xs ls r R) R 0 = List.replicate R 0) := mixL_zero _ _
  have HCL : Hid (∀ i, (mixL (coM xs ls r R) R i).length = R) := fun i => mixL_len
  obtain ⟨CM, hCM⟩ : ∃ CM, coM xs ls r R = CM := ⟨_, rfl⟩
  rw [hCM] at HCM HCD HC0 HCL ⊢
  have hv0 : IntKind.i64.wrap ((innS xs ls r r R R).tdiv 2) = innS xs ls r r R R / 2 := IntWalk.i64_quo _ _ ⟨by omega, by omega, by omega⟩
  have hhf : 1 ≤ innS xs ls r r R R / 2 ∧ innS xs ls r r R R / 2 ≤ 3 := by omega
  obtain ⟨hf, hhf9⟩ : ∃ hf, innS xs ls r r R R / 2 = hf := ⟨_, rfl⟩
  rw [hhf9] at HCM hv0 hhf
  have hmk := make_ints R (by omega)
  have HB := Lib.hid hB
  have HLB := Lib.hid hLB
  have HC2 := Lib.hid (inner_impl B LB R da od n cD m' c' m' c' v2 xs ls r r _ _ _ HB.out HLB.out HR.out HN.out hR0 hR HOK.out HY.out hm' HRB.out HY.out hm' HRB.out)
  obtain ⟨b0, hb0⟩ : ∃ b0, innS xs ls r r R R = b0 := ⟨_, rfl⟩
  rw [hb0] at HC2 hv0
  have HM := Lib.hid hm'
  clear hr hy hok hrb hrr hxc hCM hhf9  hb0 hB hLB hn hm'
  go_enter Tryz.func170, Tryz.ntmps170
  go_wp2_with fail
  refine HC2.out.mono ?_
  rintro e w2 ⟨rfl, hE2⟩
  have HE2 := Lib.hid hE2
  have HB2 := Lib.hid (HB.out.ext hE2)
  have HL2 := Lib.hid (HLB.out.ext hE2)
  have lB := HB2.out.1
  have q0 := HB2.out.2 0 _ rfl
  clear hE2
  go_wp2_with fail
  clear lB q0
  have H0 : Hid (Has (w2.alloc (.cells (ints (List.replicate R 0)) 3)) w2.heap.size (mixL CM R 0)) := by rw [HC0.out]; exact Has.new w2 _
  have E0 : Hid (Ext w2 (w2.alloc (.cells (ints (List.replicate R 0)) 3))) := (Ext.refl w2).alloc _
  clear hmk
  go_loopw [22, 7, 8] (fun z _ _ wr => ∃ i : Nat, i ≤ R ∧ z = .int .i64 i ∧ Hid (Has wr w2.heap.size (mixL CM R i)) ∧ Hid (Ext w2 wr)) (fun z _ _ _ => R - (intOf z).toNat)
  case atStart => exact ⟨0, by omega, rfl, H0, E0⟩
  case round =>
    clear H0 E0
    obtain ⟨i, hi, rfl, hH, hE⟩ := hrel
    have HBW := Lib.hid (HB2.out.ext hE.out)
    have lB := HBW.out.1
    have q0 := HBW.out.2 0 _ rfl
    by_cases hlt : i < R
    · have HLW := Lib.hid (HL2.out.ext hE.out)
      have cd := HLW.out.cell i (by rw [HOK.out.len]; exact hlt)
      have ld := HLW.out.lt
      have cx := (((HE2.out.trans hE.out).cells ax (ox + i) hax)).trans (HXC.out i (by have := HM.out; omega))
      have lx := Nat.lt_of_lt_of_le hax (HE2.out.trans hE.out).le
      have c2 := hH.out.cell i (by rw [HCL.out i]; exact hlt)
      have f2 := hH.out.free i
      have l2 := hH.out.lt
      have hpb := HPB.out i
      have hq := tdiv_small (b := hf) hhf.1 hpb.1 hpb.2
      have nD : LB ≠ w2.heap.size := by have := HL2.out.lt; omega
      have nX : ax ≠ w2.heap.size := by have := HE2.out.le; omega
      have nB : B ≠ w2.heap.size := by have := HB2.out.1; omega
      have hltI : (i : Int) < (R : Int) := by omega
      have hltX : (i : Int) < (m' : Int) := by have := HM.out; omega
      have HCi := Lib.hid (HCM.out i hlt)
      obtain ⟨x0, hx0⟩ : ∃ x0, gi r i = x0 := ⟨_, rfl⟩
      obtain ⟨d0, hd0⟩ : ∃ d0, gi ls i = d0 := ⟨_, rfl⟩
      rw [hx0] at cx HCi hpb hq
      rw [hd0] at cd HCi hpb hq
      have v1 : IntKind.i64.wrap (x0 * d0) = x0 * d0 := IntWalk.i64_in _ ⟨by omega, by omega⟩
      have v2'' : IntKind.i64.wrap ((x0 * d0).tdiv hf) = (x0 * d0).tdiv hf := IntWalk.i64_in _ ⟨by omega, by omega⟩
      have v3 : (hf = 0) = False := eq_false (by omega)
      clear hpb hq hx0 hd0
      have q3 := HBW.out.2 3 _ rfl
      have HH2 : Hid (Has (wr.setCell ⟨w2.heap.size, i, none⟩ (.int .i64 ((x0 * d0).tdiv hf))) w2.heap.size (mixL CM R (i + 1))) := by rw [← HCi.out]; exact hH.out.set i (by rw [HCL.out i]; exact hlt) _
      have HE9 : Hid (Ext w2 (wr.setCell ⟨w2.heap.size, i, none⟩ (.int .i64 ((x0 * d0).tdiv hf)))) := hE.out.setCell (p := ⟨w2.heap.size, i, none⟩) (Nat.le_refl _) _
      clear hH hE
      go_wp2
      exact ⟨⟨i + 1, by omega, by simp, HH2, HE9⟩, by simp [intOf]; omega⟩
    · obtain rfl : R = i := by omega
      have hge : ¬ ((R : Int) < (m' : Int)) := by have := HM.out; omega
      rw [HCD.out] at hH
      go_wp2
      go_ret
      exact ⟨_, rfl, HE2.out.le, hH.out.lt, hH.out, HE2.out.trans hE.out⟩
end Go.Proofs.YtlnpaplbcocmkaaGreat
