/-
  Simple reflections of weights, in both texts.
-/
import Derived.Test.YtlnpaplbcocmkaaGreatRd5
import Derived.Test.YtlnpaplbcocmkaaGreatClm
namespace Go.Proofs.YtlnpaplbcocmkaaGreat
open Go.ChangeShapes Go.WideShapes Go.ChangeAt Go.RowKit
set_option linter.unusedVariables false
set_option linter.unusedSimpArgs false

/-- A simple reflection of a weight, as far as number k. -/
def tuP (xs : List Int) (R i : Nat) (w : List Int) (k : Nat) : List Int := (List.range R).map fun e => if e < k then gi w e - gi w i * gi xs (e * R + i) else gi w e
theorem tuP_len (xs : List Int) (R i : Nat) (w : List Int) (k : Nat) : (tuP xs R i w k).length = R := by simp [tuP]
theorem tuP_zero {xs : List Int} {R i : Nat} {w : List Int} (h : w.length = R) : tuP xs R i w 0 = w := by
  apply List.ext_getElem
  · simp [tuP, h]
  · intro e h1 h2
    simp [tuP, gi, h2]
theorem tuP_done (xs : List Int) (R i : Nat) (w : List Int) : tuP xs R i w R = turnM xs R i w := by
  rw [tuP, turnM]
  refine List.map_congr_left (fun e he => ?_)
  rw [if_pos (List.mem_range.1 he)]
theorem gi_tuP {xs : List Int} {R i : Nat} {w : List Int} {k : Nat} (h : k < R) : gi (tuP xs R i w k) k = gi w k := by
  simp [tuP, gi, h]
theorem tuP_step {xs : List Int} {R i : Nat} {w : List Int} {k : Nat} (h : k < R) : (tuP xs R i w k).set k (gi w k - gi w i * gi xs (k * R + i)) = tuP xs R i w (k + 1) := by
  apply List.ext_getElem
  · simp [tuP]
  · intro e h1 h2
    rw [List.getElem_set]
    by_cases e1 : k = e
    · subst e1
      simp [tuP]
    · rw [if_neg e1]
      simp only [tuP, List.getElem_map, List.getElem_range]
      by_cases e2 : e < k
      · rw [if_pos e2, if_pos (by omega)]
      · rw [if_neg e2, if_neg (by omega)]
theorem prod_bnd {xs w : List Int} {B : Int} (hx : ∀ e, -3 ≤ gi xs e ∧ gi xs e ≤ 3) (hw : ∀ e, -B ≤ gi w e ∧ gi w e ≤ B) (i k : Nat) : -(B * 3) ≤ gi w i * gi xs k ∧ gi w i * gi xs k ≤ B * 3 :=
  mul_bnd (hw i).1 (hw i).2 (hx k).1 (hx k).2

set_option maxRecDepth 100000 in
set_option maxHeartbeats 6400000 in
theorem turned_impl (B R da od n cD m c i : Nat) (v2 v3 : Value) (xs y : List Int) (a : Option Addr) (w : World) (hB : Cells w B [.int .i64 (R : Nat), .slice (some ⟨da, od, none⟩) n cD, v2, v3]) (hr : Reads w (some ⟨da, od, none⟩) n xs) (hn : n = R * R) (hR0 : 1 ≤ R) (hR : R ≤ 4) (hy : Reads w a m y) (hm : m = R) (hi : i < R) (hxb : ∀ e, -3 ≤ gi xs e ∧ gi xs e ≤ 3) (hyb : ∀ e, -1000000 ≤ gi y e ∧ gi y e ≤ 1000000) :
    Calls Tryz.prog 120 #[.pointer (some ⟨B, 0, none⟩), .int .i64 i, .slice a m c] w fun e w' => ∃ b c9, e = .returned (.slice (some ⟨b, 0, none⟩) R c9) ∧ R ≤ c9 ∧ w.heap.size ≤ b ∧ b < w'.heap.size ∧ Has w' b (turnM xs R i y) ∧ Ext w w' := by
  subst hm
  have HN := Lib.hid hn
  obtain ⟨ax, ox, rfl, hax, hxc⟩ := reads5 hy (by omega)
  have HAX := Lib.hid (And.intro hax hxc)
  have HX := Lib.hid hy
  have HL := Lib.hid hy.len
  have HR := Lib.hid hr
  have HBX := Lib.hid hB
  have HYB := Lib.hid hyb
  have HXY := Lib.hid (fun k => prod_bnd hxb hyb i (k * m + i))
  clear hr hy hxb hyb hax hxc hn hB
  go_enter Tryz.func120, Tryz.ntmps120
  go_wp2_with fail
  refine (clone5 ⟨ax, ox, none⟩ m c y _ HX.out (by omega)).mono ?_
  rintro e w2 ⟨b, cb, rfl, hb1, hh, hE, hcb⟩
  have L0 : Hid (Loc w w2 B b [.int .i64 (m : Nat), .slice (some ⟨da, od, none⟩) n cD, v2, v3] (tuP xs m i y 0)) := by
    rw [tuP_zero HL.out]
    exact ⟨HBX.out.ext hE, hh, hE, hb1, hh.lt, by have := HBX.out.1; omega⟩
  clear hh hE
  go_wp2_with fail
  go_loopw [13, 8] (fun z _ wr => ∃ k : Nat, k ≤ m ∧ z = .int .i64 k ∧ Hid (Loc w wr B b [.int .i64 (m : Nat), .slice (some ⟨da, od, none⟩) n cD, v2, v3] (tuP xs m i y k))) (fun z _ _ => m - (intOf z).toNat)
  case atStart => exact ⟨0, by omega, rfl, L0⟩
  case round =>
    obtain ⟨k, hk, rfl, L⟩ := hrel
    by_cases h2 : k < m
    · have lB := L.out.box.1
      have q0 := L.out.box.2 0 _ rfl
      have c1 := L.out.has.cell k (by rw [tuP_len]; exact h2)
      rw [gi_tuP h2] at c1
      have f1 := L.out.has.free k
      have lb := L.out.lt
      have nX : ax ≠ b := by have := HAX.out.1; have := L.out.lo; omega
      have lX : ax < wr.heap.size := Nat.lt_of_lt_of_le HAX.out.1 L.out.ext.le
      have cX : wr.cell? ⟨ax, ox + i, none⟩ = some (.int .i64 (gi y i)) := (L.out.ext.cells ax _ HAX.out.1).trans (HAX.out.2 i hi)
      have hP := HXY.out k
      have hY := HYB.out k
      have N : ∀ w2, Ext wr.drew w2 → Hid (Loc w (w2.setCell ⟨b, k, none⟩ (.int .i64 (gi y k - gi y i * gi xs (k * m + i)))) B b [.int .i64 (m : Nat), .slice (some ⟨da, od, none⟩) n cD, v2, v3] (tuP xs m i y (k + 1))) := fun w2 hE => by
        rw [← tuP_step h2]
        exact ((L.out.step (Ext.refl _).drew).step hE).set k (by rw [tuP_len]; exact h2) _
      have HNl := Lib.hid N
      have HC2 : Hid (∀ w2, Ext wr.drew w2 → w2.cell? ⟨b, k, none⟩ = some (.int .i64 (gi y k)) ∧ w2.frozen? ⟨b, k, none⟩ = false) := fun w2 hE => by
        have h := ((L.out.step (Ext.refl _).drew).step hE).has
        have h1 := h.cell k (by rw [tuP_len]; exact h2)
        rw [gi_tuP h2] at h1
        exact ⟨h1, h.free _⟩
      have HCALL := Lib.hid (at_impl B m da od n cD v2 v3 xs k i _ (L.out.box.ext ((Ext.refl wr).drew)) (HR.out.ext (L.out.ext.trans (Ext.refl wr).drew)) HN.out hR h2 hi)
      obtain ⟨y0, hy0⟩ : ∃ y0, gi y k = y0 := ⟨_, rfl⟩
      rw [hy0] at c1 HNl HC2 hY
      have v4 : IntKind.i64.wrap (gi y i * gi xs (k * m + i)) = gi y i * gi xs (k * m + i) := IntWalk.i64_in _ ⟨by omega, by omega⟩
      have v5 : IntKind.i64.wrap (y0 - gi y i * gi xs (k * m + i)) = y0 - gi y i * gi xs (k * m + i) := IntWalk.i64_in _ ⟨by omega, by omega⟩
      have hkI : (k : Int) < (m : Int) := by omega
      have hiI : (i : Int) < (m : Int) := by omega
      clear N hP hY hy0
      go_wp2_with fail
      refine wp_region_held_drew (S := (fun w' => wr.grownBy w' (some b) ∧ ∀ B o, B ≠ b → B < wr.heap.size → w'.cell? ⟨B, o, none⟩ = wr.cell? ⟨B, o, none⟩)) (by kernel_rfl) keptC_drew (fun hHeld => ?_)
      refine wpAnyH_take (i := 0) (v := ?v1) rfl (by kernel_rfl) (by kernel_rfl) (by kernel_rfl) (fun _ _ _ h => h) (Or.inl ⟨by rfl, ?hy1⟩) hHeld ?rest1
      case hy1 => (intro wz hSw; (try dsimp only at hSw); go_simp; (try with_reducible rfl))
      (try simp only [Act.put, List.getElem_toArray, List.getElem_cons_succ, List.getElem_cons_zero]); (try simp only [List.setIfInBounds_toArray]); (try simp only [List.set_cons_succ]); (try simp only [List.set_cons_zero])
      refine wpAnyH_take (i := 1) (v := ?v2) rfl (by kernel_rfl) (by kernel_rfl) (by kernel_rfl) (fun _ _ _ h => h) (Or.inl ⟨by rfl, ?hy2⟩) hHeld ?rest2
      case hy2 => (intro wz hSw; (try dsimp only at hSw); go_simp; (try with_reducible rfl))
      (try simp only [Act.put, List.getElem_toArray, List.getElem_cons_succ, List.getElem_cons_zero]); (try simp only [List.setIfInBounds_toArray]); (try simp only [List.set_cons_succ]); (try simp only [List.set_cons_zero])
      refine wpAnyH_take (i := 2) (v := ?v3) rfl (by kernel_rfl) (by kernel_rfl) (by kernel_rfl) (fun _ _ _ h => h) (Or.inl ⟨by rfl, ?hy3⟩) hHeld ?rest3
      case hy3 => (intro wz hSw; (try dsimp only at hSw); go_simp; (try with_reducible rfl))
      (try simp only [Act.put, List.getElem_toArray, List.getElem_cons_succ, List.getElem_cons_zero]); (try simp only [List.setIfInBounds_toArray]); (try simp only [List.set_cons_succ]); (try simp only [List.set_cons_zero])
      refine wpAnyH_take (i := 4) (v := ?v4) rfl (by kernel_rfl) (by kernel_rfl) (by kernel_rfl) (fun _ _ _ h => h) (Or.inl ⟨by rfl, ?hy4⟩) hHeld ?rest4
      case hy4 => (intro wz hSw; (try dsimp only at hSw); go_simp; (try with_reducible rfl))
      (try simp only [Act.put, List.getElem_toArray, List.getElem_cons_succ, List.getElem_cons_zero]); (try simp only [List.setIfInBounds_toArray]); (try simp only [List.set_cons_succ]); (try simp only [List.set_cons_zero])
      refine wpAnyH_take (i := 5) (v := ?v5) rfl (by kernel_rfl) (by kernel_rfl) (by kernel_rfl) (fun _ _ _ h => h) (Or.inl ⟨by rfl, ?hy5⟩) hHeld ?rest5
      case hy5 => (intro wz hSw; (try dsimp only at hSw); go_simp; (try with_reducible rfl))
      (try simp only [Act.put, List.getElem_toArray, List.getElem_cons_succ, List.getElem_cons_zero]); (try simp only [List.setIfInBounds_toArray]); (try simp only [List.set_cons_succ]); (try simp only [List.set_cons_zero])
      refine wpAnyH_take (i := 6) (v := ?v6) rfl (by kernel_rfl) (by kernel_rfl) (by kernel_rfl) (fun _ _ _ h => h) (Or.inl ⟨by rfl, ?hy6⟩) hHeld ?rest6
      case hy6 => (intro wz hSw; (try dsimp only at hSw); go_simp; (try with_reducible rfl))
      (try simp only [Act.put, List.getElem_toArray, List.getElem_cons_succ, List.getElem_cons_zero]); (try simp only [List.setIfInBounds_toArray]); (try simp only [List.set_cons_succ]); (try simp only [List.set_cons_zero])
      refine wpAnyH_take (i := 7) (v := ?v7) rfl (by kernel_rfl) (by kernel_rfl) (by kernel_rfl) (fun _ _ _ h => h) (Or.inl ⟨by rfl, ?hy7⟩) hHeld ?rest7
      case hy7 => (intro wz hSw; (try dsimp only at hSw); go_simp; (try with_reducible rfl))
      (try simp only [Act.put, List.getElem_toArray, List.getElem_cons_succ, List.getElem_cons_zero]); (try simp only [List.setIfInBounds_toArray]); (try simp only [List.set_cons_succ]); (try simp only [List.set_cons_zero])
      refine wpAnyH_take (i := 8) (v := ?v8) rfl (by kernel_rfl) (by kernel_rfl) (by kernel_rfl) (fun _ _ _ h => h) (Or.inl ⟨by rfl, ?hy8⟩) hHeld ?rest8
      case hy8 => (intro wz hSw; (try dsimp only at hSw); go_simp; (try with_reducible rfl))
      (try simp only [Act.put, List.getElem_toArray, List.getElem_cons_succ, List.getElem_cons_zero]); (try simp only [List.setIfInBounds_toArray]); (try simp only [List.set_cons_succ]); (try simp only [List.set_cons_zero])
      refine wpAnyH_take (i := 9) (v := ?v9) rfl (by kernel_rfl) (by kernel_rfl) (by kernel_rfl) (fun _ _ _ h => h) (Or.inl ⟨by rfl, ?hy9⟩) hHeld ?rest9
      case hy9 => (intro wz hSw; (try dsimp only at hSw); go_simp; (try with_reducible rfl))
      (try simp only [Act.put, List.getElem_toArray, List.getElem_cons_succ, List.getElem_cons_zero]); (try simp only [List.setIfInBounds_toArray]); (try simp only [List.set_cons_succ]); (try simp only [List.set_cons_zero])
      refine wpAnyH_take (i := 10) (v := ?v10) rfl (by kernel_rfl) (by kernel_rfl) (by kernel_rfl) (fun _ _ _ h => h) (Or.inl ⟨by rfl, ?hy10⟩) hHeld ?rest10
      case hy10 => (intro wz hSw; (try dsimp only at hSw); go_simp; (try with_reducible rfl))
      (try simp only [Act.put, List.getElem_toArray, List.getElem_cons_succ, List.getElem_cons_zero]); (try simp only [List.setIfInBounds_toArray]); (try simp only [List.set_cons_succ]); (try simp only [List.set_cons_zero])
      refine wpAnyH_ready (rs := [3, 11]) (by kernel_rfl) (by simp) ?_
      refine AllReadyH.cons rfl (fun K' hK => ?_) (AllReadyH.cons rfl (fun K' hK => ?_) AllReadyH.nil)
      · skip
        go_simp
        refine hK.out _ _ hHeld (fun hHeld => ?_)
        clear hK
        refine wpAnyH_ready (rs := [11]) (by kernel_rfl) (by simp) ?_
        refine AllReadyH.cons rfl (fun K' hK => ?_) AllReadyH.nil
        go_simp
        refine HCALL.out.mono ?_
        rintro e w3 ⟨rfl, hE3⟩
        dsimp only
        obtain ⟨c2, f2⟩ := HC2.out w3 hE3
        refine hK.out _ _ (keptC_call hHeld hE3) (fun hHeld => ?_)
        clear hK
        refine wpAnyH_take (i := 12) (v := ?v11) rfl (by kernel_rfl) (by kernel_rfl) (by kernel_rfl) (fun _ _ _ h => h) (Or.inl ⟨by rfl, ?hy11⟩) hHeld ?rest11
        case hy11 => (intro wz hSw; (try dsimp only at hSw); go_simp; (try with_reducible rfl))
        (try simp only [Act.put, List.getElem_toArray, List.getElem_cons_succ, List.getElem_cons_zero]); (try simp only [List.setIfInBounds_toArray]); (try simp only [List.set_cons_succ]); (try simp only [List.set_cons_zero])
        refine wpAnyH_take (i := 13) (v := ?v12) rfl (by kernel_rfl) (by kernel_rfl) (by kernel_rfl) (fun _ _ _ h => h) (Or.inl ⟨by rfl, ?hy12⟩) hHeld ?rest12
        case hy12 => (intro wz hSw; (try dsimp only at hSw); go_simp; (try with_reducible rfl))
        (try simp only [Act.put, List.getElem_toArray, List.getElem_cons_succ, List.getElem_cons_zero]); (try simp only [List.setIfInBounds_toArray]); (try simp only [List.set_cons_succ]); (try simp only [List.set_cons_zero])
        refine wpAnyH_take (i := 14) (v := ?v13) rfl (by kernel_rfl) (by kernel_rfl) (by kernel_rfl) (fun _ _ _ h => h) (Or.inl ⟨by rfl, ?hy13⟩) hHeld ?rest13
        case hy13 => (intro wz hSw; (try dsimp only at hSw); go_simp; (try with_reducible rfl))
        (try simp only [Act.put, List.getElem_toArray, List.getElem_cons_succ, List.getElem_cons_zero]); (try simp only [List.setIfInBounds_toArray]); (try simp only [List.set_cons_succ]); (try simp only [List.set_cons_zero])
        refine wpAnyH_ready (rs := [15]) (by kernel_rfl) (by simp) ?_
        refine AllReadyH.cons rfl (fun K' hK => ?_) AllReadyH.nil
        go_simp
        refine hK.out _ _ (keptC_set hHeld _ _) (fun hHeld => ?_)
        refine wpAnyH_done (by kernel_rfl) ?_ _
        go_wp2
        exact ⟨⟨k + 1, by omega, by simp, HNl.out _ hE3⟩, by simp [intOf]; omega⟩
      · skip
        go_simp
        refine HCALL.out.mono ?_
        rintro e w3 ⟨rfl, hE3⟩
        dsimp only
        obtain ⟨c2, f2⟩ := HC2.out w3 hE3
        refine hK.out _ _ (keptC_call hHeld hE3) (fun hHeld => ?_)
        clear hK
        refine wpAnyH_take (i := 12) (v := ?v14) rfl (by kernel_rfl) (by kernel_rfl) (by kernel_rfl) (fun _ _ _ h => h) (Or.inl ⟨by rfl, ?hy14⟩) hHeld ?rest14
        case hy14 => (intro wz hSw; (try dsimp only at hSw); go_simp; (try with_reducible rfl))
        (try simp only [Act.put, List.getElem_toArray, List.getElem_cons_succ, List.getElem_cons_zero]); (try simp only [List.setIfInBounds_toArray]); (try simp only [List.set_cons_succ]); (try simp only [List.set_cons_zero])
        refine wpAnyH_ready (rs := [3]) (by kernel_rfl) (by simp) ?_
        refine AllReadyH.cons rfl (fun K' hK => ?_) AllReadyH.nil
        go_simp
        refine hK.out _ _ hHeld (fun hHeld => ?_)
        clear hK
        refine wpAnyH_take (i := 13) (v := ?v15) rfl (by kernel_rfl) (by kernel_rfl) (by kernel_rfl) (fun _ _ _ h => h) (Or.inl ⟨by rfl, ?hy15⟩) hHeld ?rest15
        case hy15 => (intro wz hSw; (try dsimp only at hSw); go_simp; (try with_reducible rfl))
        (try simp only [Act.put, List.getElem_toArray, List.getElem_cons_succ, List.getElem_cons_zero]); (try simp only [List.setIfInBounds_toArray]); (try simp only [List.set_cons_succ]); (try simp only [List.set_cons_zero])
        refine wpAnyH_take (i := 14) (v := ?v16) rfl (by kernel_rfl) (by kernel_rfl) (by kernel_rfl) (fun _ _ _ h => h) (Or.inl ⟨by rfl, ?hy16⟩) hHeld ?rest16
        case hy16 => (intro wz hSw; (try dsimp only at hSw); go_simp; (try with_reducible rfl))
        (try simp only [Act.put, List.getElem_toArray, List.getElem_cons_succ, List.getElem_cons_zero]); (try simp only [List.setIfInBounds_toArray]); (try simp only [List.set_cons_succ]); (try simp only [List.set_cons_zero])
        refine wpAnyH_ready (rs := [15]) (by kernel_rfl) (by simp) ?_
        refine AllReadyH.cons rfl (fun K' hK => ?_) AllReadyH.nil
        go_simp
        refine hK.out _ _ (keptC_set hHeld _ _) (fun hHeld => ?_)
        refine wpAnyH_done (by kernel_rfl) ?_ _
        go_wp2
        exact ⟨⟨k + 1, by omega, by simp, HNl.out _ hE3⟩, by simp [intOf]; omega⟩
    · obtain rfl : m = k := by omega
      have L2 : Hid (Loc w wr B b [.int .i64 (m : Nat), .slice (some ⟨da, od, none⟩) n cD, v2, v3] (turnM xs m i y)) := by rw [← tuP_done]; exact L
      go_wp2
      go_ret
      exact ⟨_, _, rfl, hcb, L2.out.lo, L2.out.lt, L2.out.has, L2.out.ext⟩

set_option maxRecDepth 100000 in
set_option maxHeartbeats 6400000 in
theorem l6Reflect_spec (R da od n cD m c i : Nat) (xs y : List Int) (a : Option Addr) (w : World) (hr : Reads w (some ⟨da, od, none⟩) n xs) (hn : n = R * R) (hR0 : 1 ≤ R) (hR : R ≤ 4) (hy : Reads w a m y) (hm : m = R) (hi : i < R) (hxb : ∀ e, -3 ≤ gi xs e ∧ gi xs e ≤ 3) (hyb : ∀ e, -1000000 ≤ gi y e ∧ gi y e ≤ 1000000) :
    Calls Tryz.prog 104 #[.agg #[.int .i64 (R : Nat), .slice (some ⟨da, od, none⟩) n cD], .int .i64 i, .slice a m c] w fun e w' => ∃ b c9, e = .returned (.slice (some ⟨b, 0, none⟩) R c9) ∧ R ≤ c9 ∧ w.heap.size ≤ b ∧ b < w'.heap.size ∧ Has w' b (turnM xs R i y) ∧ Ext w w' := by
  subst hm
  have HN := Lib.hid hn
  obtain ⟨ax, ox, rfl, hax, hxc⟩ := reads5 hy (by omega)
  have HAX := Lib.hid (And.intro hax hxc)
  have HX := Lib.hid hy
  have HL := Lib.hid hy.len
  have HR := Lib.hid hr
  have HYB := Lib.hid hyb
  have HXY := Lib.hid (fun k => prod_bnd hxb hyb i (k * m + i))
  have HBX := Lib.hid (cells_new w #[.int .i64 (m : Nat), .slice (some ⟨da, od, none⟩) n cD] 27)
  have X0 := Lib.hid ((Ext.refl w).alloc (.cells #[.int .i64 (m : Nat), .slice (some ⟨da, od, none⟩) n cD] 27))
  clear hr hy hxb hyb hax hxc hn
  go_enter Tryz.func104, Tryz.ntmps104
  go_wp2_with fail
  refine (l1Ints_g (some ⟨ax, ox, none⟩) m c y _ (HX.out.ext X0.out) (by omega) (fun h => by cases h)).mono ?_
  rintro e w2 ⟨v, rfl, hG, hE⟩
  obtain ⟨ga, gc, rfl, hO⟩ := hG.shape
  obtain ⟨b, rfl, hb1, hb9, hh⟩ : ∃ b, ga = some ⟨b, 0, none⟩ ∧ w.heap.size ≤ b ∧ b < w2.heap.size ∧ Has w2 b y := by
    rcases hO.2 with ⟨_, h⟩ | ⟨b, h1, h2, h3, h4⟩
    · omega
    · exact ⟨b, h1, by simp at h2; omega, h3, h4⟩
  have hcb := hG.slc.1
  have hnb : w.heap.size ≠ b := by
    rcases hO.2 with ⟨_, h⟩ | ⟨b', h1, h2, h3, h4⟩
    · omega
    · injection h1 with h1; injection h1 with h1; simp at h2; omega
  have L0 : Hid (Loc w w2 w.heap.size b [.int .i64 (m : Nat), .slice (some ⟨da, od, none⟩) n cD] (tuP xs m i y 0)) := by
    rw [tuP_zero HL.out]
    exact ⟨HBX.out.ext hE, hh, X0.out.trans hE, hb1, hb9, hnb⟩
  clear hh hE hG hO hb9 hnb
  have lB0 := L0.out.box.1
  have q00 := L0.out.box.2 0 _ rfl
  go_wp2_with fail
  clear lB0 q00
  go_loopw [8] (fun z wr => ∃ k : Nat, k ≤ m ∧ z = .int .i64 k ∧ Hid (Loc w wr w.heap.size b [.int .i64 (m : Nat), .slice (some ⟨da, od, none⟩) n cD] (tuP xs m i y k))) (fun z _ => m - (intOf z).toNat)
  case atStart => exact ⟨0, by omega, rfl, L0⟩
  case round =>
    clear L0
    obtain ⟨k, hk, rfl, L⟩ := hrel
    have lB := L.out.box.1
    have q0 := L.out.box.2 0 _ rfl
    by_cases h2 : k < m
    · have q1 := L.out.box.2 1 _ rfl
      have nB := L.out.ne
      have lb := L.out.lt
      have nX : ax ≠ b := by have := HAX.out.1; have := L.out.lo; omega
      have lX : ax < wr.heap.size := Nat.lt_of_lt_of_le HAX.out.1 L.out.ext.le
      have cX : wr.cell? ⟨ax, ox + i, none⟩ = some (.int .i64 (gi y i)) := (L.out.ext.cells ax _ HAX.out.1).trans (HAX.out.2 i hi)
      have cK : wr.cell? ⟨ax, ox + k, none⟩ = some (.int .i64 (gi y k)) := (L.out.ext.cells ax _ HAX.out.1).trans (HAX.out.2 k h2)
      have hP := HXY.out k
      have hY := HYB.out k
      have N : ∀ w2, Ext wr.drew w2 → Hid (Loc w (w2.setCell ⟨b, k, none⟩ (.int .i64 (gi y k - gi y i * gi xs (k * m + i)))) w.heap.size b [.int .i64 (m : Nat), .slice (some ⟨da, od, none⟩) n cD] (tuP xs m i y (k + 1))) := fun w2 hE => by
        rw [← tuP_step h2]
        exact ((L.out.step (Ext.refl _).drew).step hE).set k (by rw [tuP_len]; exact h2) _
      have HNl := Lib.hid N
      have HC2 : Hid (∀ w2, Ext wr.drew w2 → w2.cell? ⟨b, k, none⟩ = some (.int .i64 (gi y k)) ∧ w2.frozen? ⟨b, k, none⟩ = false) := fun w2 hE => by
        have h := ((L.out.step (Ext.refl _).drew).step hE).has
        have h1 := h.cell k (by rw [tuP_len]; exact h2)
        rw [gi_tuP h2] at h1
        exact ⟨h1, h.free _⟩
      have HCALL := Lib.hid (l5At_spec m da od n cD xs k i _ (HR.out.ext (L.out.ext.trans (Ext.refl wr).drew)) HN.out hR h2 hi)
      obtain ⟨y0, hy0⟩ : ∃ y0, gi y k = y0 := ⟨_, rfl⟩
      rw [hy0] at cK HNl HC2 hY
      have v4 : IntKind.i64.wrap (gi y i * gi xs (k * m + i)) = gi y i * gi xs (k * m + i) := IntWalk.i64_in _ ⟨by omega, by omega⟩
      have v5 : IntKind.i64.wrap (y0 - gi y i * gi xs (k * m + i)) = y0 - gi y i * gi xs (k * m + i) := IntWalk.i64_in _ ⟨by omega, by omega⟩
      have hkI : (k : Int) < (m : Int) := by omega
      have hiI : (i : Int) < (m : Int) := by omega
      clear N hP hY hy0
      go_wp2_with fail
      refine wp_region_held_drew (S := (fun w' => wr.grownBy w' (some b) ∧ ∀ B o, B ≠ b → B < wr.heap.size → w'.cell? ⟨B, o, none⟩ = wr.cell? ⟨B, o, none⟩)) (by kernel_rfl) keptC_drew (fun hHeld => ?_)
      refine wpAnyH_take (i := 0) (v := ?v17) rfl (by kernel_rfl) (by kernel_rfl) (by kernel_rfl) (fun _ _ _ h => h) (Or.inl ⟨by rfl, ?hy17⟩) hHeld ?rest17
      case hy17 => (intro wz hSw; (try dsimp only at hSw); go_simp; (try with_reducible rfl))
      (try simp only [Act.put, List.getElem_toArray, List.getElem_cons_succ, List.getElem_cons_zero]); (try simp only [List.setIfInBounds_toArray]); (try simp only [List.set_cons_succ]); (try simp only [List.set_cons_zero])
      refine wpAnyH_take (i := 1) (v := ?v18) rfl (by kernel_rfl) (by kernel_rfl) (by kernel_rfl) (fun _ _ _ h => h) (Or.inl ⟨by rfl, ?hy18⟩) hHeld ?rest18
      case hy18 => (intro wz hSw; (try dsimp only at hSw); go_simp; (try with_reducible rfl))
      (try simp only [Act.put, List.getElem_toArray, List.getElem_cons_succ, List.getElem_cons_zero]); (try simp only [List.setIfInBounds_toArray]); (try simp only [List.set_cons_succ]); (try simp only [List.set_cons_zero])
      refine wpAnyH_take (i := 2) (v := ?v19) rfl (by kernel_rfl) (by kernel_rfl) (by kernel_rfl) (fun _ _ _ h => h) (Or.inl ⟨by rfl, ?hy19⟩) hHeld ?rest19
      case hy19 => (intro wz hSw; (try dsimp only at hSw); go_simp; (try with_reducible rfl))
      (try simp only [Act.put, List.getElem_toArray, List.getElem_cons_succ, List.getElem_cons_zero]); (try simp only [List.setIfInBounds_toArray]); (try simp only [List.set_cons_succ]); (try simp only [List.set_cons_zero])
      refine wpAnyH_take (i := 3) (v := ?v20) rfl (by kernel_rfl) (by kernel_rfl) (by kernel_rfl) (fun _ _ _ h => h) (Or.inl ⟨by rfl, ?hy20⟩) hHeld ?rest20
      case hy20 => (intro wz hSw; (try dsimp only at hSw); go_simp; (try with_reducible rfl))
      (try simp only [Act.put, List.getElem_toArray, List.getElem_cons_succ, List.getElem_cons_zero]); (try simp only [List.setIfInBounds_toArray]); (try simp only [List.set_cons_succ]); (try simp only [List.set_cons_zero])
      refine wpAnyH_take (i := 4) (v := ?v21) rfl (by kernel_rfl) (by kernel_rfl) (by kernel_rfl) (fun _ _ _ h => h) (Or.inl ⟨by rfl, ?hy21⟩) hHeld ?rest21
      case hy21 => (intro wz hSw; (try dsimp only at hSw); go_simp; (try with_reducible rfl))
      (try simp only [Act.put, List.getElem_toArray, List.getElem_cons_succ, List.getElem_cons_zero]); (try simp only [List.setIfInBounds_toArray]); (try simp only [List.set_cons_succ]); (try simp only [List.set_cons_zero])
      refine wpAnyH_take (i := 5) (v := ?v22) rfl (by kernel_rfl) (by kernel_rfl) (by kernel_rfl) (fun _ _ _ h => h) (Or.inl ⟨by rfl, ?hy22⟩) hHeld ?rest22
      case hy22 => (intro wz hSw; (try dsimp only at hSw); go_simp; (try with_reducible rfl))
      (try simp only [Act.put, List.getElem_toArray, List.getElem_cons_succ, List.getElem_cons_zero]); (try simp only [List.setIfInBounds_toArray]); (try simp only [List.set_cons_succ]); (try simp only [List.set_cons_zero])
      refine wpAnyH_take (i := 6) (v := ?v23) rfl (by kernel_rfl) (by kernel_rfl) (by kernel_rfl) (fun _ _ _ h => h) (Or.inl ⟨by rfl, ?hy23⟩) hHeld ?rest23
      case hy23 => (intro wz hSw; (try dsimp only at hSw); go_simp; (try with_reducible rfl))
      (try simp only [Act.put, List.getElem_toArray, List.getElem_cons_succ, List.getElem_cons_zero]); (try simp only [List.setIfInBounds_toArray]); (try simp only [List.set_cons_succ]); (try simp only [List.set_cons_zero])
      refine wpAnyH_take (i := 7) (v := ?v24) rfl (by kernel_rfl) (by kernel_rfl) (by kernel_rfl) (fun _ _ _ h => h) (Or.inl ⟨by rfl, ?hy24⟩) hHeld ?rest24
      case hy24 => (intro wz hSw; (try dsimp only at hSw); go_simp; (try with_reducible rfl))
      (try simp only [Act.put, List.getElem_toArray, List.getElem_cons_succ, List.getElem_cons_zero]); (try simp only [List.setIfInBounds_toArray]); (try simp only [List.set_cons_succ]); (try simp only [List.set_cons_zero])
      refine wpAnyH_take (i := 8) (v := ?v25) rfl (by kernel_rfl) (by kernel_rfl) (by kernel_rfl) (fun _ _ _ h => h) (Or.inl ⟨by rfl, ?hy25⟩) hHeld ?rest25
      case hy25 => (intro wz hSw; (try dsimp only at hSw); go_simp; (try with_reducible rfl))
      (try simp only [Act.put, List.getElem_toArray, List.getElem_cons_succ, List.getElem_cons_zero]); (try simp only [List.setIfInBounds_toArray]); (try simp only [List.set_cons_succ]); (try simp only [List.set_cons_zero])
      refine wpAnyH_take (i := 9) (v := ?v26) rfl (by kernel_rfl) (by kernel_rfl) (by kernel_rfl) (fun _ _ _ h => h) (Or.inl ⟨by rfl, ?hy26⟩) hHeld ?rest26
      case hy26 => (intro wz hSw; (try dsimp only at hSw); go_simp; (try with_reducible rfl))
      (try simp only [Act.put, List.getElem_toArray, List.getElem_cons_succ, List.getElem_cons_zero]); (try simp only [List.setIfInBounds_toArray]); (try simp only [List.set_cons_succ]); (try simp only [List.set_cons_zero])
      refine wpAnyH_take (i := 10) (v := ?v27) rfl (by kernel_rfl) (by kernel_rfl) (by kernel_rfl) (fun _ _ _ h => h) (Or.inl ⟨by rfl, ?hy27⟩) hHeld ?rest27
      case hy27 => (intro wz hSw; (try dsimp only at hSw); go_simp; (try with_reducible rfl))
      (try simp only [Act.put, List.getElem_toArray, List.getElem_cons_succ, List.getElem_cons_zero]); (try simp only [List.setIfInBounds_toArray]); (try simp only [List.set_cons_succ]); (try simp only [List.set_cons_zero])
      refine wpAnyH_take (i := 11) (v := ?v28) rfl (by kernel_rfl) (by kernel_rfl) (by kernel_rfl) (fun _ _ _ h => h) (Or.inl ⟨by rfl, ?hy28⟩) hHeld ?rest28
      case hy28 => (intro wz hSw; (try dsimp only at hSw); go_simp; (try with_reducible rfl))
      (try simp only [Act.put, List.getElem_toArray, List.getElem_cons_succ, List.getElem_cons_zero]); (try simp only [List.setIfInBounds_toArray]); (try simp only [List.set_cons_succ]); (try simp only [List.set_cons_zero])
      refine wpAnyH_take (i := 12) (v := ?v29) rfl (by kernel_rfl) (by kernel_rfl) (by kernel_rfl) (fun _ _ _ h => h) (Or.inl ⟨by rfl, ?hy29⟩) hHeld ?rest29
      case hy29 => (intro wz hSw; (try dsimp only at hSw); go_simp; (try with_reducible rfl))
      (try simp only [Act.put, List.getElem_toArray, List.getElem_cons_succ, List.getElem_cons_zero]); (try simp only [List.setIfInBounds_toArray]); (try simp only [List.set_cons_succ]); (try simp only [List.set_cons_zero])
      refine wpAnyH_ready (rs := [13]) (by kernel_rfl) (by simp) ?_
      refine AllReadyH.cons rfl (fun K' hK => ?_) AllReadyH.nil
      go_simp
      refine HCALL.out.mono ?_
      rintro e w3 ⟨rfl, hE3⟩
      dsimp only
      obtain ⟨c2, f2⟩ := HC2.out w3 hE3
      refine hK.out _ _ (keptC_call hHeld hE3) (fun hHeld => ?_)
      clear hK
      refine wpAnyH_take (i := 14) (v := ?v30) rfl (by kernel_rfl) (by kernel_rfl) (by kernel_rfl) (fun _ _ _ h => h) (Or.inl ⟨by rfl, ?hy30⟩) hHeld ?rest30
      case hy30 => (intro wz hSw; (try dsimp only at hSw); go_simp; (try with_reducible rfl))
      (try simp only [Act.put, List.getElem_toArray, List.getElem_cons_succ, List.getElem_cons_zero]); (try simp only [List.setIfInBounds_toArray]); (try simp only [List.set_cons_succ]); (try simp only [List.set_cons_zero])
      refine wpAnyH_take (i := 15) (v := ?v31) rfl (by kernel_rfl) (by kernel_rfl) (by kernel_rfl) (fun _ _ _ h => h) (Or.inl ⟨by rfl, ?hy31⟩) hHeld ?rest31
      case hy31 => (intro wz hSw; (try dsimp only at hSw); go_simp; (try with_reducible rfl))
      (try simp only [Act.put, List.getElem_toArray, List.getElem_cons_succ, List.getElem_cons_zero]); (try simp only [List.setIfInBounds_toArray]); (try simp only [List.set_cons_succ]); (try simp only [List.set_cons_zero])
      refine wpAnyH_take (i := 16) (v := ?v32) rfl (by kernel_rfl) (by kernel_rfl) (by kernel_rfl) (fun _ _ _ h => h) (Or.inl ⟨by rfl, ?hy32⟩) hHeld ?rest32
      case hy32 => (intro wz hSw; (try dsimp only at hSw); go_simp; (try with_reducible rfl))
      (try simp only [Act.put, List.getElem_toArray, List.getElem_cons_succ, List.getElem_cons_zero]); (try simp only [List.setIfInBounds_toArray]); (try simp only [List.set_cons_succ]); (try simp only [List.set_cons_zero])
      refine wpAnyH_ready (rs := [17]) (by kernel_rfl) (by simp) ?_
      refine AllReadyH.cons rfl (fun K' hK => ?_) AllReadyH.nil
      go_simp
      refine hK.out _ _ (keptC_set hHeld _ _) (fun hHeld => ?_)
      refine wpAnyH_done (by kernel_rfl) ?_ _
      go_wp2
      exact ⟨⟨k + 1, by omega, by simp, HNl.out _ hE3⟩, by simp [intOf]; omega⟩
    · obtain rfl : m = k := by omega
      have L2 : Hid (Loc w wr w.heap.size b [.int .i64 (m : Nat), .slice (some ⟨da, od, none⟩) n cD] (turnM xs m i y)) := by rw [← tuP_done]; exact L
      go_wp2
      go_ret
      exact ⟨_, _, rfl, hcb, L2.out.lo, L2.out.lt, L2.out.has, L2.out.ext⟩
end Go.Proofs.YtlnpaplbcocmkaaGreat
