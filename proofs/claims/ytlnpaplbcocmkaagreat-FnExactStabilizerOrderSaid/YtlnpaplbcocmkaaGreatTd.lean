/-
  Simple reflections of weights, in both texts.
-/
import Derived.Test.YtlnpaplbcocmkaaGreatRd5
import Derived.Test.YtlnpaplbcocmkaaGreatClm
import Derived.Laws.CopyOwn
namespace Go.Proofs.YtlnpaplbcocmkaaGreat
open Go.ChangeShapes Go.WideShapes Go.ChangeAt Go.RowKit
set_option linter.unusedVariables false
set_option linter.unusedSimpArgs false

/-- A simple reflection of a weight, as far as number k. -/
def tuP (xs : List Int) (R i : Nat) (w : List Int) (k : Nat) : List Int := (List.range R).map fun e => if e < k then gi w e - gi w i * gi xs (e * R + i) else gi w e
theorem tuP_len (xs : List Int) (R i : Nat) (w : List Int) (k : Nat) : (tuP xs R i w k).length = R := by simp [tuP]
theorem tuP_zero {xs : List Int} {R i : Nat} {w : List Int} (h : w.length = R) : tuP xs R i w 0 = w := by
  apply List.ext_getElem
  · simp [tuP, h]
  · intro e h1 h2
    simp [tuP, gi, h2]
theorem tuP_done (xs : List Int) (R i : Nat) (w : List Int) : tuP xs R i w R = turnM xs R i w := by
  rw [tuP, turnM]
  refine List.map_congr_left (fun e he => ?_)
  rw [if_pos (List.mem_range.1 he)]
theorem gi_tuP {xs : List Int} {R i : Nat} {w : List Int} {k : Nat} (h : k < R) : gi (tuP xs R i w k) k = gi w k := by
  simp [tuP, gi, h]
theorem tuP_step {xs : List Int} {R i : Nat} {w : List Int} {k : Nat} (h : k < R) : (tuP xs R i w k).set k (gi w k - gi w i * gi xs (k * R + i)) = tuP xs R i w (k + 1) := by
  apply List.ext_getElem
  · simp [tuP]
  · intro e h1 h2
    rw [List.getElem_set]
    by_cases e1 : k = e
    · subst e1
      simp [tuP]
    · rw [if_neg e1]
      simp only [tuP, List.getElem_map, List.getElem_range]
      by_cases e2 : e < k
      · rw [if_pos e2, if_pos (by omega)]
      · rw [if_neg e2, if_neg (by omega)]
theorem prod_bnd {xs w : List Int} {B : Int} (hx : ∀ e, -3 ≤ gi xs e ∧ gi xs e ≤ 3) (hw : ∀ e, -B ≤ gi w e ∧ gi w e ≤ B) (i k : Nat) : -(B * 3) ≤ gi w i * gi xs k ∧ gi w i * gi xs k ≤ B * 3 :=
  mul_bnd (hw i).1 (hw i).2 (hx k).1 (hx k).2

set_option maxRecDepth 100000 in
set_option maxHeartbeats 6400000 in
theorem turned_impl (B R da od n cD m c i : Nat) (v2 v3 : Value) (xs y : List Int) (a : Option Addr) (w : World) (hB : Cells w B [.int .i64 (R : Nat), .slice (some ⟨da, od, none⟩) n cD, v2, v3]) (hr : Reads w (some ⟨da, od, none⟩) n xs) (hn : n = R * R) (hR0 : 1 ≤ R) (hR : R ≤ 4) (hy : Reads w a m y) (hm : m = R) (hi : i < R) (hxb : ∀ e, -3 ≤ gi xs e ∧ gi xs e ≤ 3) (hyb : ∀ e, -1000000 ≤ gi y e ∧ gi y e ≤ 1000000) :
    Calls Tryz.prog 120 #[.pointer (some ⟨B, 0, none⟩), .int .i64 i, .slice a m c] w fun e w' => ∃ b c9, e = .returned (.slice (some ⟨b, 0, none⟩) R c9) ∧ R ≤ c9 ∧ w.heap.size ≤ b ∧ b < w'.heap.size ∧ Has w' b (turnM xs R i y) ∧ Ext w w' := by
  subst hm
  have HN := Lib.hid hn
  obtain ⟨ax, ox, rfl, hax, hxc⟩ := reads5 hy (by omega)
  have HAX := Lib.hid (And.intro hax hxc)
  have HX := Lib.hid hy
  have HL := Lib.hid hy.len
  have HR := Lib.hid hr
  have HBX := Lib.hid hB
  have HYB := Lib.hid hyb
  have HXY := Lib.hid (fun k => prod_bnd hxb hyb i (k * m + i))
  clear hr hy hxb hyb hax hxc hn hB
  go_enter Tryz.func120, Tryz.ntmps120
  go_wp2_with fail
  refine (clone5 ⟨ax, ox, none⟩ m c y _ HX.out (by omega)).mono ?_
  rintro e w2 ⟨b, cb, rfl, hb1, hh, hE, hcb⟩
  have L0 : Hid (Loc w w2 B b [.int .i64 (m : Nat), .slice (some ⟨da, od, none⟩) n cD, v2, v3] (tuP xs m i y 0)) := by
    rw [tuP_zero HL.out]
    exact ⟨HBX.out.ext hE, hh, hE, hb1, hh.lt, by have := HBX.out.1; omega⟩
  clear hh hE
  go_wp2_with fail
  go_loopw [13, 8] (fun z _ wr => ∃ k : Nat, k ≤ m ∧ z = .int .i64 k ∧ Hid (Loc w wr B b [.int .i64 (m : Nat), .slice (some ⟨da, od, none⟩) n cD, v2, v3] (tuP xs m i y k))) (fun z _ _ => m - (intOf z).toNat)
  case atStart => exact ⟨0, by omega, rfl, L0⟩
  case round =>
    obtain ⟨k, hk, rfl, L⟩ := hrel
    by_cases h2 : k < m
    · have lB := L.out.box.1
      have q0 := L.out.box.2 0 _ rfl
      have c1 := L.out.has.cell k (by rw [tuP_len]; exact h2)
      rw [gi_tuP h2] at c1
      have f1 := L.out.has.free k
      have lb := L.out.lt
      have nX : ax ≠ b := by have := HAX.out.1; have := L.out.lo; omega
      have lX : ax < wr.heap.size := Nat.lt_of_lt_of_le HAX.out.1 L.out.ext.le
      have cX : wr.cell? ⟨ax, ox + i, none⟩ = some (.int .i64 (gi y i)) := (L.out.ext.cells ax _ HAX.out.1).trans (HAX.out.2 i hi)
      have hP := HXY.out k
      have hY := HYB.out k
      have N : ∀ w2, Ext wr.drew w2 → Hid (Loc w (w2.setCell ⟨b, k, none⟩ (.int .i64 (gi y k - gi y i * gi xs (k * m + i)))) B b [.int .i64 (m : Nat), .slice (some ⟨da, od, none⟩) n cD, v2, v3] (tuP xs m i y (k + 1))) := fun w2 hE => by
        rw [← tuP_step h2]
        exact ((L.out.step (Ext.refl _).drew).step hE).set k (by rw [tuP_len]; exact h2) _
      have HNl := Lib.hid N
      have HC2 : Hid (∀ w2, Ext wr.drew w2 → w2.cell? ⟨b, k, none⟩ = some (.int .i64 (gi y k)) ∧ w2.frozen? ⟨b, k, none⟩ = false) := fun w2 hE => by
        have h := ((L.out.step (Ext.refl _).drew).step hE).has
        have h1 := h.cell k (by rw [tuP_len]; exact h2)
        rw [gi_tuP h2] at h1
        exact ⟨h1, h.free _⟩
      have HCALL := Lib.hid (at_impl B m da od n cD v2 v3 xs k i _ (L.out.box.ext ((Ext.refl wr).drew)) (HR.out.ext (L.out.ext.trans (Ext.refl wr).drew)) HN.out hR h2 hi)
      obtain ⟨y0, hy0⟩ : ∃ y0, gi y k = y0 := ⟨_, rfl⟩
      rw [hy0] at c1 HNl HC2 hY
      have v4 : IntKind.i64.wrap (gi y i * gi xs (k * m + i)) = gi y i * gi xs (k * m + i) := IntWalk.i64_in _ ⟨by omega, by omega⟩
      have v5 : IntKind.i64.wrap (y0 - gi y i * gi xs (k * m + i)) = y0 - gi y i * gi xs (k * m + i) := IntWalk.i64_in _ ⟨by omega, by omega⟩
      have hkI : (k : Int) < (m : Int) := by omega
      have hiI : (i : Int) < (m : Int) := by omega
      clear N hP hY hy0
      go_wp2_with fail
      refine wp_region_held_drew (S := (fun w' => wr.grownBy w' (some b) ∧ ∀ B o, B ≠ b → B < wr.heap.size → w'.cell? ⟨B, o, none⟩ = wr.cell? ⟨B, o, none⟩)) (by kernel_rfl) keptC_drew (fun hHeld => ?_)
      refine wpAnyH_take (i := 0) (v := ?v1) rfl (by kernel_rfl) (by kernel_rfl) (by kernel_rfl) (fun _ _ _ h => h) (Or.inl ⟨by rfl, ?hy1⟩) hHeld ?rest1
      case hy1 => (intro wz hSw; (try dsimp only at hSw); go_simp; (try with_reducible rfl))
      (try simp only [Act.put, List.getElem_toArray, List.getElem_cons_succ, List.getElem_cons_zero]); (try simp only [List.setIfInBounds_toArray]); (try simp only [List.set_cons_succ]); (try simp only [List.set_cons_zero])
      refine wpAnyH_take (i := 1) (v := ?v2) rfl (by kernel_rfl) (by kernel_rfl) (by kernel_rfl) (fun _ _ _ h => h) (Or.inl ⟨by rfl, ?hy2⟩) hHeld ?rest2
      case hy2 => (intro wz hSw; (try dsimp only at hSw); go_simp; (try with_reducible rfl))
      (try simp only [Act.put, List.getElem_toArray, List.getElem_cons_succ, List.getElem_cons_zero]); (try simp only [List.setIfInBounds_toArray]); (try simp only [List.set_cons_succ]); (try simp only [List.set_cons_zero])
      refine wpAnyH_take (i := 2) (v := ?v3) rfl (by kernel_rfl) (by kernel_rfl) (by kernel_rfl) (fun _ _ _ h => h) (Or.inl ⟨by rfl, ?hy3⟩) hHeld ?rest3
      case hy3 => (intro wz hSw; (try dsimp only at hSw); go_simp; (try with_reducible rfl))
      (try simp only [Act.put, List.getElem_toArray, List.getElem_cons_succ, List.getElem_cons_zero]); (try simp only [List.setIfInBounds_toArray]); (try simp only [List.set_cons_succ]); (try simp only [List.set_cons_zero])
      refine wpAnyH_take (i := 4) (v := ?v4) rfl (by kernel_rfl) (by kernel_rfl) (by kernel_rfl) (fun _ _ _ h => h) (Or.inl ⟨by rfl, ?hy4⟩) hHeld ?rest4
      case hy4 => (intro wz hSw; (try dsimp only at hSw); go_simp; (try with_reducible rfl))
      (try simp only [Act.put, List.getElem_toArray, List.getElem_cons_succ, List.getElem_cons_zero]); (try simp only [List.setIfInBounds_toArray]); (try simp only [List.set_cons_succ]); (try simp only [List.set_cons_zero])
      refine wpAnyH_take (i := 5) (v := ?v5) rfl (by kernel_rfl) (by kernel_rfl) (by kernel_rfl) (fun _ _ _ h => h) (Or.inl ⟨by rfl, ?hy5⟩) hHeld ?rest5
      case hy5 => (intro wz hSw; (try dsimp only at hSw); go_simp; (try with_reducible rfl))
      (try simp only [Act.put, List.getElem_toArray, List.getElem_cons_succ, List.getElem_cons_zero]); (try simp only [List.setIfInBounds_toArray]); (try simp only [List.set_cons_succ]); (try simp only [List.set_cons_zero])
      refine wpAnyH_take (i := 6) (v := ?v6) rfl (by kernel_rfl) (by kernel_rfl) (by kernel_rfl) (fun _ _ _ h => h) (Or.inl ⟨by rfl, ?hy6⟩) hHeld ?rest6
      case hy6 => (intro wz hSw; (try dsimp only at hSw); go_simp; (try with_reducible rfl))
      (try simp only [Act.put, List.getElem_toArray, List.getElem_cons_succ, List.getElem_cons_zero]); (try simp only [List.setIfInBounds_toArray]); (try simp only [List.set_cons_succ]); (try simp only [List.set_cons_zero])
      refine wpAnyH_take (i := 7) (v := ?v7) rfl (by kernel_rfl) (by kernel_rfl) (by kernel_rfl) (fun _ _ _ h => h) (Or.inl ⟨by rfl, ?hy7⟩) hHeld ?rest7
      case hy7 => (intro wz hSw; (try dsimp only at hSw); go_simp; (try with_reducible rfl))
      (try simp only [Act.put, List.getElem_toArray, List.getElem_cons_succ, List.getElem_cons_zero]); (try simp only [List.setIfInBounds_toArray]); (try simp only [List.set_cons_succ]); (try simp only [List.set_cons_zero])
      refine wpAnyH_take (i := 8) (v := ?v8) rfl (by kernel_rfl) (by kernel_rfl) (by kernel_rfl) (fun _ _ _ h => h) (Or.inl ⟨by rfl, ?hy8⟩) hHeld ?rest8
      case hy8 => (intro wz hSw; (try dsimp only at hSw); go_simp; (try with_reducible rfl))
      (try simp only [Act.put, List.getElem_toArray, List.getElem_cons_succ, List.getElem_cons_zero]); (try simp only [List.setIfInBounds_toArray]); (try simp only [List.set_cons_succ]); (try simp only [List.set_cons_zero])
      refine wpAnyH_take (i := 9) (v := ?v9) rfl (by kernel_rfl) (by kernel_rfl) (by kernel_rfl) (fun _ _ _ h => h) (Or.inl ⟨by rfl, ?hy9⟩) hHeld ?rest9
      case hy9 => (intro wz hSw; (try dsimp only at hSw); go_simp; (try with_reducible rfl))
      (try simp only [Act.put, List.getElem_toArray, List.getElem_cons_succ, List.getElem_cons_zero]); (try simp only [List.setIfInBounds_toArray]); (try simp only [List.set_cons_succ]); (try simp only [List.set_cons_zero])
      refine wpAnyH_take (i := 10) (v := ?v10) rfl (by kernel_rfl) (by kernel_rfl) (by kernel_rfl) (fun _ _ _ h => h) (Or.inl ⟨by rfl, ?hy10⟩) hHeld ?rest10
      case hy10 => (intro wz hSw; (try dsimp only at hSw); go_simp; (try with_reducible rfl))
      (try simp only [Act.put, List.getElem_toArray, List.getElem_cons_succ, List.getElem_cons_zero]); (try simp only [List.setIfInBounds_toArray]); (try simp only [List.set_cons_succ]); (try simp only [List.set_cons_zero])
      refine wpAnyH_ready (rs := [3, 11]) (by kernel_rfl) (by simp) ?_
      refine AllReadyH.cons rfl (fun K' hK => ?_) (AllReadyH.cons rfl (fun K' hK => ?_) AllReadyH.nil)
      · skip
        go_simp
        refine hK.out _ _ hHeld (fun hHeld => ?_)
        clear hK
        refine wpAnyH_ready (rs := [11]) (by kernel_rfl) (by simp) ?_
        refine AllReadyH.cons rfl (fun K' hK => ?_) AllReadyH.nil
        go_simp
        refine HCALL.out.mono ?_
        rintro e w3 ⟨rfl, hE3⟩
        dsimp only
        obtain ⟨c2, f2⟩ := HC2.out w3 hE3
        refine hK.out _ _ (keptC_call hHeld hE3) (fun hHeld => ?_)
        clear hK
        refine wpAnyH_take (i := 12) (v := ?v11) rfl (by kernel_rfl) (by kernel_rfl) (by kernel_rfl) (fun _ _ _ h => h) (Or.inl ⟨by rfl, ?hy11⟩) hHeld ?rest11
        case hy11 => (intro wz hSw; (try dsimp only at hSw); go_simp; (try with_reducible rfl))
        (try simp only [Act.put, List.getElem_toArray, List.getElem_cons_succ, List.getElem_cons_zero]); (try simp only [List.setIfInBounds_toArray]); (try simp only [List.set_cons_succ]); (try simp only [List.set_cons_zero])
        refine wpAnyH_take (i := 13) (v := ?v12) rfl (by kernel_rfl) (by kernel_rfl) (by kernel_rfl) (fun _ _ _ h => h) (Or.inl ⟨by rfl, ?hy12⟩) hHeld ?rest12
        case hy12 => (intro wz hSw; (try dsimp only at hSw); go_simp; (try with_reducible rfl))
        (try simp only [Act.put, List.getElem_toArray, List.getElem_cons_succ, List.getElem_cons_zero]); (try simp only [List.setIfInBounds_toArray]); (try simp only [List.set_cons_succ]); (try simp only [List.set_cons_zero])
        refine wpAnyH_take (i := 14) (v := ?v13) rfl (by kernel_rfl) (by kernel_rfl) (by kernel_rfl) (fun _ _ _ h => h) (Or.inl ⟨by rfl, ?hy13⟩) hHeld ?rest13
        case hy13 => (intro wz hSw; (try dsimp only at hSw); go_simp; (try with_reducible rfl))
        (try simp only [Act.put, List.getElem_toArray, List.getElem_cons_succ, List.getElem_cons_zero]); (try simp only [List.setIfInBounds_toArray]); (try simp only [List.set_cons_succ]); (try simp only [List.set_cons_zero])
        refine wpAnyH_ready (rs := [15]) (by kernel_rfl) (by simp) ?_
        refine AllReadyH.cons rfl (fun K' hK => ?_) AllReadyH.nil
        go_simp
        refine hK.out _ _ (keptC_set hHeld _ _) (fun hHeld => ?_)
        refine wpAnyH_done (by kernel_rfl) ?_ _
        go_wp2
        exact ⟨⟨k + 1, by omega, by simp, HNl.out _ hE3⟩, by simp [intOf]; omega⟩
      · skip
        go_simp
        refine HCALL.out.mono ?_
        rintro e w3 ⟨rfl, hE3⟩
        dsimp only
        obtain ⟨c2, f2⟩ := HC2.out w3 hE3
        refine hK.out _ _ (keptC_call hHeld hE3) (fun hHeld => ?_)
        clear hK
        refine wpAnyH_take (i := 12) (v := ?v14) rfl (by kernel_rfl) (by kernel_rfl) (by kernel_rfl) (fun _ _ _ h => h) (Or.inl ⟨by rfl, ?hy14⟩) hHeld ?rest14
        case hy14 => (intro wz hSw; (try dsimp only at hSw); go_simp; (try with_reducible rfl))
        (try simp only [Act.put, List.getElem_toArray, List.getElem_cons_succ, List.getElem_cons_zero]); (try simp only [List.setIfInBounds_toArray]); (try simp only [List.set_cons_succ]); (try simp only [List.set_cons_zero])
        refine wpAnyH_ready (rs := [3]) (by kernel_rfl) (by simp) ?_
        refine AllReadyH.cons rfl (fun K' hK => ?_) AllReadyH.nil
        go_simp
        refine hK.out _ _ hHeld (fun hHeld => ?_)
        clear hK
        refine wpAnyH_take (i := 13) (v := ?v15) rfl (by kernel_rfl) (by kernel_rfl) (by kernel_rfl) (fun _ _ _ h => h) (Or.inl ⟨by rfl, ?hy15⟩) hHeld ?rest15
        case hy15 => (intro wz hSw; (try dsimp only at hSw); go_simp; (try with_reducible rfl))
        (try simp only [Act.put, List.getElem_toArray, List.getElem_cons_succ, List.getElem_cons_zero]); (try simp only [List.setIfInBounds_toArray]); (try simp only [List.set_cons_succ]); (try simp only [List.set_cons_zero])
        refine wpAnyH_take (i := 14) (v := ?v16) rfl (by kernel_rfl) (by kernel_rfl) (by kernel_rfl) (fun _ _ _ h => h) (Or.inl ⟨by rfl, ?hy16⟩) hHeld ?rest16
        case hy16 => (intro wz hSw; (try dsimp only at hSw); go_simp; (try with_reducible rfl))
        (try simp only [Act.put, List.getElem_toArray, List.getElem_cons_succ, List.getElem_cons_zero]); (try simp only [List.setIfInBounds_toArray]); (try simp only [List.set_cons_succ]); (try simp only [List.set_cons_zero])
        refine wpAnyH_ready (rs := [15]) (by kernel_rfl) (by simp) ?_
        refine AllReadyH.cons rfl (fun K' hK => ?_) AllReadyH.nil
        go_simp
        refine hK.out _ _ (keptC_set hHeld _ _) (fun hHeld => ?_)
        refine wpAnyH_done (by kernel_rfl) ?_ _
        go_wp2
        exact ⟨⟨k + 1, by omega, by simp, HNl.out _ hE3⟩, by simp [intOf]; omega⟩
    · obtain rfl : m = k := by omega
      have L2 : Hid (Loc w wr B b [.int .i64 (m : Nat), .slice (some ⟨da, od, none⟩) n cD, v2, v3] (turnM xs m i y)) := by rw [← tuP_done]; exact L
      go_wp2
      go_ret
      exact ⟨_, _, rfl, hcb, L2.out.lo, L2.out.lt, L2.out.has, L2.out.ext⟩

set_option maxRecDepth 100000 in
set_option maxHeartbeats 6400000 in
theorem l6Reflect_spec (R da od n cD m c i : Nat) (xs y : List Int) (a : Option Addr) (w : World) (hr : Reads w (some ⟨da, od, none⟩) n xs) (hn : n = R * R) (hR0 : 1 ≤ R) (hR : R ≤ 4) (hy : Reads w a m y) (hm : m = R) (hi : i < R) (hxb : ∀ e, -3 ≤ gi xs e ∧ gi xs e ≤ 3) (hyb : ∀ e, -1000000 ≤ gi y e ∧ gi y e ≤ 1000000) :
    Calls Tryz.prog 104 #[.agg #[.int .i64 (R : Nat), .slice (some ⟨da, od, none⟩) n cD], .int .i64 i, .slice a m c] w fun e w' => ∃ b c9, e = .returned (.slice (some ⟨b, 0, none⟩) R c9) ∧ R ≤ c9 ∧ w.heap.size ≤ b ∧ b < w'.heap.size ∧ Has w' b (turnM xs R i y) ∧ Ext w w' := by
  subst hm
  have HN := Lib.hid hn
  obtain ⟨ax, ox, rfl, hax, hxc⟩ := reads5 hy (by omega)
  have HAX := Lib.hid (And.intro hax hxc)
  have HX := Lib.hid hy
  have HL := Lib.hid hy.len
  have HR := Lib.hid hr
  have HYB := Lib.hid hyb
  have HXY := Lib.hid (fun k => prod_bnd hxb hyb i (k * m + i))
  have HBX := Lib.hid (cells_new w #[.int .i64 (m : Nat), .slice (some ⟨da, od, none⟩) n cD] 27)
  have X0 := Lib.hid ((Ext.refl w).alloc (.cells #[.int .i64 (m : Nat), .slice (some ⟨da, od, none⟩) n cD] 27))
  clear hr hy hxb hyb hax hxc hn
  go_enter Tryz.func104, Tryz.ntmps104
  go_wp2_with fail
  refine (l1Ints_g (some ⟨ax, ox, none⟩) m c y _ (HX.out.ext X0.out) (by omega) (fun h => by cases h)).mono ?_
  rintro e w2 ⟨v, rfl, hG, hE⟩
  obtain ⟨ga, gc, rfl, hO⟩ := hG.shape
  obtain ⟨b, rfl, hb1, hb9, hh⟩ : ∃ b, ga = some ⟨b, 0, none⟩ ∧ w.heap.size ≤ b ∧ b < w2.heap.size ∧ Has w2 b y := by
    rcases hO.2 with ⟨_, h⟩ | ⟨b, h1, h2, h3, h4⟩
    · omega
    · exact ⟨b, h1, by simp at h2; omega, h3, h4⟩
  have hcb := hG.slc.1
  have hnb : w.heap.size ≠ b := by
    rcases hO.2 with ⟨_, h⟩ | ⟨b', h1, h2, h3, h4⟩
    · omega
    · injection h1 with h1; injection h1 with h1; simp at h2; omega
  have L0 : Hid (Loc w w2 w.heap.size b [.int .i64 (m : Nat), .slice (some ⟨da, od, none⟩) n cD] (tuP xs m i y 0)) := by
    rw [tuP_zero HL.out]
    exact ⟨HBX.out.ext hE, hh, X0.out.trans hE, hb1, hb9, hnb⟩
  clear hh hE hG hO hb9 hnb
  have lB0 := L0.out.box.1
  have q00 := L0.out.box.2 0 _ rfl
  go_wp2_with fail
  clear lB0 q00
  go_loopw [8] (fun z wr => ∃ k : Nat, k ≤ m ∧ z = .int .i64 k ∧ Hid (Loc w wr w.heap.size b [.int .i64 (m : Nat), .slice (some ⟨da, od, none⟩) n cD] (tuP xs m i y k))) (fun z _ => m - (intOf z).toNat)
  case atStart => exact ⟨0, by omega, rfl, L0⟩
  case round =>
    clear L0
    obtain ⟨k, hk, rfl, L⟩ := hrel
    have lB := L.out.box.1
    have q0 := L.out.box.2 0 _ rfl
    by_cases h2 : k < m
    · have q1 := L.out.box.2 1 _ rfl
      have nB := L.out.ne
      have lb := L.out.lt
      have nX : ax ≠ b := by have := HAX.out.1; have := L.out.lo; omega
      have lX : ax < wr.heap.size := Nat.lt_of_lt_of_le HAX.out.1 L.out.ext.le
      have cX : wr.cell? ⟨ax, ox + i, none⟩ = some (.int .i64 (gi y i)) := (L.out.ext.cells ax _ HAX.out.1).trans (HAX.out.2 i hi)
      have cK : wr.cell? ⟨ax, ox + k, none⟩ = some (.int .i64 (gi y k)) := (L.out.ext.cells ax _ HAX.out.1).trans (HAX.out.2 k h2)
      have hP := HXY.out k
      have hY := HYB.out k
      have N : ∀ w2, Ext wr.drew w2 → Hid (Loc w (w2.setCell ⟨b, k, none⟩ (.int .i64 (gi y k - gi y i * gi xs (k * m + i)))) w.heap.size b [.int .i64 (m : Nat), .slice (some ⟨da, od, none⟩) n cD] (tuP xs m i y (k + 1))) := fun w2 hE => by
        rw [← tuP_step h2]
        exact ((L.out.step (Ext.refl _).drew).step hE).set k (by rw [tuP_len]; exact h2) _
      have HNl := Lib.hid N
      have HC2 : Hid (∀ w2, Ext wr.drew w2 → w2.cell? ⟨b, k, none⟩ = some (.int .i64 (gi y k)) ∧ w2.frozen? ⟨b, k, none⟩ = false) := fun w2 hE => by
        have h := ((L.out.step (Ext.refl _).drew).step hE).has
        have h1 := h.cell k (by rw [tuP_len]; exact h2)
        rw [gi_tuP h2] at h1
        exact ⟨h1, h.free _⟩
      have HCALL := Lib.hid (l5At_spec m da od n cD xs k i _ (HR.out.ext (L.out.ext.trans (Ext.refl wr).drew)) HN.out hR h2 hi)
      obtain ⟨y0, hy0⟩ : ∃ y0, gi y k = y0 := ⟨_, rfl⟩
      rw [hy0] at cK HNl HC2 hY
      have v4 : IntKind.i64.wrap (gi y i * gi xs (k * m + i)) = gi y i * gi xs (k * m + i) := IntWalk.i64_in _ ⟨by omega, by omega⟩
      have v5 : IntKind.i64.wrap (y0 - gi y i * gi xs (k * m + i)) = y0 - gi y i * gi xs (k * m + i) := IntWalk.i64_in _ ⟨by omega, by omega⟩
      have hkI : (k : Int) < (m : Int) := by omega
      have hiI : (i : Int) < (m : Int) := by omega
      clear N hP hY hy0
      go_wp2_with fail
      refine wp_region_held_drew (S := (fun w' => wr.grownBy w' (some b) ∧ ∀ B o, B ≠ b → B < wr.heap.size → w'.cell? ⟨B, o, none⟩ = wr.cell? ⟨B, o, none⟩)) (by kernel_rfl) keptC_drew (fun hHeld => ?_)
      refine wpAnyH_take (i := 0) (v := ?v17) rfl (by kernel_rfl) (by kernel_rfl) (by kernel_rfl) (fun _ _ _ h => h) (Or.inl ⟨by rfl, ?hy17⟩) hHeld ?rest17
      case hy17 => (intro wz hSw; (try dsimp only at hSw); go_simp; (try with_reducible rfl))
      (try simp only [Act.put, List.getElem_toArray, List.getElem_cons_succ, List.getElem_cons_zero]); (try simp only [List.setIfInBounds_toArray]); (try simp only [List.set_cons_succ]); (try simp only [List.set_cons_zero])
      refine wpAnyH_take (i := 1) (v := ?v18) rfl (by kernel_rfl) (by kernel_rfl) (by kernel_rfl) (fun _ _ _ h => h) (Or.inl ⟨by rfl, ?hy18⟩) hHeld ?rest18
      case hy18 => (intro wz hSw; (try dsimp only at hSw); go_simp; (try with_reducible rfl))
      (try simp only [Act.put, List.getElem_toArray, List.getElem_cons_succ, List.getElem_cons_zero]); (try simp only [List.setIfInBounds_toArray]); (try simp only [List.set_cons_succ]); (try simp only [List.set_cons_zero])
      refine wpAnyH_take (i := 2) (v := ?v19) rfl (by kernel_rfl) (by kernel_rfl) (by kernel_rfl) (fun _ _ _ h => h) (Or.inl ⟨by rfl, ?hy19⟩) hHeld ?rest19
      case hy19 => (intro wz hSw; (try dsimp only at hSw); go_simp; (try with_reducible rfl))
      (try simp only [Act.put, List.getElem_toArray, List.getElem_cons_succ, List.getElem_cons_zero]); (try simp only [List.setIfInBounds_toArray]); (try simp only [List.set_cons_succ]); (try simp only [List.set_cons_zero])
      refine wpAnyH_take (i := 3) (v := ?v20) rfl (by kernel_rfl) (by kernel_rfl) (by kernel_rfl) (fun _ _ _ h => h) (Or.inl ⟨by rfl, ?hy20⟩) hHeld ?rest20
      case hy20 => (intro wz hSw; (try dsimp only at hSw); go_simp; (try with_reducible rfl))
      (try simp only [Act.put, List.getElem_toArray, List.getElem_cons_succ, List.getElem_cons_zero]); (try simp only [List.setIfInBounds_toArray]); (try simp only [List.set_cons_succ]); (try simp only [List.set_cons_zero])
      refine wpAnyH_take (i := 4) (v := ?v21) rfl (by kernel_rfl) (by kernel_rfl) (by kernel_rfl) (fun _ _ _ h => h) (Or.inl ⟨by rfl, ?hy21⟩) hHeld ?rest21
      case hy21 => (intro wz hSw; (try dsimp only at hSw); go_simp; (try with_reducible rfl))
      (try simp only [Act.put, List.getElem_toArray, List.getElem_cons_succ, List.getElem_cons_zero]); (try simp only [List.setIfInBounds_toArray]); (try simp only [List.set_cons_succ]); (try simp only [List.set_cons_zero])
      refine wpAnyH_take (i := 5) (v := ?v22) rfl (by kernel_rfl) (by kernel_rfl) (by kernel_rfl) (fun _ _ _ h => h) (Or.inl ⟨by rfl, ?hy22⟩) hHeld ?rest22
      case hy22 => (intro wz hSw; (try dsimp only at hSw); go_simp; (try with_reducible rfl))
      (try simp only [Act.put, List.getElem_toArray, List.getElem_cons_succ, List.getElem_cons_zero]); (try simp only [List.setIfInBounds_toArray]); (try simp only [List.set_cons_succ]); (try simp only [List.set_cons_zero])
      refine wpAnyH_take (i := 6) (v := ?v23) rfl (by kernel_rfl) (by kernel_rfl) (by kernel_rfl) (fun _ _ _ h => h) (Or.inl ⟨by rfl, ?hy23⟩) hHeld ?rest23
      case hy23 => (intro wz hSw; (try dsimp only at hSw); go_simp; (try with_reducible rfl))
      (try simp only [Act.put, List.getElem_toArray, List.getElem_cons_succ, List.getElem_cons_zero]); (try simp only [List.setIfInBounds_toArray]); (try simp only [List.set_cons_succ]); (try simp only [List.set_cons_zero])
      refine wpAnyH_take (i := 7) (v := ?v24) rfl (by kernel_rfl) (by kernel_rfl) (by kernel_rfl) (fun _ _ _ h => h) (Or.inl ⟨by rfl, ?hy24⟩) hHeld ?rest24
      case hy24 => (intro wz hSw; (try dsimp only at hSw); go_simp; (try with_reducible rfl))
      (try simp only [Act.put, List.getElem_toArray, List.getElem_cons_succ, List.getElem_cons_zero]); (try simp only [List.setIfInBounds_toArray]); (try simp only [List.set_cons_succ]); (try simp only [List.set_cons_zero])
      refine wpAnyH_take (i := 8) (v := ?v25) rfl (by kernel_rfl) (by kernel_rfl) (by kernel_rfl) (fun _ _ _ h => h) (Or.inl ⟨by rfl, ?hy25⟩) hHeld ?rest25
      case hy25 => (intro wz hSw; (try dsimp only at hSw); go_simp; (try with_reducible rfl))
      (try simp only [Act.put, List.getElem_toArray, List.getElem_cons_succ, List.getElem_cons_zero]); (try simp only [List.setIfInBounds_toArray]); (try simp only [List.set_cons_succ]); (try simp only [List.set_cons_zero])
      refine wpAnyH_take (i := 9) (v := ?v26) rfl (by kernel_rfl) (by kernel_rfl) (by kernel_rfl) (fun _ _ _ h => h) (Or.inl ⟨by rfl, ?hy26⟩) hHeld ?rest26
      case hy26 => (intro wz hSw; (try dsimp only at hSw); go_simp; (try with_reducible rfl))
      (try simp only [Act.put, List.getElem_toArray, List.getElem_cons_succ, List.getElem_cons_zero]); (try simp only [List.setIfInBounds_toArray]); (try simp only [List.set_cons_succ]); (try simp only [List.set_cons_zero])
      refine wpAnyH_take (i := 10) (v := ?v27) rfl (by kernel_rfl) (by kernel_rfl) (by kernel_rfl) (fun _ _ _ h => h) (Or.inl ⟨by rfl, ?hy27⟩) hHeld ?rest27
      case hy27 => (intro wz hSw; (try dsimp only at hSw); go_simp; (try with_reducible rfl))
      (try simp only [Act.put, List.getElem_toArray, List.getElem_cons_succ, List.getElem_cons_zero]); (try simp only [List.setIfInBounds_toArray]); (try simp only [List.set_cons_succ]); (try simp only [List.set_cons_zero])
      refine wpAnyH_take (i := 11) (v := ?v28) rfl (by kernel_rfl) (by kernel_rfl) (by kernel_rfl) (fun _ _ _ h => h) (Or.inl ⟨by rfl, ?hy28⟩) hHeld ?rest28
      case hy28 => (intro wz hSw; (try dsimp only at hSw); go_simp; (try with_reducible rfl))
      (try simp only [Act.put, List.getElem_toArray, List.getElem_cons_succ, List.getElem_cons_zero]); (try simp only [List.setIfInBounds_toArray]); (try simp only [List.set_cons_succ]); (try simp only [List.set_cons_zero])
      refine wpAnyH_take (i := 12) (v := ?v29) rfl (by kernel_rfl) (by kernel_rfl) (by kernel_rfl) (fun _ _ _ h => h) (Or.inl ⟨by rfl, ?hy29⟩) hHeld ?rest29
      case hy29 => (intro wz hSw; (try dsimp only at hSw); go_simp; (try with_reducible rfl))
      (try simp only [Act.put, List.getElem_toArray, List.getElem_cons_succ, List.getElem_cons_zero]); (try simp only [List.setIfInBounds_toArray]); (try simp only [List.set_cons_succ]); (try simp only [List.set_cons_zero])
      refine wpAnyH_ready (rs := [13]) (by kernel_rfl) (by simp) ?_
      refine AllReadyH.cons rfl (fun K' hK => ?_) AllReadyH.nil
      go_simp
      refine HCALL.out.mono ?_
      rintro e w3 ⟨rfl, hE3⟩
      dsimp only
      obtain ⟨c2, f2⟩ := HC2.out w3 hE3
      refine hK.out _ _ (keptC_call hHeld hE3) (fun hHeld => ?_)
      clear hK
      refine wpAnyH_take (i := 14) (v := ?v30) rfl (by kernel_rfl) (by kernel_rfl) (by kernel_rfl) (fun _ _ _ h => h) (Or.inl ⟨by rfl, ?hy30⟩) hHeld ?rest30
      case hy30 => (intro wz hSw; (try dsimp only at hSw); go_simp; (try with_reducible rfl))
      (try simp only [Act.put, List.getElem_toArray, List.getElem_cons_succ, List.getElem_cons_zero]); (try simp only [List.setIfInBounds_toArray]); (try simp only [List.set_cons_succ]); (try simp only [List.set_cons_zero])
      refine wpAnyH_take (i := 15) (v := ?v31) rfl (by kernel_rfl) (by kernel_rfl) (by kernel_rfl) (fun _ _ _ h => h) (Or.inl ⟨by rfl, ?hy31⟩) hHeld ?rest31
      case hy31 => (intro wz hSw; (try dsimp only at hSw); go_simp; (try with_reducible rfl))
      (try simp only [Act.put, List.getElem_toArray, List.getElem_cons_succ, List.getElem_cons_zero]); (try simp only [List.setIfInBounds_toArray]); (try simp only [List.set_cons_succ]); (try simp only [List.set_cons_zero])
      refine wpAnyH_take (i := 16) (v := ?v32) rfl (by kernel_rfl) (by kernel_rfl) (by kernel_rfl) (fun _ _ _ h => h) (Or.inl ⟨by rfl, ?hy32⟩) hHeld ?rest32
      case hy32 => (intro wz hSw; (try dsimp only at hSw); go_simp; (try with_reducible rfl))
      (try simp only [Act.put, List.getElem_toArray, List.getElem_cons_succ, List.getElem_cons_zero]); (try simp only [List.setIfInBounds_toArray]); (try simp only [List.set_cons_succ]); (try simp only [List.set_cons_zero])
      refine wpAnyH_ready (rs := [17]) (by kernel_rfl) (by simp) ?_
      refine AllReadyH.cons rfl (fun K' hK => ?_) AllReadyH.nil
      go_simp
      refine hK.out _ _ (keptC_set hHeld _ _) (fun hHeld => ?_)
      refine wpAnyH_done (by kernel_rfl) ?_ _
      go_wp2
      exact ⟨⟨k + 1, by omega, by simp, HNl.out _ hE3⟩, by simp [intOf]; omega⟩
    · obtain rfl : m = k := by omega
      have L2 : Hid (Loc w wr w.heap.size b [.int .i64 (m : Nat), .slice (some ⟨da, od, none⟩) n cD] (turnM xs m i y)) := by rw [← tuP_done]; exact L
      go_wp2
      go_ret
      exact ⟨_, _, rfl, hcb, L2.out.lo, L2.out.lt, L2.out.has, L2.out.ext⟩
end Go.Proofs.YtlnpaplbcocmkaaGreat

/-
  A list that is repeated; the weight of ones.
-/
namespace Go.Proofs.YtlnpaplbcocmkaaGreat
open Go.ChangeShapes Go.WideShapes Go.ChangeAt Go.RowKit
set_option linter.unusedVariables false
set_option linter.unusedSimpArgs false

/-- cs laid over l from off on. -/
def spl (l : List Int) (off : Nat) (cs : List Int) : List Int := l.take off ++ (cs ++ l.drop (off + cs.length))
theorem spl_length (l : List Int) (off : Nat) (cs : List Int) (h : off + cs.length ≤ l.length) : (spl l off cs).length = l.length := by
  simp only [spl, List.length_append, List.length_take, List.length_drop]; omega
theorem spl_nil (l : List Int) (off : Nat) : spl l off [] = l := by simp [spl]
theorem Has.setRow {w : World} {b : Nat} {l : List Int} (h : Has w b l) (off : Nat) (cs : List Int) (hf : off + cs.length ≤ l.length) :
    ∃ cur, w.heap[b]? = some (.cells cur 3 (0, 0)) ∧ off + (cs.map (Value.int .i64)).length ≤ cur.size ∧ Has (w.setRow b (cur.toList.take off ++ (cs.map (Value.int .i64) ++ cur.toList.drop (off + (cs.map (Value.int .i64)).length))).toArray) b (spl l off cs) ∧ w.grownBy (w.setRow b (cur.toList.take off ++ (cs.map (Value.int .i64) ++ cur.toList.drop (off + (cs.map (Value.int .i64)).length))).toArray) (some b) := by
  obtain ⟨cur, h1, h2, h3⟩ := h
  have hsz : cur.toList.length = cur.size := by simp
  refine ⟨cur, h1, by simp; omega, ⟨_, setRow_heap w b _ _ _ _ h1, ?_, ?_⟩, ⟨rfl, rfl, rfl, by simp [World.setRow], fun k hk hne => setRow_other w b k _ (fun e => hne (by rw [e]))⟩⟩
  · rw [spl_length _ _ _ hf]; simp; omega
  · rw [spl_length _ _ _ hf]
    apply List.ext_getElem?
    intro k
    have h3k : ∀ i : Nat, (cur.toList.take l.length)[i]? = (l.map (Value.int .i64))[i]? := fun i => congrArg (fun z : List Value => z[i]?) h3
    simp only [List.getElem?_take, List.getElem?_map] at h3k
    simp only [List.getElem?_take, List.getElem?_map, spl, List.getElem?_append, List.length_take, List.length_map, List.getElem?_drop, hsz]
    have e1 : min off cur.size = off := by omega
    have e2 : min off l.length = off := by omega
    rw [e1, e2]
    by_cases a1 : k < off
    · have := h3k k
      rw [if_pos (by omega)] at this
      simp [a1, show k < l.length by omega, this]
    · by_cases a2 : k - off < cs.length
      · simp [a1, a2, show k < l.length by omega]
      · by_cases a3 : k < l.length
        · have e4 : off + cs.length + (k - off - cs.length) = k := by omega
          have := h3k k
          rw [if_pos a3] at this
          simp [a1, a2, a3, e4, this]
        · have e5 : l.length ≤ off + cs.length + (k - off - cs.length) := by omega
          simp [a1, a2, a3, List.getElem?_eq_none e5]
/-- The builtin copy: what is read is laid over what is written. -/
theorem wpList_copyM {w : World} {ops : Array Oper} {rest : List Oper} {o : Oper} {a : Act} {Q : Exit → Act → World → Prop} (hgd : o.guard = none) (d s : Operand)
    (ho : o.op = .call { callee := .builtin .copy, args := #[d, s], argTypes := #[22, 22] })
    (b off dLen dCap : Nat) (sp : Option Addr) (sLen sCap : Nat) (hd : a.eval d = .slice (some ⟨b, off, none⟩) dLen dCap) (hs : a.eval s = .slice sp sLen sCap)
    (l ys : List Int) (hh : Has w b l) (hy : Reads w sp sLen ys) (k : Nat) (hk : min sLen dLen = k) (hf : off + k ≤ l.length)
    (h : ∀ w', Has w' b (spl l off (ys.take k)) → w.grownBy w' (some b) → wpList Tryz.prog ops Q rest (a.put o.dst (goInt ((k : Nat) : Int))) w') : wpList Tryz.prog ops Q (o :: rest) a w := by
  have hsz : (Tryz.prog.info? 3).map (·.size) = some 1 := by kernel_rfl
  by_cases h0 : k = 0
  · subst h0
    exact wpList_copy_nothing hgd d s _ _ ho 3 Tryz.underlying22 hsz _ sp dLen dCap sLen sCap hd hs hk (h w (by simpa [spl_nil] using hh) (grownBy_refl _ _))
  · have hl := hy.1
    have hlen : (ys.take k).length = k := by rw [List.length_take, hl]; omega
    obtain ⟨cur, h1, h2, h3, h4⟩ := hh.setRow off (ys.take k) (by rw [hlen]; exact hf)
    rcases hy.2 with hz | ⟨b', off', rfl, hb', hc'⟩
    · omega
    · have h5 := h _ h3 h4
      have e : ((ys.take k).map (Value.int .i64)).length = k := by rw [List.length_map, hlen]
      have e2 : goInt ((k : Nat) : Int) = goInt ((((ys.take k).map (Value.int .i64)).length : Nat) : Int) := by rw [e]
      rw [e2] at h5
      refine wpList_copy_own hgd d s _ _ ho 3 Tryz.underlying22 hsz b off dLen dCap ⟨b', off', none⟩ sLen sCap hd hs cur 3 h1 ((ys.take k).map (Value.int .i64)) (by rw [e]; exact hk.symm) (fun j v hv => ?_) h2 (fun v hv => ?_) h5
      · have hj : j < k := by have := (List.getElem?_eq_some_iff.1 hv).1; simp [hl] at this; omega
        rw [show (⟨b', off', none⟩ : Addr).add j = ⟨b', off' + j, none⟩ from add_plain .., hc' j (by omega)]
        simp [hj] at hv
        obtain ⟨x, hx, rfl⟩ := hv
        simp [gi, List.getD_eq_getElem?_getD, hx]
      · obtain ⟨z, _, rfl⟩ := List.mem_map.1 hv; rfl
/-- The builtin copy as a step of a region. -/
theorem step_copyM {ops : Array Oper} {o : Oper} {a : Act} {w : World} {K : Act → World → Prop} {Q : Exit → Act → World → Prop} {E : Prop} (hgd : o.guard = none) (d s : Operand)
    (ho : o.op = .call { callee := .builtin .copy, args := #[d, s], argTypes := #[22, 22] })
    (dp : Option Addr) (b off dLen dCap : Nat) (sp : Option Addr) (sLen sCap : Nat) (hd : a.eval d = .slice dp dLen dCap) (hs : a.eval s = .slice sp sLen sCap)
    (l ys : List Int) (hh : Has w b l) (hy : Reads w sp sLen ys) (k : Nat) (hk : min sLen dLen = k) (hdp : 0 < k → dp = some ⟨b, off, none⟩) (hf : off + k ≤ l.length)
    (h : ∀ w', Has w' b (spl l off (ys.take k)) → w.grownBy w' (some b) → K (a.put o.dst (goInt ((k : Nat) : Int))) w') :
    if Region.wanted o (yielded ops a.tmps) = true then Oper.wp Tryz.prog o a w K Q else E := by
  have hw : Region.wanted o (yielded ops a.tmps) = true := by simp [Region.wanted, hgd]
  rw [if_pos hw]
  have hsz : (Tryz.prog.info? 3).map (·.size) = some 1 := by kernel_rfl
  by_cases h0 : k = 0
  · subst h0
    have hrun := run_copy_none (P := Tryz.prog) w 22 22 o.type 3 dp sp dLen dCap sLen sCap Tryz.underlying22 hsz hk
    unfold Oper.wp
    simp [execOp, ho, resolve, invoke, builtin, hd, hs, hrun, Result.andThen]
    exact h w (by simpa [spl_nil] using hh) (grownBy_refl _ _)
  · have hl := hy.1
    have hlen : (ys.take k).length = k := by rw [List.length_take, hl]; omega
    obtain ⟨cur, h1, h2, h3, h4⟩ := hh.setRow off (ys.take k) (by rw [hlen]; exact hf)
    obtain rfl := hdp (by omega)
    rcases hy.2 with hz | ⟨b', off', rfl, hb', hc'⟩
    · omega
    · have h5 := h _ h3 h4
      have e : ((ys.take k).map (Value.int .i64)).length = k := by rw [List.length_map, hlen]
      have e2 : goInt ((k : Nat) : Int) = goInt ((((ys.take k).map (Value.int .i64)).length : Nat) : Int) := by rw [e]
      rw [e2] at h5
      have hrun := run_copy_row (P := Tryz.prog) w 22 22 o.type 3 b off dLen dCap ⟨b', off', none⟩ sLen sCap cur 3 ((ys.take k).map (Value.int .i64)) Tryz.underlying22 hsz h1 (by rw [e]; exact hk.symm) (fun j v hv => by
        have hj : j < k := by have := (List.getElem?_eq_some_iff.1 hv).1; simp [hl] at this; omega
        rw [show (⟨b', off', none⟩ : Addr).add j = ⟨b', off' + j, none⟩ from add_plain .., hc' j (by omega)]
        simp [hj] at hv
        obtain ⟨x, hx, rfl⟩ := hv
        simp [gi, List.getD_eq_getElem?_getD, hx]) h2 (fun v hv => by obtain ⟨z, _, rfl⟩ := List.mem_map.1 hv; rfl)
      clear h2 h3 h4 e2 e hlen
      generalize (ys.take k).map (Value.int .i64) = cs at h5 hrun
      unfold Oper.wp
      simp [execOp, ho, resolve, invoke, builtin, hd, hs, hrun, Result.andThen]
      exact h5
theorem spl_join (l xs ys : List Int) (n n' : Nat) (hl : l.length = n + n') (hx : xs.length = n) (hy : ys.length = n') : spl (spl l 0 (xs.take n)) n (ys.take n') = xs ++ ys := by
  rw [List.take_of_length_le (Nat.le_of_eq hx), List.take_of_length_le (Nat.le_of_eq hy)]
  have e1 : spl l 0 xs = xs ++ l.drop n := by simp [spl, hx]
  rw [e1, spl, List.take_append_of_le_length (Nat.le_of_eq hx.symm), List.take_of_length_le (Nat.le_of_eq hx), List.drop_eq_nil_of_le (by simp; omega), List.append_nil]
theorem wp_copyM {o : Oper} {a : Act} {w : World} {K : Act → World → Prop} {Q : Exit → Act → World → Prop} (hgd : o.guard = none) (d s : Operand)
    (ho : o.op = .call { callee := .builtin .copy, args := #[d, s], argTypes := #[22, 22] })
    (dp : Option Addr) (b off dLen dCap : Nat) (sp : Option Addr) (sLen sCap : Nat) (hd : a.eval d = .slice dp dLen dCap) (hs : a.eval s = .slice sp sLen sCap)
    (l ys : List Int) (hh : Has w b l) (hy : Reads w sp sLen ys) (k : Nat) (hk : min sLen dLen = k) (hdp : 0 < k → dp = some ⟨b, off, none⟩) (hf : off + k ≤ l.length)
    (h : ∀ w', Has w' b (spl l off (ys.take k)) → w.grownBy w' (some b) → K (a.put o.dst (goInt ((k : Nat) : Int))) w') :
    Oper.wp Tryz.prog o a w K Q := by
  have h1 := step_copyM (ops := #[]) (E := False) hgd d s ho dp b off dLen dCap sp sLen sCap hd hs l ys hh hy k hk hdp hf h (Q := Q)
  rwa [if_pos (by simp [Region.wanted, hgd])] at h1
theorem keptC_grown {w w1 w2 : World} {b : Nat} (h : w.grownBy w1 (some b) ∧ ∀ B o, B ≠ b → B < w.heap.size → w1.cell? ⟨B, o, none⟩ = w.cell? ⟨B, o, none⟩) (hg : w1.grownBy w2 (some b)) : w.grownBy w2 (some b) ∧ ∀ B o, B ≠ b → B < w.heap.size → w2.cell? ⟨B, o, none⟩ = w.cell? ⟨B, o, none⟩ :=
  ⟨⟨hg.os.trans h.1.os, hg.tape.trans h.1.tape, hg.output.trans h.1.output, Nat.le_trans h.1.size hg.size, fun k hk hne => (hg.block k (Nat.lt_of_lt_of_le hk h.1.size) hne).trans (h.1.block k hk hne)⟩, fun B o hB hl => (World.cell?_of_block (hg.block B (Nat.lt_of_lt_of_le hl h.1.size) (fun e => hB (by injection e)))).trans (h.2 B o hB hl)⟩

set_option maxRecDepth 100000 in
set_option maxHeartbeats 1600000 in
theorem mul64_impl (n : Nat) (w : World) (h1 : n < 8) :
    Calls Tryz.prog 211 #[.int .u64 1, .int .u64 n] w fun e w' => e = .returned (.tuple #[.int .u64 0, .int .u64 n]) ∧ Ext w w' := by
  go_enter Tryz.func211, Tryz.ntmps211
  go_wp2
  go_ret2
  refine ⟨congrArg (fun r => Ending.returned (.tuple #[Value.int .u64 (Prod.fst r), Value.int .u64 (Prod.snd r)])) (a₁ := (_, _)) (a₂ := ((0 : Int), (n : Int))) ?_, Ext.refl _⟩
  clear w
  obtain ⟨m, rfl⟩ : ∃ m : Fin 8, n = m.val := ⟨⟨n, h1⟩, rfl⟩
  clear h1
  revert m
  decide +kernel
set_option maxHeartbeats 1600000 in
theorem mul_impl1 (n : Nat) (w : World) (h1 : n < 8) :
    Calls Tryz.prog 196 #[.int .u64 1, .int .u64 n] w fun e w' => e = .returned (.tuple #[.int .u64 0, .int .u64 n]) ∧ Ext w w' := by
  go_enter Tryz.func196, Tryz.ntmps196
  go_wp2_with fail
  refine (mul64_impl n _ h1).mono ?_
  rintro e w1 ⟨rfl, h⟩
  go_wp2
  go_ret2
  exact ⟨rfl, h⟩
def oneZ (R k : Nat) : List Int := List.replicate k 1 ++ List.replicate (R - k) 0
theorem oneZ_len {R k : Nat} (h : k ≤ R) : (oneZ R k).length = R := by simp [oneZ]; omega
theorem oneZ_step {R k : Nat} (hR : R ≤ 4) (hk : 1 ≤ k) (h : k < R) : spl (oneZ R k) k (((oneZ R k).take k).take (min k (R - k))) = oneZ R (k + min k (R - k)) ∧ k + min k (R - k) ≤ R := by
  have : ∀ a : Fin 5, ∀ b : Fin 5, 1 ≤ b.val → b.val < a.val → spl (oneZ a b) b (((oneZ a b).take b).take (min b.val (a.val - b.val))) = oneZ a.val (b.val + min b.val (a.val - b.val)) ∧ b.val + min b.val (a.val - b.val) ≤ a.val := by decide +kernel
  exact this ⟨R, by omega⟩ ⟨k, by omega⟩ hk h
theorem oneZ_first {R : Nat} (hR0 : 1 ≤ R) (hR : R ≤ 4) : spl (List.replicate R (0 : Int)) 0 (([1] : List Int).take 1) = oneZ R 1 := by
  have : ∀ a : Fin 5, 1 ≤ a.val → spl (List.replicate a (0 : Int)) 0 (([1] : List Int).take 1) = oneZ a 1 := by decide +kernel
  exact this ⟨R, by omega⟩ hR0
theorem oneZ_done (R : Nat) : oneZ R R = List.replicate R 1 := by simp [oneZ]
theorem oneZ_take {w : World} {b R k : Nat} (h : Has w b (oneZ R k)) (hk : k ≤ R) : Reads w (some ⟨b, 0, none⟩) k ((oneZ R k).take k) :=
  (h.take k).reads (by rw [List.length_take, oneZ_len hk]; omega)
set_option maxRecDepth 100000 in
set_option maxHeartbeats 3200000 in
theorem repeat_one (g R c : Nat) (w : World) (hR0 : 1 ≤ R) (hR : R ≤ 4) (hr : Reads w (some ⟨g, 0, none⟩) 1 [1]) :
    Calls Tryz.prog 150 #[.slice (some ⟨g, 0, none⟩) 1 c, .int .i64 R] w fun e w' => ∃ b, e = .returned (.slice (some ⟨b, 0, none⟩) R R) ∧ w.heap.size ≤ b ∧ b < w'.heap.size ∧ Has w' b (List.replicate R 1) ∧ Ext w w' := by
  have HRD := Lib.hid hr
  have hmk := make_ints R (by omega)
  have u1 : IntKind.u64.wrap (1 : Int) = 1 := by decide
  have u2 : IntKind.u64.wrap (R : Int) = (R : Int) := by
    have : ∀ a : Fin 5, IntKind.u64.wrap (a.val : Int) = (a.val : Int) := by decide
    exact this ⟨R, by omega⟩
  have u3 : IntKind.i64.wrap (R : Int) = (R : Int) := IntWalk.i64_in _ ⟨by omega, by omega⟩
  have n1 : ¬ ((R : Int) < 0) := by omega
  have n2 : ¬ ((9223372036854775807 : Int) < (R : Int)) := by omega
  clear hr
  go_enter Tryz.func150, Tryz.ntmps150
  go_wp2_with fail
  refine (mul_impl1 R _ (by omega)).mono ?_
  rintro e w1 ⟨rfl, hE1⟩
  have HE1 := Lib.hid hE1
  clear hE1
  have H0 : Hid (Has (w1.alloc (.cells (ints (List.replicate R 0)) 3)) w1.heap.size (List.replicate R 0)) := Has.new w1 _
  have E0 : Hid (Ext w (w1.alloc (.cells (ints (List.replicate R 0)) 3))) := HE1.out.alloc _
  have HR0 := Lib.hid (HRD.out.ext E0.out)
  have HF := Lib.hid (oneZ_first hR0 hR)
  have hRI : (1 : Int) ≤ (R : Int) := by omega
  go_wp2_with (refine wpList_copyM rfl (.tmp 31) (.tmp 32) rfl w1.heap.size 0 R R (some ⟨g, 0, none⟩) 1 c rfl rfl (List.replicate R 0) [1] H0.out HR0.out 1 (by omega) (by rw [List.length_replicate]; omega) ?_; intro w2 hh2 hg2)
  have hle := HE1.out.le
  have H1 : Hid (Has w2 w1.heap.size (oneZ R 1)) := by rw [← HF.out]; exact hh2
  have E1 : Hid (Ext w w2) := E0.out.grown hg2 (fun k hk => by simp at hk; omega)
  clear hh2 hg2 H0 E0 HR0 HF hmk
  obtain ⟨b, hb⟩ : ∃ b, w1.heap.size = b := ⟨_, rfl⟩
  rw [hb] at H1 hle ⊢
  clear hb
  go_loopw [8] (fun z wr => ∃ k : Nat, 1 ≤ k ∧ k ≤ R ∧ z = .int .i64 k ∧ Hid (Has wr b (oneZ R k)) ∧ Hid (Ext w wr)) (fun z _ => R - (intOf z).toNat)
  case atStart => exact ⟨1, by omega, hR0, rfl, H1, E1⟩
  case round =>
    clear H1 E1
    obtain ⟨k, hk1, hk, rfl, hH, hE⟩ := hrel
    by_cases hlt : k < R
    · have hST := oneZ_step hR hk1 hlt
      have HS1 := Lib.hid hST.1
      have hS2 := hST.2
      have hltI : (k : Int) < (R : Int) := by omega
      have hneI : ¬ ((R : Int) = (k : Int)) := by omega
      have hne1 : ¬ (R = k) := by omega
      have hne2 : ¬ (k = R) := by omega
      have hkle : (k : Int) ≤ (R : Int) := by omega
      have lb := hH.out.lt
      clear hST
      have HL : Hid (k + min k (R - k) ≤ (oneZ R k).length) := by rw [Hid, oneZ_len hk]; omega
      have HRD2 := Lib.hid (oneZ_take (hH.out.ext (Ext.refl wr).drew) hk)
      have v1 : IntKind.i64.wrap ((k : Int) + ((min k (R - k) : Nat) : Int)) = ((k + min k (R - k) : Nat) : Int) := by rw [IntWalk.i64_in _ ⟨by omega, by omega⟩]; omega
      have hmn : 1 ≤ min k (R - k) := by omega
      obtain ⟨q, hq⟩ : ∃ q, min k (R - k) = q := ⟨_, rfl⟩
      rw [hq] at HS1 HL v1 hmn hS2
      have HQ := Lib.hid hq
      clear hq
      go_wp2_with fail
      refine wp_region_held_drew (S := (fun w' => wr.grownBy w' (some b) ∧ ∀ B o, B ≠ b → B < wr.heap.size → w'.cell? ⟨B, o, none⟩ = wr.cell? ⟨B, o, none⟩)) (by kernel_rfl) keptC_drew (fun hHeld => ?_)
      refine wpAnyH_take (i := 0) (v := ?v1) rfl (by kernel_rfl) (by kernel_rfl) (by kernel_rfl) (fun _ _ _ h => h) (Or.inl ⟨by rfl, ?hy1⟩) hHeld ?rest1
      case hy1 => (intro wz hSw; (try dsimp only at hSw); go_simp; (try with_reducible rfl))
      (try simp only [Act.put, List.getElem_toArray, List.getElem_cons_succ, List.getElem_cons_zero]); (try simp only [List.setIfInBounds_toArray]); (try simp only [List.set_cons_succ]); (try simp only [List.set_cons_zero])
      refine wpAnyH_take (i := 1) (v := ?v2) rfl (by kernel_rfl) (by kernel_rfl) (by kernel_rfl) (fun _ _ _ h => h) (Or.inl ⟨by rfl, ?hy2⟩) hHeld ?rest2
      case hy2 => (intro wz hSw; (try dsimp only at hSw); go_simp; (try with_reducible rfl))
      (try simp only [Act.put, List.getElem_toArray, List.getElem_cons_succ, List.getElem_cons_zero]); (try simp only [List.setIfInBounds_toArray]); (try simp only [List.set_cons_succ]); (try simp only [List.set_cons_zero])
      refine wpAnyH_take (i := 2) (v := ?v3) rfl (by kernel_rfl) (by kernel_rfl) (by kernel_rfl) (fun _ _ _ h => h) (Or.inl ⟨by rfl, ?hy3⟩) hHeld ?rest3
      case hy3 => (intro wz hSw; (try dsimp only at hSw); go_simp; (try with_reducible rfl))
      (try simp only [Act.put, List.getElem_toArray, List.getElem_cons_succ, List.getElem_cons_zero]); (try simp only [List.setIfInBounds_toArray]); (try simp only [List.set_cons_succ]); (try simp only [List.set_cons_zero])
      refine wpAnyH_take (i := 3) (v := ?v4) rfl (by kernel_rfl) (by kernel_rfl) (by kernel_rfl) (fun _ _ _ h => h) (Or.inl ⟨by rfl, ?hy4⟩) hHeld ?rest4
      case hy4 => (intro wz hSw; (try dsimp only at hSw); go_simp; (try with_reducible rfl))
      (try simp only [Act.put, List.getElem_toArray, List.getElem_cons_succ, List.getElem_cons_zero]); (try simp only [List.setIfInBounds_toArray]); (try simp only [List.set_cons_succ]); (try simp only [List.set_cons_zero])
      refine wpAnyH_take (i := 4) (v := ?v5) rfl (by kernel_rfl) (by kernel_rfl) (by kernel_rfl) (fun _ _ _ h => h) (Or.inl ⟨by rfl, ?hy5⟩) hHeld ?rest5
      case hy5 => (intro wz hSw; (try dsimp only at hSw); go_simp; (try with_reducible rfl))
      (try simp only [Act.put, List.getElem_toArray, List.getElem_cons_succ, List.getElem_cons_zero]); (try simp only [List.setIfInBounds_toArray]); (try simp only [List.set_cons_succ]); (try simp only [List.set_cons_zero])
      refine wpAnyH_take (i := 5) (v := ?v6) rfl (by kernel_rfl) (by kernel_rfl) (by kernel_rfl) (fun _ _ _ h => h) (Or.inl ⟨by rfl, ?hy6⟩) hHeld ?rest6
      case hy6 => (intro wz hSw; (try dsimp only at hSw); go_simp; (try with_reducible rfl))
      (try simp only [Act.put, List.getElem_toArray, List.getElem_cons_succ, List.getElem_cons_zero]); (try simp only [List.setIfInBounds_toArray]); (try simp only [List.set_cons_succ]); (try simp only [List.set_cons_zero])
      refine wpAnyH_take (i := 6) (v := ?v7) rfl (by kernel_rfl) (by kernel_rfl) (by kernel_rfl) (fun _ _ _ h => h) (Or.inl ⟨by rfl, ?hy7⟩) hHeld ?rest7
      case hy7 => (intro wz hSw; (try dsimp only at hSw); go_simp; (try with_reducible rfl))
      (try simp only [Act.put, List.getElem_toArray, List.getElem_cons_succ, List.getElem_cons_zero]); (try simp only [List.setIfInBounds_toArray]); (try simp only [List.set_cons_succ]); (try simp only [List.set_cons_zero])
      refine wpAnyH_ready (rs := [7]) (by kernel_rfl) (by simp) ?_
      refine AllReadyH.cons rfl (fun K' hK => ?_) AllReadyH.nil
      refine wp_copyM rfl (.tmp 41) (.tmp 44) rfl (some ⟨b, k, none⟩) b k (R - k) (R - k) (some ⟨b, 0, none⟩) k R rfl rfl (oneZ R k) ((oneZ R k).take k) (hH.out.ext (Ext.refl _).drew) HRD2.out q HQ.out (fun _ => rfl) HL.out ?_
      intro w3 hh3 hg3
      have H3 : Hid (Has w3 b (oneZ R (k + q))) := by rw [← HS1.out]; exact hh3
      have E3 : Hid (Ext w w3) := (hE.out.drew).grown hg3 (fun z hz => by simp at hz; omega)
      refine hK.out _ _ (keptC_grown hHeld hg3) (fun hHeld => ?_)
      clear hK hh3 hg3
      refine wpAnyH_take (i := 8) (v := ?v8) rfl (by kernel_rfl) (by kernel_rfl) (by kernel_rfl) (fun _ _ _ h => h) (Or.inl ⟨by rfl, ?hy8⟩) hHeld ?rest8
      case hy8 => (intro wz hSw; (try dsimp only at hSw); go_simp; (try with_reducible rfl))
      (try simp only [Act.put, List.getElem_toArray, List.getElem_cons_succ, List.getElem_cons_zero]); (try simp only [List.setIfInBounds_toArray]); (try simp only [List.set_cons_succ]); (try simp only [List.set_cons_zero])
      refine wpAnyH_take (i := 9) (v := ?v9) rfl (by kernel_rfl) (by kernel_rfl) (by kernel_rfl) (fun _ _ _ h => h) (Or.inl ⟨by rfl, ?hy9⟩) hHeld ?rest9
      case hy9 => (intro wz hSw; (try dsimp only at hSw); go_simp; (try with_reducible rfl))
      (try simp only [Act.put, List.getElem_toArray, List.getElem_cons_succ, List.getElem_cons_zero]); (try simp only [List.setIfInBounds_toArray]); (try simp only [List.set_cons_succ]); (try simp only [List.set_cons_zero])
      refine wpAnyH_done (by kernel_rfl) ?_ _
      clear hHeld
      go_wp2
      exact ⟨⟨k + q, by omega, by omega, by first | rfl | simp | trivial, H3, E3⟩, by (simp [intOf]) <;> omega⟩
    · obtain rfl : R = k := by omega
      rw [oneZ_done] at hH
      go_wp2
      go_ret
      exact ⟨b, rfl, hle, hH.out.lt, hH.out, hE.out⟩

set_option maxRecDepth 100000 in
set_option maxHeartbeats 1600000 in
theorem ones_impl (B R da od n cD : Nat) (v2 v3 : Value) (w : World) (hB : Cells w B [.int .i64 (R : Nat), .slice (some ⟨da, od, none⟩) n cD, v2, v3]) (hR0 : 1 ≤ R) (hR : R ≤ 4) :
    Calls Tryz.prog 101 #[.pointer (some ⟨B, 0, none⟩)] w fun e w' => ∃ b, e = .returned (.slice (some ⟨b, 0, none⟩) R R) ∧ w.heap.size ≤ b ∧ b < w'.heap.size ∧ Has w' b (List.replicate R 1) ∧ Ext w w' := by
  have HB := Lib.hid (hB.ext ((Ext.refl w).alloc (.cells #[.int .i64 1] 3)))
  have lB := hB.1
  have lB2 : B ≠ w.heap.size := by omega
  have q0 := hB.2 0 _ rfl
  have HR1 : Hid (Reads (w.alloc (.cells #[.int .i64 1] 3)) (some ⟨w.heap.size, 0, none⟩) 1 [1]) := (Has.new w [1]).reads rfl
  have HC := Lib.hid (repeat_one w.heap.size R 1 _ hR0 hR HR1.out)
  clear hB
  go_enter Tryz.func101, Tryz.ntmps101
  go_wp2_with fail
  refine HC.out.mono ?_
  rintro e w2 ⟨b, rfl, hb1, hb2, hh, hE⟩
  have HH := Lib.hid hh
  have HE : Hid (Ext w w2) := ((Ext.refl w).alloc _).trans hE
  have hb3 : w.heap.size ≤ b := by simp at hb1; omega
  clear hh hE hb1
  go_wp2
  go_ret
  exact ⟨b, rfl, hb3, hb2, HH.out, HE.out⟩
end Go.Proofs.YtlnpaplbcocmkaaGreat
