/-
  Simple reflections of lattice elements, in both texts.
-/
import Derived.Test.YtlnpaplbcocmkaaGreatRd5
namespace Go.Proofs.YtlnpaplbcocmkaaGreat
open Go.ChangeShapes Go.WideShapes Go.ChangeAt Go.RowKit
set_option linter.unusedVariables false
set_option linter.unusedSimpArgs false

/-- A simple reflection, as far as column j. -/
def rfP (xs : List Int) (R i : Nat) (y : List Int) (j : Nat) : List Int := y.set i (gi y i - wgS xs y R i j)
theorem rfP_len (xs : List Int) (R i : Nat) (y : List Int) (j : Nat) : (rfP xs R i y j).length = y.length := by simp [rfP]
theorem rfl5_len (xs : List Int) (R i : Nat) (y : List Int) : (rfl5 xs R i y).length = y.length := by simp [rfl5]
theorem rfP_zero (xs : List Int) (R i : Nat) (y : List Int) : rfP xs R i y 0 = y := by
  rw [rfP, wgS, Int.sub_zero]
  apply List.ext_getElem
  · simp
  · intro e h1 h2
    rw [List.getElem_set]
    split
    · next h => subst h; simp [gi, h2]
    · rfl
theorem rfP_done (xs : List Int) (R i : Nat) (y : List Int) : rfP xs R i y R = rfl5 xs R i y := rfl
theorem gi_rfP {xs y : List Int} {R i j : Nat} (h : i < y.length) : gi (rfP xs R i y j) i = gi y i - wgS xs y R i j := by
  simp [rfP, gi, h]
theorem rfP_step {xs y : List Int} {R i j : Nat} : (rfP xs R i y j).set i (gi y i - wgS xs y R i j - gi xs (i * R + j) * gi y j) = rfP xs R i y (j + 1) := by
  rw [rfP, rfP, List.set_set, wgS]
  congr 1
  omega
theorem rfl5_bnd {xs y : List Int} {B : Int} (hx : ∀ e, -3 ≤ gi xs e ∧ gi xs e ≤ 3) (hy : ∀ e, -B ≤ gi y e ∧ gi y e ≤ B) (R i : Nat) : ∀ e, -(B + 3 * B * R) ≤ gi (rfl5 xs R i y) e ∧ gi (rfl5 xs R i y) e ≤ B + 3 * B * R := by
  intro e
  have h1 := wgS_bnd hx hy R i R
  have h2 := hy e
  have h3 := hy i
  rw [rfl5, gi_set5]
  split <;> omega

set_option maxRecDepth 100000 in
set_option maxHeartbeats 6400000 in
theorem reflected_impl (B R da od n cD m c i : Nat) (v2 v3 : Value) (xs y : List Int) (a : Option Addr) (w : World) (hB : Cells w B [.int .i64 (R : Nat), .slice (some ⟨da, od, none⟩) n cD, v2, v3]) (hr : Reads w (some ⟨da, od, none⟩) n xs) (hn : n = R * R) (hR0 : 1 ≤ R) (hR : R ≤ 4) (hy : Reads w a m y) (hm : m = R) (hi : i < R) (hxb : ∀ e, -3 ≤ gi xs e ∧ gi xs e ≤ 3) (hyb : ∀ e, -1000000 ≤ gi y e ∧ gi y e ≤ 1000000) :
    Calls Tryz.prog 163 #[.pointer (some ⟨B, 0, none⟩), .int .i64 i, .slice a m c] w fun e w' => ∃ b c9, e = .returned (.slice (some ⟨b, 0, none⟩) R c9) ∧ R ≤ c9 ∧ w.heap.size ≤ b ∧ b < w'.heap.size ∧ Has w' b (rfl5 xs R i y) ∧ Ext w w' := by
  subst hm
  have HN := Lib.hid hn
  obtain ⟨ax, ox, rfl, hax, hxc⟩ := reads5 hy (by omega)
  have HAX := Lib.hid (And.intro hax hxc)
  have HX := Lib.hid hy
  have HL := Lib.hid hy.len
  have HR := Lib.hid hr
  have HBX := Lib.hid hB
  have HYB := Lib.hid hyb
  have HSB := Lib.hid (fun j => wgS_bnd (B := 1000000) hxb hyb m i j)
  have HXY := Lib.hid (fun j => mul_bnd (hxb (i * m + j)).1 (hxb (i * m + j)).2 (hyb j).1 (hyb j).2)
  clear hr hy hxb hyb hax hxc hn hB
  go_enter Tryz.func163, Tryz.ntmps163
  go_wp2_with fail
  refine (clone5 ⟨ax, ox, none⟩ m c y _ HX.out (by omega)).mono ?_
  rintro e w2 ⟨b, cb, rfl, hb1, hh, hE, hcb⟩
  have L0 : Hid (Loc w w2 B b [.int .i64 (m : Nat), .slice (some ⟨da, od, none⟩) n cD, v2, v3] (rfP xs m i y 0)) := by
    rw [rfP_zero]
    exact ⟨HBX.out.ext hE, hh, hE, hb1, hh.lt, by have := HBX.out.1; omega⟩
  clear hh hE
  go_wp2_with fail
  go_loopw [14, 8, 9] (fun z _ _ wr => ∃ j : Nat, j ≤ m ∧ z = .int .i64 j ∧ Hid (Loc w wr B b [.int .i64 (m : Nat), .slice (some ⟨da, od, none⟩) n cD, v2, v3] (rfP xs m i y j))) (fun z _ _ _ => m - (intOf z).toNat)
  case atStart => exact ⟨0, by omega, rfl, L0⟩
  case round =>
    obtain ⟨j, hj, rfl, L⟩ := hrel
    by_cases h2 : j < m
    · have hiy : i < y.length := by rw [HL.out]; exact hi
      have lB := L.out.box.1
      have q0 := L.out.box.2 0 _ rfl
      have c1 := L.out.has.cell i (by rw [rfP_len]; exact hiy)
      rw [gi_rfP hiy] at c1
      have f1 := L.out.has.free i
      have lb := L.out.lt
      have nX : ax ≠ b := by have := HAX.out.1; omega
      have lX : ax < wr.heap.size := Nat.lt_of_lt_of_le HAX.out.1 L.out.ext.le
      have cX : wr.cell? ⟨ax, ox + j, none⟩ = some (.int .i64 (gi y j)) := (L.out.ext.cells ax _ HAX.out.1).trans (HAX.out.2 j h2)
      have hS := HSB.out j
      have hP := HXY.out j
      have hY := HYB.out i
      have hj4 : (j : Int) ≤ 4 := by omega
      have N : ∀ w2, Ext wr.drew w2 → Hid (Loc w (w2.setCell ⟨b, i, none⟩ (.int .i64 (gi y i - wgS xs y m i j - gi xs (i * m + j) * gi y j))) B b [.int .i64 (m : Nat), .slice (some ⟨da, od, none⟩) n cD, v2, v3] (rfP xs m i y (j + 1))) := fun w2 hE => by
        rw [← rfP_step]
        exact ((L.out.step (Ext.refl _).drew).step hE).set i (by rw [rfP_len]; exact hiy) _
      have HNl := Lib.hid N
      have HC2 : Hid (∀ w2, Ext wr.drew w2 → w2.cell? ⟨b, i, none⟩ = some (.int .i64 (gi y i - wgS xs y m i j)) ∧ w2.frozen? ⟨b, i, none⟩ = false) := fun w2 hE => by
        have h := ((L.out.step (Ext.refl _).drew).step hE).has
        have h1 := h.cell i (by rw [rfP_len]; exact hiy)
        rw [gi_rfP hiy] at h1
        exact ⟨h1, h.free _⟩
      have HCALL := Lib.hid (at_impl B m da od n cD v2 v3 xs i j _ (L.out.box.ext ((Ext.refl wr).drew)) (HR.out.ext (L.out.ext.trans (Ext.refl wr).drew)) HN.out hR hi h2)
      obtain ⟨y0, hy0⟩ : ∃ y0, gi y i - wgS xs y m i j = y0 := ⟨_, rfl⟩
      have hy1 : -13000000 ≤ y0 ∧ y0 ≤ 13000000 := by omega
      rw [hy0] at c1 HNl HC2
      obtain ⟨p0, hp0⟩ : ∃ p0, gi xs (i * m + j) * gi y j = p0 := ⟨_, rfl⟩
      have v4 : IntKind.i64.wrap (gi xs (i * m + j) * gi y j) = gi xs (i * m + j) * gi y j := IntWalk.i64_in _ ⟨by omega, by omega⟩
      have v5 : IntKind.i64.wrap (y0 - gi xs (i * m + j) * gi y j) = y0 - gi xs (i * m + j) * gi y j := IntWalk.i64_in _ ⟨by omega, by omega⟩
      have hjI : (j : Int) < (m : Int) := by omega
      have hiI : (i : Int) < (m : Int) := by omega
      clear N hS hP hY hy0 hy1 hp0 hiy
      go_wp2_with fail
      refine wp_region_held_drew (S := (fun w' => wr.grownBy w' (some b) ∧ ∀ B o, B ≠ b → B < wr.heap.size → w'.cell? ⟨B, o, none⟩ = wr.cell? ⟨B, o, none⟩)) (by kernel_rfl) keptC_drew (fun hHeld => ?_)
      refine wpAnyH_take (i := 0) (v := ?v1) rfl (by kernel_rfl) (by kernel_rfl) (by kernel_rfl) (fun _ _ _ h => h) (Or.inl ⟨by rfl, ?hy1⟩) hHeld ?rest1
      case hy1 => (intro wz hSw; (try dsimp only at hSw); go_simp; (try with_reducible rfl))
      (try simp only [Act.put, List.getElem_toArray, List.getElem_cons_succ, List.getElem_cons_zero]); (try simp only [List.setIfInBounds_toArray]); (try simp only [List.set_cons_succ]); (try simp only [List.set_cons_zero])
      refine wpAnyH_take (i := 1) (v := ?v2) rfl (by kernel_rfl) (by kernel_rfl) (by kernel_rfl) (fun _ _ _ h => h) (Or.inl ⟨by rfl, ?hy2⟩) hHeld ?rest2
      case hy2 => (intro wz hSw; (try dsimp only at hSw); go_simp; (try with_reducible rfl))
      (try simp only [Act.put, List.getElem_toArray, List.getElem_cons_succ, List.getElem_cons_zero]); (try simp only [List.setIfInBounds_toArray]); (try simp only [List.set_cons_succ]); (try simp only [List.set_cons_zero])
      refine wpAnyH_take (i := 2) (v := ?v3) rfl (by kernel_rfl) (by kernel_rfl) (by kernel_rfl) (fun _ _ _ h => h) (Or.inl ⟨by rfl, ?hy3⟩) hHeld ?rest3
      case hy3 => (intro wz hSw; (try dsimp only at hSw); go_simp; (try with_reducible rfl))
      (try simp only [Act.put, List.getElem_toArray, List.getElem_cons_succ, List.getElem_cons_zero]); (try simp only [List.setIfInBounds_toArray]); (try simp only [List.set_cons_succ]); (try simp only [List.set_cons_zero])
      refine wpAnyH_take (i := 4) (v := ?v4) rfl (by kernel_rfl) (by kernel_rfl) (by kernel_rfl) (fun _ _ _ h => h) (Or.inl ⟨by rfl, ?hy4⟩) hHeld ?rest4
      case hy4 => (intro wz hSw; (try dsimp only at hSw); go_simp; (try with_reducible rfl))
      (try simp only [Act.put, List.getElem_toArray, List.getElem_cons_succ, List.getElem_cons_zero]); (try simp only [List.setIfInBounds_toArray]); (try simp only [List.set_cons_succ]); (try simp only [List.set_cons_zero])
      refine wpAnyH_take (i := 5) (v := ?v5) rfl (by kernel_rfl) (by kernel_rfl) (by kernel_rfl) (fun _ _ _ h => h) (Or.inl ⟨by rfl, ?hy5⟩) hHeld ?rest5
      case hy5 => (intro wz hSw; (try dsimp only at hSw); go_simp; (try with_reducible rfl))
      (try simp only [Act.put, List.getElem_toArray, List.getElem_cons_succ, List.getElem_cons_zero]); (try simp only [List.setIfInBounds_toArray]); (try simp only [List.set_cons_succ]); (try simp only [List.set_cons_zero])
      refine wpAnyH_take (i := 6) (v := ?v6) rfl (by kernel_rfl) (by kernel_rfl) (by kernel_rfl) (fun _ _ _ h => h) (Or.inl ⟨by rfl, ?hy6⟩) hHeld ?rest6
      case hy6 => (intro wz hSw; (try dsimp only at hSw); go_simp; (try with_reducible rfl))
      (try simp only [Act.put, List.getElem_toArray, List.getElem_cons_succ, List.getElem_cons_zero]); (try simp only [List.setIfInBounds_toArray]); (try simp only [List.set_cons_succ]); (try simp only [List.set_cons_zero])
      refine wpAnyH_take (i := 8) (v := ?v7) rfl (by kernel_rfl) (by kernel_rfl) (by kernel_rfl) (fun _ _ _ h => h) (Or.inl ⟨by rfl, ?hy7⟩) hHeld ?rest7
      case hy7 => (intro wz hSw; (try dsimp only at hSw); go_simp; (try with_reducible rfl))
      (try simp only [Act.put, List.getElem_toArray, List.getElem_cons_succ, List.getElem_cons_zero]); (try simp only [List.setIfInBounds_toArray]); (try simp only [List.set_cons_succ]); (try simp only [List.set_cons_zero])
      refine wpAnyH_ready (rs := [3, 7]) (by kernel_rfl) (by simp) ?_
      refine AllReadyH.cons rfl (fun K' hK => ?_) (AllReadyH.cons rfl (fun K' hK => ?_) AllReadyH.nil)
      · skip
        go_simp
        refine hK.out _ _ hHeld (fun hHeld => ?_)
        clear hK
        refine wpAnyH_ready (rs := [7]) (by kernel_rfl) (by simp) ?_
        refine AllReadyH.cons rfl (fun K' hK => ?_) AllReadyH.nil
        go_simp
        refine HCALL.out.mono ?_
        rintro e w3 ⟨rfl, hE3⟩
        dsimp only
        obtain ⟨c2, f2⟩ := HC2.out w3 hE3
        refine hK.out _ _ (keptC_call hHeld hE3) (fun hHeld => ?_)
        clear hK
        refine wpAnyH_take (i := 9) (v := ?v8) rfl (by kernel_rfl) (by kernel_rfl) (by kernel_rfl) (fun _ _ _ h => h) (Or.inl ⟨by rfl, ?hy8⟩) hHeld ?rest8
        case hy8 => (intro wz hSw; (try dsimp only at hSw); go_simp; (try with_reducible rfl))
        (try simp only [Act.put, List.getElem_toArray, List.getElem_cons_succ, List.getElem_cons_zero]); (try simp only [List.setIfInBounds_toArray]); (try simp only [List.set_cons_succ]); (try simp only [List.set_cons_zero])
        refine wpAnyH_take (i := 10) (v := ?v9) rfl (by kernel_rfl) (by kernel_rfl) (by kernel_rfl) (fun _ _ _ h => h) (Or.inl ⟨by rfl, ?hy9⟩) hHeld ?rest9
        case hy9 => (intro wz hSw; (try dsimp only at hSw); go_simp; (try with_reducible rfl))
        (try simp only [Act.put, List.getElem_toArray, List.getElem_cons_succ, List.getElem_cons_zero]); (try simp only [List.setIfInBounds_toArray]); (try simp only [List.set_cons_succ]); (try simp only [List.set_cons_zero])
        refine wpAnyH_take (i := 11) (v := ?v10) rfl (by kernel_rfl) (by kernel_rfl) (by kernel_rfl) (fun _ _ _ h => h) (Or.inl ⟨by rfl, ?hy10⟩) hHeld ?rest10
        case hy10 => (intro wz hSw; (try dsimp only at hSw); go_simp; (try with_reducible rfl))
        (try simp only [Act.put, List.getElem_toArray, List.getElem_cons_succ, List.getElem_cons_zero]); (try simp only [List.setIfInBounds_toArray]); (try simp only [List.set_cons_succ]); (try simp only [List.set_cons_zero])
        refine wpAnyH_ready (rs := [12]) (by kernel_rfl) (by simp) ?_
        refine AllReadyH.cons rfl (fun K' hK => ?_) AllReadyH.nil
        go_simp
        refine hK.out _ _ (keptC_set hHeld _ _) (fun hHeld => ?_)
        refine wpAnyH_done (by kernel_rfl) ?_ _
        go_wp2
        exact ⟨⟨j + 1, by omega, by simp, HNl.out _ hE3⟩, by simp [intOf]; omega⟩
      · skip
        go_simp
        refine HCALL.out.mono ?_
        rintro e w3 ⟨rfl, hE3⟩
        dsimp only
        obtain ⟨c2, f2⟩ := HC2.out w3 hE3
        refine hK.out _ _ (keptC_call hHeld hE3) (fun hHeld => ?_)
        clear hK
        refine wpAnyH_take (i := 9) (v := ?v11) rfl (by kernel_rfl) (by kernel_rfl) (by kernel_rfl) (fun _ _ _ h => h) (Or.inl ⟨by rfl, ?hy11⟩) hHeld ?rest11
        case hy11 => (intro wz hSw; (try dsimp only at hSw); go_simp; (try with_reducible rfl))
        (try simp only [Act.put, List.getElem_toArray, List.getElem_cons_succ, List.getElem_cons_zero]); (try simp only [List.setIfInBounds_toArray]); (try simp only [List.set_cons_succ]); (try simp only [List.set_cons_zero])
        refine wpAnyH_ready (rs := [3]) (by kernel_rfl) (by simp) ?_
        refine AllReadyH.cons rfl (fun K' hK => ?_) AllReadyH.nil
        go_simp
        refine hK.out _ _ hHeld (fun hHeld => ?_)
        clear hK
        refine wpAnyH_take (i := 10) (v := ?v12) rfl (by kernel_rfl) (by kernel_rfl) (by kernel_rfl) (fun _ _ _ h => h) (Or.inl ⟨by rfl, ?hy12⟩) hHeld ?rest12
        case hy12 => (intro wz hSw; (try dsimp only at hSw); go_simp; (try with_reducible rfl))
        (try simp only [Act.put, List.getElem_toArray, List.getElem_cons_succ, List.getElem_cons_zero]); (try simp only [List.setIfInBounds_toArray]); (try simp only [List.set_cons_succ]); (try simp only [List.set_cons_zero])
        refine wpAnyH_take (i := 11) (v := ?v13) rfl (by kernel_rfl) (by kernel_rfl) (by kernel_rfl) (fun _ _ _ h => h) (Or.inl ⟨by rfl, ?hy13⟩) hHeld ?rest13
        case hy13 => (intro wz hSw; (try dsimp only at hSw); go_simp; (try with_reducible rfl))
        (try simp only [Act.put, List.getElem_toArray, List.getElem_cons_succ, List.getElem_cons_zero]); (try simp only [List.setIfInBounds_toArray]); (try simp only [List.set_cons_succ]); (try simp only [List.set_cons_zero])
        refine wpAnyH_ready (rs := [12]) (by kernel_rfl) (by simp) ?_
        refine AllReadyH.cons rfl (fun K' hK => ?_) AllReadyH.nil
        go_simp
        refine hK.out _ _ (keptC_set hHeld _ _) (fun hHeld => ?_)
        refine wpAnyH_done (by kernel_rfl) ?_ _
        go_wp2
        exact ⟨⟨j + 1, by omega, by simp, HNl.out _ hE3⟩, by simp [intOf]; omega⟩
    · obtain rfl : m = j := by omega
      have L2 : Hid (Loc w wr B b [.int .i64 (m : Nat), .slice (some ⟨da, od, none⟩) n cD, v2, v3] (rfl5 xs m i y)) := L
      go_wp2
      go_ret
      exact ⟨_, _, rfl, hcb, L2.out.lo, L2.out.lt, L2.out.has, L2.out.ext⟩

set_option maxRecDepth 100000 in
set_option maxHeartbeats 6400000 in
theorem l5Simple_spec (R da od n cD m c i : Nat) (xs y : List Int) (a : Option Addr) (w : World) (hr : Reads w (some ⟨da, od, none⟩) n xs) (hn : n = R * R) (hR0 : 1 ≤ R) (hR : R ≤ 4) (hy : Reads w a m y) (hm : m = R) (hi : i < R) (hxb : ∀ e, -3 ≤ gi xs e ∧ gi xs e ≤ 3) (hyb : ∀ e, -1000000 ≤ gi y e ∧ gi y e ≤ 1000000) :
    Calls Tryz.prog 176 #[.agg #[.int .i64 (R : Nat), .slice (some ⟨da, od, none⟩) n cD], .int .i64 i, .slice a m c] w fun e w' => ∃ b c9, e = .returned (.slice (some ⟨b, 0, none⟩) R c9) ∧ R ≤ c9 ∧ w.heap.size ≤ b ∧ b < w'.heap.size ∧ Has w' b (rfl5 xs R i y) ∧ Ext w w' := by
  subst hm
  have HN := Lib.hid hn
  obtain ⟨ax, ox, rfl, hax, hxc⟩ := reads5 hy (by omega)
  have HX := Lib.hid hy
  have HL := Lib.hid hy.len
  have HR := Lib.hid hr
  have HXB := Lib.hid hxb
  have HYB := Lib.hid hyb
  have HSB := Lib.hid (wgS_bnd (B := 1000000) hxb hyb m i m)
  have HBX := Lib.hid (cells_new w #[.int .i64 (m : Nat), .slice (some ⟨da, od, none⟩) n cD] 27)
  have X0 := Lib.hid ((Ext.refl w).alloc (.cells #[.int .i64 (m : Nat), .slice (some ⟨da, od, none⟩) n cD] 27))
  clear hr hy hxb hyb hax hxc hn
  go_enter Tryz.func176, Tryz.ntmps176
  go_wp2_with fail
  refine (l1Ints_g (some ⟨ax, ox, none⟩) m c y _ (HX.out.ext X0.out) (by omega) (fun h => by cases h)).mono ?_
  rintro e w2 ⟨v, rfl, hG, hE⟩
  obtain ⟨ga, gc, rfl, hO⟩ := hG.shape
  obtain ⟨b, rfl, hb1, hb9, hh⟩ : ∃ b, ga = some ⟨b, 0, none⟩ ∧ w.heap.size ≤ b ∧ b < w2.heap.size ∧ Has w2 b y := by
    rcases hO.2 with ⟨_, h⟩ | ⟨b, h1, h2, h3, h4⟩
    · omega
    · exact ⟨b, h1, by simp at h2; omega, h3, h4⟩
  have hcb := hG.slc.1
  have hnb : w.heap.size ≠ b := by
    rcases hO.2 with ⟨_, h⟩ | ⟨b', h1, h2, h3, h4⟩
    · omega
    · injection h1 with h1; injection h1 with h1; simp at h2; omega
  have hiy : i < y.length := by rw [HL.out]; exact hi
  have HH := Lib.hid hh
  have HE2 := Lib.hid (X0.out.trans hE)
  have HB2 := Lib.hid (HBX.out.ext hE)
  have c1 := hh.cell i hiy
  have f1 := hh.free i
  have lB := HB2.out.1
  have q0 := HB2.out.2 0 _ rfl
  have q1 := HB2.out.2 1 _ rfl
  have hS := HSB.out
  have hY := HYB.out i
  have hiI : (i : Int) < (m : Int) := by omega
  have hm4 : (m : Int) ≤ 4 := by omega
  have HC2 : Hid (∀ w3, Ext w2.drew w3 → w3.cell? ⟨b, i, none⟩ = some (.int .i64 (gi y i)) ∧ w3.frozen? ⟨b, i, none⟩ = false) := fun w3 hE3 => by
    have h := (HH.out.ext (Ext.refl _).drew).ext hE3
    exact ⟨h.cell i hiy, h.free _⟩
  have HNl : Hid (∀ w3, Ext w2.drew w3 → b < (w3.setCell ⟨b, i, none⟩ (.int .i64 (gi y i - wgS xs y m i m))).heap.size ∧ Has (w3.setCell ⟨b, i, none⟩ (.int .i64 (gi y i - wgS xs y m i m))) b (rfl5 xs m i y) ∧ Ext w (w3.setCell ⟨b, i, none⟩ (.int .i64 (gi y i - wgS xs y m i m)))) := fun w3 hE3 => by
    have h := ((HH.out.ext (Ext.refl _).drew).ext hE3).set i hiy (gi y i - wgS xs y m i m)
    exact ⟨h.lt, h, ((HE2.out.trans (Ext.refl _).drew).trans hE3).setCell (p := ⟨b, i, none⟩) hb1 _⟩
  have HCALL := Lib.hid (l5Weight_spec m da od n cD m c xs y (some ⟨ax, ox, none⟩) _ (HR.out.ext (HE2.out.trans (Ext.refl w2).drew)) HN.out hR0 hR (HX.out.ext (HE2.out.trans (Ext.refl w2).drew)) rfl HXB.out HYB.out)
  have v5 : IntKind.i64.wrap (gi y i - wgS xs y m i m) = gi y i - wgS xs y m i m := IntWalk.i64_in _ ⟨by omega, by omega⟩
  clear hG hO hb9 hh hE hS hY
  go_wp2_with fail
  refine wp_region_held_drew (S := (fun w' => w2.grownBy w' (some b) ∧ ∀ B o, B ≠ b → B < w2.heap.size → w'.cell? ⟨B, o, none⟩ = w2.cell? ⟨B, o, none⟩)) (by kernel_rfl) keptC_drew (fun hHeld => ?_)
  refine wpAnyH_take (i := 0) (v := ?v14) rfl (by kernel_rfl) (by kernel_rfl) (by kernel_rfl) (fun _ _ _ h => h) (Or.inl ⟨by rfl, ?hy14⟩) hHeld ?rest14
  case hy14 => (intro wz hSw; (try dsimp only at hSw); go_simp; (try with_reducible rfl))
  (try simp only [Act.put, List.getElem_toArray, List.getElem_cons_succ, List.getElem_cons_zero]); (try simp only [List.setIfInBounds_toArray]); (try simp only [List.set_cons_succ]); (try simp only [List.set_cons_zero])
  refine wpAnyH_take (i := 1) (v := ?v15) rfl (by kernel_rfl) (by kernel_rfl) (by kernel_rfl) (fun _ _ _ h => h) (Or.inl ⟨by rfl, ?hy15⟩) hHeld ?rest15
  case hy15 => (intro wz hSw; (try dsimp only at hSw); go_simp; (try with_reducible rfl))
  (try simp only [Act.put, List.getElem_toArray, List.getElem_cons_succ, List.getElem_cons_zero]); (try simp only [List.setIfInBounds_toArray]); (try simp only [List.set_cons_succ]); (try simp only [List.set_cons_zero])
  refine wpAnyH_take (i := 2) (v := ?v16) rfl (by kernel_rfl) (by kernel_rfl) (by kernel_rfl) (fun _ _ _ h => h) (Or.inl ⟨by rfl, ?hy16⟩) hHeld ?rest16
  case hy16 => (intro wz hSw; (try dsimp only at hSw); go_simp; (try with_reducible rfl))
  (try simp only [Act.put, List.getElem_toArray, List.getElem_cons_succ, List.getElem_cons_zero]); (try simp only [List.setIfInBounds_toArray]); (try simp only [List.set_cons_succ]); (try simp only [List.set_cons_zero])
  refine wpAnyH_take (i := 3) (v := ?v17) rfl (by kernel_rfl) (by kernel_rfl) (by kernel_rfl) (fun _ _ _ h => h) (Or.inl ⟨by rfl, ?hy17⟩) hHeld ?rest17
  case hy17 => (intro wz hSw; (try dsimp only at hSw); go_simp; (try with_reducible rfl))
  (try simp only [Act.put, List.getElem_toArray, List.getElem_cons_succ, List.getElem_cons_zero]); (try simp only [List.setIfInBounds_toArray]); (try simp only [List.set_cons_succ]); (try simp only [List.set_cons_zero])
  refine wpAnyH_take (i := 4) (v := ?v18) rfl (by kernel_rfl) (by kernel_rfl) (by kernel_rfl) (fun _ _ _ h => h) (Or.inl ⟨by rfl, ?hy18⟩) hHeld ?rest18
  case hy18 => (intro wz hSw; (try dsimp only at hSw); go_simp; (try with_reducible rfl))
  (try simp only [Act.put, List.getElem_toArray, List.getElem_cons_succ, List.getElem_cons_zero]); (try simp only [List.setIfInBounds_toArray]); (try simp only [List.set_cons_succ]); (try simp only [List.set_cons_zero])
  refine wpAnyH_take (i := 6) (v := ?v19) rfl (by kernel_rfl) (by kernel_rfl) (by kernel_rfl) (fun _ _ _ h => h) (Or.inl ⟨by rfl, ?hy19⟩) hHeld ?rest19
  case hy19 => (intro wz hSw; (try dsimp only at hSw); go_simp; (try with_reducible rfl))
  (try simp only [Act.put, List.getElem_toArray, List.getElem_cons_succ, List.getElem_cons_zero]); (try simp only [List.setIfInBounds_toArray]); (try simp only [List.set_cons_succ]); (try simp only [List.set_cons_zero])
  refine wpAnyH_take (i := 7) (v := ?v20) rfl (by kernel_rfl) (by kernel_rfl) (by kernel_rfl) (fun _ _ _ h => h) (Or.inl ⟨by rfl, ?hy20⟩) hHeld ?rest20
  case hy20 => (intro wz hSw; (try dsimp only at hSw); go_simp; (try with_reducible rfl))
  (try simp only [Act.put, List.getElem_toArray, List.getElem_cons_succ, List.getElem_cons_zero]); (try simp only [List.setIfInBounds_toArray]); (try simp only [List.set_cons_succ]); (try simp only [List.set_cons_zero])
  refine wpAnyH_take (i := 9) (v := ?v21) rfl (by kernel_rfl) (by kernel_rfl) (by kernel_rfl) (fun _ _ _ h => h) (Or.inl ⟨by rfl, ?hy21⟩) hHeld ?rest21
  case hy21 => (intro wz hSw; (try dsimp only at hSw); go_simp; (try with_reducible rfl))
  (try simp only [Act.put, List.getElem_toArray, List.getElem_cons_succ, List.getElem_cons_zero]); (try simp only [List.setIfInBounds_toArray]); (try simp only [List.set_cons_succ]); (try simp only [List.set_cons_zero])
  refine wpAnyH_ready (rs := [5, 8]) (by kernel_rfl) (by simp) ?_
  refine AllReadyH.cons rfl (fun K' hK => ?_) (AllReadyH.cons rfl (fun K' hK => ?_) AllReadyH.nil)
  · skip
    go_simp
    refine hK.out _ _ hHeld (fun hHeld => ?_)
    clear hK
    refine wpAnyH_ready (rs := [8]) (by kernel_rfl) (by simp) ?_
    refine AllReadyH.cons rfl (fun K' hK => ?_) AllReadyH.nil
    go_simp
    refine HCALL.out.mono ?_
    rintro e w3 ⟨b3, rfl, hb31, hb32, hh3, hE3⟩
    dsimp only
    obtain ⟨c2, f2⟩ := HC2.out w3 hE3
    have c3 := hh3.cell i (by rw [wgL_length]; exact hi)
    rw [gi_wgL hi] at c3
    have l3 := hh3.lt
    refine hK.out _ _ (keptC_call hHeld hE3) (fun hHeld => ?_)
    clear hK
    refine wpAnyH_take (i := 10) (v := ?v22) rfl (by kernel_rfl) (by kernel_rfl) (by kernel_rfl) (fun _ _ _ h => h) (Or.inl ⟨by rfl, ?hy22⟩) hHeld ?rest22
    case hy22 => (intro wz hSw; (try dsimp only at hSw); go_simp; (try with_reducible rfl))
    (try simp only [Act.put, List.getElem_toArray, List.getElem_cons_succ, List.getElem_cons_zero]); (try simp only [List.setIfInBounds_toArray]); (try simp only [List.set_cons_succ]); (try simp only [List.set_cons_zero])
    refine wpAnyH_ready (rs := [11]) (by kernel_rfl) (by simp) ?_
    refine AllReadyH.cons rfl (fun K' hK => ?_) AllReadyH.nil
    go_simp
    refine hK.out _ _ hHeld (fun hHeld => ?_)
    clear hK
    refine wpAnyH_take (i := 12) (v := ?v23) rfl (by kernel_rfl) (by kernel_rfl) (by kernel_rfl) (fun _ _ _ h => h) (Or.inl ⟨by rfl, ?hy23⟩) hHeld ?rest23
    case hy23 => (intro wz hSw; (try dsimp only at hSw); go_simp; (try with_reducible rfl))
    (try simp only [Act.put, List.getElem_toArray, List.getElem_cons_succ, List.getElem_cons_zero]); (try simp only [List.setIfInBounds_toArray]); (try simp only [List.set_cons_succ]); (try simp only [List.set_cons_zero])
    refine wpAnyH_take (i := 13) (v := ?v24) rfl (by kernel_rfl) (by kernel_rfl) (by kernel_rfl) (fun _ _ _ h => h) (Or.inl ⟨by rfl, ?hy24⟩) hHeld ?rest24
    case hy24 => (intro wz hSw; (try dsimp only at hSw); go_simp; (try with_reducible rfl))
    (try simp only [Act.put, List.getElem_toArray, List.getElem_cons_succ, List.getElem_cons_zero]); (try simp only [List.setIfInBounds_toArray]); (try simp only [List.set_cons_succ]); (try simp only [List.set_cons_zero])
    refine wpAnyH_ready (rs := [14]) (by kernel_rfl) (by simp) ?_
    refine AllReadyH.cons rfl (fun K' hK => ?_) AllReadyH.nil
    go_simp
    refine hK.out _ _ (keptC_set hHeld _ _) (fun hHeld => ?_)
    refine wpAnyH_done (by kernel_rfl) ?_ _
    obtain ⟨r1, r2, r3⟩ := HNl.out _ hE3
    go_wp2
    go_ret
    exact ⟨_, _, rfl, hcb, hb1, r1, r2, r3⟩
  · skip
    go_simp
    refine HCALL.out.mono ?_
    rintro e w3 ⟨b3, rfl, hb31, hb32, hh3, hE3⟩
    dsimp only
    obtain ⟨c2, f2⟩ := HC2.out w3 hE3
    have c3 := hh3.cell i (by rw [wgL_length]; exact hi)
    rw [gi_wgL hi] at c3
    have l3 := hh3.lt
    refine hK.out _ _ (keptC_call hHeld hE3) (fun hHeld => ?_)
    clear hK
    refine wpAnyH_take (i := 10) (v := ?v25) rfl (by kernel_rfl) (by kernel_rfl) (by kernel_rfl) (fun _ _ _ h => h) (Or.inl ⟨by rfl, ?hy25⟩) hHeld ?rest25
    case hy25 => (intro wz hSw; (try dsimp only at hSw); go_simp; (try with_reducible rfl))
    (try simp only [Act.put, List.getElem_toArray, List.getElem_cons_succ, List.getElem_cons_zero]); (try simp only [List.setIfInBounds_toArray]); (try simp only [List.set_cons_succ]); (try simp only [List.set_cons_zero])
    refine wpAnyH_ready (rs := [5, 11]) (by kernel_rfl) (by simp) ?_
    refine AllReadyH.cons rfl (fun K' hK => ?_) (AllReadyH.cons rfl (fun K' hK => ?_) AllReadyH.nil)
    · skip
      go_simp
      refine hK.out _ _ hHeld (fun hHeld => ?_)
      clear hK
      refine wpAnyH_ready (rs := [11]) (by kernel_rfl) (by simp) ?_
      refine AllReadyH.cons rfl (fun K' hK => ?_) AllReadyH.nil
      go_simp
      refine hK.out _ _ hHeld (fun hHeld => ?_)
      clear hK
      refine wpAnyH_take (i := 12) (v := ?v26) rfl (by kernel_rfl) (by kernel_rfl) (by kernel_rfl) (fun _ _ _ h => h) (Or.inl ⟨by rfl, ?hy26⟩) hHeld ?rest26
      case hy26 => (intro wz hSw; (try dsimp only at hSw); go_simp; (try with_reducible rfl))
      (try simp only [Act.put, List.getElem_toArray, List.getElem_cons_succ, List.getElem_cons_zero]); (try simp only [List.setIfInBounds_toArray]); (try simp only [List.set_cons_succ]); (try simp only [List.set_cons_zero])
      refine wpAnyH_take (i := 13) (v := ?v27) rfl (by kernel_rfl) (by kernel_rfl) (by kernel_rfl) (fun _ _ _ h => h) (Or.inl ⟨by rfl, ?hy27⟩) hHeld ?rest27
      case hy27 => (intro wz hSw; (try dsimp only at hSw); go_simp; (try with_reducible rfl))
      (try simp only [Act.put, List.getElem_toArray, List.getElem_cons_succ, List.getElem_cons_zero]); (try simp only [List.setIfInBounds_toArray]); (try simp only [List.set_cons_succ]); (try simp only [List.set_cons_zero])
      refine wpAnyH_ready (rs := [14]) (by kernel_rfl) (by simp) ?_
      refine AllReadyH.cons rfl (fun K' hK => ?_) AllReadyH.nil
      go_simp
      refine hK.out _ _ (keptC_set hHeld _ _) (fun hHeld => ?_)
      refine wpAnyH_done (by kernel_rfl) ?_ _
      obtain ⟨r1, r2, r3⟩ := HNl.out _ hE3
      go_wp2
      go_ret
      exact ⟨_, _, rfl, hcb, hb1, r1, r2, r3⟩
    · skip
      go_simp
      refine hK.out _ _ hHeld (fun hHeld => ?_)
      clear hK
      refine wpAnyH_ready (rs := [5]) (by kernel_rfl) (by simp) ?_
      refine AllReadyH.cons rfl (fun K' hK => ?_) AllReadyH.nil
      go_simp
      refine hK.out _ _ hHeld (fun hHeld => ?_)
      clear hK
      refine wpAnyH_take (i := 12) (v := ?v28) rfl (by kernel_rfl) (by kernel_rfl) (by kernel_rfl) (fun _ _ _ h => h) (Or.inl ⟨by rfl, ?hy28⟩) hHeld ?rest28
      case hy28 => (intro wz hSw; (try dsimp only at hSw); go_simp; (try with_reducible rfl))
      (try simp only [Act.put, List.getElem_toArray, List.getElem_cons_succ, List.getElem_cons_zero]); (try simp only [List.setIfInBounds_toArray]); (try simp only [List.set_cons_succ]); (try simp only [List.set_cons_zero])
      refine wpAnyH_take (i := 13) (v := ?v29) rfl (by kernel_rfl) (by kernel_rfl) (by kernel_rfl) (fun _ _ _ h => h) (Or.inl ⟨by rfl, ?hy29⟩) hHeld ?rest29
      case hy29 => (intro wz hSw; (try dsimp only at hSw); go_simp; (try with_reducible rfl))
      (try simp only [Act.put, List.getElem_toArray, List.getElem_cons_succ, List.getElem_cons_zero]); (try simp only [List.setIfInBounds_toArray]); (try simp only [List.set_cons_succ]); (try simp only [List.set_cons_zero])
      refine wpAnyH_ready (rs := [14]) (by kernel_rfl) (by simp) ?_
      refine AllReadyH.cons rfl (fun K' hK => ?_) AllReadyH.nil
      go_simp
      refine hK.out _ _ (keptC_set hHeld _ _) (fun hHeld => ?_)
      refine wpAnyH_done (by kernel_rfl) ?_ _
      obtain ⟨r1, r2, r3⟩ := HNl.out _ hE3
      go_wp2
      go_ret
      exact ⟨_, _, rfl, hcb, hb1, r1, r2, r3⟩
end Go.Proofs.YtlnpaplbcocmkaaGreat
