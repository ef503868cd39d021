/-
  The product of a Cartan matrix with a list of numbers, in both texts.
-/
import Derived.Test.YtlnpaplbcocmkaaGreatSat
import Derived.Test.YtlnpaplbcocmkaaGreatRts
namespace Go.Proofs.YtlnpaplbcocmkaaGreat
open Go.ChangeShapes Go.WideShapes Go.ChangeAt Go.RowKit
set_option linter.unusedVariables false
set_option linter.unusedSimpArgs false

theorem keptC_call {w w1 w2 : World} {b : Nat} (h : w.grownBy w1 (some b) ∧ ∀ B o, B ≠ b → B < w.heap.size → w1.cell? ⟨B, o, none⟩ = w.cell? ⟨B, o, none⟩) (hE : Ext w1 w2) : w.grownBy w2 (some b) ∧ ∀ B o, B ≠ b → B < w.heap.size → w2.cell? ⟨B, o, none⟩ = w.cell? ⟨B, o, none⟩ :=
  ⟨grownBy_ext h.1 hE, fun B o hne hb => (hE.cells B o (Nat.lt_of_lt_of_le hb h.1.size)).trans (h.2 B o hne hb)⟩
theorem keptC_set {w w1 : World} {b : Nat} (h : w.grownBy w1 (some b) ∧ ∀ B o, B ≠ b → B < w.heap.size → w1.cell? ⟨B, o, none⟩ = w.cell? ⟨B, o, none⟩) (j : Nat) (v : Value) : w.grownBy (w1.setCell ⟨b, j, none⟩ v) (some b) ∧ ∀ B o, B ≠ b → B < w.heap.size → (w1.setCell ⟨b, j, none⟩ v).cell? ⟨B, o, none⟩ = w.cell? ⟨B, o, none⟩ :=
  ⟨grownBy_set (p := ⟨b, j, none⟩) h.1 rfl v, fun B o hne hb => (World.cell?_setCell_other _ _ _ _ (by intro e; injection e with e1; exact hne e1.symm)).trans (h.2 B o hne hb)⟩
theorem keptC_drew {w : World} {b : Nat} : w.grownBy w.drew (some b) ∧ ∀ B o, B ≠ b → B < w.heap.size → w.drew.cell? ⟨B, o, none⟩ = w.cell? ⟨B, o, none⟩ := ⟨⟨rfl, rfl, rfl, Nat.le_refl _, fun _ _ _ => rfl⟩, fun _ _ _ _ => rfl⟩

theorem wgP_length (xs ys : List Int) (R i j : Nat) : (wgP xs ys R i j).length = R := by simp [wgP]
theorem wgL_length (xs ys : List Int) (R : Nat) : (wgL xs ys R).length = R := by simp [wgL]
theorem gi_wgP {xs ys : List Int} {R i j : Nat} (h : i < R) : gi (wgP xs ys R i j) i = wgS xs ys R i j := by
  simp [gi, wgP, h]
theorem wgP_zero (xs ys : List Int) (R : Nat) : wgP xs ys R 0 0 = List.replicate R 0 := by
  apply List.ext_getElem
  · simp [wgP]
  · intro e h1 h2
    simp [wgP, wgS]
theorem wgP_row (xs ys : List Int) (R i : Nat) : wgP xs ys R i R = wgP xs ys R (i + 1) 0 := by
  apply List.ext_getElem
  · simp [wgP]
  · intro e h1 h2
    simp only [wgP, List.getElem_map, List.getElem_range, wgS]
    by_cases h : e < i
    · rw [if_pos h, if_pos (by omega)]
    · rw [if_neg h]
      by_cases h3 : e = i
      · rw [if_pos h3, if_pos (by omega), h3]
      · rw [if_neg h3, if_neg (by omega)]
        split <;> rfl
theorem wgP_done (xs ys : List Int) (R : Nat) : wgP xs ys R R 0 = wgL xs ys R := by
  apply List.ext_getElem
  · simp [wgP, wgL]
  · intro e h1 h2
    have : e < R := by simpa [wgP] using h1
    simp [wgP, wgL, this]
theorem wgP_step {xs ys : List Int} {R i j : Nat} (h : i < R) : (wgP xs ys R i j).set i (wgS xs ys R i j + gi xs (i * R + j) * gi ys j) = wgP xs ys R i (j + 1) := by
  apply List.ext_getElem
  · simp [wgP]
  · intro e h1 h2
    rw [List.getElem_set]
    by_cases h3 : i = e
    · subst h3
      simp [wgP, wgS]
    · rw [if_neg h3]
      simp only [wgP, List.getElem_map, List.getElem_range]
      split
      · rfl
      · rw [if_neg (Ne.symm h3), if_neg (Ne.symm h3)]
theorem gi_wgL {xs ys : List Int} {R i : Nat} (h : i < R) : gi (wgL xs ys R) i = wgS xs ys R i R := by
  simp [gi, wgL, h]
theorem mul_bnd {x y A B : Int} (h1 : -A ≤ x) (h2 : x ≤ A) (h3 : -B ≤ y) (h4 : y ≤ B) : -(A * B) ≤ x * y ∧ x * y ≤ A * B := by
  have a1 := Int.mul_nonneg (show 0 ≤ A - x by omega) (show 0 ≤ B - y by omega)
  have a2 := Int.mul_nonneg (show 0 ≤ A + x by omega) (show 0 ≤ B + y by omega)
  have a3 := Int.mul_nonneg (show 0 ≤ A - x by omega) (show 0 ≤ B + y by omega)
  have a4 := Int.mul_nonneg (show 0 ≤ A + x by omega) (show 0 ≤ B - y by omega)
  rw [Int.sub_mul, Int.mul_sub, Int.mul_sub] at a1
  rw [Int.add_mul, Int.mul_add, Int.mul_add] at a2
  rw [Int.sub_mul, Int.mul_add, Int.mul_add] at a3
  rw [Int.add_mul, Int.mul_sub, Int.mul_sub] at a4
  omega
theorem wgS_bnd {xs ys : List Int} {B : Int} (hx : ∀ e, -3 ≤ gi xs e ∧ gi xs e ≤ 3) (hy : ∀ e, -B ≤ gi ys e ∧ gi ys e ≤ B) (R i : Nat) : ∀ j : Nat, -(3 * B * j) ≤ wgS xs ys R i j ∧ wgS xs ys R i j ≤ 3 * B * j
  | 0 => by simp [wgS]
  | j + 1 => by
    have ih := wgS_bnd hx hy R i j
    have h1 := mul_bnd (hx (i * R + j)).1 (hx (i * R + j)).2 (hy j).1 (hy j).2
    rw [wgS, show ((j + 1 : Nat) : Int) = (j : Int) + 1 by simp, Int.mul_add, Int.mul_one]
    omega

set_option maxRecDepth 100000 in
set_option maxHeartbeats 6400000 in
theorem l5Weight_spec (R da od n cD m c : Nat) (xs ys : List Int) (a : Option Addr) (w : World) (hr : Reads w (some ⟨da, od, none⟩) n xs) (hn : n = R * R) (hR0 : 1 ≤ R) (hR : R ≤ 4) (hy : Reads w a m ys) (hm : m = R) (hxb : ∀ e, -3 ≤ gi xs e ∧ gi xs e ≤ 3) (hyb : ∀ e, -1000000 ≤ gi ys e ∧ gi ys e ≤ 1000000) :
    Calls Tryz.prog 204 #[.agg #[.int .i64 (R : Nat), .slice (some ⟨da, od, none⟩) n cD], .slice a m c] w fun e w' => ∃ b, e = .returned (.slice (some ⟨b, 0, none⟩) R R) ∧ w.heap.size ≤ b ∧ b < w'.heap.size ∧ Has w' b (wgL xs ys R) ∧ Ext w w' := by
  subst hm
  have HN := Lib.hid hn
  obtain ⟨ax, ox, rfl⟩ : ∃ ax ox, a = some ⟨ax, ox, none⟩ := by
    rcases hy.2 with h | ⟨b, o, h, _⟩
    · omega
    · exact ⟨b, o, h⟩
  have hax : ax < w.heap.size ∧ ∀ j, j < m → w.cell? ⟨ax, ox + j, none⟩ = some (.int .i64 (gi ys j)) := by
    rcases hy.2 with h | ⟨b, o, h, h1, h2⟩
    · omega
    · injection h with h; injection h with e1 e2; subst e1; subst e2; exact ⟨h1, h2⟩
  have HAX := Lib.hid hax
  have HR := Lib.hid hr
  have HSB := Lib.hid (fun i j => wgS_bnd (B := 1000000) hxb hyb m i j)
  have HXY := Lib.hid (fun i j => mul_bnd (hxb (i * m + j)).1 (hxb (i * m + j)).2 (hyb j).1 (hyb j).2)
  have hmk := make_ints m (by omega)
  have L0 : Hid (Loc w ((w.alloc (.cells #[.int .i64 (m : Nat), .slice (some ⟨da, od, none⟩) n cD] 27)).alloc (.cells (ints (List.replicate m 0)) 3)) w.heap.size (w.heap.size + 1) [.int .i64 (m : Nat), .slice (some ⟨da, od, none⟩) n cD] (wgP xs ys m 0 0)) := by
    rw [wgP_zero]
    exact ⟨(cells_new w #[.int .i64 (m : Nat), .slice (some ⟨da, od, none⟩) n cD] 27).ext ((Ext.refl _).alloc _), Has.new' _ _ _ (by simp), ((Ext.refl w).alloc _).alloc _, by omega, by simp, by omega⟩
  have lB := hax.1
  skip
  clear hr hy hxb hyb hax hn
  go_enter Tryz.func204, Tryz.ntmps204
  go_wp2_with fail
  clear hmk lB
  go_loopw [6, 7] (fun z _ wr => ∃ i : Nat, i ≤ m ∧ z = .int .i64 i ∧ Hid (Loc w wr w.heap.size (w.heap.size + 1) [.int .i64 (m : Nat), .slice (some ⟨da, od, none⟩) n cD] (wgP xs ys m i 0))) (fun z _ _ => m - (intOf z).toNat)
  case atStart => exact ⟨0, by omega, rfl, L0⟩
  case round =>
    obtain ⟨i, hi, rfl, L⟩ := hrel
    have lB := L.out.box.1
    have q0 := L.out.box.2 0 _ rfl
    by_cases hlt : i < m
    · go_wp2_with fail
      clear lB q0
      obtain ⟨wo, rfl⟩ : ∃ wo : World, wo = wr := ⟨_, rfl⟩
      go_loopw [7] (fun z  wr => ∃ j : Nat, j ≤ m ∧ z = .int .i64 j ∧ Hid (Loc w wr w.heap.size (w.heap.size + 1) [.int .i64 (m : Nat), .slice (some ⟨da, od, none⟩) n cD] (wgP xs ys m i j))) (fun z  _ => m - (intOf z).toNat)
      case atStart => exact ⟨0, by omega, rfl, L⟩
      case round =>
        obtain ⟨j, hj, rfl, L⟩ := hrel
        have lB := L.out.box.1
        have q0 := L.out.box.2 0 _ rfl
        by_cases h2 : j < m
        · have q1 := L.out.box.2 1 _ rfl
          have hll : Hid ((wgP xs ys m i j).length = m) := wgP_length ..
          have c1 := L.out.has.cell i (by rw [hll.out]; exact hlt)
          rw [gi_wgP hlt] at c1
          have f1 := L.out.has.free i
          have lb := L.out.lt
          have nB := L.out.ne
          have nX : ax ≠ (w.heap.size + 1) := by have := HAX.out.1; omega
          have lX : ax < wr.heap.size := Nat.lt_of_lt_of_le HAX.out.1 L.out.ext.le
          have cX : wr.cell? ⟨ax, ox + j, none⟩ = some (.int .i64 (gi ys j)) := (L.out.ext.cells ax _ HAX.out.1).trans (HAX.out.2 j h2)
          have hS := HSB.out i j
          have hS1 := hS.1
          have hS2 := hS.2
          have hP := HXY.out i j
          have hP1 := hP.1
          have hP2 := hP.2
          clear hS hP
          have hj4 : (j : Int) ≤ 4 := by omega
          have N : ∀ w2, Ext wr.drew w2 → Hid (Loc w (w2.setCell ⟨(w.heap.size + 1), i, none⟩ (.int .i64 (wgS xs ys m i j + gi xs (i * m + j) * gi ys j))) w.heap.size (w.heap.size + 1) [.int .i64 (m : Nat), .slice (some ⟨da, od, none⟩) n cD] (wgP xs ys m i (j + 1))) := fun w2 hE => by
            rw [← wgP_step hlt]
            exact ((L.out.step (Ext.refl _).drew).step hE).set i (by rw [hll.out]; exact hlt) _
          have HNl := Lib.hid N
          have HC2 : Hid (∀ w2, Ext wr.drew w2 → w2.cell? ⟨(w.heap.size + 1), i, none⟩ = some (.int .i64 (wgS xs ys m i j)) ∧ w2.frozen? ⟨(w.heap.size + 1), i, none⟩ = false) := fun w2 hE => by
            have h := ((L.out.step (Ext.refl _).drew).step hE).has
            have h1 := h.cell i (by rw [hll.out]; exact hlt)
            rw [gi_wgP hlt] at h1
            exact ⟨h1, h.free _⟩
          have HCALL := Lib.hid (l5At_spec m da od n cD xs i j _ (HR.out.ext (L.out.ext.trans (Ext.refl wr).drew)) HN.out hR hlt h2)
          have v4 : IntKind.i64.wrap (gi xs (i * m + j) * gi ys j) = gi xs (i * m + j) * gi ys j := IntWalk.i64_in _ ⟨by omega, by omega⟩
          have v5 : IntKind.i64.wrap (wgS xs ys m i j + gi xs (i * m + j) * gi ys j) = wgS xs ys m i j + gi xs (i * m + j) * gi ys j := IntWalk.i64_in _ ⟨by omega, by omega⟩
          have hjI : (j : Int) < (m : Int) := by omega
          clear N hS1 hS2 hP1 hP2
          go_wp2_with fail
          refine wp_region_held_drew (S := (fun w' => wr.grownBy w' (some (w.heap.size + 1)) ∧ ∀ B o, B ≠ (w.heap.size + 1) → B < wr.heap.size → w'.cell? ⟨B, o, none⟩ = wr.cell? ⟨B, o, none⟩)) (by kernel_rfl) keptC_drew (fun hHeld => ?_)
          refine wpAnyH_take (i := 0) (v := ?v1) rfl (by kernel_rfl) (by kernel_rfl) (by kernel_rfl) (fun _ _ _ h => h) (Or.inl ⟨by rfl, ?hy1⟩) hHeld ?rest1
          case hy1 => (intro wz hSw; (try dsimp only at hSw); go_simp; (try with_reducible rfl))
          (try simp only [Act.put, List.getElem_toArray, List.getElem_cons_succ, List.getElem_cons_zero]); (try simp only [List.setIfInBounds_toArray]); (try simp only [List.set_cons_succ]); (try simp only [List.set_cons_zero])
          refine wpAnyH_take (i := 1) (v := ?v2) rfl (by kernel_rfl) (by kernel_rfl) (by kernel_rfl) (fun _ _ _ h => h) (Or.inl ⟨by rfl, ?hy2⟩) hHeld ?rest2
          case hy2 => (intro wz hSw; (try dsimp only at hSw); go_simp; (try with_reducible rfl))
          (try simp only [Act.put, List.getElem_toArray, List.getElem_cons_succ, List.getElem_cons_zero]); (try simp only [List.setIfInBounds_toArray]); (try simp only [List.set_cons_succ]); (try simp only [List.set_cons_zero])
          refine wpAnyH_take (i := 2) (v := ?v3) rfl (by kernel_rfl) (by kernel_rfl) (by kernel_rfl) (fun _ _ _ h => h) (Or.inl ⟨by rfl, ?hy3⟩) hHeld ?rest3
          case hy3 => (intro wz hSw; (try dsimp only at hSw); go_simp; (try with_reducible rfl))
          (try simp only [Act.put, List.getElem_toArray, List.getElem_cons_succ, List.getElem_cons_zero]); (try simp only [List.setIfInBounds_toArray]); (try simp only [List.set_cons_succ]); (try simp only [List.set_cons_zero])
          refine wpAnyH_take (i := 3) (v := ?v4) rfl (by kernel_rfl) (by kernel_rfl) (by kernel_rfl) (fun _ _ _ h => h) (Or.inl ⟨by rfl, ?hy4⟩) hHeld ?rest4
          case hy4 => (intro wz hSw; (try dsimp only at hSw); go_simp; (try with_reducible rfl))
          (try simp only [Act.put, List.getElem_toArray, List.getElem_cons_succ, List.getElem_cons_zero]); (try simp only [List.setIfInBounds_toArray]); (try simp only [List.set_cons_succ]); (try simp only [List.set_cons_zero])
          refine wpAnyH_take (i := 4) (v := ?v5) rfl (by kernel_rfl) (by kernel_rfl) (by kernel_rfl) (fun _ _ _ h => h) (Or.inl ⟨by rfl, ?hy5⟩) hHeld ?rest5
          case hy5 => (intro wz hSw; (try dsimp only at hSw); go_simp; (try with_reducible rfl))
          (try simp only [Act.put, List.getElem_toArray, List.getElem_cons_succ, List.getElem_cons_zero]); (try simp only [List.setIfInBounds_toArray]); (try simp only [List.set_cons_succ]); (try simp only [List.set_cons_zero])
          refine wpAnyH_take (i := 6) (v := ?v6) rfl (by kernel_rfl) (by kernel_rfl) (by kernel_rfl) (fun _ _ _ h => h) (Or.inl ⟨by rfl, ?hy6⟩) hHeld ?rest6
          case hy6 => (intro wz hSw; (try dsimp only at hSw); go_simp; (try with_reducible rfl))
          (try simp only [Act.put, List.getElem_toArray, List.getElem_cons_succ, List.getElem_cons_zero]); (try simp only [List.setIfInBounds_toArray]); (try simp only [List.set_cons_succ]); (try simp only [List.set_cons_zero])
          refine wpAnyH_take (i := 7) (v := ?v7) rfl (by kernel_rfl) (by kernel_rfl) (by kernel_rfl) (fun _ _ _ h => h) (Or.inl ⟨by rfl, ?hy7⟩) hHeld ?rest7
          case hy7 => (intro wz hSw; (try dsimp only at hSw); go_simp; (try with_reducible rfl))
          (try simp only [Act.put, List.getElem_toArray, List.getElem_cons_succ, List.getElem_cons_zero]); (try simp only [List.setIfInBounds_toArray]); (try simp only [List.set_cons_succ]); (try simp only [List.set_cons_zero])
          refine wpAnyH_take (i := 8) (v := ?v8) rfl (by kernel_rfl) (by kernel_rfl) (by kernel_rfl) (fun _ _ _ h => h) (Or.inl ⟨by rfl, ?hy8⟩) hHeld ?rest8
          case hy8 => (intro wz hSw; (try dsimp only at hSw); go_simp; (try with_reducible rfl))
          (try simp only [Act.put, List.getElem_toArray, List.getElem_cons_succ, List.getElem_cons_zero]); (try simp only [List.setIfInBounds_toArray]); (try simp only [List.set_cons_succ]); (try simp only [List.set_cons_zero])
          refine wpAnyH_take (i := 10) (v := ?v9) rfl (by kernel_rfl) (by kernel_rfl) (by kernel_rfl) (fun _ _ _ h => h) (Or.inl ⟨by rfl, ?hy9⟩) hHeld ?rest9
          case hy9 => (intro wz hSw; (try dsimp only at hSw); go_simp; (try with_reducible rfl))
          (try simp only [Act.put, List.getElem_toArray, List.getElem_cons_succ, List.getElem_cons_zero]); (try simp only [List.setIfInBounds_toArray]); (try simp only [List.set_cons_succ]); (try simp only [List.set_cons_zero])
          refine wpAnyH_take (i := 11) (v := ?v10) rfl (by kernel_rfl) (by kernel_rfl) (by kernel_rfl) (fun _ _ _ h => h) (Or.inl ⟨by rfl, ?hy10⟩) hHeld ?rest10
          case hy10 => (intro wz hSw; (try dsimp only at hSw); go_simp; (try with_reducible rfl))
          (try simp only [Act.put, List.getElem_toArray, List.getElem_cons_succ, List.getElem_cons_zero]); (try simp only [List.setIfInBounds_toArray]); (try simp only [List.set_cons_succ]); (try simp only [List.set_cons_zero])
          refine wpAnyH_take (i := 12) (v := ?v11) rfl (by kernel_rfl) (by kernel_rfl) (by kernel_rfl) (fun _ _ _ h => h) (Or.inl ⟨by rfl, ?hy11⟩) hHeld ?rest11
          case hy11 => (intro wz hSw; (try dsimp only at hSw); go_simp; (try with_reducible rfl))
          (try simp only [Act.put, List.getElem_toArray, List.getElem_cons_succ, List.getElem_cons_zero]); (try simp only [List.setIfInBounds_toArray]); (try simp only [List.set_cons_succ]); (try simp only [List.set_cons_zero])
          refine wpAnyH_take (i := 13) (v := ?v12) rfl (by kernel_rfl) (by kernel_rfl) (by kernel_rfl) (fun _ _ _ h => h) (Or.inl ⟨by rfl, ?hy12⟩) hHeld ?rest12
          case hy12 => (intro wz hSw; (try dsimp only at hSw); go_simp; (try with_reducible rfl))
          (try simp only [Act.put, List.getElem_toArray, List.getElem_cons_succ, List.getElem_cons_zero]); (try simp only [List.setIfInBounds_toArray]); (try simp only [List.set_cons_succ]); (try simp only [List.set_cons_zero])
          refine wpAnyH_ready (rs := [5, 9]) (by kernel_rfl) (by simp) ?_
          refine AllReadyH.cons rfl (fun K' hK => ?_) (AllReadyH.cons rfl (fun K' hK => ?_) AllReadyH.nil)
          · skip
            go_simp
            refine hK.out _ _ hHeld (fun hHeld => ?_)
            clear hK
            refine wpAnyH_ready (rs := [9]) (by kernel_rfl) (by simp) ?_
            refine AllReadyH.cons rfl (fun K' hK => ?_) AllReadyH.nil
            go_simp
            refine HCALL.out.mono ?_
            rintro e w2 ⟨rfl, hE⟩
            dsimp only
            obtain ⟨c2, f2⟩ := HC2.out w2 hE
            refine hK.out _ _ (keptC_call hHeld hE) (fun hHeld => ?_)
            clear hK
            refine wpAnyH_take (i := 14) (v := ?v13) rfl (by kernel_rfl) (by kernel_rfl) (by kernel_rfl) (fun _ _ _ h => h) (Or.inl ⟨by rfl, ?hy13⟩) hHeld ?rest13
            case hy13 => (intro wz hSw; (try dsimp only at hSw); go_simp; (try with_reducible rfl))
            (try simp only [Act.put, List.getElem_toArray, List.getElem_cons_succ, List.getElem_cons_zero]); (try simp only [List.setIfInBounds_toArray]); (try simp only [List.set_cons_succ]); (try simp only [List.set_cons_zero])
            refine wpAnyH_take (i := 15) (v := ?v14) rfl (by kernel_rfl) (by kernel_rfl) (by kernel_rfl) (fun _ _ _ h => h) (Or.inl ⟨by rfl, ?hy14⟩) hHeld ?rest14
            case hy14 => (intro wz hSw; (try dsimp only at hSw); go_simp; (try with_reducible rfl))
            (try simp only [Act.put, List.getElem_toArray, List.getElem_cons_succ, List.getElem_cons_zero]); (try simp only [List.setIfInBounds_toArray]); (try simp only [List.set_cons_succ]); (try simp only [List.set_cons_zero])
            refine wpAnyH_take (i := 16) (v := ?v15) rfl (by kernel_rfl) (by kernel_rfl) (by kernel_rfl) (fun _ _ _ h => h) (Or.inl ⟨by rfl, ?hy15⟩) hHeld ?rest15
            case hy15 => (intro wz hSw; (try dsimp only at hSw); go_simp; (try with_reducible rfl))
            (try simp only [Act.put, List.getElem_toArray, List.getElem_cons_succ, List.getElem_cons_zero]); (try simp only [List.setIfInBounds_toArray]); (try simp only [List.set_cons_succ]); (try simp only [List.set_cons_zero])
            refine wpAnyH_ready (rs := [17]) (by kernel_rfl) (by simp) ?_
            refine AllReadyH.cons rfl (fun K' hK => ?_) AllReadyH.nil
            go_simp
            refine hK.out _ _ (keptC_set hHeld _ _) (fun hHeld => ?_)
            refine wpAnyH_done (by kernel_rfl) ?_ _
            go_wp2
            exact ⟨⟨j + 1, by omega, by simp, HNl.out _ hE⟩, by simp [intOf]; omega⟩
          · skip
            go_simp
            refine HCALL.out.mono ?_
            rintro e w2 ⟨rfl, hE⟩
            dsimp only
            obtain ⟨c2, f2⟩ := HC2.out w2 hE
            refine hK.out _ _ (keptC_call hHeld hE) (fun hHeld => ?_)
            clear hK
            refine wpAnyH_take (i := 14) (v := ?v16) rfl (by kernel_rfl) (by kernel_rfl) (by kernel_rfl) (fun _ _ _ h => h) (Or.inl ⟨by rfl, ?hy16⟩) hHeld ?rest16
            case hy16 => (intro wz hSw; (try dsimp only at hSw); go_simp; (try with_reducible rfl))
            (try simp only [Act.put, List.getElem_toArray, List.getElem_cons_succ, List.getElem_cons_zero]); (try simp only [List.setIfInBounds_toArray]); (try simp only [List.set_cons_succ]); (try simp only [List.set_cons_zero])
            refine wpAnyH_ready (rs := [5]) (by kernel_rfl) (by simp) ?_
            refine AllReadyH.cons rfl (fun K' hK => ?_) AllReadyH.nil
            go_simp
            refine hK.out _ _ hHeld (fun hHeld => ?_)
            clear hK
            refine wpAnyH_take (i := 15) (v := ?v17) rfl (by kernel_rfl) (by kernel_rfl) (by kernel_rfl) (fun _ _ _ h => h) (Or.inl ⟨by rfl, ?hy17⟩) hHeld ?rest17
            case hy17 => (intro wz hSw; (try dsimp only at hSw); go_simp; (try with_reducible rfl))
            (try simp only [Act.put, List.getElem_toArray, List.getElem_cons_succ, List.getElem_cons_zero]); (try simp only [List.setIfInBounds_toArray]); (try simp only [List.set_cons_succ]); (try simp only [List.set_cons_zero])
            refine wpAnyH_take (i := 16) (v := ?v18) rfl (by kernel_rfl) (by kernel_rfl) (by kernel_rfl) (fun _ _ _ h => h) (Or.inl ⟨by rfl, ?hy18⟩) hHeld ?rest18
            case hy18 => (intro wz hSw; (try dsimp only at hSw); go_simp; (try with_reducible rfl))
            (try simp only [Act.put, List.getElem_toArray, List.getElem_cons_succ, List.getElem_cons_zero]); (try simp only [List.setIfInBounds_toArray]); (try simp only [List.set_cons_succ]); (try simp only [List.set_cons_zero])
            refine wpAnyH_ready (rs := [17]) (by kernel_rfl) (by simp) ?_
            refine AllReadyH.cons rfl (fun K' hK => ?_) AllReadyH.nil
            go_simp
            refine hK.out _ _ (keptC_set hHeld _ _) (fun hHeld => ?_)
            refine wpAnyH_done (by kernel_rfl) ?_ _
            go_wp2
            exact ⟨⟨j + 1, by omega, by simp, HNl.out _ hE⟩, by simp [intOf]; omega⟩
        · obtain rfl : j = m := by omega
          have L2 : Hid (Loc w wr w.heap.size (w.heap.size + 1) [.int .i64 (j : Nat), .slice (some ⟨da, od, none⟩) n cD] (wgP xs ys j (i + 1) 0)) := by rw [← wgP_row]; exact L
          go_wp2
          exact ⟨⟨i + 1, by omega, by simp, L2⟩, by simp [intOf]; omega⟩
    · obtain rfl : i = m := by omega
      have L2 : Hid (Loc w wr w.heap.size (w.heap.size + 1) [.int .i64 (i : Nat), .slice (some ⟨da, od, none⟩) n cD] (wgL xs ys i)) := by rw [← wgP_done]; exact L
      go_wp2
      go_ret
      exact ⟨_, rfl, L2.out.lo, L2.out.lt, L2.out.has, L2.out.ext⟩

set_option maxRecDepth 100000 in
set_option maxHeartbeats 6400000 in
theorem weight_impl (B R da od n cD m c : Nat) (v2 v3 : Value) (xs ys : List Int) (a : Option Addr) (w : World) (hB : Cells w B [.int .i64 (R : Nat), .slice (some ⟨da, od, none⟩) n cD, v2, v3]) (hr : Reads w (some ⟨da, od, none⟩) n xs) (hn : n = R * R) (hR0 : 1 ≤ R) (hR : R ≤ 4) (hy : Reads w a m ys) (hm : m = R) (hxb : ∀ e, -3 ≤ gi xs e ∧ gi xs e ≤ 3) (hyb : ∀ e, -1000000 ≤ gi ys e ∧ gi ys e ≤ 1000000) :
    Calls Tryz.prog 213 #[.pointer (some ⟨B, 0, none⟩), .slice a m c] w fun e w' => ∃ b, e = .returned (.slice (some ⟨b, 0, none⟩) R R) ∧ w.heap.size ≤ b ∧ b < w'.heap.size ∧ Has w' b (wgL xs ys R) ∧ Ext w w' := by
  subst hm
  have HN := Lib.hid hn
  obtain ⟨ax, ox, rfl⟩ : ∃ ax ox, a = some ⟨ax, ox, none⟩ := by
    rcases hy.2 with h | ⟨b, o, h, _⟩
    · omega
    · exact ⟨b, o, h⟩
  have hax : ax < w.heap.size ∧ ∀ j, j < m → w.cell? ⟨ax, ox + j, none⟩ = some (.int .i64 (gi ys j)) := by
    rcases hy.2 with h | ⟨b, o, h, h1, h2⟩
    · omega
    · injection h with h; injection h with e1 e2; subst e1; subst e2; exact ⟨h1, h2⟩
  have HAX := Lib.hid hax
  have HR := Lib.hid hr
  have HSB := Lib.hid (fun i j => wgS_bnd (B := 1000000) hxb hyb m i j)
  have HXY := Lib.hid (fun i j => mul_bnd (hxb (i * m + j)).1 (hxb (i * m + j)).2 (hyb j).1 (hyb j).2)
  have hmk := make_ints m (by omega)
  have L0 : Hid (Loc w (w.alloc (.cells (ints (List.replicate m 0)) 3)) B w.heap.size [.int .i64 (m : Nat), .slice (some ⟨da, od, none⟩) n cD, v2, v3] (wgP xs ys m 0 0)) := by
    rw [wgP_zero]
    exact ⟨hB.ext ((Ext.refl _).alloc _), Has.new' _ _ _ (by simp), (Ext.refl w).alloc _, by omega, by simp, by have := hB.1; omega⟩
  have lB := hB.1
  have q0 := hB.2 0 _ rfl
  clear hr hy hxb hyb hax hn hB
  go_enter Tryz.func213, Tryz.ntmps213
  go_wp2_with fail
  clear hmk lB q0
  go_loopw [17, 6, 7, 8] (fun z _ _ _ wr => ∃ i : Nat, i ≤ m ∧ z = .int .i64 i ∧ Hid (Loc w wr B w.heap.size [.int .i64 (m : Nat), .slice (some ⟨da, od, none⟩) n cD, v2, v3] (wgP xs ys m i 0))) (fun z _ _ _ _ => m - (intOf z).toNat)
  case atStart => exact ⟨0, by omega, rfl, L0⟩
  case round =>
    obtain ⟨i, hi, rfl, L⟩ := hrel
    have lB := L.out.box.1
    have q0 := L.out.box.2 0 _ rfl
    by_cases hlt : i < m
    · go_wp2_with fail
      clear lB q0
      obtain ⟨wo, rfl⟩ : ∃ wo : World, wo = wr := ⟨_, rfl⟩
      go_loopw [22, 7, 8] (fun z _ _ wr => ∃ j : Nat, j ≤ m ∧ z = .int .i64 j ∧ Hid (Loc w wr B w.heap.size [.int .i64 (m : Nat), .slice (some ⟨da, od, none⟩) n cD, v2, v3] (wgP xs ys m i j))) (fun z _ _ _ => m - (intOf z).toNat)
      case atStart => exact ⟨0, by omega, rfl, L⟩
      case round =>
        obtain ⟨j, hj, rfl, L⟩ := hrel
        have lB := L.out.box.1
        have q0 := L.out.box.2 0 _ rfl
        by_cases h2 : j < m
        · have q1 := L.out.box.2 1 _ rfl
          have hll : Hid ((wgP xs ys m i j).length = m) := wgP_length ..
          have c1 := L.out.has.cell i (by rw [hll.out]; exact hlt)
          rw [gi_wgP hlt] at c1
          have f1 := L.out.has.free i
          have lb := L.out.lt
          have nB := L.out.ne
          have nX : ax ≠ w.heap.size := by have := HAX.out.1; omega
          have lX : ax < wr.heap.size := Nat.lt_of_lt_of_le HAX.out.1 L.out.ext.le
          have cX : wr.cell? ⟨ax, ox + j, none⟩ = some (.int .i64 (gi ys j)) := (L.out.ext.cells ax _ HAX.out.1).trans (HAX.out.2 j h2)
          have hS := HSB.out i j
          have hS1 := hS.1
          have hS2 := hS.2
          have hP := HXY.out i j
          have hP1 := hP.1
          have hP2 := hP.2
          clear hS hP
          have hj4 : (j : Int) ≤ 4 := by omega
          have N : ∀ w2, Ext wr.drew w2 → Hid (Loc w (w2.setCell ⟨w.heap.size, i, none⟩ (.int .i64 (wgS xs ys m i j + gi xs (i * m + j) * gi ys j))) B w.heap.size [.int .i64 (m : Nat), .slice (some ⟨da, od, none⟩) n cD, v2, v3] (wgP xs ys m i (j + 1))) := fun w2 hE => by
            rw [← wgP_step hlt]
            exact ((L.out.step (Ext.refl _).drew).step hE).set i (by rw [hll.out]; exact hlt) _
          have HNl := Lib.hid N
          have HC2 : Hid (∀ w2, Ext wr.drew w2 → w2.cell? ⟨w.heap.size, i, none⟩ = some (.int .i64 (wgS xs ys m i j)) ∧ w2.frozen? ⟨w.heap.size, i, none⟩ = false) := fun w2 hE => by
            have h := ((L.out.step (Ext.refl _).drew).step hE).has
            have h1 := h.cell i (by rw [hll.out]; exact hlt)
            rw [gi_wgP hlt] at h1
            exact ⟨h1, h.free _⟩
          have HCALL := Lib.hid (at_impl B m da od n cD v2 v3 xs i j _ (L.out.box.ext ((Ext.refl wr).drew)) (HR.out.ext (L.out.ext.trans (Ext.refl wr).drew)) HN.out hR hlt h2)
          have v4 : IntKind.i64.wrap (gi xs (i * m + j) * gi ys j) = gi xs (i * m + j) * gi ys j := IntWalk.i64_in _ ⟨by omega, by omega⟩
          have v5 : IntKind.i64.wrap (wgS xs ys m i j + gi xs (i * m + j) * gi ys j) = wgS xs ys m i j + gi xs (i * m + j) * gi ys j := IntWalk.i64_in _ ⟨by omega, by omega⟩
          have hjI : (j : Int) < (m : Int) := by omega
          clear N hS1 hS2 hP1 hP2
          go_wp2_with fail
          refine wp_region_held_drew (S := (fun w' => wr.grownBy w' (some w.heap.size) ∧ ∀ B o, B ≠ w.heap.size → B < wr.heap.size → w'.cell? ⟨B, o, none⟩ = wr.cell? ⟨B, o, none⟩)) (by kernel_rfl) keptC_drew (fun hHeld => ?_)
          refine wpAnyH_take (i := 0) (v := ?v19) rfl (by kernel_rfl) (by kernel_rfl) (by kernel_rfl) (fun _ _ _ h => h) (Or.inl ⟨by rfl, ?hy19⟩) hHeld ?rest19
          case hy19 => (intro wz hSw; (try dsimp only at hSw); go_simp; (try with_reducible rfl))
          (try simp only [Act.put, List.getElem_toArray, List.getElem_cons_succ, List.getElem_cons_zero]); (try simp only [List.setIfInBounds_toArray]); (try simp only [List.set_cons_succ]); (try simp only [List.set_cons_zero])
          refine wpAnyH_take (i := 1) (v := ?v20) rfl (by kernel_rfl) (by kernel_rfl) (by kernel_rfl) (fun _ _ _ h => h) (Or.inl ⟨by rfl, ?hy20⟩) hHeld ?rest20
          case hy20 => (intro wz hSw; (try dsimp only at hSw); go_simp; (try with_reducible rfl))
          (try simp only [Act.put, List.getElem_toArray, List.getElem_cons_succ, List.getElem_cons_zero]); (try simp only [List.setIfInBounds_toArray]); (try simp only [List.set_cons_succ]); (try simp only [List.set_cons_zero])
          refine wpAnyH_take (i := 2) (v := ?v21) rfl (by kernel_rfl) (by kernel_rfl) (by kernel_rfl) (fun _ _ _ h => h) (Or.inl ⟨by rfl, ?hy21⟩) hHeld ?rest21
          case hy21 => (intro wz hSw; (try dsimp only at hSw); go_simp; (try with_reducible rfl))
          (try simp only [Act.put, List.getElem_toArray, List.getElem_cons_succ, List.getElem_cons_zero]); (try simp only [List.setIfInBounds_toArray]); (try simp only [List.set_cons_succ]); (try simp only [List.set_cons_zero])
          refine wpAnyH_take (i := 4) (v := ?v22) rfl (by kernel_rfl) (by kernel_rfl) (by kernel_rfl) (fun _ _ _ h => h) (Or.inl ⟨by rfl, ?hy22⟩) hHeld ?rest22
          case hy22 => (intro wz hSw; (try dsimp only at hSw); go_simp; (try with_reducible rfl))
          (try simp only [Act.put, List.getElem_toArray, List.getElem_cons_succ, List.getElem_cons_zero]); (try simp only [List.setIfInBounds_toArray]); (try simp only [List.set_cons_succ]); (try simp only [List.set_cons_zero])
          refine wpAnyH_take (i := 5) (v := ?v23) rfl (by kernel_rfl) (by kernel_rfl) (by kernel_rfl) (fun _ _ _ h => h) (Or.inl ⟨by rfl, ?hy23⟩) hHeld ?rest23
          case hy23 => (intro wz hSw; (try dsimp only at hSw); go_simp; (try with_reducible rfl))
          (try simp only [Act.put, List.getElem_toArray, List.getElem_cons_succ, List.getElem_cons_zero]); (try simp only [List.setIfInBounds_toArray]); (try simp only [List.set_cons_succ]); (try simp only [List.set_cons_zero])
          refine wpAnyH_take (i := 6) (v := ?v24) rfl (by kernel_rfl) (by kernel_rfl) (by kernel_rfl) (fun _ _ _ h => h) (Or.inl ⟨by rfl, ?hy24⟩) hHeld ?rest24
          case hy24 => (intro wz hSw; (try dsimp only at hSw); go_simp; (try with_reducible rfl))
          (try simp only [Act.put, List.getElem_toArray, List.getElem_cons_succ, List.getElem_cons_zero]); (try simp only [List.setIfInBounds_toArray]); (try simp only [List.set_cons_succ]); (try simp only [List.set_cons_zero])
          refine wpAnyH_take (i := 8) (v := ?v25) rfl (by kernel_rfl) (by kernel_rfl) (by kernel_rfl) (fun _ _ _ h => h) (Or.inl ⟨by rfl, ?hy25⟩) hHeld ?rest25
          case hy25 => (intro wz hSw; (try dsimp only at hSw); go_simp; (try with_reducible rfl))
          (try simp only [Act.put, List.getElem_toArray, List.getElem_cons_succ, List.getElem_cons_zero]); (try simp only [List.setIfInBounds_toArray]); (try simp only [List.set_cons_succ]); (try simp only [List.set_cons_zero])
          refine wpAnyH_ready (rs := [3, 7]) (by kernel_rfl) (by simp) ?_
          refine AllReadyH.cons rfl (fun K' hK => ?_) (AllReadyH.cons rfl (fun K' hK => ?_) AllReadyH.nil)
          · skip
            go_simp
            refine hK.out _ _ hHeld (fun hHeld => ?_)
            clear hK
            refine wpAnyH_ready (rs := [7]) (by kernel_rfl) (by simp) ?_
            refine AllReadyH.cons rfl (fun K' hK => ?_) AllReadyH.nil
            go_simp
            refine HCALL.out.mono ?_
            rintro e w2 ⟨rfl, hE⟩
            dsimp only
            obtain ⟨c2, f2⟩ := HC2.out w2 hE
            refine hK.out _ _ (keptC_call hHeld hE) (fun hHeld => ?_)
            clear hK
            refine wpAnyH_take (i := 9) (v := ?v26) rfl (by kernel_rfl) (by kernel_rfl) (by kernel_rfl) (fun _ _ _ h => h) (Or.inl ⟨by rfl, ?hy26⟩) hHeld ?rest26
            case hy26 => (intro wz hSw; (try dsimp only at hSw); go_simp; (try with_reducible rfl))
            (try simp only [Act.put, List.getElem_toArray, List.getElem_cons_succ, List.getElem_cons_zero]); (try simp only [List.setIfInBounds_toArray]); (try simp only [List.set_cons_succ]); (try simp only [List.set_cons_zero])
            refine wpAnyH_take (i := 10) (v := ?v27) rfl (by kernel_rfl) (by kernel_rfl) (by kernel_rfl) (fun _ _ _ h => h) (Or.inl ⟨by rfl, ?hy27⟩) hHeld ?rest27
            case hy27 => (intro wz hSw; (try dsimp only at hSw); go_simp; (try with_reducible rfl))
            (try simp only [Act.put, List.getElem_toArray, List.getElem_cons_succ, List.getElem_cons_zero]); (try simp only [List.setIfInBounds_toArray]); (try simp only [List.set_cons_succ]); (try simp only [List.set_cons_zero])
            refine wpAnyH_take (i := 11) (v := ?v28) rfl (by kernel_rfl) (by kernel_rfl) (by kernel_rfl) (fun _ _ _ h => h) (Or.inl ⟨by rfl, ?hy28⟩) hHeld ?rest28
            case hy28 => (intro wz hSw; (try dsimp only at hSw); go_simp; (try with_reducible rfl))
            (try simp only [Act.put, List.getElem_toArray, List.getElem_cons_succ, List.getElem_cons_zero]); (try simp only [List.setIfInBounds_toArray]); (try simp only [List.set_cons_succ]); (try simp only [List.set_cons_zero])
            refine wpAnyH_ready (rs := [12]) (by kernel_rfl) (by simp) ?_
            refine AllReadyH.cons rfl (fun K' hK => ?_) AllReadyH.nil
            go_simp
            refine hK.out _ _ (keptC_set hHeld _ _) (fun hHeld => ?_)
            refine wpAnyH_done (by kernel_rfl) ?_ _
            go_wp2
            exact ⟨⟨j + 1, by omega, by simp, HNl.out _ hE⟩, by simp [intOf]; omega⟩
          · skip
            go_simp
            refine HCALL.out.mono ?_
            rintro e w2 ⟨rfl, hE⟩
            dsimp only
            obtain ⟨c2, f2⟩ := HC2.out w2 hE
            refine hK.out _ _ (keptC_call hHeld hE) (fun hHeld => ?_)
            clear hK
            refine wpAnyH_take (i := 9) (v := ?v29) rfl (by kernel_rfl) (by kernel_rfl) (by kernel_rfl) (fun _ _ _ h => h) (Or.inl ⟨by rfl, ?hy29⟩) hHeld ?rest29
            case hy29 => (intro wz hSw; (try dsimp only at hSw); go_simp; (try with_reducible rfl))
            (try simp only [Act.put, List.getElem_toArray, List.getElem_cons_succ, List.getElem_cons_zero]); (try simp only [List.setIfInBounds_toArray]); (try simp only [List.set_cons_succ]); (try simp only [List.set_cons_zero])
            refine wpAnyH_ready (rs := [3]) (by kernel_rfl) (by simp) ?_
            refine AllReadyH.cons rfl (fun K' hK => ?_) AllReadyH.nil
            go_simp
            refine hK.out _ _ hHeld (fun hHeld => ?_)
            clear hK
            refine wpAnyH_take (i := 10) (v := ?v30) rfl (by kernel_rfl) (by kernel_rfl) (by kernel_rfl) (fun _ _ _ h => h) (Or.inl ⟨by rfl, ?hy30⟩) hHeld ?rest30
            case hy30 => (intro wz hSw; (try dsimp only at hSw); go_simp; (try with_reducible rfl))
            (try simp only [Act.put, List.getElem_toArray, List.getElem_cons_succ, List.getElem_cons_zero]); (try simp only [List.setIfInBounds_toArray]); (try simp only [List.set_cons_succ]); (try simp only [List.set_cons_zero])
            refine wpAnyH_take (i := 11) (v := ?v31) rfl (by kernel_rfl) (by kernel_rfl) (by kernel_rfl) (fun _ _ _ h => h) (Or.inl ⟨by rfl, ?hy31⟩) hHeld ?rest31
            case hy31 => (intro wz hSw; (try dsimp only at hSw); go_simp; (try with_reducible rfl))
            (try simp only [Act.put, List.getElem_toArray, List.getElem_cons_succ, List.getElem_cons_zero]); (try simp only [List.setIfInBounds_toArray]); (try simp only [List.set_cons_succ]); (try simp only [List.set_cons_zero])
            refine wpAnyH_ready (rs := [12]) (by kernel_rfl) (by simp) ?_
            refine AllReadyH.cons rfl (fun K' hK => ?_) AllReadyH.nil
            go_simp
            refine hK.out _ _ (keptC_set hHeld _ _) (fun hHeld => ?_)
            refine wpAnyH_done (by kernel_rfl) ?_ _
            go_wp2
            exact ⟨⟨j + 1, by omega, by simp, HNl.out _ hE⟩, by simp [intOf]; omega⟩
        · obtain rfl : j = m := by omega
          have L2 : Hid (Loc w wr B w.heap.size [.int .i64 (j : Nat), .slice (some ⟨da, od, none⟩) n cD, v2, v3] (wgP xs ys j (i + 1) 0)) := by rw [← wgP_row]; exact L
          go_wp2
          exact ⟨⟨i + 1, by omega, by simp, L2⟩, by simp [intOf]; omega⟩
    · obtain rfl : i = m := by omega
      have L2 : Hid (Loc w wr B w.heap.size [.int .i64 (i : Nat), .slice (some ⟨da, od, none⟩) n cD, v2, v3] (wgL xs ys i)) := by rw [← wgP_done]; exact L
      go_wp2
      go_ret
      exact ⟨_, rfl, L2.out.lo, L2.out.lt, L2.out.has, L2.out.ext⟩
end Go.Proofs.YtlnpaplbcocmkaaGreat
