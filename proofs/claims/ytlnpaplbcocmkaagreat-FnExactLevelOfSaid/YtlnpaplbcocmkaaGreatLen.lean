/-
  The lengths of rows, as the specification spreads them.
-/
import Derived.Test.YtlnpaplbcocmkaaGreatWgt
import Derived.Test.YtlnpaplbcocmkaaGreatLnz
import Derived.Test.YtlnpaplbcocmkaaGreatPrt
namespace Go.Proofs.YtlnpaplbcocmkaaGreat
open Go.ChangeShapes Go.WideShapes Go.ChangeAt Go.RowKit
set_option linter.unusedVariables false
set_option linter.unusedSimpArgs false

theorem lnJ_length (xs : List Int) (R r : Nat) (d : List Int) : ∀ j, (lnJ xs R r d j).length = d.length
  | 0 => rfl
  | j + 1 => by rw [lnJ]; split <;> simp [lnJ_length xs R r d j]
theorem lnK_length (xs : List Int) (R : Nat) (rows : List Nat) (d : List Int) : ∀ k, (lnK xs R rows d k).1.length = d.length
  | 0 => rfl
  | k + 1 => by rw [lnK]; simp only [lnJ_length]; exact lnK_length xs R rows d k
theorem lnD_length (rows : List Nat) (l : Int) (d : List Int) : ∀ k, (lnD rows l d k).length = d.length
  | 0 => rfl
  | k + 1 => by rw [lnD, List.length_set]; exact lnD_length rows l d k
theorem lnS_length (xs : List Int) (R : Nat) : ∀ i, (lnS xs R i).length = R
  | 0 => by simp [lnS]
  | i + 1 => by
    rw [lnS]
    split
    · rw [lnD_length, lnK_length, List.length_set]; exact lnS_length xs R i
    · exact lnS_length xs R i
/-- What a drawn region keeps that writes one block, and does not write one of its cells. -/
theorem keptD_call {w w1 w2 : World} {b r : Nat} {u : Value} (h : (w.grownBy w1 (some b) ∧ ∀ B o, B ≠ b → B < w.heap.size → w1.cell? ⟨B, o, none⟩ = w.cell? ⟨B, o, none⟩) ∧ w1.cell? ⟨b, r, none⟩ = some u) (hb : b < w.heap.size) (hE : Ext w1 w2) : (w.grownBy w2 (some b) ∧ ∀ B o, B ≠ b → B < w.heap.size → w2.cell? ⟨B, o, none⟩ = w.cell? ⟨B, o, none⟩) ∧ w2.cell? ⟨b, r, none⟩ = some u :=
  ⟨keptC_call h.1 hE, (hE.cells b r (Nat.lt_of_lt_of_le hb h.1.1.size)).trans h.2⟩
theorem keptD_set {w w1 : World} {b r : Nat} {u : Value} (h : (w.grownBy w1 (some b) ∧ ∀ B o, B ≠ b → B < w.heap.size → w1.cell? ⟨B, o, none⟩ = w.cell? ⟨B, o, none⟩) ∧ w1.cell? ⟨b, r, none⟩ = some u) (j : Nat) (hj : j ≠ r) (v : Value) : (w.grownBy (w1.setCell ⟨b, j, none⟩ v) (some b) ∧ ∀ B o, B ≠ b → B < w.heap.size → (w1.setCell ⟨b, j, none⟩ v).cell? ⟨B, o, none⟩ = w.cell? ⟨B, o, none⟩) ∧ (w1.setCell ⟨b, j, none⟩ v).cell? ⟨b, r, none⟩ = some u :=
  ⟨keptC_set h.1 j v, (World.cell?_setCell_other _ _ _ _ (by intro e; injection e with _ e2; exact hj e2)).trans h.2⟩

set_option maxRecDepth 100000 in
set_option maxHeartbeats 12800000 in
theorem l5Lengths_spec (R da od n cD : Nat) (xs ls : List Int) (w : World) (hr : Reads w (some ⟨da, od, none⟩) n xs) (hn : n = R * R) (hR0 : 1 ≤ R) (hR : R ≤ 4) (hok : LenOk xs ls R) :
    Calls Tryz.prog 180 #[.agg #[.int .i64 (R : Nat), .slice (some ⟨da, od, none⟩) n cD]] w fun e w' => ∃ b, e = .returned (.slice (some ⟨b, 0, none⟩) R R) ∧ w.heap.size ≤ b ∧ b < w'.heap.size ∧ Has w' b ls ∧ Ext w w' := by
  have HN := Lib.hid hn
  have HR := Lib.hid hr
  have HOK := Lib.hid hok
  have HSY := Lib.hid (rngB_sym hok.rng)
  have HCN := Lib.hid (conn_bx xs R hR)
  have hmk := make_ints R (by omega)
  have L0 : Hid (Loc w ((w.alloc (.cells #[.int .i64 (R : Nat), .slice (some ⟨da, od, none⟩) n cD] 27)).alloc (.cells (ints (List.replicate R 0)) 3)) w.heap.size (w.heap.size + 1) [.int .i64 (R : Nat), .slice (some ⟨da, od, none⟩) n cD] (lnS xs R 0)) :=
    ⟨(cells_new w #[.int .i64 (R : Nat), .slice (some ⟨da, od, none⟩) n cD] 27).ext ((Ext.refl _).alloc _), Has.new' _ _ _ (by simp), ((Ext.refl w).alloc _).alloc _, by omega, by simp, by omega⟩
  clear hr hn hok
  go_enter Tryz.func180, Tryz.ntmps180
  go_wp2_with fail
  clear hmk
  go_loopw [4, 5, 6, 7, 8, 9] (fun z _ _ _ _ _ wr => ∃ i : Nat, i ≤ R ∧ z = .int .i64 i ∧ Hid (Loc w wr w.heap.size (w.heap.size + 1) [.int .i64 (R : Nat), .slice (some ⟨da, od, none⟩) n cD] (lnS xs R i))) (fun z _ _ _ _ _ _ => R - (intOf z).toNat)
  case atStart => exact ⟨0, by omega, rfl, L0⟩
  case round =>
    obtain ⟨i, hi, rfl, L⟩ := hrel
    have lB := L.out.box.1
    have q0 := L.out.box.2 0 _ rfl
    by_cases hlt : i < R
    · have hll := lnS_length xs R i
      have c1 := L.out.has.cell i (by rw [hll]; exact hlt)
      have f1 := L.out.has.free i
      have lb := L.out.lt
      have hiI : (i : Int) < (R : Int) := by omega
      by_cases hz : gi (lnS xs R i) i = 0
      · have hzb : (gi (lnS xs R i) i != 0) = false := by rw [hz]; rfl
        have hSucc : Hid (lnS xs R (i + 1) = lnD (conn (bx xs R) R i) (lnK xs R (conn (bx xs R) R i) ((lnS xs R i).set i 6) (conn (bx xs R) R i).length).2 (lnK xs R (conn (bx xs R) R i) ((lnS xs R i).set i 6) (conn (bx xs R) R i).length).1 (conn (bx xs R) R i).length) := by rw [Hid, lnS, if_pos hz]
        have HP := Lib.hid (HOK.out.part i hlt hz)
        have HNZ := Lib.hid (HOK.out.nz i hlt hz)
        have q1 := L.out.box.2 1 _ rfl
        have hDL : Hid (((lnS xs R i).set i 6).length = R) := by rw [Hid, List.length_set, hll]
        have hrl4 : Hid ((conn (bx xs R) R i).length ≤ 4 ∧ ∀ x, x ∈ (conn (bx xs R) R i) → x < R) := ⟨Nat.le_trans (HCN.out.len i hlt) hR, fun x hx => HCN.out.lt i hlt x hx⟩
        have L6 : Hid (∀ w2, Ext wr w2 → Loc w (w2.setCell ⟨(w.heap.size + 1), i, none⟩ (.int .i64 6)) w.heap.size (w.heap.size + 1) [.int .i64 (R : Nat), .slice (some ⟨da, od, none⟩) n cD] ((lnS xs R i).set i 6)) := fun w2 hE => (L.out.step hE).set i (by rw [hll]; exact hlt) 6
        have HCell : Hid (∀ w2, Ext wr w2 → (w.heap.size + 1) < w2.heap.size ∧ (∃ u, w2.cell? ⟨(w.heap.size + 1), i, none⟩ = some u) ∧ w2.frozen? ⟨(w.heap.size + 1), i, none⟩ = false) := fun w2 hE => ⟨(L.out.step hE).lt, ⟨_, (L.out.step hE).has.cell i (by rw [hll]; exact hlt)⟩, (L.out.step hE).has.free i⟩
        clear hz hll
        go_wp2_with fail
        refine (l5Part_spec R da od n cD xs i _ (HR.out.ext L.out.ext) HN.out hR HSY.out hlt).mono ?_
        rintro e w2 ⟨ra, rc, rfl, hO, hSl, hE2⟩
        obtain ⟨lb2, ⟨u2, cu2⟩, fu2⟩ := HCell.out w2 hE2
        have L7 := Lib.hid (L6.out w2 hE2)
        have hO2 := Lib.hid (hO.put (b := (w.heap.size + 1)) (by have := L.out.lt; omega) i (.int .i64 6))
        have hlo : Hid ((w.heap.size + 1) < wr.heap.size) := L.out.lt
        have E2 := Lib.hid hE2
        obtain ⟨rows, hrows⟩ : ∃ rows, (conn (bx xs R) R i) = rows := ⟨_, rfl⟩
        obtain ⟨d0, hd0⟩ : ∃ d0, (lnS xs R i).set i 6 = d0 := ⟨_, rfl⟩
        rw [hd0] at L7 hDL
        rw [hrows] at hO2 hrl4 ⊢
        rw [hrows, hd0] at HP HNZ hSucc
        obtain ⟨rl, hrl⟩ : ∃ rl, rows.length = rl := ⟨_, rfl⟩
        rw [hrl] at hO2 hrl4 HP HNZ hSucc ⊢
        have HRL := Lib.hid hrl
        have hrl5 := hrl4.out.1
        have HRX : Hid (∀ k, k < rl → ni rows k < R ∧ gi (rI rows) k = (ni rows k : Int)) := fun k hk => ⟨hrl4.out.2 _ (by rw [ni, List.getD_eq_getElem?_getD, List.getElem?_eq_getElem (by omega)]; exact List.getElem_mem _), gi_rI rows k⟩
        clear hrows hd0 hrl L L6 HCell hO hSl hE2 lB q0 q1 c1 f1 lb hzb
        go_wp2_with fail
        clear lb2 cu2 fu2
        generalize (w2.setCell ⟨(w.heap.size + 1), i, none⟩ (.int .i64 6)) = w3 at *
        obtain ⟨lo, hlo9⟩ : ∃ lo, wr.heap.size = lo := ⟨_, rfl⟩
        rw [hlo9] at hO2 hlo
        clear E2
        obtain ⟨hi9, hhi9⟩ : ∃ h9, w2.heap.size = h9 := ⟨_, rfl⟩
        rw [hhi9] at hO2
        clear hhi9 hlo9
        go_loopw [7, 6, 8] (fun z y _ wr => ∃ k : Nat, k ≤ rl ∧ z = .int .i64 k ∧ y = .int .i64 (lnK xs R rows d0 k).2 ∧ Hid (Loc w wr w.heap.size (w.heap.size + 1) [.int .i64 (R : Nat), .slice (some ⟨da, od, none⟩) n cD] (lnK xs R rows d0 k).1) ∧ Hid (Own wr lo hi9 ra rl (rI rows))) (fun z _ _ _ => rl - (intOf z).toNat)
        case atStart => exact ⟨0, by omega, rfl, rfl, L7, hO2⟩
        case round =>
          clear L7 hO2
          obtain ⟨k, hk, rfl, rfl, L, hO⟩ := hrel
          by_cases hlt2 : k < rl
          · obtain ⟨hrx1, hrx2⟩ := HRX.out k hlt2
            have HPk := Lib.hid (HP.out k hk)
            have HNk := Lib.hid (HNZ.out k hlt2)
            have hKs : Hid (lnK xs R rows d0 (k + 1) = (lnJ xs R (ni rows k) (lnK xs R rows d0 k).1 R, if gi (lnJ xs R (ni rows k) (lnK xs R rows d0 k).1 R) (ni rows k) < (lnK xs R rows d0 k).2 then gi (lnJ xs R (ni rows k) (lnK xs R rows d0 k).1 R) (ni rows k) else (lnK xs R rows d0 k).2)) := by rw [Hid, lnK]
            have hkl : Hid ((lnK xs R rows d0 k).1.length = R) := by rw [Hid, lnK_length]; exact hDL.out
            obtain ⟨dk, hdk⟩ : ∃ dk, (lnK xs R rows d0 k).1 = dk := ⟨_, rfl⟩
            obtain ⟨lk, hlk⟩ : ∃ lk, (lnK xs R rows d0 k).2 = lk := ⟨_, rfl⟩
            rw [hdk] at L hkl hKs HPk HNk
            rw [hlk] at hKs HPk ⊢
            obtain ⟨r, hrr⟩ : ∃ r, ni rows k = r := ⟨_, rfl⟩
            rw [hrr] at hrx1 hrx2 hKs HPk HNk
            have HRX2 := Lib.hid hrx2
            have hk2 : Hid (lnK xs R rows d0 (k + 1) = (lnJ xs R r dk R, if gi (lnJ xs R r dk R) r < lk then gi (lnJ xs R r dk R) r else lk)) := hKs
            have hJ0 : Hid (lnJ xs R r dk 0 = dk) := rfl
            have hJS : Hid (∀ j, lnJ xs R r dk (j + 1) = if gi (lnJ xs R r dk j) j = 0 ∧ gi xs (r * R + j) ≠ 0 then (lnJ xs R r dk j).set j ((gi (lnJ xs R r dk j) r * gi xs (r * R + j)).tdiv (gi xs (j * R + r))) else lnJ xs R r dk j) := fun j => by rw [lnJ]
            clear hdk hlk hrr hrx2 hKs
            go_wp2_with fail
            obtain ⟨wo, rfl⟩ : ∃ wo : World, wo = wr := ⟨_, rfl⟩
            go_loopw [8] (fun z wr => ∃ j : Nat, j ≤ R ∧ z = .int .i64 j ∧ Hid (Loc w wr w.heap.size (w.heap.size + 1) [.int .i64 (R : Nat), .slice (some ⟨da, od, none⟩) n cD] (lnJ xs R r dk j)) ∧ Hid (Own wr lo hi9 ra rl (rI rows))) (fun z _ => R - (intOf z).toNat)
            case atStart => exact ⟨0, by omega, rfl, L, hO⟩
            case round =>
              clear L hO
              obtain ⟨j, hj, rfl, L, hO⟩ := hrel
              have lB := L.out.box.1
              have q0 := L.out.box.2 0 _ rfl
              have q1 := L.out.box.2 1 _ rfl
              have hjl : Hid ((lnJ xs R r dk j).length = R) := by rw [Hid, lnJ_length]; exact hkl.out
              obtain ⟨rb, hra, hrb, hrlt, hrc⟩ : ∃ rb, ra = some ⟨rb, 0, none⟩ ∧ lo ≤ rb ∧ rb < wr.heap.size ∧ wr.cell? ⟨rb, k, none⟩ = some (.int .i64 (r : Nat)) := by
                rcases hO.out.2 with ⟨_, h⟩ | ⟨rb, h1, h2, h3, h4⟩
                · omega
                · refine ⟨rb, h1, h2, h4.lt, ?_⟩
                  rw [← HRX2.out]
                  exact h4.cell k (by have := hO.out.1; omega)
              subst hra
              by_cases hlt3 : j < R
              · have lb := L.out.lt
                have cj := L.out.has.cell j (by rw [hjl.out]; exact hlt3)
                have hjI : (j : Int) < (R : Int) := by omega
                have hrbn : rb ≠ (w.heap.size + 1) := by have := hlo.out; omega
                have hkI : (k : Int) < (rl : Int) := by omega
                have HCALL : Hid (∀ w1, Ext wr w1 → Calls Tryz.prog 151 #[.agg #[.int .i64 (R : Nat), .slice (some ⟨da, od, none⟩) n cD], .int .i64 (r : Nat), .int .i64 j] w1 fun e w' => e = .returned (.int .i64 (gi xs (r * R + j))) ∧ Ext w1 w') := fun w1 h => l5At_spec R da od n cD xs r j w1 (HR.out.ext (L.out.ext.trans h)) HN.out hR hrx1 hlt3
                have HS := Lib.hid (hJS.out j)
                have HL2 : Hid (∀ w2, Ext wr w2 → Loc w w2 w.heap.size (w.heap.size + 1) [.int .i64 (R : Nat), .slice (some ⟨da, od, none⟩) n cD] (lnJ xs R r dk j)) := fun w2 h => L.out.step h
                have HO2 : Hid (∀ w2, Ext wr w2 → Own w2 lo hi9 (some ⟨rb, 0, none⟩) rl (rI rows)) := fun w2 h => hO.out.ext h
                have HV := Lib.hid ((HPk.out.2.2.2.1 j (by omega)))
                have HV1 := Lib.hid ((HPk.out.2.2.2.1 (j + 1) (by omega)) j)
                have HZR := Lib.hid (HNk.out j (by omega))
                clear L hO
                by_cases hd : gi (lnJ xs R r dk j) j = 0
                · have hdb : (gi (lnJ xs R r dk j) j == 0) = true := by rw [hd]; rfl
                  by_cases he : gi xs (r * R + j) = 0
                  · have heb : (gi xs (r * R + j) != 0) = false := by rw [he]; rfl
                    have HE : Hid (lnJ xs R r dk (j + 1) = (lnJ xs R r dk j)) := by rw [Hid, HS.out, if_neg (fun h => h.2 he)]
                    clear hd he
                    go_wp2_with fail
                    refine wp_region_held_drew (S := (fun w' => Ext wr w' ∧ (∀ b o, b < wr.heap.size → w'.cell? ⟨b, o, none⟩ = wr.cell? ⟨b, o, none⟩))) (by kernel_rfl) (ext2 (Ext.refl wr).drew) (fun hHeld => ?_)
                    refine wpAnyH_take (i := 0) (v := ?v1) rfl (by kernel_rfl) (by kernel_rfl) (by kernel_rfl) (fun _ _ _ h => h) (Or.inl ⟨by rfl, ?hy1⟩) hHeld ?rest1
                    case hy1 => (intro wz hSw; (try dsimp only at hSw); go_simp; (try with_reducible rfl))
                    (try simp only [Act.put, List.getElem_toArray, List.getElem_cons_succ, List.getElem_cons_zero]); (try simp only [List.setIfInBounds_toArray]); (try simp only [List.set_cons_succ]); (try simp only [List.set_cons_zero])
                    refine wpAnyH_take (i := 1) (v := ?v2) rfl (by kernel_rfl) (by kernel_rfl) (by kernel_rfl) (fun _ _ _ h => h) (Or.inl ⟨by rfl, ?hy2⟩) hHeld ?rest2
                    case hy2 => (intro wz hSw; (try dsimp only at hSw); go_simp; (try with_reducible rfl))
                    (try simp only [Act.put, List.getElem_toArray, List.getElem_cons_succ, List.getElem_cons_zero]); (try simp only [List.setIfInBounds_toArray]); (try simp only [List.set_cons_succ]); (try simp only [List.set_cons_zero])
                    refine wpAnyH_take (i := 2) (v := ?v3) rfl (by kernel_rfl) (by kernel_rfl) (by kernel_rfl) (fun _ _ _ h => h) (Or.inl ⟨by rfl, ?hy3⟩) hHeld ?rest3
                    case hy3 => (intro wz hSw; (try dsimp only at hSw); go_simp; (try with_reducible rfl))
                    (try simp only [Act.put, List.getElem_toArray, List.getElem_cons_succ, List.getElem_cons_zero]); (try simp only [List.setIfInBounds_toArray]); (try simp only [List.set_cons_succ]); (try simp only [List.set_cons_zero])
                    refine wpAnyH_take (i := 3) (v := ?v4) rfl (by kernel_rfl) (by kernel_rfl) (by kernel_rfl) (fun _ _ _ h => h) (Or.inl ⟨by rfl, ?hy4⟩) hHeld ?rest4
                    case hy4 => (intro wz hSw; (try dsimp only at hSw); go_simp; (try with_reducible rfl))
                    (try simp only [Act.put, List.getElem_toArray, List.getElem_cons_succ, List.getElem_cons_zero]); (try simp only [List.setIfInBounds_toArray]); (try simp only [List.set_cons_succ]); (try simp only [List.set_cons_zero])
                    refine wpAnyH_take (i := 4) (v := ?v5) rfl (by kernel_rfl) (by kernel_rfl) (by kernel_rfl) (fun _ _ _ h => h) (Or.inl ⟨by rfl, ?hy5⟩) hHeld ?rest5
                    case hy5 => (intro wz hSw; (try dsimp only at hSw); go_simp; (try with_reducible rfl))
                    (try simp only [Act.put, List.getElem_toArray, List.getElem_cons_succ, List.getElem_cons_zero]); (try simp only [List.setIfInBounds_toArray]); (try simp only [List.set_cons_succ]); (try simp only [List.set_cons_zero])
                    refine wpAnyH_take (i := 5) (v := ?v6) rfl (by kernel_rfl) (by kernel_rfl) (by kernel_rfl) (fun _ _ _ h => h) (Or.inl ⟨by rfl, ?hy6⟩) hHeld ?rest6
                    case hy6 => (intro wz hSw; (try dsimp only at hSw); go_simp; (try with_reducible rfl))
                    (try simp only [Act.put, List.getElem_toArray, List.getElem_cons_succ, List.getElem_cons_zero]); (try simp only [List.setIfInBounds_toArray]); (try simp only [List.set_cons_succ]); (try simp only [List.set_cons_zero])
                    refine wpAnyH_take (i := 6) (v := ?v7) rfl (by kernel_rfl) (by kernel_rfl) (by kernel_rfl) (fun _ _ _ h => h) (Or.inl ⟨by rfl, ?hy7⟩) hHeld ?rest7
                    case hy7 => (intro wz hSw; (try dsimp only at hSw); go_simp; (try with_reducible rfl))
                    (try simp only [Act.put, List.getElem_toArray, List.getElem_cons_succ, List.getElem_cons_zero]); (try simp only [List.setIfInBounds_toArray]); (try simp only [List.set_cons_succ]); (try simp only [List.set_cons_zero])
                    refine wpAnyH_take (i := 7) (v := ?v8) rfl (by kernel_rfl) (by kernel_rfl) (by kernel_rfl) (fun _ _ _ h => h) (Or.inl ⟨by rfl, ?hy8⟩) hHeld ?rest8
                    case hy8 => (intro wz hSw; (try dsimp only at hSw); go_simp; (try with_reducible rfl))
                    (try simp only [Act.put, List.getElem_toArray, List.getElem_cons_succ, List.getElem_cons_zero]); (try simp only [List.setIfInBounds_toArray]); (try simp only [List.set_cons_succ]); (try simp only [List.set_cons_zero])
                    refine wpAnyH_take (i := 8) (v := ?v9) rfl (by kernel_rfl) (by kernel_rfl) (by kernel_rfl) (fun _ _ _ h => h) (Or.inl ⟨by rfl, ?hy9⟩) hHeld ?rest9
                    case hy9 => (intro wz hSw; (try dsimp only at hSw); go_simp; (try with_reducible rfl))
                    (try simp only [Act.put, List.getElem_toArray, List.getElem_cons_succ, List.getElem_cons_zero]); (try simp only [List.setIfInBounds_toArray]); (try simp only [List.set_cons_succ]); (try simp only [List.set_cons_zero])
                    refine wpAnyH_take (i := 9) (v := ?v10) rfl (by kernel_rfl) (by kernel_rfl) (by kernel_rfl) (fun _ _ _ h => h) (Or.inl ⟨by rfl, ?hy10⟩) hHeld ?rest10
                    case hy10 => (intro wz hSw; (try dsimp only at hSw); go_simp; (try with_reducible rfl))
                    (try simp only [Act.put, List.getElem_toArray, List.getElem_cons_succ, List.getElem_cons_zero]); (try simp only [List.setIfInBounds_toArray]); (try simp only [List.set_cons_succ]); (try simp only [List.set_cons_zero])
                    refine wpAnyH_take (i := 10) (v := ?v11) rfl (by kernel_rfl) (by kernel_rfl) (by kernel_rfl) (fun _ _ _ h => h) (Or.inl ⟨by rfl, ?hy11⟩) hHeld ?rest11
                    case hy11 => (intro wz hSw; (try dsimp only at hSw); go_simp; (try with_reducible rfl))
                    (try simp only [Act.put, List.getElem_toArray, List.getElem_cons_succ, List.getElem_cons_zero]); (try simp only [List.setIfInBounds_toArray]); (try simp only [List.set_cons_succ]); (try simp only [List.set_cons_zero])
                    refine wpAnyH_take (i := 11) (v := ?v12) rfl (by kernel_rfl) (by kernel_rfl) (by kernel_rfl) (fun _ _ _ h => h) (Or.inl ⟨by rfl, ?hy12⟩) hHeld ?rest12
                    case hy12 => (intro wz hSw; (try dsimp only at hSw); go_simp; (try with_reducible rfl))
                    (try simp only [Act.put, List.getElem_toArray, List.getElem_cons_succ, List.getElem_cons_zero]); (try simp only [List.setIfInBounds_toArray]); (try simp only [List.set_cons_succ]); (try simp only [List.set_cons_zero])
                    refine wpAnyH_ready (rs := [12]) (by kernel_rfl) (by simp) ?_
                    refine AllReadyH.cons rfl (fun K' hK => ?_) AllReadyH.nil
                    go_simp
                    refine (HCALL.out _ (And.left hHeld)).mono ?_
                    rintro e w5 ⟨rfl, hw5⟩
                    have X5 := (And.left hHeld).trans hw5
                    dsimp only
                    refine hK.out _ _ (ext2 X5) (fun hHeld => ?_)
                    clear hK
                    refine wpAnyH_take (i := 13) (v := ?v13) rfl (by kernel_rfl) (by kernel_rfl) (by kernel_rfl) (fun _ _ _ h => h) (Or.inl ⟨by rfl, ?hy13⟩) hHeld ?rest13
                    case hy13 => (intro wz hSw; (try dsimp only at hSw); go_simp; (try with_reducible rfl))
                    (try simp only [Act.put, List.getElem_toArray, List.getElem_cons_succ, List.getElem_cons_zero]); (try simp only [List.setIfInBounds_toArray]); (try simp only [List.set_cons_succ]); (try simp only [List.set_cons_zero])
                    refine wpAnyH_take (i := 14) (v := ?v14) rfl (by kernel_rfl) (by kernel_rfl) (by kernel_rfl) (fun _ _ _ h => h) (Or.inl ⟨by rfl, ?hy14⟩) hHeld ?rest14
                    case hy14 => (intro wz hSw; (try dsimp only at hSw); go_simp; (try with_reducible rfl))
                    (try simp only [Act.put, List.getElem_toArray, List.getElem_cons_succ, List.getElem_cons_zero]); (try simp only [List.setIfInBounds_toArray]); (try simp only [List.set_cons_succ]); (try simp only [List.set_cons_zero])
                    refine wpAnyH_done (by kernel_rfl) ?_ _
                    have X9 := And.left hHeld
                    clear hHeld
                    go_wp2
                    exact ⟨⟨j + 1, by omega, by simp, by rw [HE.out]; exact HL2.out _ X9, HO2.out _ X9⟩, by simp [intOf]; omega⟩
                  · have heb : (gi xs (r * R + j) != 0) = true := by simpa using he
                    have HE : Hid (lnJ xs R r dk (j + 1) = (lnJ xs R r dk j).set j ((gi (lnJ xs R r dk j) r * gi xs (r * R + j)).tdiv (gi xs (j * R + r)))) := by rw [Hid, HS.out, if_pos ⟨hd, he⟩]
                    have hne : Hid (j ≠ r) := fun e => by subst e; exact HZR.out hd
                    have HNE := hne
                    have hy : gi xs (j * R + r) ≠ 0 := fun h => he (HSY.out j r hlt3 hrx1 h)
                    clear hd he
                    go_wp2_with fail
                    refine wp_region_held_drew (S := (fun w' => Ext wr w' ∧ (∀ b o, b < wr.heap.size → w'.cell? ⟨b, o, none⟩ = wr.cell? ⟨b, o, none⟩))) (by kernel_rfl) (ext2 (Ext.refl wr).drew) (fun hHeld => ?_)
                    refine wpAnyH_take (i := 0) (v := ?v15) rfl (by kernel_rfl) (by kernel_rfl) (by kernel_rfl) (fun _ _ _ h => h) (Or.inl ⟨by rfl, ?hy15⟩) hHeld ?rest15
                    case hy15 => (intro wz hSw; (try dsimp only at hSw); go_simp; (try with_reducible rfl))
                    (try simp only [Act.put, List.getElem_toArray, List.getElem_cons_succ, List.getElem_cons_zero]); (try simp only [List.setIfInBounds_toArray]); (try simp only [List.set_cons_succ]); (try simp only [List.set_cons_zero])
                    refine wpAnyH_take (i := 1) (v := ?v16) rfl (by kernel_rfl) (by kernel_rfl) (by kernel_rfl) (fun _ _ _ h => h) (Or.inl ⟨by rfl, ?hy16⟩) hHeld ?rest16
                    case hy16 => (intro wz hSw; (try dsimp only at hSw); go_simp; (try with_reducible rfl))
                    (try simp only [Act.put, List.getElem_toArray, List.getElem_cons_succ, List.getElem_cons_zero]); (try simp only [List.setIfInBounds_toArray]); (try simp only [List.set_cons_succ]); (try simp only [List.set_cons_zero])
                    refine wpAnyH_take (i := 2) (v := ?v17) rfl (by kernel_rfl) (by kernel_rfl) (by kernel_rfl) (fun _ _ _ h => h) (Or.inl ⟨by rfl, ?hy17⟩) hHeld ?rest17
                    case hy17 => (intro wz hSw; (try dsimp only at hSw); go_simp; (try with_reducible rfl))
                    (try simp only [Act.put, List.getElem_toArray, List.getElem_cons_succ, List.getElem_cons_zero]); (try simp only [List.setIfInBounds_toArray]); (try simp only [List.set_cons_succ]); (try simp only [List.set_cons_zero])
                    refine wpAnyH_take (i := 3) (v := ?v18) rfl (by kernel_rfl) (by kernel_rfl) (by kernel_rfl) (fun _ _ _ h => h) (Or.inl ⟨by rfl, ?hy18⟩) hHeld ?rest18
                    case hy18 => (intro wz hSw; (try dsimp only at hSw); go_simp; (try with_reducible rfl))
                    (try simp only [Act.put, List.getElem_toArray, List.getElem_cons_succ, List.getElem_cons_zero]); (try simp only [List.setIfInBounds_toArray]); (try simp only [List.set_cons_succ]); (try simp only [List.set_cons_zero])
                    refine wpAnyH_take (i := 4) (v := ?v19) rfl (by kernel_rfl) (by kernel_rfl) (by kernel_rfl) (fun _ _ _ h => h) (Or.inl ⟨by rfl, ?hy19⟩) hHeld ?rest19
                    case hy19 => (intro wz hSw; (try dsimp only at hSw); go_simp; (try with_reducible rfl))
                    (try simp only [Act.put, List.getElem_toArray, List.getElem_cons_succ, List.getElem_cons_zero]); (try simp only [List.setIfInBounds_toArray]); (try simp only [List.set_cons_succ]); (try simp only [List.set_cons_zero])
                    refine wpAnyH_take (i := 5) (v := ?v20) rfl (by kernel_rfl) (by kernel_rfl) (by kernel_rfl) (fun _ _ _ h => h) (Or.inl ⟨by rfl, ?hy20⟩) hHeld ?rest20
                    case hy20 => (intro wz hSw; (try dsimp only at hSw); go_simp; (try with_reducible rfl))
                    (try simp only [Act.put, List.getElem_toArray, List.getElem_cons_succ, List.getElem_cons_zero]); (try simp only [List.setIfInBounds_toArray]); (try simp only [List.set_cons_succ]); (try simp only [List.set_cons_zero])
                    refine wpAnyH_take (i := 6) (v := ?v21) rfl (by kernel_rfl) (by kernel_rfl) (by kernel_rfl) (fun _ _ _ h => h) (Or.inl ⟨by rfl, ?hy21⟩) hHeld ?rest21
                    case hy21 => (intro wz hSw; (try dsimp only at hSw); go_simp; (try with_reducible rfl))
                    (try simp only [Act.put, List.getElem_toArray, List.getElem_cons_succ, List.getElem_cons_zero]); (try simp only [List.setIfInBounds_toArray]); (try simp only [List.set_cons_succ]); (try simp only [List.set_cons_zero])
                    refine wpAnyH_take (i := 7) (v := ?v22) rfl (by kernel_rfl) (by kernel_rfl) (by kernel_rfl) (fun _ _ _ h => h) (Or.inl ⟨by rfl, ?hy22⟩) hHeld ?rest22
                    case hy22 => (intro wz hSw; (try dsimp only at hSw); go_simp; (try with_reducible rfl))
                    (try simp only [Act.put, List.getElem_toArray, List.getElem_cons_succ, List.getElem_cons_zero]); (try simp only [List.setIfInBounds_toArray]); (try simp only [List.set_cons_succ]); (try simp only [List.set_cons_zero])
                    refine wpAnyH_take (i := 8) (v := ?v23) rfl (by kernel_rfl) (by kernel_rfl) (by kernel_rfl) (fun _ _ _ h => h) (Or.inl ⟨by rfl, ?hy23⟩) hHeld ?rest23
                    case hy23 => (intro wz hSw; (try dsimp only at hSw); go_simp; (try with_reducible rfl))
                    (try simp only [Act.put, List.getElem_toArray, List.getElem_cons_succ, List.getElem_cons_zero]); (try simp only [List.setIfInBounds_toArray]); (try simp only [List.set_cons_succ]); (try simp only [List.set_cons_zero])
                    refine wpAnyH_take (i := 9) (v := ?v24) rfl (by kernel_rfl) (by kernel_rfl) (by kernel_rfl) (fun _ _ _ h => h) (Or.inl ⟨by rfl, ?hy24⟩) hHeld ?rest24
                    case hy24 => (intro wz hSw; (try dsimp only at hSw); go_simp; (try with_reducible rfl))
                    (try simp only [Act.put, List.getElem_toArray, List.getElem_cons_succ, List.getElem_cons_zero]); (try simp only [List.setIfInBounds_toArray]); (try simp only [List.set_cons_succ]); (try simp only [List.set_cons_zero])
                    refine wpAnyH_take (i := 10) (v := ?v25) rfl (by kernel_rfl) (by kernel_rfl) (by kernel_rfl) (fun _ _ _ h => h) (Or.inl ⟨by rfl, ?hy25⟩) hHeld ?rest25
                    case hy25 => (intro wz hSw; (try dsimp only at hSw); go_simp; (try with_reducible rfl))
                    (try simp only [Act.put, List.getElem_toArray, List.getElem_cons_succ, List.getElem_cons_zero]); (try simp only [List.setIfInBounds_toArray]); (try simp only [List.set_cons_succ]); (try simp only [List.set_cons_zero])
                    refine wpAnyH_take (i := 11) (v := ?v26) rfl (by kernel_rfl) (by kernel_rfl) (by kernel_rfl) (fun _ _ _ h => h) (Or.inl ⟨by rfl, ?hy26⟩) hHeld ?rest26
                    case hy26 => (intro wz hSw; (try dsimp only at hSw); go_simp; (try with_reducible rfl))
                    (try simp only [Act.put, List.getElem_toArray, List.getElem_cons_succ, List.getElem_cons_zero]); (try simp only [List.setIfInBounds_toArray]); (try simp only [List.set_cons_succ]); (try simp only [List.set_cons_zero])
                    refine wpAnyH_ready (rs := [12]) (by kernel_rfl) (by simp) ?_
                    refine AllReadyH.cons rfl (fun K' hK => ?_) AllReadyH.nil
                    go_simp
                    refine (HCALL.out _ (And.left hHeld)).mono ?_
                    rintro e w5 ⟨rfl, hw5⟩
                    have X5 := (And.left hHeld).trans hw5
                    dsimp only
                    refine hK.out _ _ (ext2 X5) (fun hHeld => ?_)
                    clear hK
                    refine wpAnyH_take (i := 13) (v := ?v27) rfl (by kernel_rfl) (by kernel_rfl) (by kernel_rfl) (fun _ _ _ h => h) (Or.inl ⟨by rfl, ?hy27⟩) hHeld ?rest27
                    case hy27 => (intro wz hSw; (try dsimp only at hSw); go_simp; (try with_reducible rfl))
                    (try simp only [Act.put, List.getElem_toArray, List.getElem_cons_succ, List.getElem_cons_zero]); (try simp only [List.setIfInBounds_toArray]); (try simp only [List.set_cons_succ]); (try simp only [List.set_cons_zero])
                    refine wpAnyH_take (i := 14) (v := ?v28) rfl (by kernel_rfl) (by kernel_rfl) (by kernel_rfl) (fun _ _ _ h => h) (Or.inl ⟨by rfl, ?hy28⟩) hHeld ?rest28
                    case hy28 => (intro wz hSw; (try dsimp only at hSw); go_simp; (try with_reducible rfl))
                    (try simp only [Act.put, List.getElem_toArray, List.getElem_cons_succ, List.getElem_cons_zero]); (try simp only [List.setIfInBounds_toArray]); (try simp only [List.set_cons_succ]); (try simp only [List.set_cons_zero])
                    refine wpAnyH_done (by kernel_rfl) ?_ _
                    have X9 := And.left hHeld
                    clear hHeld
                    have L5 := Lib.hid (HL2.out _ X9)
                    have O5 := Lib.hid (HO2.out _ X9)
                    have Xr := X9.cells rb k hrlt
                    rw [hrc] at Xr
                    have hrl5 := Nat.lt_of_lt_of_le hrlt X9.le
                    clear HL2 HO2 HCALL lB q0 q1 lb cj hrc hrlt hw5 X5 hdb heb
                    obtain ⟨w9, hw9⟩ : ∃ w9 : World, w9 = w5 := ⟨_, rfl⟩
                    have lB := L5.out.box.1
                    have q0 := L5.out.box.2 0 _ rfl
                    have q1 := L5.out.box.2 1 _ rfl
                    have lb5 := L5.out.lt
                    have cr5 : w5.drew.cell? ⟨(w.heap.size + 1), r, none⟩ = some (.int .i64 (gi (lnJ xs R r dk j) r)) := L5.out.has.cell r (by rw [hjl.out]; exact hrx1)
                    have HC7 : Hid (∀ w2, Ext w5.drew w2 → w2.cell? ⟨(w.heap.size + 1), j, none⟩ = some (.int .i64 (gi (lnJ xs R r dk j) j)) ∧ w2.frozen? ⟨(w.heap.size + 1), j, none⟩ = false) := fun w2 h => ⟨((L5.out.step (Ext.refl _).drew).step h).has.cell j (by rw [hjl.out]; exact hlt3), ((L5.out.step (Ext.refl _).drew).step h).has.free j⟩
                    have HA6 : Hid (Calls Tryz.prog 151 #[.agg #[.int .i64 (R : Nat), .slice (some ⟨da, od, none⟩) n cD], .int .i64 (r : Nat), .int .i64 j] w5.drew fun e w' => e = .returned (.int .i64 (gi xs (r * R + j))) ∧ Ext w5.drew w') := l5At_spec R da od n cD xs r j _ (HR.out.ext (L5.out.ext.trans (Ext.refl _).drew)) HN.out hR hrx1 hlt3
                    have HA7 : Hid (∀ w1, Ext w5.drew w1 → Calls Tryz.prog 151 #[.agg #[.int .i64 (R : Nat), .slice (some ⟨da, od, none⟩) n cD], .int .i64 j, .int .i64 (r : Nat)] w1 fun e w' => e = .returned (.int .i64 (gi xs (j * R + r))) ∧ Ext w1 w') := fun w1 h => l5At_spec R da od n cD xs j r w1 (HR.out.ext ((L5.out.ext.trans (Ext.refl _).drew).trans h)) HN.out hR hlt3 hrx1
                    have HL9 : Hid (∀ w2, Ext w5.drew w2 → Loc w (w2.setCell ⟨(w.heap.size + 1), j, none⟩ (.int .i64 ((gi (lnJ xs R r dk j) r * gi xs (r * R + j)).tdiv (gi xs (j * R + r))))) w.heap.size (w.heap.size + 1) [.int .i64 (R : Nat), .slice (some ⟨da, od, none⟩) n cD] (lnJ xs R r dk (j + 1))) := fun w2 h => by
                      rw [HE.out]
                      exact ((L5.out.step (Ext.refl _).drew).step h).set j (by rw [hjl.out]; exact hlt3) _
                    have HO9 : Hid (∀ w2, Ext w5.drew w2 → ∀ v, Own (w2.setCell ⟨(w.heap.size + 1), j, none⟩ v) lo hi9 (some ⟨rb, 0, none⟩) rl (rI rows)) := fun w2 h v => ((O5.out.ext (Ext.refl _).drew).ext h).put hlo.out j v
                    have hq := HV1.out
                    rw [HE.out, show gi ((lnJ xs R r dk j).set j ((gi (lnJ xs R r dk j) r * gi xs (r * R + j)).tdiv (gi xs (j * R + r)))) j = (gi (lnJ xs R r dk j) r * gi xs (r * R + j)).tdiv (gi xs (j * R + r)) by rw [gi_set]; exact if_pos ⟨rfl, by rw [hjl.out]; exact hlt3⟩] at hq
                    have hdr := HV.out r
                    have hxb := HOK.out.xb (r * R + j)
                    have hmb := mul_bnd hdr.1 hdr.2 hxb.1 hxb.2
                    obtain ⟨dr, hdr9⟩ : ∃ dr, gi (lnJ xs R r dk j) r = dr := ⟨_, rfl⟩
                    obtain ⟨xx, hxx9⟩ : ∃ xx, gi xs (r * R + j) = xx := ⟨_, rfl⟩
                    obtain ⟨yy, hyy9⟩ : ∃ yy, gi xs (j * R + r) = yy := ⟨_, rfl⟩
                    rw [hyy9] at HA7 HL9 hq hy
                    rw [hxx9] at HA6 HL9 hq hmb
                    rw [hdr9] at cr5 HL9 hq hmb
                    have v1 : IntKind.i64.wrap (dr * xx) = dr * xx := IntWalk.i64_in _ ⟨by omega, by omega⟩
                    have v2 : IntKind.i64.wrap ((dr * xx).tdiv yy) = (dr * xx).tdiv yy := IntWalk.i64_in _ ⟨by omega, by omega⟩
                    have v3 : (yy = 0) = False := eq_false hy
                    clear hdr9 hxx9 hyy9 hdr hxb hmb hq hw9 HV HV1 HZR L5 O5 hy HE HS
                    go_wp2_with fail
                    refine wp_region_held_drew (S := (fun w' => (w5.grownBy w' (some (w.heap.size + 1)) ∧ ∀ B o, B ≠ (w.heap.size + 1) → B < w5.heap.size → w'.cell? ⟨B, o, none⟩ = w5.cell? ⟨B, o, none⟩) ∧ w'.cell? ⟨(w.heap.size + 1), r, none⟩ = some (.int .i64 dr))) (by kernel_rfl) ⟨keptC_drew, cr5⟩ (fun hHeld => ?_)
                    refine wpAnyH_take (i := 0) (v := ?v29) rfl (by kernel_rfl) (by kernel_rfl) (by kernel_rfl) (fun _ _ _ h => h) (Or.inl ⟨by rfl, ?hy29⟩) hHeld ?rest29
                    case hy29 => (intro wz hSw; (try dsimp only at hSw); go_simp; (try with_reducible rfl))
                    (try simp only [Act.put, List.getElem_toArray, List.getElem_cons_succ, List.getElem_cons_zero]); (try simp only [List.setIfInBounds_toArray]); (try simp only [List.set_cons_succ]); (try simp only [List.set_cons_zero])
                    refine wpAnyH_take (i := 1) (v := ?v30) rfl (by kernel_rfl) (by kernel_rfl) (by kernel_rfl) (fun _ _ _ h => h) (Or.inl ⟨by rfl, ?hy30⟩) hHeld ?rest30
                    case hy30 => (intro wz hSw; (try dsimp only at hSw); go_simp; (try with_reducible rfl))
                    (try simp only [Act.put, List.getElem_toArray, List.getElem_cons_succ, List.getElem_cons_zero]); (try simp only [List.setIfInBounds_toArray]); (try simp only [List.set_cons_succ]); (try simp only [List.set_cons_zero])
                    refine wpAnyH_take (i := 2) (v := ?v31) rfl (by kernel_rfl) (by kernel_rfl) (by kernel_rfl) (fun _ _ _ h => h) (Or.inl ⟨by rfl, ?hy31⟩) hHeld ?rest31
                    case hy31 => (intro wz hSw; (try dsimp only at hSw); go_simp; (try with_reducible rfl))
                    (try simp only [Act.put, List.getElem_toArray, List.getElem_cons_succ, List.getElem_cons_zero]); (try simp only [List.setIfInBounds_toArray]); (try simp only [List.set_cons_succ]); (try simp only [List.set_cons_zero])
                    refine wpAnyH_take (i := 3) (v := ?v32) rfl (by kernel_rfl) (by kernel_rfl) (by kernel_rfl) (fun _ _ _ h => h) (Or.inl ⟨by rfl, ?hy32⟩) hHeld ?rest32
                    case hy32 => (intro wz hSw; (try dsimp only at hSw); go_simp; (try with_reducible rfl))
                    (try simp only [Act.put, List.getElem_toArray, List.getElem_cons_succ, List.getElem_cons_zero]); (try simp only [List.setIfInBounds_toArray]); (try simp only [List.set_cons_succ]); (try simp only [List.set_cons_zero])
                    refine wpAnyH_take (i := 4) (v := ?v33) rfl (by kernel_rfl) (by kernel_rfl) (by kernel_rfl) (fun _ _ _ h => h) (Or.inl ⟨by rfl, ?hy33⟩) hHeld ?rest33
                    case hy33 => (intro wz hSw; (try dsimp only at hSw); go_simp; (try with_reducible rfl))
                    (try simp only [Act.put, List.getElem_toArray, List.getElem_cons_succ, List.getElem_cons_zero]); (try simp only [List.setIfInBounds_toArray]); (try simp only [List.set_cons_succ]); (try simp only [List.set_cons_zero])
                    refine wpAnyH_take (i := 5) (v := ?v34) rfl (by kernel_rfl) (by kernel_rfl) (by kernel_rfl) (fun _ _ _ h => h) (Or.inl ⟨by rfl, ?hy34⟩) hHeld ?rest34
                    case hy34 => (intro wz hSw; (try dsimp only at hSw); go_simp; (try with_reducible rfl))
                    (try simp only [Act.put, List.getElem_toArray, List.getElem_cons_succ, List.getElem_cons_zero]); (try simp only [List.setIfInBounds_toArray]); (try simp only [List.set_cons_succ]); (try simp only [List.set_cons_zero])
                    refine wpAnyH_take (i := 6) (v := ?v35) rfl (by kernel_rfl) (by kernel_rfl) (by kernel_rfl) (fun _ _ _ h => h) (Or.inl ⟨by rfl, ?hy35⟩) hHeld ?rest35
                    case hy35 => (intro wz hSw; (try dsimp only at hSw); go_simp; (try with_reducible rfl))
                    (try simp only [Act.put, List.getElem_toArray, List.getElem_cons_succ, List.getElem_cons_zero]); (try simp only [List.setIfInBounds_toArray]); (try simp only [List.set_cons_succ]); (try simp only [List.set_cons_zero])
                    refine wpAnyH_take (i := 7) (v := ?v36) rfl (by kernel_rfl) (by kernel_rfl) (by kernel_rfl) (fun _ _ _ h => h) (Or.inl ⟨by rfl, ?hy36⟩) hHeld ?rest36
                    case hy36 => (intro wz hSw; (try dsimp only at hSw); go_simp; (try with_reducible rfl))
                    (try simp only [Act.put, List.getElem_toArray, List.getElem_cons_succ, List.getElem_cons_zero]); (try simp only [List.setIfInBounds_toArray]); (try simp only [List.set_cons_succ]); (try simp only [List.set_cons_zero])
                    refine wpAnyH_take (i := 8) (v := ?v37) rfl (by kernel_rfl) (by kernel_rfl) (by kernel_rfl) (fun _ _ _ h => h) (Or.inl ⟨by rfl, ?hy37⟩) hHeld ?rest37
                    case hy37 => (intro wz hSw; (try dsimp only at hSw); go_simp; (try with_reducible rfl))
                    (try simp only [Act.put, List.getElem_toArray, List.getElem_cons_succ, List.getElem_cons_zero]); (try simp only [List.setIfInBounds_toArray]); (try simp only [List.set_cons_succ]); (try simp only [List.set_cons_zero])
                    refine wpAnyH_take (i := 9) (v := ?v38) rfl (by kernel_rfl) (by kernel_rfl) (by kernel_rfl) (fun _ _ _ h => h) (Or.inl ⟨by rfl, ?hy38⟩) hHeld ?rest38
                    case hy38 => (intro wz hSw; (try dsimp only at hSw); go_simp; (try with_reducible rfl))
                    (try simp only [Act.put, List.getElem_toArray, List.getElem_cons_succ, List.getElem_cons_zero]); (try simp only [List.setIfInBounds_toArray]); (try simp only [List.set_cons_succ]); (try simp only [List.set_cons_zero])
                    refine wpAnyH_take (i := 10) (v := ?v39) rfl (by kernel_rfl) (by kernel_rfl) (by kernel_rfl) (fun _ _ _ h => h) (Or.inl ⟨by rfl, ?hy39⟩) hHeld ?rest39
                    case hy39 => (intro wz hSw; (try dsimp only at hSw); go_simp; (try with_reducible rfl))
                    (try simp only [Act.put, List.getElem_toArray, List.getElem_cons_succ, List.getElem_cons_zero]); (try simp only [List.setIfInBounds_toArray]); (try simp only [List.set_cons_succ]); (try simp only [List.set_cons_zero])
                    refine wpAnyH_take (i := 11) (v := ?v40) rfl (by kernel_rfl) (by kernel_rfl) (by kernel_rfl) (fun _ _ _ h => h) (Or.inl ⟨by rfl, ?hy40⟩) hHeld ?rest40
                    case hy40 => (intro wz hSw; (try dsimp only at hSw); go_simp; (try with_reducible rfl))
                    (try simp only [Act.put, List.getElem_toArray, List.getElem_cons_succ, List.getElem_cons_zero]); (try simp only [List.setIfInBounds_toArray]); (try simp only [List.set_cons_succ]); (try simp only [List.set_cons_zero])
                    refine wpAnyH_take (i := 12) (v := ?v41) rfl (by kernel_rfl) (by kernel_rfl) (by kernel_rfl) (fun _ _ _ h => h) (Or.inl ⟨by rfl, ?hy41⟩) hHeld ?rest41
                    case hy41 => (intro wz hSw; (try dsimp only at hSw); go_simp; (try with_reducible rfl))
                    (try simp only [Act.put, List.getElem_toArray, List.getElem_cons_succ, List.getElem_cons_zero]); (try simp only [List.setIfInBounds_toArray]); (try simp only [List.set_cons_succ]); (try simp only [List.set_cons_zero])
                    refine wpAnyH_take (i := 13) (v := ?v42) rfl (by kernel_rfl) (by kernel_rfl) (by kernel_rfl) (fun _ _ _ h => h) (Or.inl ⟨by rfl, ?hy42⟩) hHeld ?rest42
                    case hy42 => (intro wz hSw; (try dsimp only at hSw); go_simp; (try with_reducible rfl))
                    (try simp only [Act.put, List.getElem_toArray, List.getElem_cons_succ, List.getElem_cons_zero]); (try simp only [List.setIfInBounds_toArray]); (try simp only [List.set_cons_succ]); (try simp only [List.set_cons_zero])
                    refine wpAnyH_take (i := 14) (v := ?v43) rfl (by kernel_rfl) (by kernel_rfl) (by kernel_rfl) (fun _ _ _ h => h) (Or.inl ⟨by rfl, ?hy43⟩) hHeld ?rest43
                    case hy43 => (intro wz hSw; (try dsimp only at hSw); go_simp; (try with_reducible rfl))
                    (try simp only [Act.put, List.getElem_toArray, List.getElem_cons_succ, List.getElem_cons_zero]); (try simp only [List.setIfInBounds_toArray]); (try simp only [List.set_cons_succ]); (try simp only [List.set_cons_zero])
                    refine wpAnyH_take (i := 17) (v := ?v44) rfl (by kernel_rfl) (by kernel_rfl) (by kernel_rfl) (fun _ _ _ h => h) (Or.inl ⟨by rfl, ?hy44⟩) hHeld ?rest44
                    case hy44 => (intro wz hSw; (try dsimp only at hSw); go_simp; (try with_reducible rfl))
                    (try simp only [Act.put, List.getElem_toArray, List.getElem_cons_succ, List.getElem_cons_zero]); (try simp only [List.setIfInBounds_toArray]); (try simp only [List.set_cons_succ]); (try simp only [List.set_cons_zero])
                    refine wpAnyH_take (i := 18) (v := ?v45) rfl (by kernel_rfl) (by kernel_rfl) (by kernel_rfl) (fun _ _ _ h => h) (Or.inl ⟨by rfl, ?hy45⟩) hHeld ?rest45
                    case hy45 => (intro wz hSw; (try dsimp only at hSw); go_simp; (try with_reducible rfl))
                    (try simp only [Act.put, List.getElem_toArray, List.getElem_cons_succ, List.getElem_cons_zero]); (try simp only [List.setIfInBounds_toArray]); (try simp only [List.set_cons_succ]); (try simp only [List.set_cons_zero])
                    refine wpAnyH_take (i := 19) (v := ?v46) rfl (by kernel_rfl) (by kernel_rfl) (by kernel_rfl) (fun _ _ _ h => h) (Or.inl ⟨by rfl, ?hy46⟩) hHeld ?rest46
                    case hy46 => (intro wz hSw; (try dsimp only at hSw); go_simp; (try with_reducible rfl))
                    (try simp only [Act.put, List.getElem_toArray, List.getElem_cons_succ, List.getElem_cons_zero]); (try simp only [List.setIfInBounds_toArray]); (try simp only [List.set_cons_succ]); (try simp only [List.set_cons_zero])
                    refine wpAnyH_take (i := 20) (v := ?v47) rfl (by kernel_rfl) (by kernel_rfl) (by kernel_rfl) (fun _ _ _ h => h) (Or.inl ⟨by rfl, ?hy47⟩) hHeld ?rest47
                    case hy47 => (intro wz hSw; (try dsimp only at hSw); go_simp; (try with_reducible rfl))
                    (try simp only [Act.put, List.getElem_toArray, List.getElem_cons_succ, List.getElem_cons_zero]); (try simp only [List.setIfInBounds_toArray]); (try simp only [List.set_cons_succ]); (try simp only [List.set_cons_zero])
                    refine wpAnyH_take (i := 21) (v := ?v48) rfl (by kernel_rfl) (by kernel_rfl) (by kernel_rfl) (fun _ _ _ h => h) (Or.inl ⟨by rfl, ?hy48⟩) hHeld ?rest48
                    case hy48 => (intro wz hSw; (try dsimp only at hSw); go_simp; (try with_reducible rfl))
                    (try simp only [Act.put, List.getElem_toArray, List.getElem_cons_succ, List.getElem_cons_zero]); (try simp only [List.setIfInBounds_toArray]); (try simp only [List.set_cons_succ]); (try simp only [List.set_cons_zero])
                    refine wpAnyH_take (i := 22) (v := ?v49) rfl (by kernel_rfl) (by kernel_rfl) (by kernel_rfl) (fun _ _ _ h => h) (Or.inl ⟨by rfl, ?hy49⟩) hHeld ?rest49
                    case hy49 => (intro wz hSw; (try dsimp only at hSw); go_simp; (try with_reducible rfl))
                    (try simp only [Act.put, List.getElem_toArray, List.getElem_cons_succ, List.getElem_cons_zero]); (try simp only [List.setIfInBounds_toArray]); (try simp only [List.set_cons_succ]); (try simp only [List.set_cons_zero])
                    refine wpAnyH_ready (rs := [15]) (by kernel_rfl) (by simp) ?_
                    refine AllReadyH.cons rfl (fun K' hK => ?_) AllReadyH.nil
                    go_simp
                    refine (HA6.out).mono ?_
                    rintro e w6 ⟨rfl, hw6⟩
                    have hHeld2 := keptD_call hHeld lb5 hw6
                    dsimp only
                    refine hK.out _ _ hHeld2 (fun hHeld => ?_)
                    clear hHeld2
                    clear hK
                    refine wpAnyH_take (i := 16) (v := ?v50) rfl (by kernel_rfl) (by kernel_rfl) (by kernel_rfl) (fun _ _ _ h => h) (Or.inl ⟨by rfl, ?hy50⟩) hHeld ?rest50
                    case hy50 => (intro wz hSw; (try dsimp only at hSw); go_simp; (try with_reducible rfl))
                    (try simp only [Act.put, List.getElem_toArray, List.getElem_cons_succ, List.getElem_cons_zero]); (try simp only [List.setIfInBounds_toArray]); (try simp only [List.set_cons_succ]); (try simp only [List.set_cons_zero])
                    refine wpAnyH_ready (rs := [23]) (by kernel_rfl) (by simp) ?_
                    refine AllReadyH.cons rfl (fun K' hK => ?_) AllReadyH.nil
                    go_simp
                    refine (HA7.out _ hw6).mono ?_
                    rintro e w7 ⟨rfl, hw7⟩
                    have hHeld2 := keptD_call hHeld lb5 hw7
                    dsimp only
                    refine hK.out _ _ hHeld2 (fun hHeld => ?_)
                    clear hHeld2
                    clear hK
                    refine wpAnyH_take (i := 24) (v := ?v51) rfl (by kernel_rfl) (by kernel_rfl) (by kernel_rfl) (fun _ _ _ h => h) (Or.inl ⟨by rfl, ?hy51⟩) hHeld ?rest51
                    case hy51 => (intro wz hSw; (try dsimp only at hSw); go_simp; (try with_reducible rfl))
                    (try simp only [Act.put, List.getElem_toArray, List.getElem_cons_succ, List.getElem_cons_zero]); (try simp only [List.setIfInBounds_toArray]); (try simp only [List.set_cons_succ]); (try simp only [List.set_cons_zero])
                    refine wpAnyH_take (i := 25) (v := ?v52) rfl (by kernel_rfl) (by kernel_rfl) (by kernel_rfl) (fun _ _ _ h => h) (Or.inl ⟨by rfl, ?hy52⟩) hHeld ?rest52
                    case hy52 => (intro wz hSw; (try dsimp only at hSw); go_simp; (try with_reducible rfl))
                    (try simp only [Act.put, List.getElem_toArray, List.getElem_cons_succ, List.getElem_cons_zero]); (try simp only [List.setIfInBounds_toArray]); (try simp only [List.set_cons_succ]); (try simp only [List.set_cons_zero])
                    obtain ⟨cj7, fj7⟩ := HC7.out w7 (hw6.trans hw7)
                    refine wpAnyH_ready (rs := [26]) (by kernel_rfl) (by simp) ?_
                    refine AllReadyH.cons rfl (fun K' hK => ?_) AllReadyH.nil
                    go_simp
                    refine hK.out _ _ (keptD_set hHeld j HNE.out _) (fun hHeld => ?_)
                    refine wpAnyH_done (by kernel_rfl) ?_ _
                    clear hHeld hK
                    go_wp2
                    exact ⟨⟨j + 1, by omega, by simp, HL9.out _ (hw6.trans hw7), HO9.out _ (hw6.trans hw7) _⟩, by simp [intOf]; omega⟩
                · have hdb : (gi (lnJ xs R r dk j) j == 0) = false := by simpa using hd
                  have HE : Hid (lnJ xs R r dk (j + 1) = (lnJ xs R r dk j)) := by rw [Hid, HS.out, if_neg (fun h => hd h.1)]
                  clear hd
                  go_wp2_with fail
                  refine wp_region_held_drew (S := (fun w' => Ext wr w' ∧ (∀ b o, b < wr.heap.size → w'.cell? ⟨b, o, none⟩ = wr.cell? ⟨b, o, none⟩))) (by kernel_rfl) (ext2 (Ext.refl wr).drew) (fun hHeld => ?_)
                  refine wpAnyH_take (i := 0) (v := ?v53) rfl (by kernel_rfl) (by kernel_rfl) (by kernel_rfl) (fun _ _ _ h => h) (Or.inl ⟨by rfl, ?hy53⟩) hHeld ?rest53
                  case hy53 => (intro wz hSw; (try dsimp only at hSw); go_simp; (try with_reducible rfl))
                  (try simp only [Act.put, List.getElem_toArray, List.getElem_cons_succ, List.getElem_cons_zero]); (try simp only [List.setIfInBounds_toArray]); (try simp only [List.set_cons_succ]); (try simp only [List.set_cons_zero])
                  refine wpAnyH_take (i := 1) (v := ?v54) rfl (by kernel_rfl) (by kernel_rfl) (by kernel_rfl) (fun _ _ _ h => h) (Or.inl ⟨by rfl, ?hy54⟩) hHeld ?rest54
                  case hy54 => (intro wz hSw; (try dsimp only at hSw); go_simp; (try with_reducible rfl))
                  (try simp only [Act.put, List.getElem_toArray, List.getElem_cons_succ, List.getElem_cons_zero]); (try simp only [List.setIfInBounds_toArray]); (try simp only [List.set_cons_succ]); (try simp only [List.set_cons_zero])
                  refine wpAnyH_take (i := 2) (v := ?v55) rfl (by kernel_rfl) (by kernel_rfl) (by kernel_rfl) (fun _ _ _ h => h) (Or.inl ⟨by rfl, ?hy55⟩) hHeld ?rest55
                  case hy55 => (intro wz hSw; (try dsimp only at hSw); go_simp; (try with_reducible rfl))
                  (try simp only [Act.put, List.getElem_toArray, List.getElem_cons_succ, List.getElem_cons_zero]); (try simp only [List.setIfInBounds_toArray]); (try simp only [List.set_cons_succ]); (try simp only [List.set_cons_zero])
                  refine wpAnyH_take (i := 3) (v := ?v56) rfl (by kernel_rfl) (by kernel_rfl) (by kernel_rfl) (fun _ _ _ h => h) (Or.inl ⟨by rfl, ?hy56⟩) hHeld ?rest56
                  case hy56 => (intro wz hSw; (try dsimp only at hSw); go_simp; (try with_reducible rfl))
                  (try simp only [Act.put, List.getElem_toArray, List.getElem_cons_succ, List.getElem_cons_zero]); (try simp only [List.setIfInBounds_toArray]); (try simp only [List.set_cons_succ]); (try simp only [List.set_cons_zero])
                  refine wpAnyH_take (i := 4) (v := ?v57) rfl (by kernel_rfl) (by kernel_rfl) (by kernel_rfl) (fun _ _ _ h => h) (Or.inl ⟨by rfl, ?hy57⟩) hHeld ?rest57
                  case hy57 => (intro wz hSw; (try dsimp only at hSw); go_simp; (try with_reducible rfl))
                  (try simp only [Act.put, List.getElem_toArray, List.getElem_cons_succ, List.getElem_cons_zero]); (try simp only [List.setIfInBounds_toArray]); (try simp only [List.set_cons_succ]); (try simp only [List.set_cons_zero])
                  refine wpAnyH_take (i := 5) (v := ?v58) rfl (by kernel_rfl) (by kernel_rfl) (by kernel_rfl) (fun _ _ _ h => h) (Or.inl ⟨by rfl, ?hy58⟩) hHeld ?rest58
                  case hy58 => (intro wz hSw; (try dsimp only at hSw); go_simp; (try with_reducible rfl))
                  (try simp only [Act.put, List.getElem_toArray, List.getElem_cons_succ, List.getElem_cons_zero]); (try simp only [List.setIfInBounds_toArray]); (try simp only [List.set_cons_succ]); (try simp only [List.set_cons_zero])
                  refine wpAnyH_take (i := 6) (v := undef) rfl (by kernel_rfl) (by kernel_rfl) (by kernel_rfl) (fun _ _ _ h => h) (Or.inr ⟨by rfl, rfl⟩) hHeld ?rest59
                  (try simp only [Act.put, List.getElem_toArray, List.getElem_cons_succ, List.getElem_cons_zero]); (try simp only [List.setIfInBounds_toArray]); (try simp only [List.set_cons_succ]); (try simp only [List.set_cons_zero])
                  refine wpAnyH_take (i := 7) (v := undef) rfl (by kernel_rfl) (by kernel_rfl) (by kernel_rfl) (fun _ _ _ h => h) (Or.inr ⟨by rfl, rfl⟩) hHeld ?rest60
                  (try simp only [Act.put, List.getElem_toArray, List.getElem_cons_succ, List.getElem_cons_zero]); (try simp only [List.setIfInBounds_toArray]); (try simp only [List.set_cons_succ]); (try simp only [List.set_cons_zero])
                  refine wpAnyH_take (i := 8) (v := undef) rfl (by kernel_rfl) (by kernel_rfl) (by kernel_rfl) (fun _ _ _ h => h) (Or.inr ⟨by rfl, rfl⟩) hHeld ?rest61
                  (try simp only [Act.put, List.getElem_toArray, List.getElem_cons_succ, List.getElem_cons_zero]); (try simp only [List.setIfInBounds_toArray]); (try simp only [List.set_cons_succ]); (try simp only [List.set_cons_zero])
                  refine wpAnyH_take (i := 9) (v := undef) rfl (by kernel_rfl) (by kernel_rfl) (by kernel_rfl) (fun _ _ _ h => h) (Or.inr ⟨by rfl, rfl⟩) hHeld ?rest62
                  (try simp only [Act.put, List.getElem_toArray, List.getElem_cons_succ, List.getElem_cons_zero]); (try simp only [List.setIfInBounds_toArray]); (try simp only [List.set_cons_succ]); (try simp only [List.set_cons_zero])
                  refine wpAnyH_take (i := 10) (v := undef) rfl (by kernel_rfl) (by kernel_rfl) (by kernel_rfl) (fun _ _ _ h => h) (Or.inr ⟨by rfl, rfl⟩) hHeld ?rest63
                  (try simp only [Act.put, List.getElem_toArray, List.getElem_cons_succ, List.getElem_cons_zero]); (try simp only [List.setIfInBounds_toArray]); (try simp only [List.set_cons_succ]); (try simp only [List.set_cons_zero])
                  refine wpAnyH_take (i := 11) (v := undef) rfl (by kernel_rfl) (by kernel_rfl) (by kernel_rfl) (fun _ _ _ h => h) (Or.inr ⟨by rfl, rfl⟩) hHeld ?rest64
                  (try simp only [Act.put, List.getElem_toArray, List.getElem_cons_succ, List.getElem_cons_zero]); (try simp only [List.setIfInBounds_toArray]); (try simp only [List.set_cons_succ]); (try simp only [List.set_cons_zero])
                  refine wpAnyH_take (i := 12) (v := undef) rfl (by kernel_rfl) (by kernel_rfl) (by kernel_rfl) (fun _ _ _ h => h) (Or.inr ⟨by rfl, rfl⟩) hHeld ?rest65
                  (try simp only [Act.put, List.getElem_toArray, List.getElem_cons_succ, List.getElem_cons_zero]); (try simp only [List.setIfInBounds_toArray]); (try simp only [List.set_cons_succ]); (try simp only [List.set_cons_zero])
                  refine wpAnyH_take (i := 13) (v := undef) rfl (by kernel_rfl) (by kernel_rfl) (by kernel_rfl) (fun _ _ _ h => h) (Or.inr ⟨by rfl, rfl⟩) hHeld ?rest66
                  (try simp only [Act.put, List.getElem_toArray, List.getElem_cons_succ, List.getElem_cons_zero]); (try simp only [List.setIfInBounds_toArray]); (try simp only [List.set_cons_succ]); (try simp only [List.set_cons_zero])
                  refine wpAnyH_take (i := 14) (v := ?v67) rfl (by kernel_rfl) (by kernel_rfl) (by kernel_rfl) (fun _ _ _ h => h) (Or.inl ⟨by rfl, ?hy67⟩) hHeld ?rest67
                  case hy67 => (intro wz hSw; (try dsimp only at hSw); go_simp; (try with_reducible rfl))
                  (try simp only [Act.put, List.getElem_toArray, List.getElem_cons_succ, List.getElem_cons_zero]); (try simp only [List.setIfInBounds_toArray]); (try simp only [List.set_cons_succ]); (try simp only [List.set_cons_zero])
                  refine wpAnyH_done (by kernel_rfl) ?_ _
                  have X9 := And.left hHeld
                  clear hHeld
                  go_wp2
                  exact ⟨⟨j + 1, by omega, by simp, by rw [HE.out]; exact HL2.out _ X9, HO2.out _ X9⟩, by simp [intOf]; omega⟩
              · obtain rfl : R = j := by omega
                have lb := L.out.lt
                have hrbn : rb ≠ (w.heap.size + 1) := by have := hlo.out; omega
                have hkI : (k : Int) < (rl : Int) := by omega
                have cr := L.out.has.cell r (by rw [hjl.out]; exact hrx1)
                by_cases hle : gi (lnJ xs R r dk R) r < lk
                · have L2 : Hid (Loc w wr w.heap.size (w.heap.size + 1) [.int .i64 (R : Nat), .slice (some ⟨da, od, none⟩) n cD] (lnK xs R rows d0 (k + 1)).1) := by rw [hk2.out]; exact L
                  have HY : Hid (Value.int .i64 (gi (lnJ xs R r dk R) r) = .int .i64 (lnK xs R rows d0 (k + 1)).2) := by rw [Hid, hk2.out]; exact congrArg (Value.int .i64) (if_pos hle).symm
                  clear L hjl
                  go_wp2
                  exact ⟨⟨k + 1, by omega, by simp, HY.out, L2, hO⟩, by simp [intOf]; omega⟩
                · have L2 : Hid (Loc w wr w.heap.size (w.heap.size + 1) [.int .i64 (R : Nat), .slice (some ⟨da, od, none⟩) n cD] (lnK xs R rows d0 (k + 1)).1) := by rw [hk2.out]; exact L
                  have HY : Hid (Value.int .i64 lk = .int .i64 (lnK xs R rows d0 (k + 1)).2) := by rw [Hid, hk2.out]; exact congrArg (Value.int .i64) (if_neg hle).symm
                  clear L hjl
                  go_wp2
                  exact ⟨⟨k + 1, by omega, by simp, HY.out, L2, hO⟩, by simp [intOf]; omega⟩
          · obtain rfl : rl = k := by omega
            have hDS : Hid (∀ q, lnD rows (lnK xs R rows d0 rl).2 (lnK xs R rows d0 rl).1 (q + 1) = (lnD rows (lnK xs R rows d0 rl).2 (lnK xs R rows d0 rl).1 q).set (ni rows q) ((gi (lnD rows (lnK xs R rows d0 rl).2 (lnK xs R rows d0 rl).1 q) (ni rows q)).tdiv (lnK xs R rows d0 rl).2)) := fun q => rfl
            have hD0 : Hid (lnD rows (lnK xs R rows d0 rl).2 (lnK xs R rows d0 rl).1 0 = (lnK xs R rows d0 rl).1) := rfl
            have hddl : Hid ((lnK xs R rows d0 rl).1.length = R) := by rw [Hid, lnK_length]; exact hDL.out
            have hle0 := (HP.out rl (Nat.le_refl _)).2.1
            have hle6 := (HP.out rl (Nat.le_refl _)).2.2.1
            have HDB : Hid (∀ q, q ≤ rl → ∀ e, -100 ≤ gi (lnD rows (lnK xs R rows d0 rl).2 (lnK xs R rows d0 rl).1 q) e ∧ gi (lnD rows (lnK xs R rows d0 rl).2 (lnK xs R rows d0 rl).1 q) e ≤ 100) := fun q hq => (HP.out q hq).2.2.2.2
            obtain ⟨dd, hdd⟩ : ∃ dd, (lnK xs R rows d0 rl).1 = dd := ⟨_, rfl⟩
            obtain ⟨le, hle⟩ : ∃ le, (lnK xs R rows d0 rl).2 = le := ⟨_, rfl⟩
            rw [hdd] at L hDS hddl HDB hSucc hD0
            rw [hle] at hDS HDB hSucc hle0 hle6 hD0 ⊢
            clear hdd hle HP HNZ
            go_wp2_with fail
            obtain ⟨wo, rfl⟩ : ∃ wo : World, wo = wr := ⟨_, rfl⟩
            go_loopw [9] (fun z wr => ∃ q : Nat, q ≤ rl ∧ z = .int .i64 q ∧ Hid (Loc w wr w.heap.size (w.heap.size + 1) [.int .i64 (R : Nat), .slice (some ⟨da, od, none⟩) n cD] (lnD rows le dd q)) ∧ Hid (Own wr lo hi9 ra rl (rI rows))) (fun z _ => rl - (intOf z).toNat)
            case atStart => exact ⟨0, by omega, rfl, L, hO⟩
            case round =>
              clear L hO
              obtain ⟨q, hq, rfl, L, hO⟩ := hrel
              by_cases hlt4 : q < rl
              · obtain ⟨hrx1, hrx2⟩ := HRX.out q hlt4
                have HDS2 := Lib.hid (hDS.out q)
                obtain ⟨r, hrr⟩ : ∃ r, ni rows q = r := ⟨_, rfl⟩
                rw [hrr] at hrx1 hrx2 HDS2
                have hjl : Hid ((lnD rows le dd q).length = R) := by rw [Hid, lnD_length]; exact hddl.out
                obtain ⟨rb, hra, hrb, hrlt, hrc⟩ : ∃ rb, ra = some ⟨rb, 0, none⟩ ∧ lo ≤ rb ∧ rb < wr.heap.size ∧ wr.cell? ⟨rb, q, none⟩ = some (.int .i64 (r : Nat)) := by
                  rcases hO.out.2 with ⟨_, h⟩ | ⟨rb, h1, h2, h3, h4⟩
                  · omega
                  · refine ⟨rb, h1, h2, h4.lt, ?_⟩
                    rw [← hrx2]
                    exact h4.cell q (by have := hO.out.1; omega)
                subst hra
                have lb := L.out.lt
                have hrbn : rb ≠ (w.heap.size + 1) := by have := hlo.out; omega
                have hqI : (q : Int) < (rl : Int) := by omega
                have cr := L.out.has.cell r (by rw [hjl.out]; exact hrx1)
                have fr := L.out.has.free r
                have hb := HDB.out q hq r
                have hb1 := hb.1
                have hb2 := hb.2
                have hrI : (r : Int) < (R : Int) := by omega
                have v3 : (le = 0) = False := eq_false (by omega)
                have HL9 : Hid (Loc w ((wr.drew).setCell ⟨(w.heap.size + 1), r, none⟩ (.int .i64 ((gi (lnD rows le dd q) r).tdiv le))) w.heap.size (w.heap.size + 1) [.int .i64 (R : Nat), .slice (some ⟨da, od, none⟩) n cD] (lnD rows le dd (q + 1))) := by
                  rw [HDS2.out]
                  exact (L.out.step (Ext.refl _).drew).set r (by rw [hjl.out]; exact hrx1) _
                have HO9 : Hid (Own ((wr.drew).setCell ⟨(w.heap.size + 1), r, none⟩ (.int .i64 ((gi (lnD rows le dd q) r).tdiv le))) lo hi9 (some ⟨rb, 0, none⟩) rl (rI rows)) := (hO.out.ext (Ext.refl _).drew).put hlo.out r _
                generalize gi (lnD rows le dd q) r = dr at *
                clear hrr hrx2 hb HDS2 L hO hDS
                go_wp2_with fail
                refine wp_region_held_drew (S := (fun w' => wr.grownBy w' (some (w.heap.size + 1)) ∧ ∀ B o, B ≠ (w.heap.size + 1) → B < wr.heap.size → w'.cell? ⟨B, o, none⟩ = wr.cell? ⟨B, o, none⟩)) (by kernel_rfl) keptC_drew (fun hHeld => ?_)
                refine wpAnyH_take (i := 0) (v := ?v68) rfl (by kernel_rfl) (by kernel_rfl) (by kernel_rfl) (fun _ _ _ h => h) (Or.inl ⟨by rfl, ?hy68⟩) hHeld ?rest68
                case hy68 => (intro wz hSw; (try dsimp only at hSw); go_simp; (try with_reducible rfl))
                (try simp only [Act.put, List.getElem_toArray, List.getElem_cons_succ, List.getElem_cons_zero]); (try simp only [List.setIfInBounds_toArray]); (try simp only [List.set_cons_succ]); (try simp only [List.set_cons_zero])
                refine wpAnyH_take (i := 1) (v := ?v69) rfl (by kernel_rfl) (by kernel_rfl) (by kernel_rfl) (fun _ _ _ h => h) (Or.inl ⟨by rfl, ?hy69⟩) hHeld ?rest69
                case hy69 => (intro wz hSw; (try dsimp only at hSw); go_simp; (try with_reducible rfl))
                (try simp only [Act.put, List.getElem_toArray, List.getElem_cons_succ, List.getElem_cons_zero]); (try simp only [List.setIfInBounds_toArray]); (try simp only [List.set_cons_succ]); (try simp only [List.set_cons_zero])
                refine wpAnyH_take (i := 2) (v := ?v70) rfl (by kernel_rfl) (by kernel_rfl) (by kernel_rfl) (fun _ _ _ h => h) (Or.inl ⟨by rfl, ?hy70⟩) hHeld ?rest70
                case hy70 => (intro wz hSw; (try dsimp only at hSw); go_simp; (try with_reducible rfl))
                (try simp only [Act.put, List.getElem_toArray, List.getElem_cons_succ, List.getElem_cons_zero]); (try simp only [List.setIfInBounds_toArray]); (try simp only [List.set_cons_succ]); (try simp only [List.set_cons_zero])
                refine wpAnyH_take (i := 3) (v := ?v71) rfl (by kernel_rfl) (by kernel_rfl) (by kernel_rfl) (fun _ _ _ h => h) (Or.inl ⟨by rfl, ?hy71⟩) hHeld ?rest71
                case hy71 => (intro wz hSw; (try dsimp only at hSw); go_simp; (try with_reducible rfl))
                (try simp only [Act.put, List.getElem_toArray, List.getElem_cons_succ, List.getElem_cons_zero]); (try simp only [List.setIfInBounds_toArray]); (try simp only [List.set_cons_succ]); (try simp only [List.set_cons_zero])
                refine wpAnyH_take (i := 4) (v := ?v72) rfl (by kernel_rfl) (by kernel_rfl) (by kernel_rfl) (fun _ _ _ h => h) (Or.inl ⟨by rfl, ?hy72⟩) hHeld ?rest72
                case hy72 => (intro wz hSw; (try dsimp only at hSw); go_simp; (try with_reducible rfl))
                (try simp only [Act.put, List.getElem_toArray, List.getElem_cons_succ, List.getElem_cons_zero]); (try simp only [List.setIfInBounds_toArray]); (try simp only [List.set_cons_succ]); (try simp only [List.set_cons_zero])
                refine wpAnyH_take (i := 5) (v := ?v73) rfl (by kernel_rfl) (by kernel_rfl) (by kernel_rfl) (fun _ _ _ h => h) (Or.inl ⟨by rfl, ?hy73⟩) hHeld ?rest73
                case hy73 => (intro wz hSw; (try dsimp only at hSw); go_simp; (try with_reducible rfl))
                (try simp only [Act.put, List.getElem_toArray, List.getElem_cons_succ, List.getElem_cons_zero]); (try simp only [List.setIfInBounds_toArray]); (try simp only [List.set_cons_succ]); (try simp only [List.set_cons_zero])
                refine wpAnyH_take (i := 6) (v := ?v74) rfl (by kernel_rfl) (by kernel_rfl) (by kernel_rfl) (fun _ _ _ h => h) (Or.inl ⟨by rfl, ?hy74⟩) hHeld ?rest74
                case hy74 => (intro wz hSw; (try dsimp only at hSw); go_simp; (try with_reducible rfl))
                (try simp only [Act.put, List.getElem_toArray, List.getElem_cons_succ, List.getElem_cons_zero]); (try simp only [List.setIfInBounds_toArray]); (try simp only [List.set_cons_succ]); (try simp only [List.set_cons_zero])
                refine wpAnyH_take (i := 7) (v := ?v75) rfl (by kernel_rfl) (by kernel_rfl) (by kernel_rfl) (fun _ _ _ h => h) (Or.inl ⟨by rfl, ?hy75⟩) hHeld ?rest75
                case hy75 => (intro wz hSw; (try dsimp only at hSw); go_simp; (try with_reducible rfl))
                (try simp only [Act.put, List.getElem_toArray, List.getElem_cons_succ, List.getElem_cons_zero]); (try simp only [List.setIfInBounds_toArray]); (try simp only [List.set_cons_succ]); (try simp only [List.set_cons_zero])
                refine wpAnyH_take (i := 8) (v := ?v76) rfl (by kernel_rfl) (by kernel_rfl) (by kernel_rfl) (fun _ _ _ h => h) (Or.inl ⟨by rfl, ?hy76⟩) hHeld ?rest76
                case hy76 => (intro wz hSw; (try dsimp only at hSw); go_simp; (try with_reducible rfl))
                (try simp only [Act.put, List.getElem_toArray, List.getElem_cons_succ, List.getElem_cons_zero]); (try simp only [List.setIfInBounds_toArray]); (try simp only [List.set_cons_succ]); (try simp only [List.set_cons_zero])
                refine wpAnyH_take (i := 9) (v := ?v77) rfl (by kernel_rfl) (by kernel_rfl) (by kernel_rfl) (fun _ _ _ h => h) (Or.inl ⟨by rfl, ?hy77⟩) hHeld ?rest77
                case hy77 => (intro wz hSw; (try dsimp only at hSw); go_simp; (try with_reducible rfl))
                (try simp only [Act.put, List.getElem_toArray, List.getElem_cons_succ, List.getElem_cons_zero]); (try simp only [List.setIfInBounds_toArray]); (try simp only [List.set_cons_succ]); (try simp only [List.set_cons_zero])
                refine wpAnyH_take (i := 10) (v := ?v78) rfl (by kernel_rfl) (by kernel_rfl) (by kernel_rfl) (fun _ _ _ h => h) (Or.inl ⟨by rfl, ?hy78⟩) hHeld ?rest78
                case hy78 => (intro wz hSw; (try dsimp only at hSw); go_simp; (try with_reducible rfl))
                (try simp only [Act.put, List.getElem_toArray, List.getElem_cons_succ, List.getElem_cons_zero]); (try simp only [List.setIfInBounds_toArray]); (try simp only [List.set_cons_succ]); (try simp only [List.set_cons_zero])
                refine wpAnyH_take (i := 12) (v := ?v79) rfl (by kernel_rfl) (by kernel_rfl) (by kernel_rfl) (fun _ _ _ h => h) (Or.inl ⟨by rfl, ?hy79⟩) hHeld ?rest79
                case hy79 => (intro wz hSw; (try dsimp only at hSw); go_simp; (try with_reducible rfl))
                (try simp only [Act.put, List.getElem_toArray, List.getElem_cons_succ, List.getElem_cons_zero]); (try simp only [List.setIfInBounds_toArray]); (try simp only [List.set_cons_succ]); (try simp only [List.set_cons_zero])
                refine wpAnyH_ready (rs := [11]) (by kernel_rfl) (by simp) ?_
                refine AllReadyH.cons rfl (fun K' hK => ?_) AllReadyH.nil
                go_simp
                refine hK.out _ _ hHeld (fun hHeld => ?_)
                clear hK
                refine wpAnyH_take (i := 13) (v := ?v80) rfl (by kernel_rfl) (by kernel_rfl) (by kernel_rfl) (fun _ _ _ h => h) (Or.inl ⟨by rfl, ?hy80⟩) hHeld ?rest80
                case hy80 => (intro wz hSw; (try dsimp only at hSw); go_simp; (try with_reducible rfl))
                (try simp only [Act.put, List.getElem_toArray, List.getElem_cons_succ, List.getElem_cons_zero]); (try simp only [List.setIfInBounds_toArray]); (try simp only [List.set_cons_succ]); (try simp only [List.set_cons_zero])
                refine wpAnyH_take (i := 14) (v := ?v81) rfl (by kernel_rfl) (by kernel_rfl) (by kernel_rfl) (fun _ _ _ h => h) (Or.inl ⟨by rfl, ?hy81⟩) hHeld ?rest81
                case hy81 => (intro wz hSw; (try dsimp only at hSw); go_simp; (try with_reducible rfl))
                (try simp only [Act.put, List.getElem_toArray, List.getElem_cons_succ, List.getElem_cons_zero]); (try simp only [List.setIfInBounds_toArray]); (try simp only [List.set_cons_succ]); (try simp only [List.set_cons_zero])
                refine wpAnyH_ready (rs := [15]) (by kernel_rfl) (by simp) ?_
                refine AllReadyH.cons rfl (fun K' hK => ?_) AllReadyH.nil
                go_simp
                refine hK.out _ _ (keptC_set hHeld _ _) (fun hHeld => ?_)
                refine wpAnyH_done (by kernel_rfl) ?_ _
                clear hHeld hK
                go_wp2
                exact ⟨⟨q + 1, by omega, by simp, HL9, HO9⟩, by simp [intOf]; omega⟩
              · obtain rfl : rl = q := by omega
                have L2 : Hid (Loc w wr w.heap.size (w.heap.size + 1) [.int .i64 (R : Nat), .slice (some ⟨da, od, none⟩) n cD] (lnS xs R (i + 1))) := by rw [hSucc.out]; exact L
                go_wp2
                exact ⟨⟨i + 1, by omega, by simp, L2⟩, by simp [intOf]; omega⟩
      · have hzb : (gi (lnS xs R i) i != 0) = true := by simpa using hz
        have L2 : Hid (Loc w wr w.heap.size (w.heap.size + 1) [.int .i64 (R : Nat), .slice (some ⟨da, od, none⟩) n cD] (lnS xs R (i + 1))) := by rw [lnS, if_neg hz]; exact L
        go_wp2
        exact ⟨⟨i + 1, by omega, by simp, L2⟩, by simp [intOf]; omega⟩
    · obtain rfl : i = R := by omega
      have L2 : Hid (Loc w wr w.heap.size (w.heap.size + 1) [.int .i64 (i : Nat), .slice (some ⟨da, od, none⟩) n cD] ls) := by rw [← HOK.out.all]; exact L
      go_wp2
      go_ret
      exact ⟨_, rfl, L2.out.lo, L2.out.lt, L2.out.has, L2.out.ext⟩
end Go.Proofs.YtlnpaplbcocmkaaGreat
