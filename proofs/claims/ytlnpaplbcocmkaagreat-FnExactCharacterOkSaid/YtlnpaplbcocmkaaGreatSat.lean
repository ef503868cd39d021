/-
  The numbers of a Cartan matrix and the rows that are connected, in the specification.
-/
import Derived.Test.YtlnpaplbcocmkaaGreatCon
namespace Go.Proofs.YtlnpaplbcocmkaaGreat
open Go.ChangeShapes Go.WideShapes Go.ChangeAt Go.RowKit
set_option linter.unusedVariables false
set_option linter.unusedSimpArgs false

/-- append of one integer, with what is known of the block. -/
theorem wpList_append1at {w : World} {ops : Array Oper} {rest : List Oper} {o : Oper} {a : Act} {Q : Exit → Act → World → Prop} (hgd : o.guard = none) (s x : Operand)
    (ho : o.op = .call { callee := .builtin .append, args := #[s, x], argTypes := #[22, 22] })
    (base : Nat) (v : Value) (n : Nat) (xs : List Int) (y : Int) (c : Nat) (hs : a.eval s = v) (hx : a.eval x = .slice (some ⟨w.heap.size, 0, none⟩) 1 c) (hown : Grows w base v n xs) (hb : n + 1 ≤ 1048577) (hbase : base ≤ w.heap.size)
    (h : ∀ v' w', Grows w' base v' (n + 1) (xs ++ [y]) → w.grownBy w' v.ownBlock → (v'.ownBlock = v.ownBlock ∨ v'.ownBlock = some (w.heap.size + 1)) → wpList Tryz.prog ops Q rest (a.put o.dst v') w') : wpList Tryz.prog ops Q (o :: rest) a (w.alloc (.cells #[.int .i64 y] 3)) := by
  obtain ⟨i0, hi, hz0, hz1, hz2⟩ := info_parts Tryz.infoInt
  refine wpList_append_own_at _ hgd s x 22 ho base 3 i0 (.int .i64 0) 1 8 Tryz.underlying22 hi hz0 hz1 hz2 rfl (by decide) v n (xs.map (Value.int .i64)) hs (Grows.ext hown ((Ext.refl w).alloc _)) ⟨w.heap.size, 0, none⟩ 1 c [.int .i64 y] hx rfl (fun j u hu => ?_) (fun u hu => by simp at hu; subst hu; rfl) (by unfold maxLen; omega) (by omega) (by simp; omega) (fun v' w' h1 h2 _ h4 => h v' w' (by simpa [Grows] using h1) (grownBy_alloc h2) (by simpa using h4))
  obtain rfl : j = 0 := by have := (List.getElem?_eq_some_iff.1 hu).1; simp at this; omega
  simp at hu
  subst hu
  rw [show (⟨w.heap.size, 0, none⟩ : Addr).add 0 = ⟨w.heap.size, 0, none⟩ from rfl, World.cell?_alloc_at _ _ _ _ rfl]
  rfl

set_option maxRecDepth 100000 in
set_option maxHeartbeats 1600000 in
theorem l5At_spec (R da od n cD : Nat) (xs : List Int) (i j : Nat) (w : World) (hr : Reads w (some ⟨da, od, none⟩) n xs) (hn : n = R * R) (hR : R ≤ 4) (hi : i < R) (hj : j < R) :
    Calls Tryz.prog 151 #[.agg #[.int .i64 (R : Nat), .slice (some ⟨da, od, none⟩) n cD], .int .i64 i, .int .i64 j] w fun e w' => e = .returned (.int .i64 (gi xs (i * R + j))) ∧ Ext w w' := by
  have hlt := at_lt hi hj
  have h16 := sq4 hR
  rcases hr.2 with h0 | ⟨b, off, h0, hb, hc⟩
  · omega
  simp only [Option.some.injEq, Addr.mk.injEq, and_true] at h0
  obtain ⟨rfl, rfl⟩ := h0
  have c1 := hc (i * R + j) (by omega)
  have e1 : (i : Int) * (R : Int) = ((i * R : Nat) : Int) := by simp
  have hiR : i * R ≤ 16 := by omega
  have w1 : IntKind.i64.wrap ((i : Int) * (R : Int)) = (i : Int) * (R : Int) := IntWalk.i64_in _ ⟨by rw [e1]; omega, by rw [e1]; omega⟩
  have w2 : IntKind.i64.wrap ((i : Int) * (R : Int) + (j : Int)) = (i : Int) * (R : Int) + (j : Int) := IntWalk.i64_in _ ⟨by rw [e1]; omega, by rw [e1]; omega⟩
  have g0 : 0 ≤ (i : Int) * (R : Int) + (j : Int) := by rw [e1]; omega
  have g1 : (i : Int) * (R : Int) + (j : Int) < (n : Int) := by rw [e1, hn]; omega
  have t1 : ((i : Int) * (R : Int) + (j : Int)).toNat = i * R + j := by rw [e1]; omega
  have cA : (w.alloc (.cells #[.int .i64 (R : Nat), .slice (some ⟨da, od, none⟩) n cD] 27)).cell? ⟨da, od + (i * R + j), none⟩ = some (.int .i64 (gi xs (i * R + j))) := by
    rw [World.cell?_alloc_past _ _ _ hb]; exact c1
  clear hc hr e1 hn h16 hlt c1
  go_enter Tryz.func151, Tryz.ntmps151
  go_wp2
  go_ret
  exact ⟨rfl, by with_reducible repeat (first | exact Ext.refl _ | refine Ext.alloc ?_ _ | refine Ext.drewN ?_ _ | refine Ext.drew ?_)⟩

set_option maxRecDepth 100000 in
set_option maxHeartbeats 6400000 in
theorem l5Part_spec (R da od n cD : Nat) (xs : List Int) (row : Nat) (w : World) (hr : Reads w (some ⟨da, od, none⟩) n xs) (hn : n = R * R) (hR : R ≤ 4) (hsym : ∀ i j, i < R → j < R → gi xs (i * R + j) = 0 → gi xs (j * R + i) = 0) (h0 : row < R) :
    Calls Tryz.prog 140 #[.agg #[.int .i64 (R : Nat), .slice (some ⟨da, od, none⟩) n cD], .int .i64 row] w fun e w' => ∃ a c, e = .returned (.slice a (conn (bx xs R) R row).length c) ∧ Own w' w.heap.size w'.heap.size a (conn (bx xs R) R row).length (rI (conn (bx xs R) R row)) ∧ SlcOk a (conn (bx xs R) R row).length c ∧ Ext w w' := by
  have HR := Lib.hid hr
  have HN := Lib.hid hn
  have HSY := Lib.hid hsym
  have HCN := Lib.hid (conn_bx xs R hR)
  have HST := Lib.hid (fun k => connK_stable (b := bx xs R) (R := R) (row := row) (k := k))
  have HKS : Hid (∀ k, k < (connK (bx xs R) R row k).length → connK (bx xs R) R row (k + 1) = connJ (bx xs R) (ni (connK (bx xs R) R row k) k) (connK (bx xs R) R row k) R) := fun k h => by rw [connK, if_pos h]
  have HJS : Hid (∀ r l j, connJ (bx xs R) r l (j + 1) = if bx xs R r j && !(connJ (bx xs R) r l j).contains j then connJ (bx xs R) r l j ++ [j] else connJ (bx xs R) r l j) := fun r l j => by rw [connJ]
  have hR0 : 0 < R := by omega
  clear hr hn hsym
  have HBX := Lib.hid (cells_new w #[.int .i64 (R : Nat), .slice (some ⟨da, od, none⟩) n cD] 27)
  have EB := Lib.hid ((Ext.refl w).alloc (.cells #[.int .i64 (R : Nat), .slice (some ⟨da, od, none⟩) n cD] 27))
  go_enter Tryz.func140, Tryz.ntmps140
  go_wp2_with fail
  have G0 : Hid (Grows ((w.alloc (.cells #[.int .i64 (R : Nat), .slice (some ⟨da, od, none⟩) n cD] 27)).alloc (.cells #[.int .i64 row] 3)) w.heap.size (.slice (some ⟨w.heap.size + 1, 0, none⟩) 1 1) (connK (bx xs R) R row 0).length (rI (connK (bx xs R) R row 0))) := by
    have := World.ownsRow_lit (base := w.heap.size) (e := 3) (size := 1) (w.alloc (.cells #[.int .i64 (R : Nat), .slice (some ⟨da, od, none⟩) n cD] 27)) #[.int .i64 row] 1 (by simp) (by unfold maxLen; omega) (by simp)
    rw [show (w.alloc (.cells #[.int .i64 (R : Nat), .slice (some ⟨da, od, none⟩) n cD] 27)).heap.size = w.heap.size + 1 by simp] at this
    exact this
  have B0 := Lib.hid (HBX.out.ext ((Ext.refl _).alloc (.cells #[.int .i64 row] 3)))
  have E0 := Lib.hid (EB.out.alloc (.cells #[.int .i64 row] 3))
  go_loopw [6, 5, 7] (fun z v _ wr => ∃ (k cv : Nat) (va : Option Addr), k ≤ R ∧ z = .int .i64 k ∧ v = .slice va (connK (bx xs R) R row k).length cv ∧ Hid (Grows wr w.heap.size (.slice va (connK (bx xs R) R row k).length cv) (connK (bx xs R) R row k).length (rI (connK (bx xs R) R row k))) ∧ Hid (Ext w wr) ∧ Hid (Cells wr w.heap.size [.int .i64 (R : Nat), .slice (some ⟨da, od, none⟩) n cD]) ∧ Hid (∀ z, (Value.slice va (connK (bx xs R) R row k).length cv).ownBlock = some z → z ≠ w.heap.size)) (fun z _ _ _ => R - (intOf z).toNat)
  case atStart => exact ⟨0, 1, some ⟨w.heap.size + 1, 0, none⟩, by omega, rfl, rfl, G0, E0, B0, fun z hz => by injection hz with hz; simp at hz; omega⟩
  case round =>
    clear G0 E0 B0 HBX EB
    obtain ⟨k, cv, va, hk, rfl, rfl, hG, hE, hB, hNB⟩ := hrel
    obtain ⟨hx1, hx2, hx3⟩ := HCN.out.kk row h0 k hk
    by_cases hlt : k < (connK (bx xs R) R row k).length
    · have HKK := Lib.hid (HKS.out k hlt)
      have hkR : k < R := by omega
      have HRL : Hid (ni (connK (bx xs R) R row k) k < R) := hx1 _ (ni_mem hlt)
      have HNK : Hid (∀ j, ∃ t, connJ (bx xs R) (ni (connK (bx xs R) R row k) k) (connK (bx xs R) R row k) j = connK (bx xs R) R row k ++ t) := fun j => connJ_pre _ _ _ j
      have HJJ := Lib.hid (fun j h => HCN.out.jj row h0 k hk j h)
      obtain ⟨L, hL⟩ : ∃ L, connK (bx xs R) R row k = L := ⟨_, rfl⟩
      rw [hL] at HKK HRL HNK HJJ hG hlt hNB ⊢
      have hrm : ni L k ∈ L := ni_mem hlt
      have HPRE : Hid (∀ t, ni (L ++ t) k = ni L k ∧ ni L k ∈ L ++ t) := fun t => ⟨ni_pre hlt, List.mem_append.2 (Or.inl hrm)⟩
      obtain ⟨r, hr⟩ : ∃ r, ni L k = r := ⟨_, rfl⟩
      rw [hr] at HKK HRL HNK HJJ HPRE
      have hrR := HRL.out
      have hlt2 : (k : Int) < (L.length : Int) := by omega
      clear hr hrm hx1 hx2 hx3 hL HRL
      have G1 : Hid (Grows wr w.heap.size (.slice va L.length cv) (connJ (bx xs R) r L 0).length (rI (connJ (bx xs R) r L 0))) := hG
      obtain ⟨N, hN⟩ : ∃ N, L.length = N := ⟨_, rfl⟩
      have HNL := Lib.hid hN
      rw [hN] at hlt2 hlt G1 hNB ⊢
      clear hG hN
      go_wp2_with fail
      go_loopw [7, 5] (fun z v wr => ∃ (j cv : Nat) (va : Option Addr), j ≤ R ∧ z = .int .i64 j ∧ v = .slice va (connJ (bx xs R) r L j).length cv ∧ Hid (Grows wr w.heap.size (.slice va (connJ (bx xs R) r L j).length cv) (connJ (bx xs R) r L j).length (rI (connJ (bx xs R) r L j))) ∧ Hid (Ext w wr) ∧ Hid (Cells wr w.heap.size [.int .i64 (R : Nat), .slice (some ⟨da, od, none⟩) n cD]) ∧ Hid (∀ z, (Value.slice va (connJ (bx xs R) r L j).length cv).ownBlock = some z → z ≠ w.heap.size)) (fun z _ _ => R - (intOf z).toNat)
      case atStart => exact ⟨0, cv, va, by omega, rfl, by rw [connJ, HNL.out], by rw [connJ, HNL.out]; rw [connJ, HNL.out] at G1; exact G1, hE, hB, by rw [connJ, HNL.out]; exact hNB⟩
      case round =>
        clear G1 hE hB hNB
        obtain ⟨j, cv, va, hj, rfl, rfl, hG, hE, hB, hNB⟩ := hrel
        have lB := hB.out.1
        have q0 := hB.out.2 0 _ rfl
        have q1 := hB.out.2 1 _ rfl
        by_cases hjR : j < R
        · obtain ⟨t, ht⟩ := HNK.out j
          obtain ⟨hz1, hz2⟩ := HJJ.out j (by omega)
          obtain ⟨hz3, hz4⟩ := HJJ.out (j + 1) (by omega)
          have HS := Lib.hid (HJS.out r L j)
          have hkl : k < (connJ (bx xs R) r L j).length := by rw [ht, List.length_append, HNL.out]; omega
          have HGK : Hid (gi (rI (connJ (bx xs R) r L j)) k = (r : Int)) := by rw [Hid, gi_rI, ht, (HPRE.out t).1]
          have HRM : Hid (r ∈ connJ (bx xs R) r L j) := by rw [Hid, ht]; exact (HPRE.out t).2
          obtain ⟨p, hp, hpi⟩ := rI_firstAt (connJ (bx xs R) r L j) j
          have HP := Lib.hid hp
          have HPI := Lib.hid hpi
          obtain ⟨M, hM⟩ : ∃ M, connJ (bx xs R) r L j = M := ⟨_, rfl⟩
          rw [hM] at hG hkl HGK HRM HP HPI HS hz2 hNB ⊢
          clear hM ht hp hpi hz1 hz3
          have HG2 := Lib.hid hz4
          obtain ⟨m, hm⟩ : ∃ m, M.length = m := ⟨_, rfl⟩
          have HML := Lib.hid hm
          rw [hm] at hG hkl HP HPI hz2 hNB ⊢
          clear hm hz4
          obtain ⟨va', cv', hv', hnv, hO⟩ := hG.out.reads2
          injection hv' with e1 e2 e3
          subst e1; subst e3
          have HO := Lib.hid hO
          have hb : ∃ g, va = some ⟨g, 0, none⟩ ∧ g < wr.heap.size ∧ wr.cell? ⟨g, k, none⟩ = some (.int .i64 (r : Nat)) := by
            rcases hO.2 with ⟨_, h⟩ | ⟨g, h1, _, h3, h4⟩
            · omega
            · exact ⟨g, h1, h3, by rw [← HGK.out]; exact h4.cell k (by rw [rI_length, HML.out]; exact hkl)⟩
          obtain ⟨g, rfl, hgl, hgc⟩ := hb
          have hklI : (k : Int) < (m : Int) := by omega
          have hsz := hE.out.le
          clear hO hnv
          have HAT : Hid (∀ w1, Ext wr w1 → Calls Tryz.prog 151 #[.agg #[.int .i64 (R : Nat), .slice (some ⟨da, od, none⟩) n cD], .int .i64 r, .int .i64 j] w1 fun e w' => e = .returned (.int .i64 (gi xs (r * R + j))) ∧ Ext w1 w') := fun w1 h => l5At_spec R da od n cD xs r j w1 (HR.out.ext (hE.out.trans h)) HN.out hR hrR hjR
          have HFD : Hid (∀ w1, Ext wr w1 → Calls Tryz.prog 139 #[.slice (some ⟨g, 0, none⟩) m cv, .int .i64 j] w1 fun e w' => e = .returned (.int .i64 (fndR m p)) ∧ w1 = w') := fun w1 h => l1Find_spec _ m cv (rI M) j p w1 (HO.out.ext h).reads (by omega) HP.out
          have HBX : Hid ((gi xs (r * R + j) ≠ 0 ∧ ¬ j ∈ M → connJ (bx xs R) r L (j + 1) = M ++ [j]) ∧ (¬ (gi xs (r * R + j) ≠ 0 ∧ ¬ j ∈ M) → connJ (bx xs R) r L (j + 1) = M)) := by
            constructor
            · rintro ⟨h1, h2⟩
              have hne : r ≠ j := fun e => h2 (e ▸ HRM.out)
              have h3 : M.contains j = false := by
                rcases h : M.contains j with _ | _
                · rfl
                · exact absurd (List.contains_iff_mem.1 h) h2
              rw [HS.out, h3, bx, decide_eq_true hrR, decide_eq_true hjR, if_pos]
              simp only [Bool.not_false, Bool.and_true, Bool.and_eq_true, Bool.or_eq_true, bne_iff_ne]
              exact ⟨hne, Or.inl h1⟩
            · intro h1
              rw [HS.out, if_neg]
              by_cases h2 : j ∈ M
              · rw [List.contains_iff_mem.2 h2]; simp
              · have h3 : gi xs (r * R + j) = 0 := Classical.byContradiction fun h => h1 ⟨h, h2⟩
                rw [bx, h3, HSY.out r j hrR hjR h3]; simp
          by_cases h1 : gi xs (r * R + j) = 0
          · have HF := Lib.hid (HBX.out.2 (fun h => h.1 h1))
            rw [h1] at HAT
            clear h1 HBX
            go_wp2_with fail
            go_wp2_with fail
            refine wp_region_held_drew (S := (fun w' => Ext wr w' ∧ (∀ b o, b < wr.heap.size → w'.cell? ⟨b, o, none⟩ = wr.cell? ⟨b, o, none⟩))) (by kernel_rfl) (ext2 (Ext.refl wr).drew) (fun hHeld => ?_)
            refine wpAnyH_take (i := 0) (v := ?v1) rfl (by kernel_rfl) (by kernel_rfl) (by kernel_rfl) (fun _ _ _ h => h) (Or.inl ⟨by rfl, ?hy1⟩) hHeld ?rest1
            case hy1 => (intro wz hSw; (try dsimp only at hSw); go_simp; (try with_reducible rfl))
            (try simp only [Act.put, List.getElem_toArray, List.getElem_cons_succ, List.getElem_cons_zero]); (try simp only [List.setIfInBounds_toArray]); (try simp only [List.set_cons_succ]); (try simp only [List.set_cons_zero])
            refine wpAnyH_take (i := 1) (v := ?v2) rfl (by kernel_rfl) (by kernel_rfl) (by kernel_rfl) (fun _ _ _ h => h) (Or.inl ⟨by rfl, ?hy2⟩) hHeld ?rest2
            case hy2 => (intro wz hSw; (try dsimp only at hSw); go_simp; (try with_reducible rfl))
            (try simp only [Act.put, List.getElem_toArray, List.getElem_cons_succ, List.getElem_cons_zero]); (try simp only [List.setIfInBounds_toArray]); (try simp only [List.set_cons_succ]); (try simp only [List.set_cons_zero])
            refine wpAnyH_take (i := 2) (v := ?v3) rfl (by kernel_rfl) (by kernel_rfl) (by kernel_rfl) (fun _ _ _ h => h) (Or.inl ⟨by rfl, ?hy3⟩) hHeld ?rest3
            case hy3 => (intro wz hSw; (try dsimp only at hSw); go_simp; (try with_reducible rfl))
            (try simp only [Act.put, List.getElem_toArray, List.getElem_cons_succ, List.getElem_cons_zero]); (try simp only [List.setIfInBounds_toArray]); (try simp only [List.set_cons_succ]); (try simp only [List.set_cons_zero])
            refine wpAnyH_take (i := 3) (v := ?v4) rfl (by kernel_rfl) (by kernel_rfl) (by kernel_rfl) (fun _ _ _ h => h) (Or.inl ⟨by rfl, ?hy4⟩) hHeld ?rest4
            case hy4 => (intro wz hSw; (try dsimp only at hSw); go_simp; (try with_reducible rfl))
            (try simp only [Act.put, List.getElem_toArray, List.getElem_cons_succ, List.getElem_cons_zero]); (try simp only [List.setIfInBounds_toArray]); (try simp only [List.set_cons_succ]); (try simp only [List.set_cons_zero])
            refine wpAnyH_take (i := 4) (v := ?v5) rfl (by kernel_rfl) (by kernel_rfl) (by kernel_rfl) (fun _ _ _ h => h) (Or.inl ⟨by rfl, ?hy5⟩) hHeld ?rest5
            case hy5 => (intro wz hSw; (try dsimp only at hSw); go_simp; (try with_reducible rfl))
            (try simp only [Act.put, List.getElem_toArray, List.getElem_cons_succ, List.getElem_cons_zero]); (try simp only [List.setIfInBounds_toArray]); (try simp only [List.set_cons_succ]); (try simp only [List.set_cons_zero])
            refine wpAnyH_take (i := 5) (v := ?v6) rfl (by kernel_rfl) (by kernel_rfl) (by kernel_rfl) (fun _ _ _ h => h) (Or.inl ⟨by rfl, ?hy6⟩) hHeld ?rest6
            case hy6 => (intro wz hSw; (try dsimp only at hSw); go_simp; (try with_reducible rfl))
            (try simp only [Act.put, List.getElem_toArray, List.getElem_cons_succ, List.getElem_cons_zero]); (try simp only [List.setIfInBounds_toArray]); (try simp only [List.set_cons_succ]); (try simp only [List.set_cons_zero])
            refine wpAnyH_ready (rs := [6]) (by kernel_rfl) (by simp) ?_
            refine AllReadyH.cons rfl (fun K' hK => ?_) AllReadyH.nil
            go_simp
            refine (HAT.out _ (And.left hHeld)).mono ?_
            rintro e w5 ⟨rfl, h5⟩
            have X9 := (And.left hHeld).trans h5
            dsimp only
            refine hK.out _ _ (ext2 X9) (fun hHeld => ?_)
            clear hK
            refine wpAnyH_take (i := 7) (v := ?v7) rfl (by kernel_rfl) (by kernel_rfl) (by kernel_rfl) (fun _ _ _ h => h) (Or.inl ⟨by rfl, ?hy7⟩) hHeld ?rest7
            case hy7 => (intro wz hSw; (try dsimp only at hSw); go_simp; (try with_reducible rfl))
            (try simp only [Act.put, List.getElem_toArray, List.getElem_cons_succ, List.getElem_cons_zero]); (try simp only [List.setIfInBounds_toArray]); (try simp only [List.set_cons_succ]); (try simp only [List.set_cons_zero])
            refine wpAnyH_take (i := 8) (v := ?v8) rfl (by kernel_rfl) (by kernel_rfl) (by kernel_rfl) (fun _ _ _ h => h) (Or.inl ⟨by rfl, ?hy8⟩) hHeld ?rest8
            case hy8 => (intro wz hSw; (try dsimp only at hSw); go_simp; (try with_reducible rfl))
            (try simp only [Act.put, List.getElem_toArray, List.getElem_cons_succ, List.getElem_cons_zero]); (try simp only [List.setIfInBounds_toArray]); (try simp only [List.set_cons_succ]); (try simp only [List.set_cons_zero])
            refine wpAnyH_take (i := 9) (v := undef) rfl (by kernel_rfl) (by kernel_rfl) (by kernel_rfl) (fun _ _ _ h => h) (Or.inr ⟨by rfl, rfl⟩) hHeld ?rest9
            (try simp only [Act.put, List.getElem_toArray, List.getElem_cons_succ, List.getElem_cons_zero]); (try simp only [List.setIfInBounds_toArray]); (try simp only [List.set_cons_succ]); (try simp only [List.set_cons_zero])
            refine wpAnyH_take (i := 10) (v := undef) rfl (by kernel_rfl) (by kernel_rfl) (by kernel_rfl) (fun _ _ _ h => h) (Or.inr ⟨by rfl, rfl⟩) hHeld ?rest10
            (try simp only [Act.put, List.getElem_toArray, List.getElem_cons_succ, List.getElem_cons_zero]); (try simp only [List.setIfInBounds_toArray]); (try simp only [List.set_cons_succ]); (try simp only [List.set_cons_zero])
            refine wpAnyH_take (i := 11) (v := undef) rfl (by kernel_rfl) (by kernel_rfl) (by kernel_rfl) (fun _ _ _ h => h) (Or.inr ⟨by rfl, rfl⟩) hHeld ?rest11
            (try simp only [Act.put, List.getElem_toArray, List.getElem_cons_succ, List.getElem_cons_zero]); (try simp only [List.setIfInBounds_toArray]); (try simp only [List.set_cons_succ]); (try simp only [List.set_cons_zero])
            refine wpAnyH_take (i := 12) (v := undef) rfl (by kernel_rfl) (by kernel_rfl) (by kernel_rfl) (fun _ _ _ h => h) (Or.inr ⟨by rfl, rfl⟩) hHeld ?rest12
            (try simp only [Act.put, List.getElem_toArray, List.getElem_cons_succ, List.getElem_cons_zero]); (try simp only [List.setIfInBounds_toArray]); (try simp only [List.set_cons_succ]); (try simp only [List.set_cons_zero])
            refine wpAnyH_take (i := 13) (v := ?v13) rfl (by kernel_rfl) (by kernel_rfl) (by kernel_rfl) (fun _ _ _ h => h) (Or.inl ⟨by rfl, ?hy13⟩) hHeld ?rest13
            case hy13 => (intro wz hSw; (try dsimp only at hSw); go_simp; (try with_reducible rfl))
            (try simp only [Act.put, List.getElem_toArray, List.getElem_cons_succ, List.getElem_cons_zero]); (try simp only [List.setIfInBounds_toArray]); (try simp only [List.set_cons_succ]); (try simp only [List.set_cons_zero])
            refine wpAnyH_done (by kernel_rfl) ?_ _
            clear hHeld
            have E2 := Lib.hid (hE.out.trans X9)
            have G2 := Lib.hid (hG.out.ext X9)
            have B2 := Lib.hid (hB.out.ext X9)
            clear hE hG hB
            go_wp2
            exact ⟨⟨j + 1, cv, some ⟨g, 0, none⟩, by omega, by simp, by rw [HF.out, HML.out], by rw [HF.out, HML.out]; exact G2, E2, B2, by rw [HF.out, HML.out]; exact hNB⟩, by simp [intOf]; omega⟩
          · have hne1 : (gi xs (r * R + j) != 0) = true := by simpa using h1
            have hne2 : (gi xs (r * R + j) == 0) = false := by simpa using h1
            by_cases hjm : j ∈ M
            · have HF := Lib.hid (HBX.out.2 (fun h => h.2 hjm))
              have hfd : fndR m p = (p : Int) := by rw [fndR, if_pos (HPI.out.2 hjm)]
              rw [hfd] at HFD
              have hp0 : ¬ (p : Int) < 0 := by omega
              clear HBX hjm hfd
              go_wp2_with fail
              refine wp_region_held_drew (S := (fun w' => Ext wr w' ∧ (∀ b o, b < wr.heap.size → w'.cell? ⟨b, o, none⟩ = wr.cell? ⟨b, o, none⟩))) (by kernel_rfl) (ext2 (Ext.refl wr).drew) (fun hHeld => ?_)
              refine wpAnyH_take (i := 0) (v := ?v14) rfl (by kernel_rfl) (by kernel_rfl) (by kernel_rfl) (fun _ _ _ h => h) (Or.inl ⟨by rfl, ?hy14⟩) hHeld ?rest14
              case hy14 => (intro wz hSw; (try dsimp only at hSw); go_simp; (try with_reducible rfl))
              (try simp only [Act.put, List.getElem_toArray, List.getElem_cons_succ, List.getElem_cons_zero]); (try simp only [List.setIfInBounds_toArray]); (try simp only [List.set_cons_succ]); (try simp only [List.set_cons_zero])
              refine wpAnyH_take (i := 1) (v := ?v15) rfl (by kernel_rfl) (by kernel_rfl) (by kernel_rfl) (fun _ _ _ h => h) (Or.inl ⟨by rfl, ?hy15⟩) hHeld ?rest15
              case hy15 => (intro wz hSw; (try dsimp only at hSw); go_simp; (try with_reducible rfl))
              (try simp only [Act.put, List.getElem_toArray, List.getElem_cons_succ, List.getElem_cons_zero]); (try simp only [List.setIfInBounds_toArray]); (try simp only [List.set_cons_succ]); (try simp only [List.set_cons_zero])
              refine wpAnyH_take (i := 2) (v := ?v16) rfl (by kernel_rfl) (by kernel_rfl) (by kernel_rfl) (fun _ _ _ h => h) (Or.inl ⟨by rfl, ?hy16⟩) hHeld ?rest16
              case hy16 => (intro wz hSw; (try dsimp only at hSw); go_simp; (try with_reducible rfl))
              (try simp only [Act.put, List.getElem_toArray, List.getElem_cons_succ, List.getElem_cons_zero]); (try simp only [List.setIfInBounds_toArray]); (try simp only [List.set_cons_succ]); (try simp only [List.set_cons_zero])
              refine wpAnyH_take (i := 3) (v := ?v17) rfl (by kernel_rfl) (by kernel_rfl) (by kernel_rfl) (fun _ _ _ h => h) (Or.inl ⟨by rfl, ?hy17⟩) hHeld ?rest17
              case hy17 => (intro wz hSw; (try dsimp only at hSw); go_simp; (try with_reducible rfl))
              (try simp only [Act.put, List.getElem_toArray, List.getElem_cons_succ, List.getElem_cons_zero]); (try simp only [List.setIfInBounds_toArray]); (try simp only [List.set_cons_succ]); (try simp only [List.set_cons_zero])
              refine wpAnyH_take (i := 4) (v := ?v18) rfl (by kernel_rfl) (by kernel_rfl) (by kernel_rfl) (fun _ _ _ h => h) (Or.inl ⟨by rfl, ?hy18⟩) hHeld ?rest18
              case hy18 => (intro wz hSw; (try dsimp only at hSw); go_simp; (try with_reducible rfl))
              (try simp only [Act.put, List.getElem_toArray, List.getElem_cons_succ, List.getElem_cons_zero]); (try simp only [List.setIfInBounds_toArray]); (try simp only [List.set_cons_succ]); (try simp only [List.set_cons_zero])
              refine wpAnyH_take (i := 5) (v := ?v19) rfl (by kernel_rfl) (by kernel_rfl) (by kernel_rfl) (fun _ _ _ h => h) (Or.inl ⟨by rfl, ?hy19⟩) hHeld ?rest19
              case hy19 => (intro wz hSw; (try dsimp only at hSw); go_simp; (try with_reducible rfl))
              (try simp only [Act.put, List.getElem_toArray, List.getElem_cons_succ, List.getElem_cons_zero]); (try simp only [List.setIfInBounds_toArray]); (try simp only [List.set_cons_succ]); (try simp only [List.set_cons_zero])
              refine wpAnyH_ready (rs := [6]) (by kernel_rfl) (by simp) ?_
              refine AllReadyH.cons rfl (fun K' hK => ?_) AllReadyH.nil
              go_simp
              refine (HAT.out _ (And.left hHeld)).mono ?_
              rintro e w5 ⟨rfl, h5⟩
              have X9 := (And.left hHeld).trans h5
              dsimp only
              refine hK.out _ _ (ext2 X9) (fun hHeld => ?_)
              clear hK
              refine wpAnyH_take (i := 7) (v := ?v20) rfl (by kernel_rfl) (by kernel_rfl) (by kernel_rfl) (fun _ _ _ h => h) (Or.inl ⟨by rfl, ?hy20⟩) hHeld ?rest20
              case hy20 => (intro wz hSw; (try dsimp only at hSw); go_simp; (try with_reducible rfl))
              (try simp only [Act.put, List.getElem_toArray, List.getElem_cons_succ, List.getElem_cons_zero]); (try simp only [List.setIfInBounds_toArray]); (try simp only [List.set_cons_succ]); (try simp only [List.set_cons_zero])
              refine wpAnyH_take (i := 8) (v := ?v21) rfl (by kernel_rfl) (by kernel_rfl) (by kernel_rfl) (fun _ _ _ h => h) (Or.inl ⟨by rfl, ?hy21⟩) hHeld ?rest21
              case hy21 => (intro wz hSw; (try dsimp only at hSw); go_simp; (try with_reducible rfl))
              (try simp only [Act.put, List.getElem_toArray, List.getElem_cons_succ, List.getElem_cons_zero]); (try simp only [List.setIfInBounds_toArray]); (try simp only [List.set_cons_succ]); (try simp only [List.set_cons_zero])
              refine wpAnyH_take (i := 9) (v := ?v22) rfl (by kernel_rfl) (by kernel_rfl) (by kernel_rfl) (fun _ _ _ h => h) (Or.inl ⟨by rfl, ?hy22⟩) hHeld ?rest22
              case hy22 => (intro wz hSw; (try dsimp only at hSw); go_simp; (try with_reducible rfl))
              (try simp only [Act.put, List.getElem_toArray, List.getElem_cons_succ, List.getElem_cons_zero]); (try simp only [List.setIfInBounds_toArray]); (try simp only [List.set_cons_succ]); (try simp only [List.set_cons_zero])
              refine wpAnyH_take (i := 10) (v := ?v23) rfl (by kernel_rfl) (by kernel_rfl) (by kernel_rfl) (fun _ _ _ h => h) (Or.inl ⟨by rfl, ?hy23⟩) hHeld ?rest23
              case hy23 => (intro wz hSw; (try dsimp only at hSw); go_simp; (try with_reducible rfl))
              (try simp only [Act.put, List.getElem_toArray, List.getElem_cons_succ, List.getElem_cons_zero]); (try simp only [List.setIfInBounds_toArray]); (try simp only [List.set_cons_succ]); (try simp only [List.set_cons_zero])
              refine wpAnyH_ready (rs := [11]) (by kernel_rfl) (by simp) ?_
              refine AllReadyH.cons rfl (fun K' hK => ?_) AllReadyH.nil
              go_simp
              refine (HFD.out _ (And.left hHeld)).mono ?_
              rintro e w6 ⟨rfl, rfl⟩
              dsimp only
              refine hK.out _ _ hHeld (fun hHeld => ?_)
              clear hK
              refine wpAnyH_take (i := 12) (v := ?v24) rfl (by kernel_rfl) (by kernel_rfl) (by kernel_rfl) (fun _ _ _ h => h) (Or.inl ⟨by rfl, ?hy24⟩) hHeld ?rest24
              case hy24 => (intro wz hSw; (try dsimp only at hSw); go_simp; (try with_reducible rfl))
              (try simp only [Act.put, List.getElem_toArray, List.getElem_cons_succ, List.getElem_cons_zero]); (try simp only [List.setIfInBounds_toArray]); (try simp only [List.set_cons_succ]); (try simp only [List.set_cons_zero])
              refine wpAnyH_take (i := 13) (v := ?v25) rfl (by kernel_rfl) (by kernel_rfl) (by kernel_rfl) (fun _ _ _ h => h) (Or.inl ⟨by rfl, ?hy25⟩) hHeld ?rest25
              case hy25 => (intro wz hSw; (try dsimp only at hSw); go_simp; (try with_reducible rfl))
              (try simp only [Act.put, List.getElem_toArray, List.getElem_cons_succ, List.getElem_cons_zero]); (try simp only [List.setIfInBounds_toArray]); (try simp only [List.set_cons_succ]); (try simp only [List.set_cons_zero])
              refine wpAnyH_done (by kernel_rfl) ?_ _
              clear hHeld
              have E2 := Lib.hid (hE.out.trans X9)
              have G2 := Lib.hid (hG.out.ext X9)
              have B2 := Lib.hid (hB.out.ext X9)
              clear hE hG hB
              go_wp2
              exact ⟨⟨j + 1, cv, some ⟨g, 0, none⟩, by omega, by simp, by rw [HF.out, HML.out], by rw [HF.out, HML.out]; exact G2, E2, B2, by rw [HF.out, HML.out]; exact hNB⟩, by simp [intOf]; omega⟩
            · have HF := Lib.hid (HBX.out.1 ⟨h1, hjm⟩)
              have hfd : fndR m p = -1 := by rw [fndR, if_neg (fun h => hjm (HPI.out.1 h))]
              rw [hfd] at HFD
              clear HBX hjm hfd
              go_wp2_with fail
              refine wp_region_held_drew (S := (fun w' => Ext wr w' ∧ (∀ b o, b < wr.heap.size → w'.cell? ⟨b, o, none⟩ = wr.cell? ⟨b, o, none⟩))) (by kernel_rfl) (ext2 (Ext.refl wr).drew) (fun hHeld => ?_)
              refine wpAnyH_take (i := 0) (v := ?v26) rfl (by kernel_rfl) (by kernel_rfl) (by kernel_rfl) (fun _ _ _ h => h) (Or.inl ⟨by rfl, ?hy26⟩) hHeld ?rest26
              case hy26 => (intro wz hSw; (try dsimp only at hSw); go_simp; (try with_reducible rfl))
              (try simp only [Act.put, List.getElem_toArray, List.getElem_cons_succ, List.getElem_cons_zero]); (try simp only [List.setIfInBounds_toArray]); (try simp only [List.set_cons_succ]); (try simp only [List.set_cons_zero])
              refine wpAnyH_take (i := 1) (v := ?v27) rfl (by kernel_rfl) (by kernel_rfl) (by kernel_rfl) (fun _ _ _ h => h) (Or.inl ⟨by rfl, ?hy27⟩) hHeld ?rest27
              case hy27 => (intro wz hSw; (try dsimp only at hSw); go_simp; (try with_reducible rfl))
              (try simp only [Act.put, List.getElem_toArray, List.getElem_cons_succ, List.getElem_cons_zero]); (try simp only [List.setIfInBounds_toArray]); (try simp only [List.set_cons_succ]); (try simp only [List.set_cons_zero])
              refine wpAnyH_take (i := 2) (v := ?v28) rfl (by kernel_rfl) (by kernel_rfl) (by kernel_rfl) (fun _ _ _ h => h) (Or.inl ⟨by rfl, ?hy28⟩) hHeld ?rest28
              case hy28 => (intro wz hSw; (try dsimp only at hSw); go_simp; (try with_reducible rfl))
              (try simp only [Act.put, List.getElem_toArray, List.getElem_cons_succ, List.getElem_cons_zero]); (try simp only [List.setIfInBounds_toArray]); (try simp only [List.set_cons_succ]); (try simp only [List.set_cons_zero])
              refine wpAnyH_take (i := 3) (v := ?v29) rfl (by kernel_rfl) (by kernel_rfl) (by kernel_rfl) (fun _ _ _ h => h) (Or.inl ⟨by rfl, ?hy29⟩) hHeld ?rest29
              case hy29 => (intro wz hSw; (try dsimp only at hSw); go_simp; (try with_reducible rfl))
              (try simp only [Act.put, List.getElem_toArray, List.getElem_cons_succ, List.getElem_cons_zero]); (try simp only [List.setIfInBounds_toArray]); (try simp only [List.set_cons_succ]); (try simp only [List.set_cons_zero])
              refine wpAnyH_take (i := 4) (v := ?v30) rfl (by kernel_rfl) (by kernel_rfl) (by kernel_rfl) (fun _ _ _ h => h) (Or.inl ⟨by rfl, ?hy30⟩) hHeld ?rest30
              case hy30 => (intro wz hSw; (try dsimp only at hSw); go_simp; (try with_reducible rfl))
              (try simp only [Act.put, List.getElem_toArray, List.getElem_cons_succ, List.getElem_cons_zero]); (try simp only [List.setIfInBounds_toArray]); (try simp only [List.set_cons_succ]); (try simp only [List.set_cons_zero])
              refine wpAnyH_take (i := 5) (v := ?v31) rfl (by kernel_rfl) (by kernel_rfl) (by kernel_rfl) (fun _ _ _ h => h) (Or.inl ⟨by rfl, ?hy31⟩) hHeld ?rest31
              case hy31 => (intro wz hSw; (try dsimp only at hSw); go_simp; (try with_reducible rfl))
              (try simp only [Act.put, List.getElem_toArray, List.getElem_cons_succ, List.getElem_cons_zero]); (try simp only [List.setIfInBounds_toArray]); (try simp only [List.set_cons_succ]); (try simp only [List.set_cons_zero])
              refine wpAnyH_ready (rs := [6]) (by kernel_rfl) (by simp) ?_
              refine AllReadyH.cons rfl (fun K' hK => ?_) AllReadyH.nil
              go_simp
              refine (HAT.out _ (And.left hHeld)).mono ?_
              rintro e w5 ⟨rfl, h5⟩
              have X9 := (And.left hHeld).trans h5
              dsimp only
              refine hK.out _ _ (ext2 X9) (fun hHeld => ?_)
              clear hK
              refine wpAnyH_take (i := 7) (v := ?v32) rfl (by kernel_rfl) (by kernel_rfl) (by kernel_rfl) (fun _ _ _ h => h) (Or.inl ⟨by rfl, ?hy32⟩) hHeld ?rest32
              case hy32 => (intro wz hSw; (try dsimp only at hSw); go_simp; (try with_reducible rfl))
              (try simp only [Act.put, List.getElem_toArray, List.getElem_cons_succ, List.getElem_cons_zero]); (try simp only [List.setIfInBounds_toArray]); (try simp only [List.set_cons_succ]); (try simp only [List.set_cons_zero])
              refine wpAnyH_take (i := 8) (v := ?v33) rfl (by kernel_rfl) (by kernel_rfl) (by kernel_rfl) (fun _ _ _ h => h) (Or.inl ⟨by rfl, ?hy33⟩) hHeld ?rest33
              case hy33 => (intro wz hSw; (try dsimp only at hSw); go_simp; (try with_reducible rfl))
              (try simp only [Act.put, List.getElem_toArray, List.getElem_cons_succ, List.getElem_cons_zero]); (try simp only [List.setIfInBounds_toArray]); (try simp only [List.set_cons_succ]); (try simp only [List.set_cons_zero])
              refine wpAnyH_take (i := 9) (v := ?v34) rfl (by kernel_rfl) (by kernel_rfl) (by kernel_rfl) (fun _ _ _ h => h) (Or.inl ⟨by rfl, ?hy34⟩) hHeld ?rest34
              case hy34 => (intro wz hSw; (try dsimp only at hSw); go_simp; (try with_reducible rfl))
              (try simp only [Act.put, List.getElem_toArray, List.getElem_cons_succ, List.getElem_cons_zero]); (try simp only [List.setIfInBounds_toArray]); (try simp only [List.set_cons_succ]); (try simp only [List.set_cons_zero])
              refine wpAnyH_take (i := 10) (v := ?v35) rfl (by kernel_rfl) (by kernel_rfl) (by kernel_rfl) (fun _ _ _ h => h) (Or.inl ⟨by rfl, ?hy35⟩) hHeld ?rest35
              case hy35 => (intro wz hSw; (try dsimp only at hSw); go_simp; (try with_reducible rfl))
              (try simp only [Act.put, List.getElem_toArray, List.getElem_cons_succ, List.getElem_cons_zero]); (try simp only [List.setIfInBounds_toArray]); (try simp only [List.set_cons_succ]); (try simp only [List.set_cons_zero])
              refine wpAnyH_ready (rs := [11]) (by kernel_rfl) (by simp) ?_
              refine AllReadyH.cons rfl (fun K' hK => ?_) AllReadyH.nil
              go_simp
              refine (HFD.out _ (And.left hHeld)).mono ?_
              rintro e w6 ⟨rfl, rfl⟩
              dsimp only
              refine hK.out _ _ hHeld (fun hHeld => ?_)
              clear hK
              refine wpAnyH_take (i := 12) (v := ?v36) rfl (by kernel_rfl) (by kernel_rfl) (by kernel_rfl) (fun _ _ _ h => h) (Or.inl ⟨by rfl, ?hy36⟩) hHeld ?rest36
              case hy36 => (intro wz hSw; (try dsimp only at hSw); go_simp; (try with_reducible rfl))
              (try simp only [Act.put, List.getElem_toArray, List.getElem_cons_succ, List.getElem_cons_zero]); (try simp only [List.setIfInBounds_toArray]); (try simp only [List.set_cons_succ]); (try simp only [List.set_cons_zero])
              refine wpAnyH_take (i := 13) (v := ?v37) rfl (by kernel_rfl) (by kernel_rfl) (by kernel_rfl) (fun _ _ _ h => h) (Or.inl ⟨by rfl, ?hy37⟩) hHeld ?rest37
              case hy37 => (intro wz hSw; (try dsimp only at hSw); go_simp; (try with_reducible rfl))
              (try simp only [Act.put, List.getElem_toArray, List.getElem_cons_succ, List.getElem_cons_zero]); (try simp only [List.setIfInBounds_toArray]); (try simp only [List.set_cons_succ]); (try simp only [List.set_cons_zero])
              refine wpAnyH_done (by kernel_rfl) ?_ _
              clear hHeld
              have E2 := Lib.hid (hE.out.trans X9)
              have G2 := Lib.hid (hG.out.ext X9)
              have B2 := Lib.hid (hB.out.ext X9)
              have hsz2 := E2.out.le
              have hbk := Lib.hid (World.ownsRow.lt G2.out)
              clear hE hG hB
              go_wp2_with (at_builtin; refine wpList_append1at rfl _ _ rfl w.heap.size (.slice (some ⟨g, 0, none⟩) m cv) _ _ (j : Int) 1 rfl rfl G2.out (by omega) hsz2 ?_)
              intro v' w4 hG4 hg4 hn4
              have E4 := Lib.hid (G2.out.extAfter hg4 E2.out (Nat.le_refl _))
              obtain ⟨va4, cv4, rfl, hnv4, ho4⟩ := hG4.reads2
              have HF2 : Hid (rI (connJ (bx xs R) r L (j + 1)) = rI M ++ [(j : Int)]) := by rw [Hid, HF.out, rI_app]; rfl
              have HFL : Hid ((connJ (bx xs R) r L (j + 1)).length = m + 1) := by rw [Hid, HF.out, List.length_append, HML.out]; rfl
              have G4 : Hid (Grows w4 w.heap.size (.slice va4 (connJ (bx xs R) r L (j + 1)).length cv4) (connJ (bx xs R) r L (j + 1)).length (rI (connJ (bx xs R) r L (j + 1)))) := by
                rw [HFL.out, HF2.out]; exact hG4
              have B4 := Lib.hid (B2.out.grown hg4 (fun z hz => hNB.out z hz))
              have N4 : Hid (∀ z, (Value.slice va4 (connJ (bx xs R) r L (j + 1)).length cv4).ownBlock = some z → z ≠ w.heap.size) := fun z hz => by
                have hz2 : (Value.slice va4 (m + 1) cv4).ownBlock = some z := by rw [HFL.out] at hz; exact hz
                rcases hn4 with e | e
                · exact hNB.out z (e ▸ hz2)
                · rw [hz2] at e; injection e with e; have := B2.out.1; omega
              clear hG4 hg4 ho4 hnv4 G2 B2 hn4
              go_wp2
              exact ⟨⟨j + 1, cv4, va4, by omega, by simp, by rw [HFL.out], G4, E4, B4, N4⟩, by simp [intOf]; omega⟩
        · obtain rfl : R = j := by omega
          have HF : Hid (connJ (bx xs R) r L R = connK (bx xs R) R row (k + 1)) := HKK.out.symm
          rw [HF.out] at hG hNB ⊢
          clear HKK
          go_wp2
          exact ⟨⟨k + 1, cv, va, by omega, by simp, rfl, hG, hE, hB, hNB⟩, by simp [intOf]; omega⟩
    · have HF : Hid (connK (bx xs R) R row k = conn (bx xs R) R row) := by
        have := HST.out k (by omega) (R - k)
        rw [show k + (R - k) = R by omega] at this
        exact this.symm
      rw [HF.out] at hG hlt ⊢
      obtain ⟨va', cv', hv', hnv, hO⟩ := hG.out.reads2
      injection hv' with e1 e2 e3
      subst e1; subst e3
      have HO := Lib.hid hO
      have HSL : Hid (SlcOk va (conn (bx xs R) R row).length cv) := by
        refine ⟨?_, ?_, fun h => (hnv h).2⟩
        · rcases hG.out.2 with ⟨e1, e2⟩ | ⟨g, cap, cur, e1, hb, hg, hn, hc, hs, ht⟩
          · omega
          · injection e1 with _ _ e4; omega
        · rcases hG.out.2 with ⟨e1, e2⟩ | ⟨g, cap, cur, e1, hb, hg, hn, hc, hs, ht⟩
          · injection e1 with _ _ e4; omega
          · injection e1 with _ _ e4; omega
      obtain ⟨nc, hnc⟩ : ∃ nc, (conn (bx xs R) R row).length = nc := ⟨_, rfl⟩
      have HNC := Lib.hid hnc
      rw [hnc] at HO HSL hG hlt ⊢
      clear hnc
      have hlt2 : ¬ (k : Int) < (nc : Int) := by omega
      clear hnv hO hG hx1 hx2 hx3 hB hNB
      go_wp2
      go_ret
      exact ⟨va, cv, by rw [HNC.out]; rfl, by rw [HNC.out]; exact HO.out, by rw [HNC.out]; exact HSL.out, hE.out⟩
end Go.Proofs.YtlnpaplbcocmkaaGreat
