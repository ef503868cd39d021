/-
  Weights climb to dominant ones, in both texts.
-/
import Derived.Test.YtlnpaplbcocmkaaGreatTd
import Derived.Test.YtlnpaplbcocmkaaGreatCln
import Derived.WalkMore
import Derived.Deep.LoopGhost
import Derived.OwnWalk
namespace Go.Proofs.YtlnpaplbcocmkaaGreat
open Go.ChangeShapes Go.WideShapes Go.ChangeAt Go.RowKit
set_option linter.unusedVariables false
set_option linter.unusedSimpArgs false

def lenV : Value → Nat | .slice _ n _ => n | _ => 0
theorem rI_len (l : List Nat) : (rI l).length = l.length := by simp [rI]
theorem climb_stop {xs wl : List Int} {R : Nat} {O : Option (List Int × List Nat)} {rows : List Nat} (hO : O = (climbO xs R wl).map (fun p => (p.1, rows ++ p.2))) (hl : latB R wl = false) : O = none := by
  rw [hO, climbO_no hl]; rfl
theorem climb_fin {xs wl : List Int} {R : Nat} {O : Option (List Int × List Nat)} {rows : List Nat} (hO : O = (climbO xs R wl).map (fun p => (p.1, rows ++ p.2))) (hl : latB R wl = true) (h : ∀ e, e < R → 0 ≤ gi wl e) : O = some (wl, rows) := by
  have hn : negI wl = wl.length := negI_none (fun e he => h e (by rw [← (latB_bnd hl).1]; exact he))
  rw [hO, climbO_end hl (by rw [hn, (latB_bnd hl).1]; omega)]
  simp
/-- How long the word may still get. -/
def Fuel (h wl : List Int) (R : Nat) (rows : List Nat) : Prop := rows.length = 0 ∨ rows.length + climbN h wl R ≤ 512001
theorem climb_next {xs h wl : List Int} {R j : Nat} {O : Option (List Int × List Nat)} {rows : List Nat} (hR : R ≤ 4) (hc : Climbs xs h R) (hO : O = (climbO xs R wl).map (fun p => (p.1, rows ++ p.2))) (hF : Fuel h wl R rows) (hl : latB R wl = true) (hj : j < R) (h0 : ∀ e, e < j → 0 ≤ gi wl e) (hn : gi wl j < 0) : O = (climbO xs R (turnM xs R j wl)).map (fun p => (p.1, (rows ++ [j]) ++ p.2)) ∧ Fuel h (turnM xs R j wl) R (rows ++ [j]) ∧ rows.length ≤ 512001 := by
  have hb := latB_bnd hl
  have he : negI wl = j := negI_of (by rw [hb.1]; exact hj) h0 hn
  have h1 := climbO_acc hR hc hl (by rw [he]; exact hj) hO
  rw [he] at h1
  have h2 := climbN_lt hR hc hj hn hb.2
  have h3 := climbN_le hR hc.bnd hb.2
  unfold Fuel at hF
  refine ⟨h1, .inr ?_, ?_⟩
  · rw [List.length_append, List.length_singleton]; omega
  · omega
theorem readsOther {w w' : World} {b o n : Nat} {xs : List Int} {row : Option Nat} (h : Reads w (some ⟨b, o, none⟩) n xs) (hg : w.grownBy w' row) (hd : ∀ k, row = some k → k ≠ b) : Reads w' (some ⟨b, o, none⟩) n xs := by
  refine ⟨h.1, ?_⟩
  rcases h.2 with h | ⟨b1, off, e, hlt, hc⟩
  · exact .inl h
  · injection e with e
    injection e with e1 e2
    subst e1 e2
    refine .inr ⟨b, o, rfl, Nat.lt_of_lt_of_le hlt hg.size, fun j hj => ?_⟩
    rw [World.cell?_of_block (w := w) (hg.block b hlt (fun e => hd b e.symm rfl))]
    exact hc j hj
theorem climb_first (xs wl : List Int) (R : Nat) : climbO xs R wl = (climbO xs R wl).map (fun p => (p.1, ([] : List Nat) ++ p.2)) := by
  simp

set_option maxRecDepth 100000 in
set_option maxHeartbeats 1600000 in
theorem hasWeight_impl (B R da od n cD ax ox m cx : Nat) (v2 v3 : Value) (ys : List Int) (w : World) (hB : Cells w B [.int .i64 (R : Nat), .slice (some ⟨da, od, none⟩) n cD, v2, v3]) (hy : Reads w (some ⟨ax, ox, none⟩) m ys) (hR : R ≤ 4) (hmm : m ≤ 1048576) :
    Calls Tryz.prog 70 #[.pointer (some ⟨B, 0, none⟩), .slice (some ⟨ax, ox, none⟩) m cx] w fun e w' => e = .returned (.bool (latB R ys)) ∧ Ext w w' := by
  have HC := Lib.hid (hasLattice_impl B R da od n cD ax ox m cx v2 v3 ys w hB hy hR hmm)
  clear hB hy
  go_enter Tryz.func70, Tryz.ntmps70
  go_wp2_with fail
  refine HC.out.mono ?_
  rintro e w2 ⟨rfl, h⟩
  go_wp2
  go_ret
  exact ⟨rfl, h⟩

set_option maxRecDepth 100000 in
set_option maxHeartbeats 12800000 in
theorem raised_impl (B R da od n cD m c ax ox : Nat) (v2 v3 : Value) (xs h y : List Int) (w : World) (hB : Cells w B [.int .i64 (R : Nat), .slice (some ⟨da, od, none⟩) n cD, v2, v3]) (hr : Reads w (some ⟨da, od, none⟩) n xs) (hn : n = R * R) (hR0 : 1 ≤ R) (hR : R ≤ 4) (hxb : ∀ e, -3 ≤ gi xs e ∧ gi xs e ≤ 3) (hc : Climbs xs h R) (hy : Reads w (some ⟨ax, ox, none⟩) m y) (hm : m ≤ 1048576) :
    Calls Tryz.prog 77 #[.pointer (some ⟨B, 0, none⟩), .slice (some ⟨ax, ox, none⟩) m c] w fun e w' => Ext w w' ∧ ((climbO xs R y = none ∧ e = .returned (.tuple #[.slice none 0 0, .slice none 0 0, .bool false])) ∨ ∃ d rows b c9 v, climbO xs R y = some (d, rows) ∧ e = .returned (.tuple #[.slice (some ⟨b, 0, none⟩) R c9, v, .bool true]) ∧ R ≤ c9 ∧ w.heap.size ≤ b ∧ b < w'.heap.size ∧ Has w' b d ∧ d.length = R ∧ Grows w' w.heap.size v rows.length (rI rows) ∧ (∀ z, v.ownBlock = some z → z < b) ∧ rows.length ≤ 512001) := by
  have HB := Lib.hid hB
  have HR := Lib.hid hr
  have HN := Lib.hid hn
  have HX := Lib.hid hxb
  have HC := Lib.hid hc
  have HY := Lib.hid hy
  obtain ⟨O, hO⟩ : ∃ O, climbO xs R y = O := ⟨_, rfl⟩
  have HO0 : Hid (O = (climbO xs R y).map (fun p => (p.1, ([] : List Nat) ++ p.2))) := by rw [Hid, ← hO]; exact climb_first xs y R
  rw [hO]
  have HG0 : Hid (Grows w w.heap.size (.slice none 0 0) ([] : List Nat).length (rI [])) := ⟨rfl, .inl ⟨rfl, rfl⟩⟩
  clear hB hr hn hxb hc hy hO
  go_enter Tryz.func77, Tryz.ntmps77
  go_wp2
  go_step3
  go_wp2
  go_step3
  go_wp2
  go_loopg [1, 7, 8, 9] 512002 (fun g z v _ _ wr => ∃ (bx ox mm cc cv : Nat) (wl : List Int) (rows : List Nat) (va : Option Addr), z = .slice (some ⟨bx, ox, none⟩) mm cc ∧ v = .slice va rows.length cv ∧ mm ≤ 1048576 ∧ g + rows.length = 512002 ∧ Hid (Reads wr (some ⟨bx, ox, none⟩) mm wl) ∧ Hid (Grows wr w.heap.size (.slice va rows.length cv) rows.length (rI rows)) ∧ Hid (Ext w wr) ∧ Hid (O = (climbO xs R wl).map (fun p => (p.1, rows ++ p.2))) ∧ Hid (Fuel h wl R rows))
  case atStart => exact ⟨ax, ox, m, c, 0, y, [], none, rfl, rfl, hm, by simp, HY, HG0, Ext.refl _, HO0, .inl rfl⟩
  case round =>
    clear HO0 HG0
    obtain ⟨G, hG9⟩ : ∃ G, G = gk := ⟨_, rfl⟩
    subst hG9
    obtain ⟨bx, ox, mm, cc, cv, wl, rows, va, rfl, rfl, hmm, hgk, hX, hG, hE, hOO, hF⟩ := hrel
    have HHW := Lib.hid (hasWeight_impl B R da od n cD bx ox mm cc v2 v3 wl wr (HB.out.ext hE.out) hX.out hR hmm)
    rcases hL : latB R wl with _ | _
    · have HNONE : Hid (O = none) := climb_stop hOO.out hL
      rw [hL] at HHW
      clear hOO hF
      go_wp2_with fail
      refine HHW.out.mono ?_
      rintro e w2 ⟨rfl, h2⟩
      go_wp2
      (try rw [Exit.noGoto_ret])
      go_ret3
      exact ⟨hE.out.trans h2, .inl ⟨HNONE.out, rfl⟩⟩
    · have HLB := Lib.hid (latB_bnd hL)
      have HFIN := Lib.hid (fun hh => climb_fin hOO.out hL hh)
      have HNEXT := Lib.hid (fun j hj h0 hn => climb_next (j := j) hR HC.out hOO.out hF.out hL hj h0 hn)
      have HF2 : Hid (rows.length ≤ 512001) := by
        have h1 := hF.out
        unfold Fuel at h1
        rw [Hid]; omega
      have hmR : mm = R := by rw [← hX.out.len]; exact HLB.out.1
      subst hmR
      rw [hL] at HHW
      clear hOO hF hL
      go_wp2_with fail
      refine HHW.out.mono ?_
      rintro e w2 ⟨rfl, h2⟩
      have HE2 := Lib.hid (hE.out.trans h2)
      have HX2 := Lib.hid (hX.out.ext h2)
      have HG2 := Lib.hid (hG.out.ext h2)
      clear h2 hE hX hG HHW
      go_wp2_with fail
      go_loopg [15, 8, 9, 1, 7] mm (fun g2 z _ _ z1 z7 wr => ∃ j : Nat, z1 = .slice (some ⟨bx, ox, none⟩) mm cc ∧ z7 = .slice va rows.length cv ∧ j + g2 = mm ∧ z = .int .i64 j ∧ wr = w2 ∧ Hid (∀ e, e < j → 0 ≤ gi wl e))
      case atStart => exact ⟨0, rfl, rfl, by omega, rfl, rfl, fun e he => by omega⟩
      case round =>
        obtain ⟨j, rfl, rfl, hj, rfl, rfl, h0⟩ := hrel
        by_cases hlt : j < mm
        · obtain ⟨b1, o1, he1, hb1, hx1⟩ := reads5 HX2.out (by omega)
          injection he1 with he1
          injection he1 with he2 he3
          subst he2 he3
          have cJ := hx1 j hlt
          have hjI : (j : Int) < (mm : Int) := by omega
          clear hx1
          by_cases hneg : gi wl j < 0
          · obtain ⟨hN1, hN2, hN3⟩ := HNEXT.out j hlt h0.out hneg
            have HN1 := Lib.hid hN1
            have HN2 := Lib.hid hN2
            clear hN1 hN2
            have HT := Lib.hid (turned_impl B mm da od n cD mm cc j v2 v3 xs wl (some ⟨bx, ox, none⟩) _ (HB.out.ext HE2.out) (HR.out.ext HE2.out) HN.out hR0 hR HX2.out rfl hlt HX.out (fun e => by have := HLB.out.2 e; omega))
            have hneg2 : (gi wl j < 0) = True := eq_true hneg
            go_wp2_with fail
            refine HT.out.mono ?_
            rintro e w3 ⟨b3, c3, rfl, hc3, hb3, hb4, hh3, h3⟩
            have HG3 := Lib.hid (HG2.out.ext h3)
            have HE3 := Lib.hid (HE2.out.trans h3)
            have HH3 := Lib.hid hh3
            have HBLK := Lib.hid HG2.out.blk
            have hsz := HE3.out.le
            clear HG2 HE2 hh3 h3 HT
            go_wp2_with (at_builtin; refine wpList_append1 rfl _ _ rfl w.heap.size (.slice va rows.length cv) _ _ (j : Int) 1 rfl rfl HG3.out (by omega) hsz ?_)
            intro v' w4 hG4 hg4
            have E4 := Lib.hid (HG3.out.extAfter hg4 HE3.out (Nat.le_refl _))
            have HH4 := Lib.hid (HH3.out.grownOther hg4 (fun k hk => by have := HBLK.out k hk; omega))
            obtain ⟨va4, cv4, rfl, hnv4, ho4⟩ := hG4.reads2
            have HLEN : Hid ((rows ++ [j]).length = rows.length + 1) := by rw [Hid, List.length_append]; rfl
            have G4 : Hid (Grows w4 w.heap.size (.slice va4 (rows ++ [j]).length cv4) (rows ++ [j]).length (rI (rows ++ [j]))) := by
              rw [HLEN.out, rI_app]; exact hG4
            have R4 : Hid (Reads w4 (some ⟨b3, 0, none⟩) mm (turnM xs mm j wl)) := HH4.out.reads (turnM_len _ _ _ _)
            clear hG4 hg4 ho4 hnv4 HG3 HH4 HH3
            go_wp2
            go_roundg (G - 1)
            case measure => omega
            case rel => exact ⟨b3, 0, mm, c3, cv4, turnM xs mm j wl, rows ++ [j], va4, rfl, by rw [HLEN.out], hmm, by have := HLEN.out; omega, R4, G4, E4, HN1, HN2⟩
          · have hneg2 : (gi wl j < 0) = False := eq_false hneg
            have h02 : Hid (∀ e, e < j + 1 → 0 ≤ gi wl e) := fun e he => by
              by_cases e1 : e = j
              · subst e1; omega
              · exact h0.out e (by omega)
            clear h0 HNEXT HFIN
            go_wp2
            go_roundg (gk - 1)
            case measure => omega
            case rel => exact ⟨j + 1, rfl, rfl, by omega, by simp, rfl, h02⟩
        · obtain rfl : mm = j := by omega
          have HFI : Hid (O = some (wl, rows)) := HFIN.out (fun e he => h0.out e he)
          clear HFIN HNEXT
          go_wp2_with fail
          refine (clone5 ⟨bx, ox, none⟩ mm cc wl _ HX2.out (by omega)).mono ?_
          rintro e w5 ⟨b, cb, rfl, hb1, hh, hE5, hcb⟩
          have HG5 := Lib.hid (HG2.out.ext hE5)
          have HBLK := Lib.hid HG2.out.blk
          have HE5 := Lib.hid (HE2.out.trans hE5)
          have HH5 := Lib.hid hh
          have hle := HE2.out.le
          clear hE5 hh HG2 HE2
          go_wp2
          (try rw [Exit.noGoto_ret])
          go_ret3
          exact ⟨HE5.out, .inr ⟨wl, rows, b, cb, _, HFI.out, rfl, hcb, by omega, HH5.out.lt, HH5.out, HLB.out.1, HG5.out, fun z hz => by have := HBLK.out z hz; omega, HF2.out⟩⟩

theorem lat_of {R : Nat} {wl : List Int} {P : List Int → Prop} (hP : ∀ u, P u → latB R u = true) (h : P wl) : wl.length = R ∧ ∀ e, -1000 ≤ gi wl e ∧ gi wl e ≤ 1000 := latB_bnd (hP wl h)
set_option maxRecDepth 100000 in
set_option maxHeartbeats 12800000 in
theorem l6Climb_spec (R da od n cD m c ax ox : Nat) (xs h y : List Int) (P : List Int → Prop) (w : World) (hr : Reads w (some ⟨da, od, none⟩) n xs) (hn : n = R * R) (hR0 : 1 ≤ R) (hR : R ≤ 4) (hxb : ∀ e, -3 ≤ gi xs e ∧ gi xs e ≤ 3) (hc : Climbs xs h R) (hy : Reads w (some ⟨ax, ox, none⟩) m y) (hm : m = R) (hP0 : P y) (hPL : ∀ u, P u → latB R u = true) (hPT : ∀ u i, i < R → P u → P (turnM xs R i u)) :
    Calls Tryz.prog 63 #[.agg #[.int .i64 (R : Nat), .slice (some ⟨da, od, none⟩) n cD], .slice (some ⟨ax, ox, none⟩) m c] w fun e w' => Ext w w' ∧ ∃ d rows b ob c9 v, climbO xs R y = some (d, rows) ∧ e = .returned (.tuple #[.slice (some ⟨b, ob, none⟩) R c9, v]) ∧ Reads w' (some ⟨b, ob, none⟩) R d ∧ P d ∧ Grows w' w.heap.size v rows.length (rI rows) ∧ rows.length ≤ 512001 := by
  subst hm
  have HR := Lib.hid hr
  have HN := Lib.hid hn
  have HX := Lib.hid hxb
  have HC := Lib.hid hc
  have HY := Lib.hid hy
  have HAX : Hid (ax < w.heap.size) := by
    obtain ⟨b1, o1, he1, hb1, _⟩ := reads5 hy (by omega)
    injection he1 with he1
    injection he1 with he2 he3
    subst he2; exact hb1
  have HPL := Lib.hid hPL
  have HPT := Lib.hid hPT
  have HP0 := Lib.hid hP0
  have HBX := Lib.hid (cells_new w #[.int .i64 (m : Nat), .slice (some ⟨da, od, none⟩) n cD] 27)
  have X0 := Lib.hid ((Ext.refl w).alloc (.cells #[.int .i64 (m : Nat), .slice (some ⟨da, od, none⟩) n cD] 27))
  obtain ⟨O, hO⟩ : ∃ O, climbO xs m y = O := ⟨_, rfl⟩
  have HO0 : Hid (O = (climbO xs m y).map (fun p => (p.1, ([] : List Nat) ++ p.2))) := by rw [Hid, ← hO]; exact climb_first xs y m
  rw [hO]
  have HG0 : Hid (∀ w2 : World, w.heap.size + 1 ≤ w2.heap.size → Grows (w2.alloc (.cells #[] 3)) (w.heap.size + 1) (.slice (some ⟨w2.heap.size, 0, none⟩) ([] : List Nat).length 0) ([] : List Nat).length (rI [])) := fun w2 h2 => World.ownsRow_lit w2 #[] 0 h2 (by unfold maxLen; omega) (by simp)
  clear hr hn hxb hc hy hO hPL hPT hP0
  go_enter Tryz.func63, Tryz.ntmps63
  go_wp2_with fail
  have HG1 : Hid (Grows ((w.alloc (.cells #[.int .i64 (m : Nat), .slice (some ⟨da, od, none⟩) n cD] 27)).alloc (.cells #[] 3)) (w.heap.size + 1) (.slice (some ⟨w.heap.size + 1, 0, none⟩) ([] : List Nat).length 0) ([] : List Nat).length (rI [])) := by
    have h9 := HG0.out (w.alloc (.cells #[.int .i64 (m : Nat), .slice (some ⟨da, od, none⟩) n cD] 27)) (by simp)
    rw [World.size_alloc] at h9
    exact h9
  have X1 := Lib.hid (X0.out.alloc (.cells #[] 3))
  go_loopw [1, 6, 7, 8] (fun z v _ _ wr => ∃ (bx ox cc cv : Nat) (wl : List Int) (rows : List Nat) (va : Option Addr), z = .slice (some ⟨bx, ox, none⟩) m cc ∧ v = .slice va rows.length cv ∧ Hid (Reads wr (some ⟨bx, ox, none⟩) m wl) ∧ Hid (Grows wr (w.heap.size + 1) (.slice va rows.length cv) rows.length (rI rows)) ∧ Hid (Ext w wr) ∧ Hid (Cells wr w.heap.size [.int .i64 (m : Nat), .slice (some ⟨da, od, none⟩) n cD]) ∧ Hid (O = (climbO xs m wl).map (fun p => (p.1, rows ++ p.2))) ∧ Hid (Fuel h wl m rows) ∧ Hid (P wl) ∧ Hid (∀ z, (Value.slice va rows.length cv).ownBlock = some z → z ≠ bx)) (fun _ v _ _ _ => 512002 - lenV v)
  case atStart => exact ⟨ax, ox, c, 0, y, [], _, rfl, rfl, HY.out.ext X1.out, HG1, X1, HBX.out.ext ((Ext.refl _).alloc _), HO0, .inl rfl, HP0, fun z hz => by have h1 := HG1.out.blk z hz; have := HAX.out; omega⟩
  case round =>
    clear HO0 HG1 HG0 X1 HP0
    obtain ⟨bx, ox, cc, cv, wl, rows, va, rfl, rfl, hX, hG, hE, hB, hOO, hF, hPW, hNB⟩ := hrel
    have hL : latB m wl = true := HPL.out wl hPW.out
    have HLB := Lib.hid (latB_bnd hL)
    have HFIN := Lib.hid (fun hh => climb_fin hOO.out hL hh)
    have HNEXT := Lib.hid (fun j hj h0 hn => climb_next (j := j) hR HC.out hOO.out hF.out hL hj h0 hn)
    have HF2 : Hid (rows.length ≤ 512001) := by
      have h1 := hF.out
      unfold Fuel at h1
      rw [Hid]; omega
    clear hOO hF hL
    have lB := hB.out.1
    have q0 := hB.out.2 0 _ rfl
    have q1 := hB.out.2 1 _ rfl
    have v1 : IntKind.i64.wrap ((m : Int) - 1) = (m : Int) - 1 := IntWalk.i64_in _ ⟨by omega, by omega⟩
    go_wp2_with fail
    go_loopw [8, 7] (fun z aw wq => ∃ j : Nat, j ≤ m ∧ z = .int .i64 ((j : Int) - 1) ∧ wq = wr ∧ ((aw = .int .i64 (-1) ∧ Hid (∀ e, j ≤ e → e < m → 0 ≤ gi wl e)) ∨ ∃ q : Nat, aw = .int .i64 q ∧ j ≤ q ∧ q < m ∧ Hid (gi wl q < 0) ∧ Hid (∀ e, j ≤ e → e < q → 0 ≤ gi wl e))) (fun z _ _ => (intOf z + 1).toNat)
    case atStart => exact ⟨m, by omega, rfl, rfl, .inl ⟨rfl, fun e h1 h2 => by omega⟩⟩
    case round =>
      obtain ⟨j, hj, rfl, rfl, ha⟩ := hrel
      by_cases hj0 : j = 0
      · subst hj0
        rcases ha with ⟨rfl, hall⟩ | ⟨q, rfl, _, hq, hneg, hbef⟩
        · have HFI : Hid (O = some (wl, rows)) := HFIN.out (fun e he => hall.out e (by omega) he)
          clear HFIN HNEXT
          go_wp2
          go_ret2
          exact ⟨hE.out, wl, rows, bx, ox, cc, _, HFI.out, rfl, hX.out, hPW.out, hG.out.low (by omega), HF2.out⟩
        · obtain ⟨hN1, hN2, hN3⟩ := HNEXT.out q hq (fun e he => hbef.out e (by omega) he) hneg.out
          have HN1 := Lib.hid hN1
          have HN2 := Lib.hid hN2
          have HPN := Lib.hid (HPT.out wl q hq hPW.out)
          have HBLK := Lib.hid hG.out.blk
          have hsz : w.heap.size + 1 ≤ wr.heap.size := lB
          have hqI : ((q : Int) < 0) = False := eq_false (by omega)
          have hqJ : ¬ ((q : Int) < 0) := by omega
          clear hN1 hN2
          go_wp2_with (at_builtin; refine wpList_append1 rfl _ _ rfl (w.heap.size + 1) (.slice va rows.length cv) _ _ (q : Int) 1 rfl rfl hG.out (by omega) hsz ?_)
          intro v' w4 hG4 hg4
          have E4 := Lib.hid (hG.out.extAfter hg4 hE.out (by omega))
          have B4 := Lib.hid (hB.out.grown hg4 (fun k hk => by have := HBLK.out k hk; omega))
          have X4 := Lib.hid (readsOther hX.out hg4 (fun k hk => hNB.out k hk))
          have BK4 := Lib.hid hG4.blk
          obtain ⟨va4, cv4, rfl, hnv4, ho4⟩ := hG4.reads2
          have HLEN : Hid ((rows ++ [q]).length = rows.length + 1) := by rw [Hid, List.length_append]; rfl
          have G4 : Hid (Grows w4 (w.heap.size + 1) (.slice va4 (rows ++ [q]).length cv4) (rows ++ [q]).length (rI (rows ++ [q]))) := by
            rw [HLEN.out, rI_app]; exact hG4
          have HT := Lib.hid (l6Reflect_spec m da od n cD m cc q xs wl (some ⟨bx, ox, none⟩) w4 (HR.out.ext E4.out) HN.out hR0 hR X4.out rfl hq HX.out (fun e => by have := HLB.out.2 e; omega))
          clear hG4 hg4 ho4 hnv4 lB q0 q1 hG hE hB hX hNB hPW HBLK HFIN HNEXT
          have lB := B4.out.1
          have q0 := B4.out.2 0 _ rfl
          have q1 := B4.out.2 1 _ rfl
          go_wp2_with fail
          refine HT.out.mono ?_
          rintro e w5 ⟨b5, c5, rfl, hc5, hb51, hb52, hh5, h5⟩
          have R5 : Hid (Reads w5 (some ⟨b5, 0, none⟩) m (turnM xs m q wl)) := hh5.reads (turnM_len _ _ _ _)
          have G5 := Lib.hid (G4.out.ext h5)
          have E5 := Lib.hid (E4.out.trans h5)
          have B5 := Lib.hid (B4.out.ext h5)
          have NB5 : Hid (∀ z, (Value.slice va4 (rows ++ [q]).length cv4).ownBlock = some z → z ≠ b5) := fun z hz => by
            rw [HLEN.out] at hz
            have := BK4.out z hz; omega
          clear hh5 h5 HT G4 E4 B4 X4 lB q0 q1 BK4
          go_wp2
          exact ⟨⟨b5, 0, c5, cv4, turnM xs m q wl, rows ++ [q], va4, rfl, by rw [HLEN.out], R5, G5, E5, B5, HN1, HN2, HPN, NB5⟩, by simp [lenV]; omega⟩
      · obtain ⟨j', rfl⟩ : ∃ j', j = j' + 1 := ⟨j - 1, by omega⟩
        have hz : ((j' + 1 : Nat) : Int) - 1 = (j' : Int) := by omega
        rw [hz]
        obtain ⟨b1, o1, he1, hb1, hx1⟩ := reads5 hX.out (by omega)
        injection he1 with he1
        injection he1 with he2 he3
        subst he2 he3
        have cJ := hx1 j' (by omega)
        have hjI : (j' : Int) < (m : Int) := by omega
        have v2 : IntKind.i64.wrap ((j' : Int) - 1) = (j' : Int) - 1 := IntWalk.i64_in _ ⟨by omega, by omega⟩
        clear hx1 hz
        by_cases hneg : gi wl j' < 0
        · have hneg2 : (gi wl j' < 0) = True := eq_true hneg
          have HNG := Lib.hid hneg
          clear ha HFIN HNEXT
          go_wp2
          exact ⟨⟨j', by omega, by first | rfl | trivial, by first | rfl | trivial, .inr ⟨j', by first | rfl | trivial, Nat.le_refl _, by omega, HNG, fun e h1 h2 => by omega⟩⟩, by (simp [intOf]) <;> omega⟩
        · have hneg2 : (gi wl j' < 0) = False := eq_false hneg
          have HNG : Hid (0 ≤ gi wl j') := by rw [Hid]; omega
          rcases ha with ⟨rfl, hall⟩ | ⟨q, rfl, h1, h2, h3, h4⟩
          · have HB2 : Hid (∀ e, j' ≤ e → e < m → 0 ≤ gi wl e) := fun e h1 h2 => by
              by_cases e1 : e = j'
              · subst e1; exact HNG.out
              · exact hall.out e (by omega) h2
            clear hall HFIN HNEXT
            go_wp2
            exact ⟨⟨j', by omega, by first | rfl | trivial, by first | rfl | trivial, .inl ⟨by first | rfl | trivial, HB2⟩⟩, by (simp [intOf]) <;> omega⟩
          · have HB2 : Hid (∀ e, j' ≤ e → e < q → 0 ≤ gi wl e) := fun e h5 h6 => by
              by_cases e1 : e = j'
              · subst e1; exact HNG.out
              · exact h4.out e (by omega) h6
            clear h4 HFIN HNEXT
            go_wp2
            exact ⟨⟨j', by omega, by first | rfl | trivial, by first | rfl | trivial, .inr ⟨q, by first | rfl | trivial, by omega, h2, h3, HB2⟩⟩, by (simp [intOf]) <;> omega⟩
end Go.Proofs.YtlnpaplbcocmkaaGreat
