/-
  Weights climb to dominant ones, in both texts.
-/
import Derived.Test.YthhgodjobddenaaTrd
import Derived.Test.YthhgodjobddenaaCln
import Derived.WalkMore
import Derived.Deep.LoopGhost
import Derived.OwnWalk
namespace Go.Proofs.Ythhgodjobddenaa
open Go.ChangeShapes Go.WideShapes Go.ChangeAt Go.RowKit
set_option linter.unusedVariables false
set_option linter.unusedSimpArgs false

def lenV : Value → Nat | .slice _ n _ => n | _ => 0
theorem rI_len (l : List Nat) : (rI l).length = l.length := by simp [rI]
theorem climb_stop {xs wl : List Int} {R : Nat} {O : Option (List Int × List Nat)} {rows : List Nat} (hO : O = (climbO xs R wl).map (fun p => (p.1, rows ++ p.2))) (hl : latB R wl = false) : O = none := by
  rw [hO, climbO_no hl]; rfl
theorem climb_fin {xs wl : List Int} {R : Nat} {O : Option (List Int × List Nat)} {rows : List Nat} (hO : O = (climbO xs R wl).map (fun p => (p.1, rows ++ p.2))) (hl : latB R wl = true) (h : ∀ e, e < R → 0 ≤ gi wl e) : O = some (wl, rows) := by
  have hn : negI wl = wl.length := negI_none (fun e he => h e (by rw [← (latB_bnd hl).1]; exact he))
  rw [hO, climbO_end hl (by rw [hn, (latB_bnd hl).1]; omega)]
  simp
/-- How long the word may still get. -/
def Fuel (h wl : List Int) (R : Nat) (rows : List Nat) : Prop := rows.length = 0 ∨ rows.length + climbN h wl R ≤ 512001
theorem climb_next {xs h wl : List Int} {R j : Nat} {O : Option (List Int × List Nat)} {rows : List Nat} (hR : R ≤ 4) (hc : Climbs xs h R) (hO : O = (climbO xs R wl).map (fun p => (p.1, rows ++ p.2))) (hF : Fuel h wl R rows) (hl : latB R wl = true) (hj : j < R) (h0 : ∀ e, e < j → 0 ≤ gi wl e) (hn : gi wl j < 0) : O = (climbO xs R (turnM xs R j wl)).map (fun p => (p.1, (rows ++ [j]) ++ p.2)) ∧ Fuel h (turnM xs R j wl) R (rows ++ [j]) ∧ rows.length ≤ 512001 := by
  have hb := latB_bnd hl
  have he : negI wl = j := negI_of (by rw [hb.1]; exact hj) h0 hn
  have h1 := climbO_acc hR hc hl (by rw [he]; exact hj) hO
  rw [he] at h1
  have h2 := climbN_lt hR hc hj hn hb.2
  have h3 := climbN_le hR hc.bnd hb.2
  unfold Fuel at hF
  refine ⟨h1, .inr ?_, ?_⟩
  · rw [List.length_append, List.length_singleton]; omega
  · omega
theorem readsOther {w w' : World} {b o n : Nat} {xs : List Int} {row : Option Nat} (h : Reads w (some ⟨b, o, none⟩) n xs) (hg : w.grownBy w' row) (hd : ∀ k, row = some k → k ≠ b) : Reads w' (some ⟨b, o, none⟩) n xs := by
  refine ⟨h.1, ?_⟩
  rcases h.2 with h | ⟨b1, off, e, hlt, hc⟩
  · exact .inl h
  · injection e with e
    injection e with e1 e2
    subst e1 e2
    refine .inr ⟨b, o, rfl, Nat.lt_of_lt_of_le hlt hg.size, fun j hj => ?_⟩
    rw [World.cell?_of_block (w := w) (hg.block b hlt (fun e => hd b e.symm rfl))]
    exact hc j hj
theorem climb_first (xs wl : List Int) (R : Nat) : climbO xs R wl = (climbO xs R wl).map (fun p => (p.1, ([] : List Nat) ++ p.2)) := by
  simp

set_option maxRecDepth 100000 in
set_option maxHeartbeats 1600000 in
theorem hasWeight_impl (B R da od n cD ax ox m cx : Nat) (v2 v3 : Value) (ys : List Int) (w : World) (hB : Cells w B [.int .i64 (R : Nat), .slice (some ⟨da, od, none⟩) n cD, v2, v3]) (hy : Reads w (some ⟨ax, ox, none⟩) m ys) (hR : R ≤ 4) (hmm : m ≤ 1048576) :
    Calls Try.prog 28 #[.pointer (some ⟨B, 0, none⟩), .slice (some ⟨ax, ox, none⟩) m cx] w fun e w' => e = .returned (.bool (latB R ys)) ∧ Ext w w' := by
  have HC := Lib.hid (hasLattice_impl B R da od n cD ax ox m cx v2 v3 ys w hB hy hR hmm)
  clear hB hy
  go_enter Try.func28, Try.ntmps28
  go_wp2_with fail
  refine HC.out.mono ?_
  rintro e w2 ⟨rfl, h⟩
  go_wp2
  go_ret
  exact ⟨rfl, h⟩

set_option maxRecDepth 100000 in
set_option maxHeartbeats 12800000 in
theorem raised_impl (B R da od n cD m c ax ox : Nat) (v2 v3 : Value) (xs h y : List Int) (w : World) (hB : Cells w B [.int .i64 (R : Nat), .slice (some ⟨da, od, none⟩) n cD, v2, v3]) (hr : Reads w (some ⟨da, od, none⟩) n xs) (hn : n = R * R) (hR0 : 1 ≤ R) (hR : R ≤ 4) (hxb : ∀ e, -3 ≤ gi xs e ∧ gi xs e ≤ 3) (hc : Climbs xs h R) (hy : Reads w (some ⟨ax, ox, none⟩) m y) (hm : m ≤ 1048576) :
    Calls Try.prog 20 #[.pointer (some ⟨B, 0, none⟩), .slice (some ⟨ax, ox, none⟩) m c] w fun e w' => Ext w w' ∧ ((climbO xs R y = none ∧ e = .returned (.tuple #[.slice none 0 0, .slice none 0 0, .bool false])) ∨ ∃ d rows b c9 v, climbO xs R y = some (d, rows) ∧ e = .returned (.tuple #[.slice (some ⟨b, 0, none⟩) R c9, v, .bool true]) ∧ R ≤ c9 ∧ w.heap.size ≤ b ∧ b < w'.heap.size ∧ Has w' b d ∧ d.length = R ∧ Grows w' w.heap.size v rows.length (rI rows) ∧ (∀ z, v.ownBlock = some z → z < b) ∧ rows.length ≤ 512001) := by
  have HB := Lib.hid hB
  have HR := Lib.hid hr
  have HN := Lib.hid hn
  have HX := Lib.hid hxb
  have HC := Lib.hid hc
  have HY := Lib.hid hy
  obtain ⟨O, hO⟩ : ∃ O, climbO xs R y = O := ⟨_, rfl⟩
  have HO0 : Hid (O = (climbO xs R y).map (fun p => (p.1, ([] : List Nat) ++ p.2))) := by rw [Hid, ← hO]; exact climb_first xs y R
  rw [hO]
  have HG0 : Hid (Grows w w.heap.size (.slice none 0 0) ([] : List Nat).length (rI [])) := ⟨rfl, .inl ⟨rfl, rfl⟩⟩
  clear hB hr hn hxb hc hy hO
  go_enter Try.func20, Try.ntmps20
  go_wp2
  go_step3
  go_wp2
  go_step3
  go_wp2
  go_loopg [1, 7, 8, 9] 512002 (fun g z v _ _ wr => ∃ (bx ox mm cc cv : Nat) (wl : List Int) (rows : List Nat) (va : Option Addr), z = .slice (some ⟨bx, ox, none⟩) mm cc ∧ v = .slice va rows.length cv ∧ mm ≤ 1048576 ∧ g + rows.length = 512002 ∧ Hid (Reads wr (some ⟨bx, ox, none⟩) mm wl) ∧ Hid (Grows wr w.heap.size (.slice va rows.length cv) rows.length (rI rows)) ∧ Hid (Ext w wr) ∧ Hid (O = (climbO xs R wl).map (fun p => (p.1, rows ++ p.2))) ∧ Hid (Fuel h wl R rows))
  case atStart => exact ⟨ax, ox, m, c, 0, y, [], none, rfl, rfl, hm, by simp, HY, HG0, Ext.refl _, HO0, .inl rfl⟩
  case round =>
    clear HO0 HG0
    obtain ⟨G, hG9⟩ : ∃ G, G = gk := ⟨_, rfl⟩
    subst hG9
    obtain ⟨bx, ox, mm, cc, cv, wl, rows, va, rfl, rfl, hmm, hgk, hX, hG, hE, hOO, hF⟩ := hrel
    have HHW := Lib.hid (hasWeight_impl B R da od n cD bx ox mm cc v2 v3 wl wr (HB.out.ext hE.out) hX.out hR hmm)
    rcases hL : latB R wl with _ | _
    · have HNONE : Hid (O = none) := climb_stop hOO.out hL
      rw [hL] at HHW
      clear hOO hF
      go_wp2_with fail
      refine HHW.out.mono ?_
      rintro e w2 ⟨rfl, h2⟩
      go_wp2
      (try rw [Exit.noGoto_ret])
      go_ret3
      exact ⟨hE.out.trans h2, .inl ⟨HNONE.out, rfl⟩⟩
    · have HLB := Lib.hid (latB_bnd hL)
      have HFIN := Lib.hid (fun hh => climb_fin hOO.out hL hh)
      have HNEXT := Lib.hid (fun j hj h0 hn => climb_next (j := j) hR HC.out hOO.out hF.out hL hj h0 hn)
      have HF2 : Hid (rows.length ≤ 512001) := by
        have h1 := hF.out
        unfold Fuel at h1
        rw [Hid]; omega
      have hmR : mm = R := by rw [← hX.out.len]; exact HLB.out.1
      subst hmR
      rw [hL] at HHW
      clear hOO hF hL
      go_wp2_with fail
      refine HHW.out.mono ?_
      rintro e w2 ⟨rfl, h2⟩
      have HE2 := Lib.hid (hE.out.trans h2)
      have HX2 := Lib.hid (hX.out.ext h2)
      have HG2 := Lib.hid (hG.out.ext h2)
      clear h2 hE hX hG HHW
      go_wp2_with fail
      go_loopg [15, 8, 9, 1, 7] mm (fun g2 z _ _ z1 z7 wr => ∃ j : Nat, z1 = .slice (some ⟨bx, ox, none⟩) mm cc ∧ z7 = .slice va rows.length cv ∧ j + g2 = mm ∧ z = .int .i64 j ∧ wr = w2 ∧ Hid (∀ e, e < j → 0 ≤ gi wl e))
      case atStart => exact ⟨0, rfl, rfl, by omega, rfl, rfl, fun e he => by omega⟩
      case round =>
        obtain ⟨j, rfl, rfl, hj, rfl, rfl, h0⟩ := hrel
        by_cases hlt : j < mm
        · obtain ⟨b1, o1, he1, hb1, hx1⟩ := reads5 HX2.out (by omega)
          injection he1 with he1
          injection he1 with he2 he3
          subst he2 he3
          have cJ := hx1 j hlt
          have hjI : (j : Int) < (mm : Int) := by omega
          clear hx1
          by_cases hneg : gi wl j < 0
          · obtain ⟨hN1, hN2, hN3⟩ := HNEXT.out j hlt h0.out hneg
            have HN1 := Lib.hid hN1
            have HN2 := Lib.hid hN2
            clear hN1 hN2
            have HT := Lib.hid (turned_impl B mm da od n cD mm cc j v2 v3 xs wl (some ⟨bx, ox, none⟩) _ (HB.out.ext HE2.out) (HR.out.ext HE2.out) HN.out hR0 hR HX2.out rfl hlt HX.out (fun e => by have := HLB.out.2 e; omega))
            have hneg2 : (gi wl j < 0) = True := eq_true hneg
            go_wp2_with fail
            refine HT.out.mono ?_
            rintro e w3 ⟨b3, c3, rfl, hc3, hb3, hb4, hh3, h3⟩
            have HG3 := Lib.hid (HG2.out.ext h3)
            have HE3 := Lib.hid (HE2.out.trans h3)
            have HH3 := Lib.hid hh3
            have HBLK := Lib.hid HG2.out.blk
            have hsz := HE3.out.le
            clear HG2 HE2 hh3 h3 HT
            go_wp2_with (at_builtin; refine wpList_append1 rfl _ _ rfl w.heap.size (.slice va rows.length cv) _ _ (j : Int) 1 rfl rfl HG3.out (by omega) hsz ?_)
            intro v' w4 hG4 hg4
            have E4 := Lib.hid (HG3.out.extAfter hg4 HE3.out (Nat.le_refl _))
            have HH4 := Lib.hid (HH3.out.grownOther hg4 (fun k hk => by have := HBLK.out k hk; omega))
            obtain ⟨va4, cv4, rfl, hnv4, ho4⟩ := hG4.reads2
            have HLEN : Hid ((rows ++ [j]).length = rows.length + 1) := by rw [Hid, List.length_append]; rfl
            have G4 : Hid (Grows w4 w.heap.size (.slice va4 (rows ++ [j]).length cv4) (rows ++ [j]).length (rI (rows ++ [j]))) := by
              rw [HLEN.out, rI_app]; exact hG4
            have R4 : Hid (Reads w4 (some ⟨b3, 0, none⟩) mm (turnM xs mm j wl)) := HH4.out.reads (turnM_len _ _ _ _)
            clear hG4 hg4 ho4 hnv4 HG3 HH4 HH3
            go_wp2
            go_roundg (G - 1)
            case measure => omega
            case rel => exact ⟨b3, 0, mm, c3, cv4, turnM xs mm j wl, rows ++ [j], va4, rfl, by rw [HLEN.out], hmm, by have := HLEN.out; omega, R4, G4, E4, HN1, HN2⟩
          · have hneg2 : (gi wl j < 0) = False := eq_false hneg
            have h02 : Hid (∀ e, e < j + 1 → 0 ≤ gi wl e) := fun e he => by
              by_cases e1 : e = j
              · subst e1; omega
              · exact h0.out e (by omega)
            clear h0 HNEXT HFIN
            go_wp2
            go_roundg (gk - 1)
            case measure => omega
            case rel => exact ⟨j + 1, rfl, rfl, by omega, by simp, rfl, h02⟩
        · obtain rfl : mm = j := by omega
          have HFI : Hid (O = some (wl, rows)) := HFIN.out (fun e he => h0.out e he)
          clear HFIN HNEXT
          go_wp2_with fail
          refine (clone5 ⟨bx, ox, none⟩ mm cc wl _ HX2.out (by omega)).mono ?_
          rintro e w5 ⟨b, cb, rfl, hb1, hh, hE5, hcb⟩
          have HG5 := Lib.hid (HG2.out.ext hE5)
          have HBLK := Lib.hid HG2.out.blk
          have HE5 := Lib.hid (HE2.out.trans hE5)
          have HH5 := Lib.hid hh
          have hle := HE2.out.le
          clear hE5 hh HG2 HE2
          go_wp2
          (try rw [Exit.noGoto_ret])
          go_ret3
          exact ⟨HE5.out, .inr ⟨wl, rows, b, cb, _, HFI.out, rfl, hcb, by omega, HH5.out.lt, HH5.out, HLB.out.1, HG5.out, fun z hz => by have := HBLK.out z hz; omega, HF2.out⟩⟩

theorem lat_of {R : Nat} {wl : List Int} {P : List Int → Prop} (hP : ∀ u, P u → latB R u = true) (h : P wl) : wl.length = R ∧ ∀ e, -1000 ≤ gi wl e ∧ gi wl e ≤ 1000 := latB_bnd (hP wl h)
end Go.Proofs.Ythhgodjobddenaa
