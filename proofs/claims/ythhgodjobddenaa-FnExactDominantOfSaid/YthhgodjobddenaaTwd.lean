/-
  DominantOf, of the program and of the specification.
-/
import Derived.Test.YthhgodjobddenaaRsd
import Derived.Test.YthhgodjobddenaaRev
namespace Go.Proofs.Ythhgodjobddenaa
open Go.ChangeShapes Go.WideShapes Go.ChangeAt Go.RowKit
set_option linter.unusedVariables false
set_option linter.unusedSimpArgs false

def Rints6 (w' : World) (lo hi : Nat) (v : Value) (xs : List Int) : Prop := ∃ a n c, v = .slice a n c ∧ Own w' lo hi a n xs ∧ n ≤ 1048576
theorem rints6_nil (w' : World) (lo hi : Nat) : Rints6 w' lo hi (.slice none 0 0) [] := ⟨none, 0, 0, rfl, own_nil _ _ _, by omega⟩
theorem domO_no {R : Int} {l x : List Int} (hG : carG R l = none) : domO R l x = ([], []) := by rw [domO, hG]
theorem domO_none {K : Nat} {l x : List Int} {v : List Nat × List Int} (hG : carG (K : Int) l = some v) (h : climbO l K x = none) : domO K l x = ([], []) := by
  simp only [domO, hG, Int.toNat_natCast, h]
theorem domO_some {K : Nat} {l x d : List Int} {rows : List Nat} {v : List Nat × List Int} (hG : carG (K : Int) l = some v) (h : climbO l K x = some (d, rows)) : domO K l x = (d, rI rows.reverse) := by
  simp only [domO, hG, Int.toNat_natCast, h]; rfl
theorem rI_rev (l : List Nat) : (rI l).reverse = rI l.reverse := by simp [rI]
theorem Grows.shape0 {w : World} {base n c : Nat} {a : Option Addr} {xs : List Int} (h : Grows w base (.slice a n c) n xs) : a = none ∨ ∃ g, a = some ⟨g, 0, none⟩ := by
  rcases h.2 with ⟨e1, e2⟩ | ⟨g, cap, cur, e1, _⟩
  · injection e1 with e1; exact .inl e1
  · injection e1 with e1; exact .inr ⟨g, e1⟩
theorem ownBlock_at {a : Option Addr} {n c z : Nat} (h : a = none ∨ ∃ g, a = some ⟨g, 0, none⟩) (hb : (Value.slice a n c).ownBlock = some z) : a = some ⟨z, 0, none⟩ ∧ True := by
  rcases h with rfl | ⟨g, rfl⟩
  · simp [Value.ownBlock] at hb
  · simp [Value.ownBlock] at hb
    subst hb; exact ⟨rfl, trivial⟩
theorem reads_at6 {w : World} {b o n : Nat} {ys : List Int} (hr : Reads w (some ⟨b, o, none⟩) n ys) : ∀ (j : Nat) (u : Value), (ys.map (Value.int .i64))[j]? = some u → w.cell? ((⟨b, o, none⟩ : Addr).add j) = some u := by
  intro j u hu
  have hj : j < ys.length := by have := (List.getElem?_eq_some_iff.1 hu).1; simpa using this
  have hl := hr.1
  rcases hr.2 with h | ⟨b2, off, h, hb2, hc2⟩
  · omega
  · simp at h
    obtain ⟨rfl, rfl⟩ := h
    rw [add_plain, hc2 j (by omega)]
    simp [hj] at hu
    simp [gi, hj, hu]
set_option maxRecDepth 100000 in
set_option maxHeartbeats 1600000 in
theorem rev_nil (w : World) : Calls Try.prog 21 #[.slice none 0 0] w fun e w' => (∃ v, e = .returned v) ∧ w' = w := by
  have v0 : IntKind.i64.wrap ((0 : Int) - 1) = -1 := by decide
  have v1 : IntKind.i64.wrap (-1 : Int) = -1 := by decide
  go_enter Try.func21, Try.ntmps21
  go_wp2_with fail
  go_loopw [2, 3] (fun z y wr => z = .int .i64 0 ∧ y = .int .i64 (-1) ∧ wr = w) (fun _ _ _ => 0)
  case atStart => exact ⟨rfl, by first | rfl | simp, rfl⟩
  case round =>
    obtain ⟨rfl, rfl, rfl⟩ := hrel
    go_wp2
    go_end0
    exact ⟨⟨_, rfl⟩, rfl⟩
/-- Rows turned round where they lie. -/
theorem rev_rows {w w0 : World} {v : Value} {m : Nat} {xs : List Int} (hG : Grows w w0.heap.size v m xs) (hm : m ≤ 1048576) :
    Calls Try.prog 21 #[v] w fun e w' => (∃ u, e = .returned u) ∧ (∀ z, v.ownBlock = some z → Has w' z xs.reverse) ∧ (v.ownBlock = none → v = .slice none 0 0 ∧ xs = []) ∧ (∃ row, w.grownBy w' row ∧ ∀ z, row = some z → v.ownBlock = some z) := by
  have hl := hG.len
  rcases hG.2 with ⟨e1, e2⟩ | ⟨g, cap, cur, e1, hb, hg, hn, hc, hcs, htk⟩
  · subst e1
    have hx : xs = [] := List.eq_nil_of_length_eq_zero (by omega)
    refine (rev_nil w).mono ?_
    rintro e w' ⟨h1, rfl⟩
    exact ⟨h1, fun z hz => by simp [Value.ownBlock] at hz, fun _ => ⟨rfl, hx⟩, none, grownBy_refl _ _, fun z hz => by cases hz⟩
  · subst e1
    have hh := (Has.ofOwns hG).1
    refine (rev_fn g m cap xs w hh hl hm).mono ?_
    rintro e w' ⟨h1, h2, h3⟩
    refine ⟨h1, fun z hz => ?_, fun hz => by simp [Value.ownBlock] at hz, some g, h3, fun z hz => by cases hz; rfl⟩
    simp [Value.ownBlock] at hz
    subst hz
    exact h2

set_option maxRecDepth 100000 in
set_option maxHeartbeats 12800000 in
theorem dominantOf_impl {R : Int} {a0 oa n bx ox nx : Nat} {l x : List Int} {w : World} {i j : List Int} (hT : Reads w (some ⟨a0, oa, none⟩) n l) (hm0 : n ≤ 1048576) (hx : Reads w (some ⟨bx, ox, none⟩) nx x) (hmx : nx ≤ 1048576) (hM : domO R l x = (i, j)) :
    Calls Try.prog 8 #[.agg #[.int .i64 R, .slice (some ⟨a0, oa, none⟩) n n], .slice (some ⟨bx, ox, none⟩) nx nx] w fun e w' => ∃ v u mid, e = .returned (.tuple #[v, u]) ∧ (w.heap.size ≤ mid ∧ mid ≤ w'.heap.size) ∧ Rints6 w' mid w'.heap.size v i ∧ Rints6 w' w.heap.size mid u j ∧ Ext w w' := by
  have HT := Lib.hid hT
  have Hx := Lib.hid hx
  rcases hG : carG R l with _ | v
  · rw [domO_no hG] at hM
    have HI : Hid (i = []) := by injection hM with h1 h2; exact h1.symm
    have HJ : Hid (j = []) := by injection hM with h1 h2; exact h2.symm
    clear hT hx hM
    go_enter Try.func8, Try.ntmps8
    go_wp2_with fail
    refine (wrapCartan_no (HT.out.ext ((Ext.refl w).alloc _)) hm0 hG).mono ?_
    rintro e w2 ⟨rfl, hE⟩
    go_wp2
    go_ret2
    exact ⟨_, _, w.heap.size, rfl, ⟨Nat.le_refl _, (((Ext.refl w).alloc _).trans hE).le⟩, by rw [HI.out]; exact rints6_nil _ _ _, by rw [HJ.out]; exact rints6_nil _ _ _, ((Ext.refl w).alloc _).trans hE⟩
  · obtain ⟨K, rfl, hK1, hK4, hlK, ht⟩ := carG_some hG
    have hnK : Hid (n = K * K) := by rw [Hid, ← hT.len]; exact hlK
    obtain ⟨hh, hCL⟩ := climbs_tab (show 0 < K by omega) hK4 ht
    have HXB := Lib.hid (lenOk_tab (by omega) hK4 ht).xb
    have HCL := Lib.hid hCL
    have HM := Lib.hid hM
    have HMN : Hid (climbO l K x = none → i = [] ∧ j = []) := fun h => by
      have h1 := (domO_none hG h).symm.trans hM
      injection h1 with h2 h3
      exact ⟨h2.symm, h3.symm⟩
    have HMS : Hid (∀ d rows, climbO l K x = some (d, rows) → i = d ∧ j = rI rows.reverse) := fun d rows h => by
      have h1 := (domO_some hG h).symm.trans hM
      injection h1 with h2 h3
      exact ⟨h2.symm, h3.symm⟩
    clear hT hx hM hCL HM
    go_enter Try.func8, Try.ntmps8
    go_wp2_with fail
    refine (wrapCartan_yes (HT.out.ext ((Ext.refl w).alloc _)) hK1 hK4 ht hlK).mono ?_
    rintro e w2 ⟨B, LB, ns, rfl, hns, hW⟩
    have HE2 := Lib.hid (((Ext.refl w).alloc _).trans hW.ext)
    obtain ⟨xa, xn, xc, hbox, hstr⟩ := hW.box
    have HBX := Lib.hid hbox
    clear hW hns hbox hstr
    go_wp2_with fail
    refine (raised_impl B K a0 oa n n nx nx bx ox _ _ l hh x _ HBX.out (HT.out.ext HE2.out) hnK.out hK1 hK4 HXB.out HCL.out (Hx.out.ext HE2.out) hmx).mono ?_
    rintro e w3 ⟨h3, ⟨hO, rfl⟩ | ⟨d, rows, b, c9, v9, hO, rfl, hc9, hb1, hb2, hd, hdl, hG9, hz9, hl9⟩⟩
    · have HI := Lib.hid (HMN.out hO).1
      have HJ := Lib.hid (HMN.out hO).2
      have HE3 := Lib.hid (HE2.out.trans h3)
      clear hO h3
      go_wp2_with fail
      refine (rev_nil _).mono ?_
      rintro e w4 ⟨⟨u4, rfl⟩, rfl⟩
      go_wp2
      go_ret2
      exact ⟨_, _, w.heap.size, rfl, ⟨Nat.le_refl _, (HE3.out).le⟩, by rw [HI.out]; exact rints6_nil _ _ _, by rw [HJ.out]; exact rints6_nil _ _ _, HE3.out⟩
    · have HI := Lib.hid (HMS.out d rows hO).1
      have HJ := Lib.hid (HMS.out d rows hO).2
      have HE3 := Lib.hid (HE2.out.trans h3)
      have HG9 := Lib.hid hG9
      have HD := Lib.hid hd
      have HZ9 := Lib.hid hz9
      have hle2 := HE2.out.le
      obtain ⟨va, vc, rfl, ho9⟩ := hG9.shape
      clear hO h3 hG9 hd hz9 ho9
      go_wp2_with fail
      refine (rev_rows HG9.out (by omega)).mono ?_
      rintro e w4 ⟨⟨u4, rfl⟩, hr4, hn4, row, hg4, hrow⟩
      have HBK := Lib.hid HG9.out.blk
      have HE4 : Hid (Ext w w4) := HE3.out.grown hg4 (fun z hz => by have := HBK.out z (hrow z hz); omega)
      have HD4 : Hid (Has w4 b d) := HD.out.grownOther hg4 (fun z hz e => by have := HZ9.out z (hrow z hz); omega)
      have hs4 := hg4.size
      have HU : Hid (Rints6 w4 w.heap.size b (.slice va rows.length vc) j) := by
        rcases hob : (Value.slice va rows.length vc).ownBlock with _ | z
        · obtain ⟨e1, e2⟩ := hn4 hob
          have e3 : rows = [] := by
            have h9 := congrArg List.length e2
            rw [rI_len] at h9
            exact List.eq_nil_of_length_eq_zero (by simpa using h9)
          rw [e1, HJ.out, e3]
          exact rints6_nil _ _ _
        · have h5 := hr4 z hob
          have h6 := HBK.out z hob
          have h7 := HZ9.out z hob
          rw [rI_rev] at h5
          obtain ⟨e1, e2⟩ := ownBlock_at (Grows.shape0 HG9.out) hob
          rw [HJ.out]
          exact ⟨_, _, _, rfl, by rw [e1]; exact h5.own (by omega) h7 (by rw [rI_len, List.length_reverse]), by omega⟩
      have HV : Hid (Rints6 w4 b w4.heap.size (.slice (some ⟨b, 0, none⟩) K c9) i) := by
        rw [HI.out]
        exact ⟨_, _, _, rfl, HD4.out.own (Nat.le_refl _) (by omega) hdl, by omega⟩
      clear hr4 hn4 hg4 hrow HD HZ9 HBK
      go_wp2
      go_ret2
      exact ⟨_, _, b, rfl, ⟨by omega, by omega⟩, HV.out, HU.out, HE4.out⟩

set_option maxRecDepth 100000 in
set_option maxHeartbeats 12800000 in
theorem dominantOf_spec {R : Int} {a0 oa n bx ox nx : Nat} {l x : List Int} {w : World} {i j : List Int} (hT : Reads w (some ⟨a0, oa, none⟩) n l) (hm0 : n ≤ 1048576) (hx : Reads w (some ⟨bx, ox, none⟩) nx x) (hmx : nx ≤ 1048576) (hM : domO R l x = (i, j)) :
    Calls Try.prog 5 #[.agg #[.int .i64 R, .slice (some ⟨a0, oa, none⟩) n n], .slice (some ⟨bx, ox, none⟩) nx nx] w fun e w' => ∃ v u mid, e = .returned (.tuple #[v, u]) ∧ (w.heap.size ≤ mid ∧ mid ≤ w'.heap.size) ∧ Rints6 w' mid w'.heap.size v i ∧ Rints6 w' w.heap.size mid u j ∧ Ext w w' := by
  have HT := Lib.hid hT
  have Hx := Lib.hid hx
  rcases hG : carG R l with _ | v
  · rw [domO_no hG] at hM
    have HI : Hid (i = []) := by injection hM with h1 h2; exact h1.symm
    have HJ : Hid (j = []) := by injection hM with h1 h2; exact h2.symm
    clear hT hx hM
    go_enter Try.func5, Try.ntmps5
    go_wp2_with fail
    refine (isCartan_no (HT.out.ext ((Ext.refl w).alloc _)) hm0 hG).mono ?_
    rintro e w2 ⟨rfl, hE⟩
    go_wp2
    go_ret2
    exact ⟨_, _, w.heap.size, rfl, ⟨Nat.le_refl _, (((Ext.refl w).alloc _).trans hE).le⟩, by rw [HI.out]; exact rints6_nil _ _ _, by rw [HJ.out]; exact rints6_nil _ _ _, ((Ext.refl w).alloc _).trans hE⟩
  · obtain ⟨K, rfl, hK1, hK4, hlK, ht⟩ := carG_some hG
    have hnK : Hid (n = K * K) := by rw [Hid, ← hT.len]; exact hlK
    obtain ⟨hh, hCL⟩ := climbs_tab (show 0 < K by omega) hK4 ht
    have HXB := Lib.hid (lenOk_tab (by omega) hK4 ht).xb
    have HCL := Lib.hid hCL
    have HM := Lib.hid hM
    have HMN : Hid (climbO l K x = none → i = [] ∧ j = []) := fun h => by
      have h1 := (domO_none hG h).symm.trans hM
      injection h1 with h2 h3
      exact ⟨h2.symm, h3.symm⟩
    have HMS : Hid (∀ d rows, climbO l K x = some (d, rows) → i = d ∧ j = rI rows.reverse) := fun d rows h => by
      have h1 := (domO_some hG h).symm.trans hM
      injection h1 with h2 h3
      exact ⟨h2.symm, h3.symm⟩
    clear hT hx hM hCL HM
    obtain ⟨i0, hi0, hz0, hz1, hz2⟩ := info_parts Try.infoInt
    obtain ⟨O, hO⟩ : ∃ O, climbO l K x = O := ⟨_, rfl⟩
    have HO0 : Hid (O = (climbO l K x).map (fun p => (p.1, ([] : List Nat) ++ p.2))) := by rw [Hid, ← hO]; exact climb_first l x K
    rw [hO] at HMN HMS
    have HLF : Hid (latB K x = false → O = none) := fun h => by rw [← hO]; exact climbO_no h
    have HBX := Lib.hid (cells_new w #[.int .i64 (K : Nat), .slice (some ⟨a0, oa, none⟩) n n] 28)
    have X0 := Lib.hid ((Ext.refl w).alloc (.cells #[.int .i64 (K : Nat), .slice (some ⟨a0, oa, none⟩) n n] 28))
    clear hO
    go_enter Try.func5, Try.ntmps5
    go_wp2_with fail
    refine (isCartan_yes (HT.out.ext X0.out) hm0 hG).mono ?_
    rintro e w2 ⟨rfl, hE⟩
    have HE2 := Lib.hid (X0.out.trans hE)
    have HB2 := Lib.hid (HBX.out.ext hE)
    clear hE HBX
    have lB := HB2.out.1
    have q0 := HB2.out.2 0 _ rfl
    have q1 := HB2.out.2 1 _ rfl
    go_wp2_with fail
    clear lB q0 q1
    refine (l5Lattice_spec K a0 oa n n bx ox nx nx x _ (Hx.out.ext HE2.out) hK4 hmx).mono ?_
    rintro e w3 ⟨rfl, h3⟩
    have HE3 := Lib.hid (HE2.out.trans h3)
    have HB3 := Lib.hid (HB2.out.ext h3)
    clear h3 HB2 HE2
    rcases hL : latB K x with _ | _
    · have HI := Lib.hid (HMN.out (HLF.out hL)).1
      have HJ := Lib.hid (HMN.out (HLF.out hL)).2
      go_wp2
      go_ret2
      exact ⟨_, _, w.heap.size, rfl, ⟨Nat.le_refl _, (HE3.out).le⟩, by rw [HI.out]; exact rints6_nil _ _ _, by rw [HJ.out]; exact rints6_nil _ _ _, HE3.out⟩
    · have HG0 : Hid (Grows (w3.alloc (.cells #[] 3)) w.heap.size (.slice (some ⟨w3.heap.size, 0, none⟩) ([] : List Nat).length 0) ([] : List Nat).length (rI ([] : List Nat).reverse)) := World.ownsRow_lit w3 #[] 0 HE3.out.le (by unfold maxLen; omega) (by simp)
      have HE4 := Lib.hid (HE3.out.alloc (.cells #[] 3))
      have HB4 := Lib.hid (HB3.out.ext ((Ext.refl w3).alloc (.cells #[] 3)))
      have HR4 := Lib.hid (Hx.out.ext HE4.out)
      clear HB3 HE3 hL HLF
      go_wp2_with fail
      go_loopw [1, 6, 7, 8] (fun z v _ _ wr => ∃ (b1 o1 mm cc g cv : Nat) (wl : List Int) (rows : List Nat), z = .slice (some ⟨b1, o1, none⟩) mm cc ∧ v = .slice (some ⟨g, 0, none⟩) rows.length cv ∧ mm ≤ 1048576 ∧ Hid (Reads wr (some ⟨b1, o1, none⟩) mm wl) ∧ Hid (Grows wr w.heap.size (.slice (some ⟨g, 0, none⟩) rows.length cv) rows.length (rI rows.reverse)) ∧ Hid (Ext w wr) ∧ Hid (Cells wr w.heap.size [.int .i64 (K : Nat), .slice (some ⟨a0, oa, none⟩) n n]) ∧ Hid (O = (climbO l K wl).map (fun p => (p.1, rows ++ p.2))) ∧ Hid (Fuel hh wl K rows)) (fun _ v _ _ _ => 512002 - lenV v)
      case atStart => exact ⟨bx, ox, nx, nx, _, 0, x, [], rfl, rfl, hmx, HR4, HG0, HE4, HB4, HO0, .inl rfl⟩
      case round =>
        clear HO0 HG0 HR4 HE4 HB4
        obtain ⟨b1, o1, mm, cc, g, cv, wl, rows, rfl, rfl, hmm, hX, hG9, hE, hB, hOO, hF⟩ := hrel
        have lB := hB.out.1
        have q0 := hB.out.2 0 _ rfl
        have q1 := hB.out.2 1 _ rfl
        have HLT := Lib.hid (l5Lattice_spec K a0 oa n n b1 o1 mm cc wl wr hX.out hK4 hmm)
        rcases hL : latB K wl with _ | _
        · have HN := Lib.hid (climb_stop hOO.out hL)
          have HI := Lib.hid (HMN.out HN.out).1
          have HJ := Lib.hid (HMN.out HN.out).2
          rw [hL] at HLT
          clear hOO hF hL
          go_wp2_with fail
          refine HLT.out.mono ?_
          rintro e w5 ⟨rfl, h5⟩
          have HE5 := Lib.hid (hE.out.trans h5)
          go_wp2
          go_ret2
          exact ⟨_, _, w.heap.size, rfl, ⟨Nat.le_refl _, (HE5.out).le⟩, by rw [HI.out]; exact rints6_nil _ _ _, by rw [HJ.out]; exact rints6_nil _ _ _, HE5.out⟩
        · have HLB := Lib.hid (latB_bnd hL)
          have HFIN := Lib.hid (fun h0 => climb_fin hOO.out hL h0)
          have HNEXT := Lib.hid (fun j hj h0 hn => climb_next (j := j) hK4 HCL.out hOO.out hF.out hL hj h0 hn)
          have HF2 : Hid (rows.length ≤ 512001) := by
            have h1 := hF.out
            unfold Fuel at h1
            rw [Hid]; omega
          have hmK : mm = K := by rw [← hX.out.len]; exact HLB.out.1
          subst hmK
          rw [hL] at HLT
          clear hOO hF hL
          go_wp2_with fail
          refine HLT.out.mono ?_
          rintro e w5 ⟨rfl, h5⟩
          have HX5 := Lib.hid (hX.out.ext h5)
          have HG5 := Lib.hid (hG9.out.ext h5)
          have HE5 := Lib.hid (hE.out.trans h5)
          have HB5 := Lib.hid (hB.out.ext h5)
          have v1 : IntKind.i64.wrap ((mm : Int) - 1) = (mm : Int) - 1 := IntWalk.i64_in _ ⟨by omega, by omega⟩
          clear h5 hX hG9 hE hB lB q0 q1 HLT
          have lB := HB5.out.1
          have q0 := HB5.out.2 0 _ rfl
          have q1 := HB5.out.2 1 _ rfl
          go_wp2_with fail
          go_loopw [8, 7] (fun z aw wq => ∃ j : Nat, j ≤ mm ∧ z = .int .i64 ((j : Int) - 1) ∧ wq = w5 ∧ ((aw = .int .i64 (-1) ∧ Hid (∀ e, j ≤ e → e < mm → 0 ≤ gi wl e)) ∨ ∃ q : Nat, aw = .int .i64 q ∧ j ≤ q ∧ q < mm ∧ Hid (gi wl q < 0) ∧ Hid (∀ e, j ≤ e → e < q → 0 ≤ gi wl e))) (fun z _ _ => (intOf z + 1).toNat)
          case atStart => exact ⟨mm, by omega, rfl, rfl, .inl ⟨rfl, fun e h1 h2 => by omega⟩⟩
          case round =>
            obtain ⟨j, hj, rfl, hwq, ha⟩ := hrel
            have hwq := hwq.symm
            subst hwq
            by_cases hj0 : j = 0
            · subst hj0
              rcases ha with ⟨rfl, hall⟩ | ⟨q, rfl, _, hq, hneg, hbef⟩
              · have HFI := Lib.hid (HFIN.out (fun e he => hall.out e (by omega) he))
                have HI := Lib.hid (HMS.out wl rows HFI.out).1
                have HJ := Lib.hid (HMS.out wl rows HFI.out).2
                clear HFIN HNEXT
                go_wp2_with fail
                refine (l1Ints_g (some ⟨b1, o1, none⟩) mm cc wl _ HX5.out (by omega) (fun h => by cases h)).mono ?_
                rintro e w6 ⟨v6, rfl, hG6, h6⟩
                obtain ⟨ga, gc, rfl, hO6⟩ := hG6.shape
                have HO6 := Lib.hid hO6
                obtain ⟨a7, c7, e7, hO7⟩ := HG5.out.shape
                injection e7 with e8 e9 e10
                subst e8
                have HO7 := Lib.hid (hO7.ext h6)
                have hle5 := HE5.out.le
                have hle6 := h6.le
                have HE6 := Lib.hid (HE5.out.trans h6)
                clear hG6 hO6 hO7 h6
                go_wp2
                go_ret2
                exact ⟨_, _, _, rfl, ⟨hle5, hle6⟩, by rw [HI.out]; exact ⟨_, _, _, rfl, HO6.out, by omega⟩, by rw [HJ.out]; exact ⟨_, _, _, rfl, HO7.out, by have := HF2.out; omega⟩, HE6.out⟩
              · obtain ⟨hN1, hN2, hN3⟩ := HNEXT.out q hq (fun e he => hbef.out e (by omega) he) hneg.out
                have HN1 := Lib.hid hN1
                have HN2 := Lib.hid hN2
                have hsz := HE5.out.le
                have hqI : ((q : Int) < 0) = False := eq_false (by omega)
                have hqJ : ¬ ((q : Int) < 0) := by omega
                have HLIT := Lib.hid (World.ownsRow_lit (base := w.heap.size) (e := 3) (size := 1) w5 #[.int .i64 (q : Int)] 1 hsz (by unfold maxLen; omega) (by simp))
                have X5 := Lib.hid ((Ext.refl w5).alloc (.cells #[.int .i64 (q : Int)] 3))
                obtain ⟨a7, c7, e7, hO7⟩ := HG5.out.shape
                injection e7 with e8 e9 e10
                subst e8
                have HNEW : Hid (∀ (j : Nat) (u : Value), ((rI rows.reverse).map (Value.int .i64))[j]? = some u → (w5.alloc (.cells #[.int .i64 (q : Int)] 3)).cell? ((⟨g, 0, none⟩ : Addr).add j) = some u) := reads_at6 (hO7.reads.ext X5.out)
                have HLR : Hid (((rI rows.reverse).map (Value.int .i64)).length = rows.length * 1) := by rw [Hid, List.length_map, rI_len, List.length_reverse]; omega
                clear hN1 hN2 hO7
                go_wp2_with (at_builtin; refine wpList_append_own _ rfl (.tmp 42) (.tmp 43) 22 rfl w.heap.size 3 i0 (.int .i64 0) 1 8 Try.underlying22 hi0 hz0 hz1 hz2 rfl (by decide) (.slice (some ⟨w5.heap.size, 0, none⟩) 1 1) 1 [.int .i64 (q : Int)] rfl HLIT.out ⟨g, 0, none⟩ rows.length cv ((rI rows.reverse).map (Value.int .i64)) rfl HLR.out HNEW.out (fun u hu => by obtain ⟨z, _, rfl⟩ := List.mem_map.1 hu; rfl) (by unfold maxLen; omega) (by omega) (by simp; omega) ?_)
                intro v4 w4 ho4 hg4 hnil4
                have E4 : Hid (Ext w w4) := (HE5.out.alloc _).grown hg4 (fun k hk => by simp [Value.ownBlock] at hk; omega)
                have E54 : Hid (Ext w5 w4) := X5.out.grown hg4 (fun k hk => by simp [Value.ownBlock] at hk; omega)
                have HLEN : Hid ((rows ++ [q]).length = 1 + rows.length) := by rw [Hid, List.length_append, List.length_singleton]; omega
                have hG4 : Grows w4 w.heap.size v4 (rows ++ [q]).length (rI (rows ++ [q]).reverse) := by
                  rw [HLEN.out, List.reverse_append]
                  exact ho4
                obtain ⟨g4, cv4, rfl, hg41⟩ := Grows.addr5 hG4 (by rw [HLEN.out]; omega)
                have G4 := Lib.hid hG4
                have B4 := Lib.hid (HB5.out.ext E54.out)
                have X4 := Lib.hid (HX5.out.ext E54.out)
                have HT4 := Lib.hid (l6Reflect_spec mm a0 oa n n mm cc q l wl (some ⟨b1, o1, none⟩) w4 (HT.out.ext E4.out) hnK.out hK1 hK4 X4.out rfl hq HXB.out (fun e => by have := HLB.out.2 e; omega))
                clear ho4 hg4 hnil4 hG4 lB q0 q1 HG5 HE5 HB5 HX5 HFIN HNEXT E54 HLIT X5 HNEW HLR
                have lB := B4.out.1
                have q0 := B4.out.2 0 _ rfl
                have q1 := B4.out.2 1 _ rfl
                go_wp2_with fail
                refine HT4.out.mono ?_
                rintro e w6 ⟨b6, c6, rfl, hc6, hb61, hb62, hh6, h6⟩
                have R6 : Hid (Reads w6 (some ⟨b6, 0, none⟩) mm (turnM l mm q wl)) := hh6.reads (turnM_len _ _ _ _)
                have G6 := Lib.hid (G4.out.ext h6)
                have E6 := Lib.hid (E4.out.trans h6)
                have B6 := Lib.hid (B4.out.ext h6)
                clear hh6 h6 HT4 G4 E4 B4 X4 lB q0 q1
                go_wp2
                exact ⟨⟨b6, 0, mm, c6, g4, cv4, turnM l mm q wl, rows ++ [q], rfl, by rw [show (rows ++ [q]).length = rows.length + 1 by simp], hmm, R6, G6, E6, B6, HN1, HN2⟩, by (simp [lenV]) <;> omega⟩
            · obtain ⟨j', rfl⟩ : ∃ j', j = j' + 1 := ⟨j - 1, by omega⟩
              have hz : ((j' + 1 : Nat) : Int) - 1 = (j' : Int) := by omega
              rw [hz]
              obtain ⟨bq, oq, he1, hb1, hx1⟩ := reads5 HX5.out (by omega)
              injection he1 with he1
              injection he1 with he2 he3
              subst he2 he3
              have cJ := hx1 j' (by omega)
              have hjI : (j' : Int) < (mm : Int) := by omega
              have v2 : IntKind.i64.wrap ((j' : Int) - 1) = (j' : Int) - 1 := IntWalk.i64_in _ ⟨by omega, by omega⟩
              clear hx1 hz
              by_cases hneg : gi wl j' < 0
              · have hneg2 : (gi wl j' < 0) = True := eq_true hneg
                have HNG := Lib.hid hneg
                clear ha HFIN HNEXT
                go_wp2
                exact ⟨⟨j', by omega, by first | rfl | trivial, by first | rfl | trivial, .inr ⟨j', by first | rfl | trivial, Nat.le_refl _, by omega, HNG, fun e h1 h2 => by omega⟩⟩, by (simp [intOf]) <;> omega⟩
              · have hneg2 : (gi wl j' < 0) = False := eq_false hneg
                have HNG : Hid (0 ≤ gi wl j') := by rw [Hid]; omega
                rcases ha with ⟨rfl, hall⟩ | ⟨q, rfl, h1, h2, h3, h4⟩
                · have HB2 : Hid (∀ e, j' ≤ e → e < mm → 0 ≤ gi wl e) := fun e h1 h2 => by
                    by_cases e1 : e = j'
                    · subst e1; exact HNG.out
                    · exact hall.out e (by omega) h2
                  clear hall HFIN HNEXT
                  go_wp2
                  exact ⟨⟨j', by omega, by first | rfl | trivial, by first | rfl | trivial, .inl ⟨by first | rfl | trivial, HB2⟩⟩, by (simp [intOf]) <;> omega⟩
                · have HB2 : Hid (∀ e, j' ≤ e → e < q → 0 ≤ gi wl e) := fun e h5 h6 => by
                    by_cases e1 : e = j'
                    · subst e1; exact HNG.out
                    · exact h4.out e (by omega) h6
                  clear h4 HFIN HNEXT
                  go_wp2
                  exact ⟨⟨j', by omega, by first | rfl | trivial, by first | rfl | trivial, .inr ⟨q, by first | rfl | trivial, by omega, h2, h3, HB2⟩⟩, by (simp [intOf]) <;> omega⟩
end Go.Proofs.Ythhgodjobddenaa
