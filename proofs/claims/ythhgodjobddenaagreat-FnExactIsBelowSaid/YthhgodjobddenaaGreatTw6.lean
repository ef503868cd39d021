/-
  ActWeight, ActRoot, LongestWord, NormalWord and SameElement, of the program and of the specification.
-/
import Derived.Test.YthhgodjobddenaaGreatAct
import Derived.Test.YthhgodjobddenaaGreatRsd
import Derived.Test.YthhgodjobddenaaGreatWrd
namespace Go.Proofs.YthhgodjobddenaaGreat
open Go.ChangeShapes Go.WideShapes Go.ChangeAt Go.RowKit
set_option linter.unusedVariables false
set_option linter.unusedSimpArgs false

theorem climbO_total {xs h : List Int} {R : Nat} {P : List Int → Prop} (hR : R ≤ 4) (hc : Climbs xs h R) (hPL : ∀ u, P u → latB R u = true) (hPT : ∀ u i, i < R → P u → P (turnM xs R i u)) : ∀ (N : Nat) (w : List Int), climbN h w R < N → P w → ∃ d rows, climbO xs R w = some (d, rows)
  | 0, _, hN, _ => absurd hN (Nat.not_lt_zero _)
  | N + 1, w, hN, hw => by
    have hl := hPL w hw
    have hb := latB_bnd hl
    by_cases hn : negI w < R
    · have h1 := climbN_lt hR hc hn (negI_lt (by omega)) hb.2
      obtain ⟨d, rows, h2⟩ := climbO_total hR hc hPL hPT N (turnM xs R (negI w) w) (by omega) (hPT w _ hn hw)
      exact ⟨d, negI w :: rows, by rw [climbO_step hR hc hl hn, h2]; rfl⟩
    · exact ⟨w, [], climbO_end hl hn⟩
/-- What is known of a Cartan matrix, for images of weights. -/
structure WOk (l h : List Int) (K : Nat) : Prop where
  xb : ∀ e, -3 ≤ gi l e ∧ gi l e ≤ 3
  cl : Climbs l h K
  rc : RClo l K
  rt : RClo (trn l K) K
theorem wOk_tab {K : Nat} {l : List Int} {v : List Nat × List Int} (hK1 : 1 ≤ K) (hK4 : K ≤ 4) (ht : tabGet K l = some v) : ∃ h, WOk l h K := by
  obtain ⟨h, hc⟩ := climbs_tab (by omega) hK4 ht
  exact ⟨h, (lenOk_tab (by omega) hK4 ht).xb, hc, rclo_tab (by omega) hK4 ht, rclo_trn (by omega) hK4 ht⟩
theorem imB_bnd6 {l : List Int} {K : Nat} {B : Int} (hc : RClo (trn l K) K) (h0 : 0 ≤ B) (hB : B ≤ 24000) : ∀ u, ImB l K B u → u.length = K ∧ ∀ e, -1000000 ≤ gi u e ∧ gi u e ≤ 1000000 := fun u hu =>
  ⟨hu.len, fun e => by have := imB_ent hc h0 hu e; omega⟩
theorem imB_ones {l : List Int} {K : Nat} (hK4 : K ≤ 4) (hc : RClo (trn l K) K) : ImB l K 24 (List.replicate K 1) := by
  have := imB_start (xs := l) (w := List.replicate K 1) (C := 1) hK4 hc (by simp) (by omega) (fun k => by
    simp only [gi, List.getD_eq_getElem?_getD, List.getElem?_replicate]
    split <;> simp)
  exact this
theorem imB_neg {l : List Int} {K : Nat} (hK4 : K ≤ 4) (hc : RClo (trn l K) K) : ImB l K 24 (List.replicate K (-1)) := by
  have := imB_start (xs := l) (w := List.replicate K (-1)) (C := 1) hK4 hc (by simp) (by omega) (fun k => by
    simp only [gi, List.getD_eq_getElem?_getD, List.getElem?_replicate]
    split <;> simp)
  exact this
theorem negL_ones (K : Nat) : negL (List.replicate K 1) = List.replicate K (-1) := by simp [negL]
theorem grows_own6 {w0 w : World} {v : Value} {n : Nat} {xs : List Int} (h : Grows w w0.heap.size v n xs) (hn : n ≤ 1048576) : Rints5 w0 w v xs := by
  obtain ⟨a, cap, rfl, ho⟩ := h.shape
  exact ⟨a, n, cap, rfl, ho, hn⟩
theorem rInats (l : List Nat) : (l.map fun i => ((i : Nat) : Int)) = rI l := rfl
def awO (R : Int) (l x y : List Int) : List Int := match carG R l with | some _ => if wordB R.toNat x && latB R.toNat y then actM l R.toNat x y else [] | none => []
def arO (R : Int) (l x y : List Int) : List Int := match carG R l with | some _ => if wordB R.toNat x && latB R.toNat y then actR l R.toNat x y else [] | none => []
def smO (R : Int) (l x y : List Int) : Bool := match carG R l with | some _ => wordB R.toNat x && (wordB R.toNat y && sameB (actM l R.toNat x (List.replicate R.toNat 1)) (actM l R.toNat y (List.replicate R.toNat 1))) | none => false
def nwO (R : Int) (l x : List Int) : List Int := match carG R l with | some _ => if wordB R.toNat x then (match climbO l R.toNat (actM l R.toNat x (List.replicate R.toNat 1)) with | some p => rI p.2 | none => []) else [] | none => []
theorem lwO_eq {l : List Int} {K : Nat} {v : List Nat × List Int} {d : List Int} {rows : List Nat} (hG : carG (K : Int) l = some v) (h : climbO l K (List.replicate K (-1)) = some (d, rows)) : lwO K l = rI rows := by
  simp only [lwO, hG, Int.toNat_natCast, h]; rfl
theorem nwO_eq {l x : List Int} {K : Nat} {v : List Nat × List Int} {d : List Int} {rows : List Nat} (hG : carG (K : Int) l = some v) (hw : wordB K x = true) (h : climbO l K (actM l K x (List.replicate K 1)) = some (d, rows)) : nwO K l x = rI rows := by
  simp only [nwO, hG, Int.toNat_natCast, hw, if_true, h]
theorem wordB_rowB {R : Nat} {ys : List Int} (h : wordB R ys = true) : rowB R ys = true := by
  rw [wordB, Bool.and_eq_true] at h; exact h.2
theorem wordsB_two {K : Nat} {Y : Nat → List Int} : wordsB K 2 Y = (wordB K (Y 0) && wordB K (Y 1)) := by
  simp [wordsB, List.range_succ]
theorem wordsB_one6 {K : Nat} {Y : Nat → List Int} : wordsB K 1 Y = wordB K (Y 0) := by simp [wordsB]

set_option maxRecDepth 100000 in
set_option maxHeartbeats 6400000 in
theorem actWeight_spec {R : Int} {a0 oa n bx ox nx bz oz nz : Nat} {l x z : List Int} {w : World} {i : List Int} (hT : Reads w (some ⟨a0, oa, none⟩) n l) (hm0 : n ≤ 1048576) (hx : Reads w (some ⟨bx, ox, none⟩) nx x) (hmx : nx ≤ 1048576) (hz : Reads w (some ⟨bz, oz, none⟩) nz z) (hmz : nz ≤ 1048576) (hM : awO R l x z = i) :
    Calls Tryz.prog 23 #[.agg #[.int .i64 R, .slice (some ⟨a0, oa, none⟩) n n], .slice (some ⟨bx, ox, none⟩) nx nx, .slice (some ⟨bz, oz, none⟩) nz nz] w fun e w' => ∃ v, e = .returned v ∧ Rints5 w w' v i ∧ Ext w w' := by
  subst hM
  have HT := Lib.hid hT
  have Hx := Lib.hid hx
  have Hz := Lib.hid hz
  rcases hG : carG R l with _ | v
  · have HF : Hid (awO R l x z = []) := by rw [Hid, awO, hG]
    have HI : wrdO R l x = false := by rw [wrdO, hG]; rfl
    clear hT hx hz
    go_enter Tryz.func23, Tryz.ntmps23
    go_wp2_with fail
    refine (wordOk_spec (HT.out.ext ((Ext.refl w).alloc _)) hm0 (Hx.out.ext ((Ext.refl w).alloc _)) hmx HI).mono ?_
    rintro e w2 ⟨rfl, hE⟩
    go_wp2
    go_ret
    exact ⟨_, rfl, ⟨_, _, _, rfl, by rw [HF.out]; exact own_nil _ _ _, by omega⟩, ((Ext.refl w).alloc _).trans hE⟩
  · obtain ⟨K, rfl, hK1, hK4, hlK, ht⟩ := carG_some hG
    have hnK : Hid (n = K * K) := by rw [Hid, ← hT.len]; exact hlK
    obtain ⟨hh, hWOK⟩ := wOk_tab hK1 hK4 ht
    have HWO := Lib.hid hWOK
    clear hWOK
    have HF : Hid (awO K l x z = if wordB K x && latB K z then actM l K x z else []) := by rw [Hid, awO, hG]; rfl
    have HI : Hid (wrdO K l x = wordB K x) := by rw [Hid, wrdO, hG]; rfl
    clear hT hx hz
    rcases hw : wordB K x with _ | _
    · have HF : Hid (awO K l x z = []) := by rw [Hid, HF.out, hw]; rfl
      go_enter Tryz.func23, Tryz.ntmps23
      go_wp2_with fail
      refine (wordOk_spec (HT.out.ext ((Ext.refl w).alloc _)) hm0 (Hx.out.ext ((Ext.refl w).alloc _)) hmx HI.out).mono ?_
      rintro e w2 ⟨rfl, hE⟩
      rw [hw]
      go_wp2
      go_ret
      exact ⟨_, rfl, ⟨_, _, _, rfl, by rw [HF.out]; exact own_nil _ _ _, by omega⟩, ((Ext.refl w).alloc _).trans hE⟩
    · rcases hL : latB K z with _ | _
      · have HF : Hid (awO K l x z = []) := by rw [Hid, HF.out, hw, hL]; rfl
        go_enter Tryz.func23, Tryz.ntmps23
        go_wp2_with fail
        refine (wordOk_spec (HT.out.ext ((Ext.refl w).alloc _)) hm0 (Hx.out.ext ((Ext.refl w).alloc _)) hmx HI.out).mono ?_
        rintro e w2 ⟨rfl, hE⟩
        rw [hw]
        have HE2 := Lib.hid (((Ext.refl w).alloc _).trans hE)
        have HB2 := Lib.hid ((cells_new w #[.int .i64 (K : Nat), .slice (some ⟨a0, oa, none⟩) n n] 27).ext hE)
        clear hE
        have lB := HB2.out.1
        have q0 := HB2.out.2 0 _ rfl
        have q1 := HB2.out.2 1 _ rfl
        go_wp2_with fail
        clear lB q0 q1
        refine (l5Lattice_spec K a0 oa n n bz oz nz nz z _ (Hz.out.ext HE2.out) hK4 hmz).mono ?_
        rintro e w3 ⟨rfl, h3⟩
        rw [hL]
        go_wp2
        go_ret
        exact ⟨_, rfl, ⟨_, _, _, rfl, by rw [HF.out]; exact own_nil _ _ _, by omega⟩, HE2.out.trans h3⟩
      · have HF : Hid (awO K l x z = actM l K x z) := by rw [Hid, HF.out, hw, hL]; rfl
        have HLB := Lib.hid (latB_bnd hL)
        have hnz : nz = K := by rw [← Hz.out.len]; exact HLB.out.1
        subst hnz
        have HRB := Lib.hid (wordB_rowB hw)
        have HP0 : Hid (ImB l nz 24000 z) := by
          have := imB_start (xs := l) (w := z) (C := 1000) hK4 HWO.out.rt HLB.out.1 (by omega) HLB.out.2
          exact this
        have HPB := Lib.hid (imB_bnd6 (l := l) (B := 24000) HWO.out.rt (by omega) (by omega))
        have HPT : Hid (∀ u i, i < nz → ImB l nz 24000 u → ImB l nz 24000 (turnM l nz i u)) := fun u i hi hu => imB_turn HWO.out.rt hu hi
        have HLEN : Hid (∀ u, ImB l nz 24000 u → u.length = nz) := fun u hu => hu.len
        go_enter Tryz.func23, Tryz.ntmps23
        go_wp2_with fail
        refine (wordOk_spec (HT.out.ext ((Ext.refl w).alloc _)) hm0 (Hx.out.ext ((Ext.refl w).alloc _)) hmx HI.out).mono ?_
        rintro e w2 ⟨rfl, hE⟩
        rw [hw]
        have HE2 := Lib.hid (((Ext.refl w).alloc _).trans hE)
        have HB2 := Lib.hid ((cells_new w #[.int .i64 (nz : Nat), .slice (some ⟨a0, oa, none⟩) n n] 27).ext hE)
        clear hE
        have lB := HB2.out.1
        have q0 := HB2.out.2 0 _ rfl
        have q1 := HB2.out.2 1 _ rfl
        go_wp2_with fail
        clear lB q0 q1
        refine (l5Lattice_spec nz a0 oa n n bz oz nz nz z _ (Hz.out.ext HE2.out) hK4 hmz).mono ?_
        rintro e w3 ⟨rfl, h3⟩
        rw [hL]
        have HE3 := Lib.hid (HE2.out.trans h3)
        have HB3 := Lib.hid (HB2.out.ext h3)
        clear h3 HB2 HE2
        have lB := HB3.out.1
        have q0 := HB3.out.2 0 _ rfl
        have q1 := HB3.out.2 1 _ rfl
        go_wp2_with fail
        refine (l6Act_spec nz a0 oa n n bx ox nx nx bz oz nz l x z (ImB l nz 24000) _ (HT.out.ext HE3.out) hnK.out hK1 hK4 HWO.out.xb (Hx.out.ext HE3.out) hmx HRB.out (Hz.out.ext HE3.out) HP0.out HPB.out HPT.out).mono ?_
        rintro e w4 ⟨b4, c4, rfl, hc4, hb41, hb42, hh4, hP4, h4⟩
        have HH4 : Hid (Has w4 b4 (actM l nz x z)) := hh4
        have HN4 : Hid ((actM l nz x z).length = nz) := HLEN.out _ hP4
        have hle := HE3.out.le
        clear hh4 hP4
        go_wp2
        go_ret
        exact ⟨_, rfl, ⟨_, _, _, rfl, by rw [HF.out]; exact HH4.out.own (by omega) hb42 HN4.out, by omega⟩, HE3.out.trans h4⟩

set_option maxRecDepth 100000 in
set_option maxHeartbeats 6400000 in
theorem actWeight_impl {R : Int} {a0 oa n bx ox nx bz oz nz : Nat} {l x z : List Int} {w : World} {i : List Int} (hT : Reads w (some ⟨a0, oa, none⟩) n l) (hm0 : n ≤ 1048576) (hx : Reads w (some ⟨bx, ox, none⟩) nx x) (hmx : nx ≤ 1048576) (hz : Reads w (some ⟨bz, oz, none⟩) nz z) (hmz : nz ≤ 1048576) (hM : awO R l x z = i) :
    Calls Tryz.prog 25 #[.agg #[.int .i64 R, .slice (some ⟨a0, oa, none⟩) n n], .slice (some ⟨bx, ox, none⟩) nx nx, .slice (some ⟨bz, oz, none⟩) nz nz] w fun e w' => ∃ v, e = .returned v ∧ Rints5 w w' v i ∧ Ext w w' := by
  subst hM
  have HT := Lib.hid hT
  have Hx := Lib.hid hx
  have Hz := Lib.hid hz
  have hmf : ∀ (fn : Fn) (first cap : Array Value) (w : World), (Instr.makeFunc fn first cap).run Tryz.prog w = .ok (.func fn first cap) w := fun _ _ _ _ => rfl
  rcases hG : carG R l with _ | v
  · have HF : Hid (awO R l x z = []) := by rw [Hid, awO, hG]
    clear hT hx hz
    have X0 := Lib.hid (((Ext.refl w).alloc (.cells #[.int .i64 R, .slice (some ⟨a0, oa, none⟩) n n] 27)).alloc (.cells #[.slice (some ⟨bx, ox, none⟩) nx nx] 22))
    go_enter Tryz.func25, Tryz.ntmps25
    go_wp2_with fail
    refine (wrapWords_no (HT.out.ext X0.out) hm0 hG).mono ?_
    rintro e w2 ⟨rfl, hE⟩
    go_wp2
    go_ret
    exact ⟨_, rfl, ⟨_, _, _, rfl, by rw [HF.out]; exact own_nil _ _ _, by omega⟩, X0.out.trans hE⟩
  · obtain ⟨K, rfl, hK1, hK4, hlK, ht⟩ := carG_some hG
    have hnK : Hid (n = K * K) := by rw [Hid, ← hT.len]; exact hlK
    obtain ⟨hh, hWOK⟩ := wOk_tab hK1 hK4 ht
    have HWO := Lib.hid hWOK
    clear hWOK
    have HF : Hid (awO K l x z = if wordB K x && latB K z then actM l K x z else []) := by rw [Hid, awO, hG]; rfl
    clear hT hx hz
    rcases hw : wordB K x with _ | _
    · have HF : Hid (awO K l x z = []) := by rw [Hid, HF.out, hw]; rfl
      have X0 := Lib.hid (((Ext.refl w).alloc (.cells #[.int .i64 (K : Nat), .slice (some ⟨a0, oa, none⟩) n n] 27)).alloc (.cells #[.slice (some ⟨bx, ox, none⟩) nx nx] 22))
      have CB := Lib.hid (cells_new' (w.alloc (.cells #[.int .i64 (K : Nat), .slice (some ⟨a0, oa, none⟩) n n] 27)) #[.slice (some ⟨bx, ox, none⟩) nx nx] 22 (w.heap.size + 1) (by simp))
      have HCW := Lib.hid (wrapWords_yes K a0 oa n (w.heap.size + 1) 1 1 (fun _ => some ⟨bx, ox, none⟩) (fun _ => nx) (fun _ => nx) (fun _ => x) l v _ (HT.out.ext X0.out) hK1 hK4 ht hlK (by simp) (fun j hj => by have e : j = 0 := (by omega); subst e; exact CB.out.2 0 _ rfl) (fun j hj => ⟨Hx.out.ext X0.out, hmx⟩) (by omega))
      go_enter Tryz.func25, Tryz.ntmps25
      go_wp2_with fail
      refine HCW.out.mono ?_
      rintro e w2 (⟨h1, rfl, hE⟩ | ⟨h1, B, LB, ns, rfl, hns, hW⟩)
      · go_wp2
        go_ret
        exact ⟨_, rfl, ⟨_, _, _, rfl, by rw [HF.out]; exact own_nil _ _ _, by omega⟩, X0.out.trans hE⟩
      · rw [wordsB_one6, hw] at h1; cases h1
    · rcases hL : latB K z with _ | _
      · have HF : Hid (awO K l x z = []) := by rw [Hid, HF.out, hw, hL]; rfl
        have X0 := Lib.hid (((Ext.refl w).alloc (.cells #[.int .i64 (K : Nat), .slice (some ⟨a0, oa, none⟩) n n] 27)).alloc (.cells #[.slice (some ⟨bx, ox, none⟩) nx nx] 22))
        have CB := Lib.hid (cells_new' (w.alloc (.cells #[.int .i64 (K : Nat), .slice (some ⟨a0, oa, none⟩) n n] 27)) #[.slice (some ⟨bx, ox, none⟩) nx nx] 22 (w.heap.size + 1) (by simp))
        have HCW := Lib.hid (wrapWords_yes K a0 oa n (w.heap.size + 1) 1 1 (fun _ => some ⟨bx, ox, none⟩) (fun _ => nx) (fun _ => nx) (fun _ => x) l v _ (HT.out.ext X0.out) hK1 hK4 ht hlK (by simp) (fun j hj => by have e : j = 0 := (by omega); subst e; exact CB.out.2 0 _ rfl) (fun j hj => ⟨Hx.out.ext X0.out, hmx⟩) (by omega))
        go_enter Tryz.func25, Tryz.ntmps25
        go_wp2_with fail
        refine HCW.out.mono ?_
        rintro e w2 (⟨h1, rfl, hE⟩ | ⟨h1, B, LB, ns, rfl, hns, hW⟩)
        · rw [wordsB_one6, hw] at h1; cases h1
        · skip
          have HE2 := Lib.hid (X0.out.trans hW.ext)
          obtain ⟨xa, xn, xc, hbox, hstr⟩ := hW.box
          have HBX := Lib.hid hbox
          clear hW hns hbox hstr HCW
          go_wp2_with fail
          refine (hasWeight_impl B K a0 oa n n bz oz nz nz _ _ z _ HBX.out (Hz.out.ext HE2.out) hK4 hmz).mono ?_
          rintro e w3 ⟨rfl, h3⟩
          rw [hL]
          go_wp2
          go_ret
          exact ⟨_, rfl, ⟨_, _, _, rfl, by rw [HF.out]; exact own_nil _ _ _, by omega⟩, HE2.out.trans h3⟩
      · have HF : Hid (awO K l x z = actM l K x z) := by rw [Hid, HF.out, hw, hL]; rfl
        have HLB := Lib.hid (latB_bnd hL)
        have hnz : nz = K := by rw [← Hz.out.len]; exact HLB.out.1
        subst hnz
        have HRB := Lib.hid (wordB_rowB hw)
        have HP0 : Hid (ImB l nz 24000 z) := by
          have := imB_start (xs := l) (w := z) (C := 1000) hK4 HWO.out.rt HLB.out.1 (by omega) HLB.out.2
          exact this
        have HPB := Lib.hid (imB_bnd6 (l := l) (B := 24000) HWO.out.rt (by omega) (by omega))
        have HPT : Hid (∀ u i, i < nz → ImB l nz 24000 u → ImB l nz 24000 (turnM l nz i u)) := fun u i hi hu => imB_turn HWO.out.rt hu hi
        have HLEN : Hid (∀ u, ImB l nz 24000 u → u.length = nz) := fun u hu => hu.len
        have X0 := Lib.hid (((Ext.refl w).alloc (.cells #[.int .i64 (nz : Nat), .slice (some ⟨a0, oa, none⟩) n n] 27)).alloc (.cells #[.slice (some ⟨bx, ox, none⟩) nx nx] 22))
        have CB := Lib.hid (cells_new' (w.alloc (.cells #[.int .i64 (nz : Nat), .slice (some ⟨a0, oa, none⟩) n n] 27)) #[.slice (some ⟨bx, ox, none⟩) nx nx] 22 (w.heap.size + 1) (by simp))
        have HCW := Lib.hid (wrapWords_yes nz a0 oa n (w.heap.size + 1) 1 1 (fun _ => some ⟨bx, ox, none⟩) (fun _ => nx) (fun _ => nx) (fun _ => x) l v _ (HT.out.ext X0.out) hK1 hK4 ht hlK (by simp) (fun j hj => by have e : j = 0 := (by omega); subst e; exact CB.out.2 0 _ rfl) (fun j hj => ⟨Hx.out.ext X0.out, hmx⟩) (by omega))
        go_enter Tryz.func25, Tryz.ntmps25
        go_wp2_with fail
        refine HCW.out.mono ?_
        rintro e w2 (⟨h1, rfl, hE⟩ | ⟨h1, B, LB, ns, rfl, hns, hW⟩)
        · rw [wordsB_one6, hw] at h1; cases h1
        · skip
          have HE2 := Lib.hid (X0.out.trans hW.ext)
          obtain ⟨xa, xn, xc, hbox, hstr⟩ := hW.box
          have HBX := Lib.hid hbox
          clear hW hns hbox hstr HCW
          go_wp2_with fail
          refine (hasWeight_impl B nz a0 oa n n bz oz nz nz _ _ z _ HBX.out (Hz.out.ext HE2.out) hK4 hmz).mono ?_
          rintro e w3 ⟨rfl, h3⟩
          rw [hL]
          have HE3 := Lib.hid (HE2.out.trans h3)
          have HBX3 := Lib.hid (HBX.out.ext h3)
          clear h3 HBX HE2
          go_wp2_with fail
          refine (byWord_turned B nz a0 oa n n bx ox nx nx bz oz nz _ _ l x z (ImB l nz 24000) _ HBX3.out (HT.out.ext HE3.out) hnK.out hK1 hK4 HWO.out.xb (Hx.out.ext HE3.out) hmx (fun e he => rowB_at HRB.out he) (Hz.out.ext HE3.out) HP0.out HPB.out HPT.out).mono ?_
          rintro e w4 ⟨b4, c4, rfl, hc4, hb41, hb42, hh4, hP4, h4⟩
          have HH4 : Hid (Has w4 b4 (actM l nz x z)) := hh4
          have HN4 : Hid ((actM l nz x z).length = nz) := HLEN.out _ hP4
          have hle := HE3.out.le
          clear hh4 hP4
          go_wp2
          go_ret
          exact ⟨_, rfl, ⟨_, _, _, rfl, by rw [HF.out]; exact HH4.out.own (by omega) hb42 HN4.out, by omega⟩, HE3.out.trans h4⟩

set_option maxRecDepth 100000 in
set_option maxHeartbeats 6400000 in
theorem actRoot_spec {R : Int} {a0 oa n bx ox nx bz oz nz : Nat} {l x z : List Int} {w : World} {i : List Int} (hT : Reads w (some ⟨a0, oa, none⟩) n l) (hm0 : n ≤ 1048576) (hx : Reads w (some ⟨bx, ox, none⟩) nx x) (hmx : nx ≤ 1048576) (hz : Reads w (some ⟨bz, oz, none⟩) nz z) (hmz : nz ≤ 1048576) (hM : arO R l x z = i) :
    Calls Tryz.prog 26 #[.agg #[.int .i64 R, .slice (some ⟨a0, oa, none⟩) n n], .slice (some ⟨bx, ox, none⟩) nx nx, .slice (some ⟨bz, oz, none⟩) nz nz] w fun e w' => ∃ v, e = .returned v ∧ Rints5 w w' v i ∧ Ext w w' := by
  subst hM
  have HT := Lib.hid hT
  have Hx := Lib.hid hx
  have Hz := Lib.hid hz
  rcases hG : carG R l with _ | v
  · have HF : Hid (arO R l x z = []) := by rw [Hid, arO, hG]
    have HI : wrdO R l x = false := by rw [wrdO, hG]; rfl
    clear hT hx hz
    go_enter Tryz.func26, Tryz.ntmps26
    go_wp2_with fail
    refine (wordOk_spec (HT.out.ext ((Ext.refl w).alloc _)) hm0 (Hx.out.ext ((Ext.refl w).alloc _)) hmx HI).mono ?_
    rintro e w2 ⟨rfl, hE⟩
    go_wp2
    go_ret
    exact ⟨_, rfl, ⟨_, _, _, rfl, by rw [HF.out]; exact own_nil _ _ _, by omega⟩, ((Ext.refl w).alloc _).trans hE⟩
  · obtain ⟨K, rfl, hK1, hK4, hlK, ht⟩ := carG_some hG
    have hnK : Hid (n = K * K) := by rw [Hid, ← hT.len]; exact hlK
    obtain ⟨hh, hWOK⟩ := wOk_tab hK1 hK4 ht
    have HWO := Lib.hid hWOK
    clear hWOK
    have HF : Hid (arO K l x z = if wordB K x && latB K z then actR l K x z else []) := by rw [Hid, arO, hG]; rfl
    have HI : Hid (wrdO K l x = wordB K x) := by rw [Hid, wrdO, hG]; rfl
    clear hT hx hz
    rcases hw : wordB K x with _ | _
    · have HF : Hid (arO K l x z = []) := by rw [Hid, HF.out, hw]; rfl
      go_enter Tryz.func26, Tryz.ntmps26
      go_wp2_with fail
      refine (wordOk_spec (HT.out.ext ((Ext.refl w).alloc _)) hm0 (Hx.out.ext ((Ext.refl w).alloc _)) hmx HI.out).mono ?_
      rintro e w2 ⟨rfl, hE⟩
      rw [hw]
      go_wp2
      go_ret
      exact ⟨_, rfl, ⟨_, _, _, rfl, by rw [HF.out]; exact own_nil _ _ _, by omega⟩, ((Ext.refl w).alloc _).trans hE⟩
    · rcases hL : latB K z with _ | _
      · have HF : Hid (arO K l x z = []) := by rw [Hid, HF.out, hw, hL]; rfl
        go_enter Tryz.func26, Tryz.ntmps26
        go_wp2_with fail
        refine (wordOk_spec (HT.out.ext ((Ext.refl w).alloc _)) hm0 (Hx.out.ext ((Ext.refl w).alloc _)) hmx HI.out).mono ?_
        rintro e w2 ⟨rfl, hE⟩
        rw [hw]
        have HE2 := Lib.hid (((Ext.refl w).alloc _).trans hE)
        have HB2 := Lib.hid ((cells_new w #[.int .i64 (K : Nat), .slice (some ⟨a0, oa, none⟩) n n] 27).ext hE)
        clear hE
        have lB := HB2.out.1
        have q0 := HB2.out.2 0 _ rfl
        have q1 := HB2.out.2 1 _ rfl
        go_wp2_with fail
        clear lB q0 q1
        refine (l5Lattice_spec K a0 oa n n bz oz nz nz z _ (Hz.out.ext HE2.out) hK4 hmz).mono ?_
        rintro e w3 ⟨rfl, h3⟩
        rw [hL]
        go_wp2
        go_ret
        exact ⟨_, rfl, ⟨_, _, _, rfl, by rw [HF.out]; exact own_nil _ _ _, by omega⟩, HE2.out.trans h3⟩
      · have HF : Hid (arO K l x z = actR l K x z) := by rw [Hid, HF.out, hw, hL]; rfl
        have HLB := Lib.hid (latB_bnd hL)
        have hnz : nz = K := by rw [← Hz.out.len]; exact HLB.out.1
        subst hnz
        have HRB := Lib.hid (wordB_rowB hw)
        have HP0 : Hid (LcB l nz z z) := lcB_start HWO.out.rc HLB.out.1
        have HPB : Hid (∀ u, LcB l nz z u → u.length = nz ∧ ∀ e, -1000000 ≤ gi u e ∧ gi u e ≤ 1000000) := fun u hu => ⟨hu.len, fun e => by have := lcB_bnd hK4 HWO.out.rc hu HLB.out.2 e; omega⟩
        have HPT : Hid (∀ u i, i < nz → LcB l nz z u → LcB l nz z (rfl5 l nz i u)) := fun u i hi hu => lcB_turn HWO.out.rc hu hi
        have HLEN : Hid (∀ u, LcB l nz z u → u.length = nz) := fun u hu => hu.len
        go_enter Tryz.func26, Tryz.ntmps26
        go_wp2_with fail
        refine (wordOk_spec (HT.out.ext ((Ext.refl w).alloc _)) hm0 (Hx.out.ext ((Ext.refl w).alloc _)) hmx HI.out).mono ?_
        rintro e w2 ⟨rfl, hE⟩
        rw [hw]
        have HE2 := Lib.hid (((Ext.refl w).alloc _).trans hE)
        have HB2 := Lib.hid ((cells_new w #[.int .i64 (nz : Nat), .slice (some ⟨a0, oa, none⟩) n n] 27).ext hE)
        clear hE
        have lB := HB2.out.1
        have q0 := HB2.out.2 0 _ rfl
        have q1 := HB2.out.2 1 _ rfl
        go_wp2_with fail
        clear lB q0 q1
        refine (l5Lattice_spec nz a0 oa n n bz oz nz nz z _ (Hz.out.ext HE2.out) hK4 hmz).mono ?_
        rintro e w3 ⟨rfl, h3⟩
        rw [hL]
        have HE3 := Lib.hid (HE2.out.trans h3)
        have HB3 := Lib.hid (HB2.out.ext h3)
        clear h3 HB2 HE2
        have lB := HB3.out.1
        have q0 := HB3.out.2 0 _ rfl
        have q1 := HB3.out.2 1 _ rfl
        go_wp2_with fail
        refine (l6ActRoot_spec nz a0 oa n n bx ox nx nx bz oz nz l x z (LcB l nz z) _ (HT.out.ext HE3.out) hnK.out hK1 hK4 HWO.out.xb (Hx.out.ext HE3.out) hmx HRB.out (Hz.out.ext HE3.out) HP0.out HPB.out HPT.out).mono ?_
        rintro e w4 ⟨b4, c4, rfl, hc4, hb41, hb42, hh4, hP4, h4⟩
        have HH4 : Hid (Has w4 b4 (actR l nz x z)) := hh4
        have HN4 : Hid ((actR l nz x z).length = nz) := HLEN.out _ hP4
        have hle := HE3.out.le
        clear hh4 hP4
        go_wp2
        go_ret
        exact ⟨_, rfl, ⟨_, _, _, rfl, by rw [HF.out]; exact HH4.out.own (by omega) hb42 HN4.out, by omega⟩, HE3.out.trans h4⟩

set_option maxRecDepth 100000 in
set_option maxHeartbeats 6400000 in
theorem actRoot_impl {R : Int} {a0 oa n bx ox nx bz oz nz : Nat} {l x z : List Int} {w : World} {i : List Int} (hT : Reads w (some ⟨a0, oa, none⟩) n l) (hm0 : n ≤ 1048576) (hx : Reads w (some ⟨bx, ox, none⟩) nx x) (hmx : nx ≤ 1048576) (hz : Reads w (some ⟨bz, oz, none⟩) nz z) (hmz : nz ≤ 1048576) (hM : arO R l x z = i) :
    Calls Tryz.prog 27 #[.agg #[.int .i64 R, .slice (some ⟨a0, oa, none⟩) n n], .slice (some ⟨bx, ox, none⟩) nx nx, .slice (some ⟨bz, oz, none⟩) nz nz] w fun e w' => ∃ v, e = .returned v ∧ Rints5 w w' v i ∧ Ext w w' := by
  subst hM
  have HT := Lib.hid hT
  have Hx := Lib.hid hx
  have Hz := Lib.hid hz
  have hmf : ∀ (fn : Fn) (first cap : Array Value) (w : World), (Instr.makeFunc fn first cap).run Tryz.prog w = .ok (.func fn first cap) w := fun _ _ _ _ => rfl
  rcases hG : carG R l with _ | v
  · have HF : Hid (arO R l x z = []) := by rw [Hid, arO, hG]
    clear hT hx hz
    have X0 := Lib.hid (((Ext.refl w).alloc (.cells #[.int .i64 R, .slice (some ⟨a0, oa, none⟩) n n] 27)).alloc (.cells #[.slice (some ⟨bx, ox, none⟩) nx nx] 22))
    go_enter Tryz.func27, Tryz.ntmps27
    go_wp2_with fail
    refine (wrapWords_no (HT.out.ext X0.out) hm0 hG).mono ?_
    rintro e w2 ⟨rfl, hE⟩
    go_wp2
    go_ret
    exact ⟨_, rfl, ⟨_, _, _, rfl, by rw [HF.out]; exact own_nil _ _ _, by omega⟩, X0.out.trans hE⟩
  · obtain ⟨K, rfl, hK1, hK4, hlK, ht⟩ := carG_some hG
    have hnK : Hid (n = K * K) := by rw [Hid, ← hT.len]; exact hlK
    obtain ⟨hh, hWOK⟩ := wOk_tab hK1 hK4 ht
    have HWO := Lib.hid hWOK
    clear hWOK
    have HF : Hid (arO K l x z = if wordB K x && latB K z then actR l K x z else []) := by rw [Hid, arO, hG]; rfl
    clear hT hx hz
    rcases hw : wordB K x with _ | _
    · have HF : Hid (arO K l x z = []) := by rw [Hid, HF.out, hw]; rfl
      have X0 := Lib.hid (((Ext.refl w).alloc (.cells #[.int .i64 (K : Nat), .slice (some ⟨a0, oa, none⟩) n n] 27)).alloc (.cells #[.slice (some ⟨bx, ox, none⟩) nx nx] 22))
      have CB := Lib.hid (cells_new' (w.alloc (.cells #[.int .i64 (K : Nat), .slice (some ⟨a0, oa, none⟩) n n] 27)) #[.slice (some ⟨bx, ox, none⟩) nx nx] 22 (w.heap.size + 1) (by simp))
      have HCW := Lib.hid (wrapWords_yes K a0 oa n (w.heap.size + 1) 1 1 (fun _ => some ⟨bx, ox, none⟩) (fun _ => nx) (fun _ => nx) (fun _ => x) l v _ (HT.out.ext X0.out) hK1 hK4 ht hlK (by simp) (fun j hj => by have e : j = 0 := (by omega); subst e; exact CB.out.2 0 _ rfl) (fun j hj => ⟨Hx.out.ext X0.out, hmx⟩) (by omega))
      go_enter Tryz.func27, Tryz.ntmps27
      go_wp2_with fail
      refine HCW.out.mono ?_
      rintro e w2 (⟨h1, rfl, hE⟩ | ⟨h1, B, LB, ns, rfl, hns, hW⟩)
      · go_wp2
        go_ret
        exact ⟨_, rfl, ⟨_, _, _, rfl, by rw [HF.out]; exact own_nil _ _ _, by omega⟩, X0.out.trans hE⟩
      · rw [wordsB_one6, hw] at h1; cases h1
    · rcases hL : latB K z with _ | _
      · have HF : Hid (arO K l x z = []) := by rw [Hid, HF.out, hw, hL]; rfl
        have X0 := Lib.hid (((Ext.refl w).alloc (.cells #[.int .i64 (K : Nat), .slice (some ⟨a0, oa, none⟩) n n] 27)).alloc (.cells #[.slice (some ⟨bx, ox, none⟩) nx nx] 22))
        have CB := Lib.hid (cells_new' (w.alloc (.cells #[.int .i64 (K : Nat), .slice (some ⟨a0, oa, none⟩) n n] 27)) #[.slice (some ⟨bx, ox, none⟩) nx nx] 22 (w.heap.size + 1) (by simp))
        have HCW := Lib.hid (wrapWords_yes K a0 oa n (w.heap.size + 1) 1 1 (fun _ => some ⟨bx, ox, none⟩) (fun _ => nx) (fun _ => nx) (fun _ => x) l v _ (HT.out.ext X0.out) hK1 hK4 ht hlK (by simp) (fun j hj => by have e : j = 0 := (by omega); subst e; exact CB.out.2 0 _ rfl) (fun j hj => ⟨Hx.out.ext X0.out, hmx⟩) (by omega))
        go_enter Tryz.func27, Tryz.ntmps27
        go_wp2_with fail
        refine HCW.out.mono ?_
        rintro e w2 (⟨h1, rfl, hE⟩ | ⟨h1, B, LB, ns, rfl, hns, hW⟩)
        · rw [wordsB_one6, hw] at h1; cases h1
        · skip
          have HE2 := Lib.hid (X0.out.trans hW.ext)
          obtain ⟨xa, xn, xc, hbox, hstr⟩ := hW.box
          have HBX := Lib.hid hbox
          clear hW hns hbox hstr HCW
          go_wp2_with fail
          refine (hasLattice_impl B K a0 oa n n bz oz nz nz _ _ z _ HBX.out (Hz.out.ext HE2.out) hK4 hmz).mono ?_
          rintro e w3 ⟨rfl, h3⟩
          rw [hL]
          go_wp2
          go_ret
          exact ⟨_, rfl, ⟨_, _, _, rfl, by rw [HF.out]; exact own_nil _ _ _, by omega⟩, HE2.out.trans h3⟩
      · have HF : Hid (arO K l x z = actR l K x z) := by rw [Hid, HF.out, hw, hL]; rfl
        have HLB := Lib.hid (latB_bnd hL)
        have hnz : nz = K := by rw [← Hz.out.len]; exact HLB.out.1
        subst hnz
        have HRB := Lib.hid (wordB_rowB hw)
        have HP0 : Hid (LcB l nz z z) := lcB_start HWO.out.rc HLB.out.1
        have HPB : Hid (∀ u, LcB l nz z u → u.length = nz ∧ ∀ e, -1000000 ≤ gi u e ∧ gi u e ≤ 1000000) := fun u hu => ⟨hu.len, fun e => by have := lcB_bnd hK4 HWO.out.rc hu HLB.out.2 e; omega⟩
        have HPT : Hid (∀ u i, i < nz → LcB l nz z u → LcB l nz z (rfl5 l nz i u)) := fun u i hi hu => lcB_turn HWO.out.rc hu hi
        have HLEN : Hid (∀ u, LcB l nz z u → u.length = nz) := fun u hu => hu.len
        have X0 := Lib.hid (((Ext.refl w).alloc (.cells #[.int .i64 (nz : Nat), .slice (some ⟨a0, oa, none⟩) n n] 27)).alloc (.cells #[.slice (some ⟨bx, ox, none⟩) nx nx] 22))
        have CB := Lib.hid (cells_new' (w.alloc (.cells #[.int .i64 (nz : Nat), .slice (some ⟨a0, oa, none⟩) n n] 27)) #[.slice (some ⟨bx, ox, none⟩) nx nx] 22 (w.heap.size + 1) (by simp))
        have HCW := Lib.hid (wrapWords_yes nz a0 oa n (w.heap.size + 1) 1 1 (fun _ => some ⟨bx, ox, none⟩) (fun _ => nx) (fun _ => nx) (fun _ => x) l v _ (HT.out.ext X0.out) hK1 hK4 ht hlK (by simp) (fun j hj => by have e : j = 0 := (by omega); subst e; exact CB.out.2 0 _ rfl) (fun j hj => ⟨Hx.out.ext X0.out, hmx⟩) (by omega))
        go_enter Tryz.func27, Tryz.ntmps27
        go_wp2_with fail
        refine HCW.out.mono ?_
        rintro e w2 (⟨h1, rfl, hE⟩ | ⟨h1, B, LB, ns, rfl, hns, hW⟩)
        · rw [wordsB_one6, hw] at h1; cases h1
        · skip
          have HE2 := Lib.hid (X0.out.trans hW.ext)
          obtain ⟨xa, xn, xc, hbox, hstr⟩ := hW.box
          have HBX := Lib.hid hbox
          clear hW hns hbox hstr HCW
          go_wp2_with fail
          refine (hasLattice_impl B nz a0 oa n n bz oz nz nz _ _ z _ HBX.out (Hz.out.ext HE2.out) hK4 hmz).mono ?_
          rintro e w3 ⟨rfl, h3⟩
          rw [hL]
          have HE3 := Lib.hid (HE2.out.trans h3)
          have HBX3 := Lib.hid (HBX.out.ext h3)
          clear h3 HBX HE2
          go_wp2_with fail
          refine (byWord_reflected B nz a0 oa n n bx ox nx nx bz oz nz _ _ l x z (LcB l nz z) _ HBX3.out (HT.out.ext HE3.out) hnK.out hK1 hK4 HWO.out.xb (Hx.out.ext HE3.out) hmx (fun e he => rowB_at HRB.out he) (Hz.out.ext HE3.out) HP0.out HPB.out HPT.out).mono ?_
          rintro e w4 ⟨b4, c4, rfl, hc4, hb41, hb42, hh4, hP4, h4⟩
          have HH4 : Hid (Has w4 b4 (actR l nz x z)) := hh4
          have HN4 : Hid ((actR l nz x z).length = nz) := HLEN.out _ hP4
          have hle := HE3.out.le
          clear hh4 hP4
          go_wp2
          go_ret
          exact ⟨_, rfl, ⟨_, _, _, rfl, by rw [HF.out]; exact HH4.out.own (by omega) hb42 HN4.out, by omega⟩, HE3.out.trans h4⟩
end Go.Proofs.YthhgodjobddenaaGreat
