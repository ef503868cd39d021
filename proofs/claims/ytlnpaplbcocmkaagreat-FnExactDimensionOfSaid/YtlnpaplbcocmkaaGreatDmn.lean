/-
  DimensionOf, in both texts.
-/
import Derived.Test.YtlnpaplbcocmkaaGreatChr
namespace Go.Proofs.YtlnpaplbcocmkaaGreat
open Go.ChangeShapes Go.WideShapes Go.ChangeAt Go.RowKit
set_option linter.unusedVariables false
set_option linter.unusedSimpArgs false

/-- The sum of the first k terms' counts. -/
def smT (ts : List (List Int × Int)) : Nat → Int
  | 0 => 0
  | k + 1 => smT ts k + tmC ts k
def dmO (R : Int) (l : List Int) (ts : List (List Int × Int)) : Int := if chO R l ts then smT ts ts.length else 0
theorem chO_cnt {R : Int} {l : List Int} {ts : List (List Int × Int)} (h : chO R l ts = true) : ts.length ≤ 400 ∧ ∀ j, j < ts.length → 1 ≤ tmC ts j ∧ tmC ts j ≤ 1000000 := by
  rw [chO] at h
  split at h
  · rw [chB, Bool.and_eq_true, List.all_eq_true] at h
    refine ⟨of_decide_eq_true h.1, fun j hj => ?_⟩
    have := h.2 j (List.mem_range.2 hj)
    rw [chJ, Bool.and_eq_true, Bool.and_eq_true] at this
    exact of_decide_eq_true this.2.1
  · cases h
theorem smT_bnd {ts : List (List Int × Int)} : ∀ k, (∀ j, j < k → 1 ≤ tmC ts j ∧ tmC ts j ≤ 1000000) → 0 ≤ smT ts k ∧ smT ts k ≤ k * 1000000
  | 0, _ => by simp [smT]
  | k + 1, h => by
    have h1 := smT_bnd k (fun j hj => h j (by omega))
    have h2 := h k (by omega)
    rw [smT]; omega
set_option maxRecDepth 100000 in
set_option maxHeartbeats 1600000 in
theorem l8Dimension_spec {b1 o1 n1 c1 : Nat} {ts : List (List Int × Int)} {w : World} (hx : TrmR w (some ⟨b1, o1, none⟩) n1 ts) (hm1 : n1 ≤ 400) (hc : ∀ j, j < n1 → 1 ≤ tmC ts j ∧ tmC ts j ≤ 1000000) :
    Calls Tryz.prog 84 #[.slice (some ⟨b1, o1, none⟩) n1 c1] w fun e w' => e = .returned (.int .i64 (smT ts n1)) ∧ Ext w w' := by
  have HY := Lib.hid hx
  have HC := Lib.hid hc
  have HS : Hid (∀ k, k < n1 → smT ts (k + 1) = smT ts k + tmC ts k) := fun k _ => rfl
  have HB : Hid (∀ k, k ≤ n1 → 0 ≤ smT ts k ∧ smT ts k ≤ 400000000) := fun k hk => by
    have := smT_bnd (ts := ts) k (fun j hj => hc j (by omega))
    omega
  have H0 : Hid (smT ts 0 = 0) := rfl
  obtain ⟨Q, hQ⟩ : ∃ Q, smT ts = Q := ⟨_, rfl⟩
  rw [hQ] at HS HB H0 ⊢
  clear hx hc hQ
  go_enter Tryz.func84, Tryz.ntmps84
  go_wp2_with fail
  go_loopw [4, 3] (fun z v wr => ∃ j : Nat, j ≤ n1 ∧ z = .int .i64 j ∧ v = .int .i64 (Q j) ∧ Hid (Ext w wr)) (fun z _ _ => n1 - (intOf z).toNat)
  case atStart => exact ⟨0, by omega, rfl, by rw [H0.out], Ext.refl _⟩
  case round =>
    obtain ⟨j, hj, rfl, rfl, hE⟩ := hrel
    by_cases hlt : j < n1
    · have hltI : (j : Int) < (n1 : Int) := by omega
      have hcx : b1 < wr.heap.size ∧ wr.cell? ⟨b1, o1 + j * 2 + 1, none⟩ = some (.int .i64 (tmC ts j)) := by
        rcases (HY.out.ext hE.out).2 with h0 | ⟨b, o, e1, e2, e3⟩
        · omega
        · simp only [Option.some.injEq, Addr.mk.injEq, and_true] at e1
          obtain ⟨rfl, rfl⟩ := e1
          obtain ⟨aj, cj, h1, h2, h3⟩ := e3 j hlt
          exact ⟨e2, h3⟩
      obtain ⟨hbl, hc1⟩ := hcx
      have HSj := Lib.hid (HS.out j hlt)
      have hb0 := HB.out j hj
      have hb1 := HC.out j hlt
      obtain ⟨t, ht⟩ : ∃ t, tmC ts j = t := ⟨_, rfl⟩
      obtain ⟨q, hq⟩ : ∃ q, Q j = q := ⟨_, rfl⟩
      rw [ht] at hc1 HSj hb1
      rw [hq] at HSj hb0 ⊢
      have v1 : IntKind.i64.wrap (q + t) = q + t := IntWalk.i64_in _ ⟨by omega, by omega⟩
      clear ht hq
      go_wp2_with fail
      first
        | (go_quiet (fail); go_wp2; exact ⟨⟨j + 1, by omega, by simp, by rw [HSj.out], hE.out.drewN _⟩, by simp [intOf]; omega⟩)
        | (go_wp2; exact ⟨⟨j + 1, by omega, by simp, by rw [HSj.out], hE.out⟩, by simp [intOf]; omega⟩)
        | exact ⟨⟨j + 1, by omega, by simp, by rw [HSj.out], hE.out⟩, by simp [intOf]; omega⟩
    · obtain rfl : n1 = j := by omega
      go_wp2
      go_ret
      exact ⟨rfl, hE.out⟩
set_option maxRecDepth 100000 in
set_option maxHeartbeats 1600000 in
theorem dimensionOf_spec {R : Int} {a0 oa n b1 o1 n1 : Nat} {l : List Int} {ts : List (List Int × Int)} {w : World} {i : Int} (hT : Reads w (some ⟨a0, oa, none⟩) n l) (hm0 : n ≤ 1048576) (hx : TrmR w (some ⟨b1, o1, none⟩) n1 ts) (hm1 : n1 ≤ 1048576) (hl : ∀ j, j < n1 → (tmR ts j).length ≤ 1048576) (hM : dmO R l ts = i) :
    Calls Tryz.prog 41 #[.agg #[.int .i64 R, .slice (some ⟨a0, oa, none⟩) n n], .slice (some ⟨b1, o1, none⟩) n1 n1] w fun e w' => e = .returned (.int .i64 i) ∧ Ext w w' := by
  subst hM
  have HT := Lib.hid hT
  have HY := Lib.hid hx
  have HRL := Lib.hid hl
  have HL := hx.len
  have C0 := Lib.hid (cells_new w #[.int .i64 R, .slice (some ⟨a0, oa, none⟩) n n] 27)
  have X0 := Lib.hid ((Ext.refl w).alloc (.cells #[.int .i64 R, .slice (some ⟨a0, oa, none⟩) n n] 27))
  have HC := Lib.hid (characterOk_spec (R := R) (i := chO R l ts) (HT.out.ext X0.out) hm0 (HY.out.ext X0.out) hm1 hl rfl)
  clear hT hx hl
  rcases hh : chO R l ts with _ | _
  · have HF : Hid (dmO R l ts = 0) := by rw [Hid, dmO, hh]; rfl
    rw [hh] at HC
    go_enter Tryz.func41, Tryz.ntmps41
    go_wp2_with fail
    refine HC.out.mono ?_
    rintro e w2 ⟨rfl, hE⟩
    go_wp2
    go_ret
    exact ⟨ret_int HF.out.symm, X0.out.trans hE⟩
  · have HF : Hid (dmO R l ts = smT ts n1) := by rw [Hid, dmO, hh, if_pos rfl, HL]
    obtain ⟨h400, hcn⟩ := chO_cnt hh
    rw [hh] at HC
    have HD := Lib.hid (fun w1 (h : Ext w w1) => l8Dimension_spec (c1 := n1) (HY.out.ext h) (by omega) (fun j hj => hcn j (by omega)))
    clear hcn
    go_enter Tryz.func41, Tryz.ntmps41
    go_wp2_with fail
    refine HC.out.mono ?_
    rintro e w2 ⟨rfl, hE⟩
    go_wp2_with fail
    refine (HD.out _ (X0.out.trans hE)).mono ?_
    rintro e w3 ⟨rfl, h3⟩
    go_wp2
    go_ret
    exact ⟨ret_int HF.out.symm, (X0.out.trans hE).trans h3⟩
set_option maxRecDepth 100000 in
set_option maxHeartbeats 3200000 in
theorem dimensionOf_impl {R : Int} {a0 oa n b1 o1 n1 : Nat} {l : List Int} {ts : List (List Int × Int)} {w : World} {i : Int} (hT : Reads w (some ⟨a0, oa, none⟩) n l) (hm0 : n ≤ 1048576) (hx : TrmR w (some ⟨b1, o1, none⟩) n1 ts) (hm1 : n1 ≤ 1048576) (hl : ∀ j, j < n1 → (tmR ts j).length ≤ 1048576) (hM : dmO R l ts = i) :
    Calls Tryz.prog 42 #[.agg #[.int .i64 R, .slice (some ⟨a0, oa, none⟩) n n], .slice (some ⟨b1, o1, none⟩) n1 n1] w fun e w' => e = .returned (.int .i64 i) ∧ Ext w w' := by
  subst hM
  have HT := Lib.hid hT
  have HY := Lib.hid hx
  have HL := hx.len
  have X0 := Lib.hid ((Ext.refl w).alloc (.cells #[.int .i64 R, .slice (some ⟨a0, oa, none⟩) n n] 27))
  have HC := Lib.hid (characterOk_impl (R := R) (i := chO R l ts) (HT.out.ext X0.out) hm0 (HY.out.ext X0.out) hm1 hl rfl)
  clear hT hx hl
  rcases hh : chO R l ts with _ | _
  · have HF : Hid (dmO R l ts = 0) := by rw [Hid, dmO, hh]; rfl
    rw [hh] at HC
    go_enter Tryz.func42, Tryz.ntmps42
    go_wp2_with fail
    refine HC.out.mono ?_
    rintro e w2 ⟨rfl, hE⟩
    go_wp2
    go_ret
    exact ⟨ret_int HF.out.symm, X0.out.trans hE⟩
  · obtain ⟨h400, hcn⟩ := chO_cnt hh
    have HCN : Hid (∀ j, j < n1 → 1 ≤ tmC ts j ∧ tmC ts j ≤ 1000000) := fun j hj => hcn j (by omega)
    have HF : Hid (dmO R l ts = smT ts n1) := by rw [Hid, dmO, hh, if_pos rfl, HL]
    have HS : Hid (∀ k, k < n1 → smT ts (k + 1) = smT ts k + tmC ts k) := fun k _ => rfl
    have HB : Hid (∀ k, k ≤ n1 → 0 ≤ smT ts k ∧ smT ts k ≤ 400000000) := fun k hk => by
      have := smT_bnd (ts := ts) k (fun j hj => hcn j (by omega))
      omega
    have H0 : Hid (smT ts 0 = 0) := rfl
    rw [hh] at HC
    obtain ⟨Q, hQ⟩ : ∃ Q, smT ts = Q := ⟨_, rfl⟩
    rw [hQ] at HS HB H0 HF
    rw [HF.out]
    clear hcn hQ HF hh
    go_enter Tryz.func42, Tryz.ntmps42
    go_wp2_with fail
    refine HC.out.mono ?_
    rintro e w2 ⟨rfl, hE2⟩
    have XE := Lib.hid (X0.out.trans hE2)
    clear hE2
    go_wp2_with fail
    go_loopw [14, 5] (fun z v wr => ∃ j : Nat, j ≤ n1 ∧ z = .int .i64 j ∧ v = .int .i64 (Q j) ∧ Hid (Ext w wr)) (fun z _ _ => n1 - (intOf z).toNat)
    case atStart => exact ⟨0, by omega, rfl, by rw [H0.out], XE.out⟩
    case round =>
      obtain ⟨j, hj, rfl, rfl, hE⟩ := hrel
      by_cases hlt : j < n1
      · have hltI : (j : Int) < (n1 : Int) := by omega
        have hcx : ∃ aj cj, b1 < wr.heap.size ∧ wr.cell? ⟨b1, o1 + j * 2, none⟩ = some (.slice aj (tmR ts j).length cj) ∧ wr.cell? ⟨b1, o1 + j * 2 + 1, none⟩ = some (.int .i64 (tmC ts j)) := by
          rcases (HY.out.ext hE.out).2 with h0 | ⟨b, o, e1, e2, e3⟩
          · omega
          · simp only [Option.some.injEq, Addr.mk.injEq, and_true] at e1
            obtain ⟨rfl, rfl⟩ := e1
            obtain ⟨aj, cj, h1, h2, h3⟩ := e3 j hlt
            exact ⟨aj, cj, e2, h1, h3⟩
        obtain ⟨aj, cj, hbl, hc0, hc1⟩ := hcx
        have HSj := Lib.hid (HS.out j hlt)
        have hb0 := HB.out j hj
        have hb1 := HCN.out j hlt
        obtain ⟨t, ht⟩ : ∃ t, tmC ts j = t := ⟨_, rfl⟩
        obtain ⟨r, hr⟩ : ∃ r, (tmR ts j).length = r := ⟨_, rfl⟩
        obtain ⟨q, hq⟩ : ∃ q, Q j = q := ⟨_, rfl⟩
        rw [ht] at hc1 HSj hb1
        rw [hr] at hc0
        rw [hq] at HSj hb0 ⊢
        have v1 : IntKind.i64.wrap (q + t) = q + t := IntWalk.i64_in _ ⟨by omega, by omega⟩
        obtain ⟨tm, htm⟩ : ∃ tm, wr.alloc (.cells #[.slice aj r cj, .int .i64 t] 94) = tm := ⟨_, rfl⟩
        have HX1 : Hid (Ext wr tm) := by rw [← htm]; exact (Ext.refl _).alloc _
        have HBX : Hid (Cells tm wr.heap.size [.slice aj r cj, .int .i64 t]) := by rw [← htm]; exact cells_new wr _ _
        have hx0 := HBX.out.2 0 _ rfl
        have hx1 := HBX.out.2 1 _ rfl
        first | simp only [Nat.zero_add] at hx0 hx1 | skip
        have hsz : wr.heap.size < tm.heap.size := HBX.out.1
        clear ht hq hr
        go_wp2_with fail
        first
          | (go_quiet (fail); go_wp2; exact ⟨⟨j + 1, by omega, by simp, by rw [HSj.out], (hE.out.trans HX1.out).drewN _⟩, by simp [intOf]; omega⟩)
          | (go_wp2; exact ⟨⟨j + 1, by omega, by simp, by rw [HSj.out], hE.out.trans HX1.out⟩, by simp [intOf]; omega⟩)
          | exact ⟨⟨j + 1, by omega, by simp, by rw [HSj.out], hE.out.trans HX1.out⟩, by simp [intOf]; omega⟩
      · obtain rfl : n1 = j := by omega
        go_wp2
        go_ret
        exact ⟨rfl, hE.out⟩
end Go.Proofs.YtlnpaplbcocmkaaGreat
