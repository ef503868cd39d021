/-
  Whether rows fit a family in some order: the specification's search.
-/
import Derived.Test.YtlnpaplbcocmkaaGreatOne
import Derived.Deep.RegionLaw
import Derived.Laws.AppendOwnNone
namespace Go.Proofs.YtlnpaplbcocmkaaGreat
open Go.ChangeShapes Go.WideShapes Go.ChangeAt Go.RowKit
set_option linter.unusedVariables false
set_option linter.unusedSimpArgs false

def stepJ (k : Nat) (xs : List Int) (R : Nat) (next : List Nat) (q : Nat) : Nat → Bool
  | 0 => true
  | j + 1 => stepJ k xs R next q j && (gi xs (ni next q * R + ni next j) == elM k (q + 1) (j + 1) && gi xs (ni next j * R + ni next q) == elM k (j + 1) (q + 1))
theorem stepJ_all (k : Nat) (xs : List Int) (R : Nat) (next : List Nat) (q : Nat) : ∀ j, stepJ k xs R next q j = (List.range j).all fun j => gi xs (ni next q * R + ni next j) == elM k (q + 1) (j + 1) && gi xs (ni next j * R + ni next q) == elM k (j + 1) (q + 1)
  | 0 => by simp [stepJ]
  | j + 1 => by rw [stepJ, stepJ_all k xs R next q j, List.range_succ, List.all_append]; simp
theorem stepB_eq (k : Nat) (xs : List Int) (R : Nat) (next : List Nat) (q : Nat) : stepB k xs R next q = stepJ k xs R next q (q + 1) := (stepJ_all k xs R next q (q + 1)).symm
theorem fitsM_no {k : Nat} {xs : List Int} {R : Nat} {rows used : List Nat} {m : Nat} (h : ∀ i, i < rows.length → (!used.contains (ni rows i) && stepB k xs R (used ++ [ni rows i]) used.length && fitsM k xs R rows m (used ++ [ni rows i])) = false) : fitsM k xs R rows (m + 1) used = false := by
  rw [fitsM, List.any_eq_false]
  exact fun i hi => by rw [h i (List.mem_range.1 hi)]; simp
theorem fitsM_yes {k : Nat} {xs : List Int} {R : Nat} {rows used : List Nat} {m i : Nat} (hi : i < rows.length) (h1 : ¬ ni rows i ∈ used) (h2 : stepB k xs R (used ++ [ni rows i]) used.length = true) (h3 : fitsM k xs R rows m (used ++ [ni rows i]) = true) : fitsM k xs R rows (m + 1) used = true := by
  rw [fitsM, List.any_eq_true]
  refine ⟨i, List.mem_range.2 hi, ?_⟩
  have h4 : used.contains (ni rows i) = false := by
    rcases h : used.contains (ni rows i) with _ | _
    · rfl
    · exact absurd (List.contains_iff_mem.1 h) h1
  rw [h4, h2, h3]; rfl
/-- A copy that may be appended to. -/
theorem l1Ints_g (a : Option Addr) (n c : Nat) (xs : List Int) (w : World) (hr : Reads w a n xs) (hn : n ≤ 1048576) (ha : a = none → n = 0 ∧ c = 0) :
    Calls Tryz.prog 116 #[.slice a n c] w fun e w' => ∃ v, e = .returned v ∧ Grows w' w.heap.size v n xs ∧ Ext w w' := by
  obtain ⟨i0, hi, hz0, hz1, hz2⟩ := info_parts Tryz.infoInt
  obtain ⟨hl, hr⟩ := hr
  have own0 : (w.alloc (.cells #[] 3)).ownsRow w.heap.size 3 1 (.slice (some ⟨w.heap.size, 0, none⟩) 0 0) 0 [] := World.ownsRow_lit w #[] 0 (Nat.le_refl _) (by unfold maxLen; omega) (by simp)
  cases a with
  | none =>
    obtain ⟨rfl, rfl⟩ := ha rfl
    obtain rfl : xs = [] := List.length_eq_zero_iff.1 hl
    go_enter Tryz.func116, Tryz.ntmps116
    go_wp2_with (at_builtin; refine wpList_append_own_none rfl _ _ 22 rfl w.heap.size 3 i0 1 Tryz.underlying22 hi _ 0 [] rfl own0 rfl ?_)
    go_ret
    exact ⟨_, rfl, own0, (Ext.refl _).alloc _⟩
  | some ad =>
    have hnews : ∀ (j : Nat) (u : Value), (xs.map (Value.int .i64))[j]? = some u → (w.alloc (.cells #[] 3)).cell? (ad.add j) = some u := by
      intro j u hu
      have hj : j < xs.length := by have := (List.getElem?_eq_some_iff.1 hu).1; simpa using this
      rcases hr with h | ⟨b, off, h, hb, hc⟩
      · omega
      · simp at h
        subst h
        have e : (⟨b, off, none⟩ : Addr).add j = ⟨b, off + j, none⟩ := add_plain ..
        rw [e, World.cell?_alloc_past _ _ _ hb, hc j (by omega)]
        simp [hj] at hu
        simp [gi, hj, hu]
    go_enter Tryz.func116, Tryz.ntmps116
    go_wp2_with (at_builtin; refine wpList_append_own _ rfl _ _ 22 rfl w.heap.size 3 i0 (.int .i64 0) 1 8 Tryz.underlying22 hi hz0 hz1 hz2 rfl (by decide) _ 0 [] rfl own0 ad n _ (xs.map (Value.int .i64)) rfl ?c1 hnews ?c2 ?c3 ?c4 ?c5 ?_)
    case c1 => simpa using hl
    case c2 => intro u hu; obtain ⟨z, _, rfl⟩ := List.mem_map.1 hu; rfl
    case c3 => unfold maxLen; omega
    case c4 => omega
    case c5 => simp
    intro v' w1 ho hg hnil
    have HO := Lib.hid ho
    have HG := Lib.hid (((Ext.refl w).alloc (.cells #[] 3)).grown hg (fun k hk => by simp [Value.ownBlock] at hk; omega))
    clear ho hg hnil
    go_wp2
    go_ret
    exact ⟨v', rfl, by simpa [Grows] using HO.out, HG.out⟩
/-- append of one number, as a step of a region. -/
theorem step_append1g {ops : Array Oper} {o : Oper} {a : Act} {w : World} {K : Act → World → Prop} {Q : Exit → Act → World → Prop} {E : Prop} (hgd : o.guard = none) (s x : Operand)
    (ho : o.op = .call { callee := .builtin .append, args := #[s, x], argTypes := #[22, 22] }) (base : Nat)
    (v : Value) (n : Nat) (xs : List Int) (y : Int) (c g : Nat) (hs : a.eval s = v) (hx : a.eval x = .slice (some ⟨g, 0, none⟩) 1 c) (hown : Grows w base v n xs) (hy : w.cell? ⟨g, 0, none⟩ = some (.int .i64 y)) (hb : n + 1 ≤ 1048577) (hbase : base ≤ w.heap.size)
    (h : ∀ v' w', Grows w' base v' (n + 1) (xs ++ [y]) → w.grownBy w' v.ownBlock → K (a.put o.dst v') w') :
    if Region.wanted o (yielded ops a.tmps) = true then Oper.wp Tryz.prog o a w K Q else E := by
  obtain ⟨i0, hi, hz0, hz1, hz2⟩ := info_parts Tryz.infoInt
  have hw : Region.wanted o (yielded ops a.tmps) = true := by simp [Region.wanted, hgd]
  rw [if_pos hw]
  refine wp_append_own w s x 22 ho base 3 i0 (.int .i64 0) 1 8 Tryz.underlying22 hi hz0 hz1 hz2 rfl (by decide) v n (xs.map (Value.int .i64)) hs hown ⟨g, 0, none⟩ 1 c [.int .i64 y] hx rfl (fun j u hu => ?_) (fun u hu => by simp at hu; subst hu; rfl) (by unfold maxLen; omega) (by omega) hbase (fun v' w' h1 h2 h3 => h v' w' (by simpa [Grows] using h1) h2)
  obtain rfl : j = 0 := by have := (List.getElem?_eq_some_iff.1 hu).1; simp at this; omega
  simp at hu
  subst hu
  exact hy
theorem Grows.low {w : World} {base base' n : Nat} {v : Value} {xs : List Int} (h : Grows w base v n xs) (hb : base' ≤ base) : Grows w base' v n xs := by
  refine ⟨h.1, ?_⟩
  rcases h.2 with h2 | ⟨g, cap, cur, e1, h3, h4⟩
  · exact .inl h2
  · exact .inr ⟨g, cap, cur, e1, by omega, h4⟩
theorem Grows.slc {w : World} {base n c : Nat} {a : Option Addr} {xs : List Int} (h : Grows w base (.slice a n c) n xs) : SlcOk a n c := by
  refine ⟨?_, ?_, fun e => ?_⟩
  · rcases h.2 with ⟨e1, e2⟩ | ⟨g, cap, cur, e1, hb, hg, hn, hc, hs, ht⟩
    · omega
    · injection e1 with _ _ e4; omega
  · rcases h.2 with ⟨e1, e2⟩ | ⟨g, cap, cur, e1, hb, hg, hn, hc, hs, ht⟩
    · injection e1 with _ _ e4; omega
    · injection e1 with _ _ e4; omega
  · rcases h.2 with ⟨e1, e2⟩ | ⟨g, cap, cur, e1, hb, hg, hn, hc, hs, ht⟩
    · injection e1 with _ _ e4
    · injection e1 with e2; rw [e] at e2; cases e2

set_option maxRecDepth 100000 in
set_option maxHeartbeats 12800000 in
theorem l5Fits_spec (R da od n cD K wb cW c1 k : Nat) (a1 : Option Addr) (xs : List Int) (rows : List Nat) (W : World) (hr : Reads W (some ⟨da, od, none⟩) n xs) (hn : n = R * R) (hR : R ≤ 4) (hk : k < 12) (hK : frk k = K) (hw : Reads W (some ⟨wb, 0, none⟩) (K * K) (oneL k)) (hrow : Reads W a1 K (rI rows)) (hrl : rows.length = K) (hx : ∀ x, x ∈ rows → x < R) :
    ∀ (m : Nat) (used : List Nat) (a2 : Option Addr) (nu c2 : Nat) (w : World), Ext W w → used.length = nu → nu + m = K → (∀ x, x ∈ used → x < R) → Reads w a2 nu (rI used) → SlcOk a2 nu c2 →
    Calls Tryz.prog 142 #[.agg #[.int .i64 (R : Nat), .slice (some ⟨da, od, none⟩) n cD], .slice a1 K c1, .slice a2 nu c2, .agg #[.int .i64 (K : Nat), .slice (some ⟨wb, 0, none⟩) (K * K) cW]] w fun e w' => e = .returned (.bool (fitsM k xs R rows m used)) ∧ Ext w w' := by
  have hK4 : K ≤ 4 := by
    have : ∀ k, k < 12 → frk k ≤ 4 := by decide
    rw [← hK]; exact this k hk
  have HR := Lib.hid hr
  have HN := Lib.hid hn
  have HW := Lib.hid hw
  have HROW := Lib.hid hrow
  have HRL := Lib.hid hrl
  have HX := Lib.hid hx
  have HEL : Hid (∀ i, i < K → ∀ j, j < K → gi (oneL k) (i * K + j) = elM k (i + 1) (j + 1)) := by
    have := (oneL_at k hk).2; rw [hK] at this; exact this
  clear hr hn hw hrow hrl hx
  intro m
  induction m with
  | zero =>
    intro used a2 nu c2 w hE hl hnu hxu hU hS
    have HF : Hid (fitsM k xs R rows 0 used = true) := by rw [Hid, fitsM]
    have hnn : (nu : Int) = (K : Int) := by omega
    have hnq : ((nu : Int) == (K : Int)) = true := by simp; omega
    clear hU hS hxu hl hE
    go_enter Tryz.func142, Tryz.ntmps142
    go_wp2
    go_ret
    exact ⟨ret_bool HF.out.symm, by with_reducible repeat (first | exact Ext.refl _ | refine Ext.alloc ?_ _)⟩
  | succ m ih =>
    intro used a2 nu c2 w hE hl hnu hxu hU hS
    have HE := Lib.hid hE
    have HL := Lib.hid hl
    have HXU := Lib.hid hxu
    have HU := Lib.hid hU
    have HS := Lib.hid hS
    have IH := Lib.hid ih
    have hnn : ¬ (nu : Int) = (K : Int) := by omega
    have hnq : ((nu : Int) == (K : Int)) = false := by simp; omega
    have B1 := Lib.hid ((cells_new w #[.int .i64 (R : Nat), .slice (some ⟨da, od, none⟩) n cD] 27).ext ((Ext.refl _).alloc (.cells #[.int .i64 (K : Nat), .slice (some ⟨wb, 0, none⟩) (K * K) cW] 27)))
    have B2 := Lib.hid (cells_new' (w.alloc (.cells #[.int .i64 (R : Nat), .slice (some ⟨da, od, none⟩) n cD] 27)) #[.int .i64 (K : Nat), .slice (some ⟨wb, 0, none⟩) (K * K) cW] 27 (w.heap.size + 1) (by simp))
    have X0 := Lib.hid (((Ext.refl w).alloc (.cells #[.int .i64 (R : Nat), .slice (some ⟨da, od, none⟩) n cD] 27)).alloc (.cells #[.int .i64 (K : Nat), .slice (some ⟨wb, 0, none⟩) (K * K) cW] 27))
    clear hU hS hxu hl hE ih
    go_enter Tryz.func142, Tryz.ntmps142
    go_wp2_with fail
    generalize ((w.alloc (.cells #[.int .i64 (R : Nat), .slice (some ⟨da, od, none⟩) n cD] 27)).alloc (.cells #[.int .i64 (K : Nat), .slice (some ⟨wb, 0, none⟩) (K * K) cW] 27)) = W1 at *
    go_loopw [10, 11, 12, 13] (fun z _ _ _ wr => ∃ i : Nat, i ≤ K ∧ z = .int .i64 i ∧ Hid (Ext W1 wr) ∧ Hid (∀ p, p < i → (!used.contains (ni rows p) && stepB k xs R (used ++ [ni rows p]) used.length && fitsM k xs R rows m (used ++ [ni rows p])) = false)) (fun z _ _ _ _ => K - (intOf z).toNat)
    case atStart => exact ⟨0, by omega, rfl, Ext.refl _, fun p h => by omega⟩
    case round =>
      obtain ⟨i, hi, rfl, hE, hD⟩ := hrel
      have XE := Lib.hid (X0.out.trans hE.out)
      have WE := Lib.hid (HE.out.trans XE.out)
      by_cases hlt : i < K
      · have HRW := HROW.out.ext WE.out
        obtain ⟨b0, o0, rfl⟩ : ∃ b0 o0, a1 = some ⟨b0, o0, none⟩ := by
          rcases HRW.2 with h | ⟨b3, o3, h, _⟩
          · omega
          · exact ⟨b3, o3, h⟩
        have hb0 : b0 < wr.heap.size ∧ wr.cell? ⟨b0, o0 + i, none⟩ = some (.int .i64 (ni rows i : Nat)) := by
          rcases HRW.2 with h | ⟨b3, o3, h, hb3, hc3⟩
          · omega
          · simp only [Option.some.injEq, Addr.mk.injEq, and_true] at h
            obtain ⟨rfl, rfl⟩ := h
            refine ⟨hb3, ?_⟩
            rw [← gi_rI]; exact hc3 i hlt
        obtain ⟨hb0, c0⟩ := hb0
        have hrR : ni rows i < R := HX.out _ (ni_mem (by rw [HRL.out]; exact hlt))
        obtain ⟨p, hp, hpi⟩ := rI_firstAt used (ni rows i)
        rw [HL.out] at hp hpi
        have HYES := Lib.hid (fitsM_yes (k := k) (xs := xs) (R := R) (rows := rows) (used := used) (m := m) (i := i) (by rw [HRL.out]; exact hlt))
        obtain ⟨r, hr⟩ : ∃ r, ni rows i = r := ⟨_, rfl⟩
        have HRI := Lib.hid hr
        rw [hr] at c0 hrR hp hpi HYES
        have HP := Lib.hid hp
        have hiI : (i : Int) < (K : Int) := by omega
        clear hr hp HRW
        go_wp2_with fail
        refine (l1Find_spec a2 nu c2 (rI used) r p _ (HU.out.ext XE.out) (by omega) HP.out).mono ?_
        rintro e w' ⟨rfl, rfl⟩
        by_cases hmem : r ∈ used
        · have hfd : fndR nu p = (p : Int) := by rw [fndR, if_pos (hpi.2 hmem)]
          have hp0 : (0 : Int) ≤ (p : Int) := by omega
          have hD2 : Hid (∀ p, p < i + 1 → (!used.contains (ni rows p) && stepB k xs R (used ++ [ni rows p]) used.length && fitsM k xs R rows m (used ++ [ni rows p])) = false) := fun q hq => by
            by_cases e : q = i
            · subst e; rw [HRI.out, List.contains_iff_mem.2 hmem]; rfl
            · exact hD.out q (by omega)
          rw [hfd]
          clear hfd hD hpi hmem HYES
          go_wp2
          exact ⟨⟨i + 1, by omega, by simp, hE, hD2⟩, by simp [intOf]; omega⟩
        · have hfd : fndR nu p = -1 := by rw [fndR, if_neg (fun h => hmem (hpi.1 h))]
          rw [hfd]
          have HMEM := Lib.hid hmem
          have HLI : Hid (∀ w3, Ext wr w3 → Calls Tryz.prog 116 #[.slice a2 nu c2] w3 fun e w' => ∃ a c, e = .returned (.slice a nu c) ∧ Grows w' wr.heap.size (.slice a nu c) nu (rI used) ∧ Ext w3 w') := fun w3 h3 =>
            (l1Ints_g a2 nu c2 (rI used) w3 (HU.out.ext (XE.out.trans h3)) (by omega) (fun e => ⟨by have := HS.out.2.2 e; have := HS.out.1; omega, HS.out.2.2 e⟩)).mono fun e w' ⟨v, h1, h2, h4⟩ => by
              obtain ⟨a, c, rfl, _⟩ := h2.shape
              exact ⟨a, c, h1, h2.low h3.le, h4⟩
          clear hfd hpi hmem
          go_wp2_with fail
          have RWX : Hid (∀ W', Ext wr W' → Reads W' (some ⟨b0, o0, none⟩) K (rI rows)) := fun W' h => HROW.out.ext (WE.out.trans h)
          go_cut [11] (fun s11 wx => ∃ a4 c4, s11 = .slice a4 (nu + 1) c4 ∧ Hid (Grows wx wr.heap.size (.slice a4 (nu + 1) c4) (nu + 1) (rI used ++ [(r : Int)])) ∧ Hid (Ext wr wx))
          case first =>
            go_region_law (first
              | ((rw [if_pos (by simp [Region.wanted])]); go_simp; (refine (HLI.out _ (by with_reducible first | exact (Ext.refl _).drew | exact (Ext.refl _).drew.alloc _ | exact ((Ext.refl _).alloc _).drew)).mono ?_); rintro e w3 ⟨a3, c3, rfl, hG3, h3⟩; have c03 : w3.cell? ⟨b0, o0 + i, none⟩ = some (.int .i64 (r : Nat)) := (h3.cells b0 (o0 + i) (by simp; omega)).trans (by simp [World.cell?_alloc_past, hb0, c0]); have l3 : b0 < w3.heap.size := Nat.lt_of_lt_of_le (by simp; omega) h3.le; dsimp only)
              | (refine step_append1g rfl (.tmp 34) (.tmp 39) rfl wr.heap.size (.slice a3 nu c3) nu (rI used) (r : Nat) 1 w3.heap.size rfl rfl (hG3.ext ((Ext.refl _).alloc _)) ((cells_new w3 #[.int .i64 (r : Nat)] 3).2 0 _ rfl) (by omega) (by have := h3.le; simp at this ⊢; omega) ?_; intro v4 w4 hG4 hg4; obtain ⟨a4, c4, rfl, ho4⟩ := hG4.shape)
              | (refine step_append1g rfl (.tmp 34) (.tmp 39) rfl wr.heap.size (.slice a3 nu c3) nu (rI used) (r : Nat) 1 wr.heap.size rfl rfl hG3 ((h3.cells _ _ (by simp)).trans ((cells_new wr.drew #[.int .i64 (r : Nat)] 3).2 0 _ rfl)) (by omega) (by have := h3.le; simp at this ⊢; omega) ?_; intro v4 w4 hG4 hg4; obtain ⟨a4, c4, rfl, ho4⟩ := hG4.shape))
            all_goals
              have E4 : Ext wr w4 := by
                have hb4 := World.ownsRow.lt hG3
                first
                  | exact ((((Ext.refl wr).drew.trans h3).alloc (.cells #[.int .i64 (r : Nat)] 3)).grown hg4 (fun z hz => (hb4 z hz).1))
                  | exact ((((Ext.refl wr).drew.alloc (.cells #[.int .i64 (r : Nat)] 3)).trans h3).grown hg4 (fun z hz => (hb4 z hz).1))
              go_wp2_with fail
              try go_meet
              exact ⟨a4, c4, rfl, hG4, E4⟩
          case rest =>
            obtain ⟨a4, c4, rfl, hG4, E4⟩ := hcut
            have W4 := Lib.hid (WE.out.trans E4.out)
            have E5 := Lib.hid (hE.out.trans E4.out)
            have B14 := Lib.hid (B1.out.ext E5.out)
            have B24 := Lib.hid (B2.out.ext E5.out)
            have HRA : Hid (rI (used ++ [r]) = rI used ++ [(r : Int)]) := rI_app _ _
            obtain ⟨next, hnext⟩ : ∃ next, used ++ [r] = next := ⟨_, rfl⟩
            have HNX := Lib.hid hnext
            rw [hnext] at HRA HYES
            rw [← HRA.out] at hG4
            have HNL : Hid (next.length = nu + 1) := by rw [Hid, ← hnext, List.length_append, HL.out]; rfl
            have HNR : Hid (∀ x, x ∈ next → x < R) := fun x hx => by
              rw [← hnext] at hx
              rcases List.mem_append.1 hx with h | h
              · exact HXU.out x h
              · rw [List.mem_singleton] at h; subst h; exact hrR
            have HSJ : Hid (∀ j, stepJ k xs R next nu (j + 1) = (stepJ k xs R next nu j && (gi xs (ni next nu * R + ni next j) == elM k (nu + 1) (j + 1) && gi xs (ni next j * R + ni next nu) == elM k (j + 1) (nu + 1)))) := fun j => by rw [stepJ]
            have hG4' := hG4.out.shape
            have HX0 := Lib.hid E5.out
            clear hnext hE E4 E5 c0
            obtain ⟨W5, hwk⟩ : ∃ wk : World, wk = wc := ⟨_, rfl⟩
            subst hwk
            clear hG4'
            go_wp2_with fail
            go_loopw [13, 12] (fun z b wr => ∃ j : Nat, j ≤ nu + 1 ∧ z = .int .i64 j ∧ b = .bool (stepJ k xs R next nu j) ∧ Hid (Ext W5 wr)) (fun z _ _ => nu + 1 - (intOf z).toNat)
            case atStart => exact ⟨0, by omega, rfl, rfl, Ext.refl _⟩
            case round =>
              obtain ⟨j, hj, rfl, rfl, hE⟩ := hrel
              have WX := Lib.hid (W4.out.trans hE.out)
              have C1 := Lib.hid (B14.out.ext hE.out)
              have C2 := Lib.hid (B24.out.ext hE.out)
              have lB := C1.out.1
              have q0 := C1.out.2 0 _ rfl
              have q1 := C1.out.2 1 _ rfl
              have lW := C2.out.1
              have p0 := C2.out.2 0 _ rfl
              have p1 := C2.out.2 1 _ rfl
              by_cases hjn : j ≤ nu
              · have hjI : (j : Int) ≤ (nu : Int) := by omega
                have GX := hG4.out.ext hE.out
                obtain ⟨a4', c4', e4, hO4⟩ := GX.shape
                injection e4 with e5 e6 e7
                subst e5; subst e7
                have hb4 : ∃ g, a4 = some ⟨g, 0, none⟩ ∧ g < wr.heap.size ∧ ∀ q, q < nu + 1 → wr.cell? ⟨g, q, none⟩ = some (.int .i64 (ni next q : Nat)) := by
                  rcases hO4.2 with ⟨_, h⟩ | ⟨g, h1, _, h3, h4⟩
                  · omega
                  · exact ⟨g, h1, h3, fun q hq => by rw [← gi_rI]; exact h4.cell q (by rw [rI_length, HNL.out]; exact hq)⟩
                obtain ⟨g, rfl, hgl, hgc⟩ := hb4
                have n1 := hgc nu (by omega)
                have n2 := hgc j (by omega)
                have hr1 : ni next nu < R := HNR.out _ (ni_mem (by rw [HNL.out]; omega))
                have hr2 : ni next j < R := HNR.out _ (ni_mem (by rw [HNL.out]; omega))
                have HS := Lib.hid (HSJ.out j)
                generalize ni next nu = r1 at *
                generalize ni next j = r2 at *
                have ej1 := HEL.out nu (by omega) j (by omega)
                have ej2 := HEL.out j (by omega) nu (by omega)
                have HA1 : Hid (∀ w1, Ext wr w1 → Calls Tryz.prog 151 #[.agg #[.int .i64 (R : Nat), .slice (some ⟨da, od, none⟩) n cD], .int .i64 r1, .int .i64 r2] w1 fun e w' => e = .returned (.int .i64 (gi xs (r1 * R + r2))) ∧ Ext w1 w') := fun w1 h => l5At_spec R da od n cD xs r1 r2 w1 (HR.out.ext (WX.out.trans h)) HN.out hR hr1 hr2
                have HA2 : Hid (∀ w1, Ext wr w1 → Calls Tryz.prog 151 #[.agg #[.int .i64 (R : Nat), .slice (some ⟨da, od, none⟩) n cD], .int .i64 r2, .int .i64 r1] w1 fun e w' => e = .returned (.int .i64 (gi xs (r2 * R + r1))) ∧ Ext w1 w') := fun w1 h => l5At_spec R da od n cD xs r2 r1 w1 (HR.out.ext (WX.out.trans h)) HN.out hR hr2 hr1
                have HW1 : Hid (∀ w1, Ext wr w1 → Calls Tryz.prog 151 #[.agg #[.int .i64 (K : Nat), .slice (some ⟨wb, 0, none⟩) (K * K) cW], .int .i64 nu, .int .i64 j] w1 fun e w' => e = .returned (.int .i64 (elM k (nu + 1) (j + 1))) ∧ Ext w1 w') := fun w1 h => by
                  have := l5At_spec K wb 0 (K * K) cW (oneL k) nu j w1 (HW.out.ext (WX.out.trans h)) rfl hK4 (by omega) (by omega)
                  rw [ej1] at this; exact this
                have HW2 : Hid (∀ w1, Ext wr w1 → Calls Tryz.prog 151 #[.agg #[.int .i64 (K : Nat), .slice (some ⟨wb, 0, none⟩) (K * K) cW], .int .i64 j, .int .i64 nu] w1 fun e w' => e = .returned (.int .i64 (elM k (j + 1) (nu + 1))) ∧ Ext w1 w') := fun w1 h => by
                  have := l5At_spec K wb 0 (K * K) cW (oneL k) j nu w1 (HW.out.ext (WX.out.trans h)) rfl hK4 (by omega) (by omega)
                  rw [ej2] at this; exact this
                have hi1 : (nu : Int) < (nu : Int) + 1 := by omega
                have hi2 : (j : Int) < (nu : Int) + 1 := by omega
                have hi3 : (0 : Int) ≤ (j : Int) := by omega
                have hi4 : (0 : Int) ≤ (nu : Int) := by omega
                clear ej1 ej2 hgc hO4 GX
                generalize gi xs (r1 * R + r2) = x1 at *
                generalize gi xs (r2 * R + r1) = x2 at *
                generalize elM k (nu + 1) (j + 1) = y1 at *
                generalize elM k (j + 1) (nu + 1) = y2 at *
                rcases hst : stepJ k xs R next nu j with _ | _
                · rw [hst] at HS
                  simp only [Bool.false_and] at HS
                  clear hst
                  go_wp2_with fail
                  refine wp_region_held_drew (S := (fun w' => Ext wr w' ∧ (∀ b o, b < wr.heap.size → w'.cell? ⟨b, o, none⟩ = wr.cell? ⟨b, o, none⟩))) (by kernel_rfl) (ext2 (Ext.refl wr).drew) (fun hHeld => ?_)
                  refine wpAnyH_take (i := 0) (v := ?v1) rfl (by kernel_rfl) (by kernel_rfl) (by kernel_rfl) (fun _ _ _ h => h) (Or.inl ⟨by rfl, ?hy1⟩) hHeld ?rest1
                  case hy1 => (intro wz hSw; (try dsimp only at hSw); go_simp; (try with_reducible rfl))
                  (try simp only [Act.put, List.getElem_toArray, List.getElem_cons_succ, List.getElem_cons_zero]); (try simp only [List.setIfInBounds_toArray]); (try simp only [List.set_cons_succ]); (try simp only [List.set_cons_zero])
                  refine wpAnyH_take (i := 1) (v := ?v2) rfl (by kernel_rfl) (by kernel_rfl) (by kernel_rfl) (fun _ _ _ h => h) (Or.inl ⟨by rfl, ?hy2⟩) hHeld ?rest2
                  case hy2 => (intro wz hSw; (try dsimp only at hSw); go_simp; (try with_reducible rfl))
                  (try simp only [Act.put, List.getElem_toArray, List.getElem_cons_succ, List.getElem_cons_zero]); (try simp only [List.setIfInBounds_toArray]); (try simp only [List.set_cons_succ]); (try simp only [List.set_cons_zero])
                  refine wpAnyH_take (i := 2) (v := undef) rfl (by kernel_rfl) (by kernel_rfl) (by kernel_rfl) (fun _ _ _ h => h) (Or.inr ⟨by rfl, rfl⟩) hHeld ?rest3
                  (try simp only [Act.put, List.getElem_toArray, List.getElem_cons_succ, List.getElem_cons_zero]); (try simp only [List.setIfInBounds_toArray]); (try simp only [List.set_cons_succ]); (try simp only [List.set_cons_zero])
                  refine wpAnyH_take (i := 3) (v := undef) rfl (by kernel_rfl) (by kernel_rfl) (by kernel_rfl) (fun _ _ _ h => h) (Or.inr ⟨by rfl, rfl⟩) hHeld ?rest4
                  (try simp only [Act.put, List.getElem_toArray, List.getElem_cons_succ, List.getElem_cons_zero]); (try simp only [List.setIfInBounds_toArray]); (try simp only [List.set_cons_succ]); (try simp only [List.set_cons_zero])
                  refine wpAnyH_take (i := 4) (v := undef) rfl (by kernel_rfl) (by kernel_rfl) (by kernel_rfl) (fun _ _ _ h => h) (Or.inr ⟨by rfl, rfl⟩) hHeld ?rest5
                  (try simp only [Act.put, List.getElem_toArray, List.getElem_cons_succ, List.getElem_cons_zero]); (try simp only [List.setIfInBounds_toArray]); (try simp only [List.set_cons_succ]); (try simp only [List.set_cons_zero])
                  refine wpAnyH_take (i := 5) (v := undef) rfl (by kernel_rfl) (by kernel_rfl) (by kernel_rfl) (fun _ _ _ h => h) (Or.inr ⟨by rfl, rfl⟩) hHeld ?rest6
                  (try simp only [Act.put, List.getElem_toArray, List.getElem_cons_succ, List.getElem_cons_zero]); (try simp only [List.setIfInBounds_toArray]); (try simp only [List.set_cons_succ]); (try simp only [List.set_cons_zero])
                  refine wpAnyH_take (i := 6) (v := undef) rfl (by kernel_rfl) (by kernel_rfl) (by kernel_rfl) (fun _ _ _ h => h) (Or.inr ⟨by rfl, rfl⟩) hHeld ?rest7
                  (try simp only [Act.put, List.getElem_toArray, List.getElem_cons_succ, List.getElem_cons_zero]); (try simp only [List.setIfInBounds_toArray]); (try simp only [List.set_cons_succ]); (try simp only [List.set_cons_zero])
                  refine wpAnyH_take (i := 7) (v := undef) rfl (by kernel_rfl) (by kernel_rfl) (by kernel_rfl) (fun _ _ _ h => h) (Or.inr ⟨by rfl, rfl⟩) hHeld ?rest8
                  (try simp only [Act.put, List.getElem_toArray, List.getElem_cons_succ, List.getElem_cons_zero]); (try simp only [List.setIfInBounds_toArray]); (try simp only [List.set_cons_succ]); (try simp only [List.set_cons_zero])
                  refine wpAnyH_take (i := 8) (v := undef) rfl (by kernel_rfl) (by kernel_rfl) (by kernel_rfl) (fun _ _ _ h => h) (Or.inr ⟨by rfl, rfl⟩) hHeld ?rest9
                  (try simp only [Act.put, List.getElem_toArray, List.getElem_cons_succ, List.getElem_cons_zero]); (try simp only [List.setIfInBounds_toArray]); (try simp only [List.set_cons_succ]); (try simp only [List.set_cons_zero])
                  refine wpAnyH_take (i := 9) (v := undef) rfl (by kernel_rfl) (by kernel_rfl) (by kernel_rfl) (fun _ _ _ h => h) (Or.inr ⟨by rfl, rfl⟩) hHeld ?rest10
                  (try simp only [Act.put, List.getElem_toArray, List.getElem_cons_succ, List.getElem_cons_zero]); (try simp only [List.setIfInBounds_toArray]); (try simp only [List.set_cons_succ]); (try simp only [List.set_cons_zero])
                  refine wpAnyH_take (i := 10) (v := undef) rfl (by kernel_rfl) (by kernel_rfl) (by kernel_rfl) (fun _ _ _ h => h) (Or.inr ⟨by rfl, rfl⟩) hHeld ?rest11
                  (try simp only [Act.put, List.getElem_toArray, List.getElem_cons_succ, List.getElem_cons_zero]); (try simp only [List.setIfInBounds_toArray]); (try simp only [List.set_cons_succ]); (try simp only [List.set_cons_zero])
                  refine wpAnyH_take (i := 11) (v := undef) rfl (by kernel_rfl) (by kernel_rfl) (by kernel_rfl) (fun _ _ _ h => h) (Or.inr ⟨by rfl, rfl⟩) hHeld ?rest12
                  (try simp only [Act.put, List.getElem_toArray, List.getElem_cons_succ, List.getElem_cons_zero]); (try simp only [List.setIfInBounds_toArray]); (try simp only [List.set_cons_succ]); (try simp only [List.set_cons_zero])
                  refine wpAnyH_take (i := 12) (v := undef) rfl (by kernel_rfl) (by kernel_rfl) (by kernel_rfl) (fun _ _ _ h => h) (Or.inr ⟨by rfl, rfl⟩) hHeld ?rest13
                  (try simp only [Act.put, List.getElem_toArray, List.getElem_cons_succ, List.getElem_cons_zero]); (try simp only [List.setIfInBounds_toArray]); (try simp only [List.set_cons_succ]); (try simp only [List.set_cons_zero])
                  refine wpAnyH_take (i := 13) (v := undef) rfl (by kernel_rfl) (by kernel_rfl) (by kernel_rfl) (fun _ _ _ h => h) (Or.inr ⟨by rfl, rfl⟩) hHeld ?rest14
                  (try simp only [Act.put, List.getElem_toArray, List.getElem_cons_succ, List.getElem_cons_zero]); (try simp only [List.setIfInBounds_toArray]); (try simp only [List.set_cons_succ]); (try simp only [List.set_cons_zero])
                  refine wpAnyH_take (i := 14) (v := undef) rfl (by kernel_rfl) (by kernel_rfl) (by kernel_rfl) (fun _ _ _ h => h) (Or.inr ⟨by rfl, rfl⟩) hHeld ?rest15
                  (try simp only [Act.put, List.getElem_toArray, List.getElem_cons_succ, List.getElem_cons_zero]); (try simp only [List.setIfInBounds_toArray]); (try simp only [List.set_cons_succ]); (try simp only [List.set_cons_zero])
                  refine wpAnyH_take (i := 15) (v := undef) rfl (by kernel_rfl) (by kernel_rfl) (by kernel_rfl) (fun _ _ _ h => h) (Or.inr ⟨by rfl, rfl⟩) hHeld ?rest16
                  (try simp only [Act.put, List.getElem_toArray, List.getElem_cons_succ, List.getElem_cons_zero]); (try simp only [List.setIfInBounds_toArray]); (try simp only [List.set_cons_succ]); (try simp only [List.set_cons_zero])
                  refine wpAnyH_take (i := 16) (v := undef) rfl (by kernel_rfl) (by kernel_rfl) (by kernel_rfl) (fun _ _ _ h => h) (Or.inr ⟨by rfl, rfl⟩) hHeld ?rest17
                  (try simp only [Act.put, List.getElem_toArray, List.getElem_cons_succ, List.getElem_cons_zero]); (try simp only [List.setIfInBounds_toArray]); (try simp only [List.set_cons_succ]); (try simp only [List.set_cons_zero])
                  refine wpAnyH_take (i := 17) (v := ?v18) rfl (by kernel_rfl) (by kernel_rfl) (by kernel_rfl) (fun _ _ _ h => h) (Or.inl ⟨by rfl, ?hy18⟩) hHeld ?rest18
                  case hy18 => (intro wz hSw; (try dsimp only at hSw); go_simp; (try with_reducible rfl))
                  (try simp only [Act.put, List.getElem_toArray, List.getElem_cons_succ, List.getElem_cons_zero]); (try simp only [List.setIfInBounds_toArray]); (try simp only [List.set_cons_succ]); (try simp only [List.set_cons_zero])
                  refine wpAnyH_take (i := 18) (v := ?v19) rfl (by kernel_rfl) (by kernel_rfl) (by kernel_rfl) (fun _ _ _ h => h) (Or.inl ⟨by rfl, ?hy19⟩) hHeld ?rest19
                  case hy19 => (intro wz hSw; (try dsimp only at hSw); go_simp; (try with_reducible rfl))
                  (try simp only [Act.put, List.getElem_toArray, List.getElem_cons_succ, List.getElem_cons_zero]); (try simp only [List.setIfInBounds_toArray]); (try simp only [List.set_cons_succ]); (try simp only [List.set_cons_zero])
                  refine wpAnyH_take (i := 19) (v := undef) rfl (by kernel_rfl) (by kernel_rfl) (by kernel_rfl) (fun _ _ _ h => h) (Or.inr ⟨by rfl, rfl⟩) hHeld ?rest20
                  (try simp only [Act.put, List.getElem_toArray, List.getElem_cons_succ, List.getElem_cons_zero]); (try simp only [List.setIfInBounds_toArray]); (try simp only [List.set_cons_succ]); (try simp only [List.set_cons_zero])
                  refine wpAnyH_take (i := 20) (v := undef) rfl (by kernel_rfl) (by kernel_rfl) (by kernel_rfl) (fun _ _ _ h => h) (Or.inr ⟨by rfl, rfl⟩) hHeld ?rest21
                  (try simp only [Act.put, List.getElem_toArray, List.getElem_cons_succ, List.getElem_cons_zero]); (try simp only [List.setIfInBounds_toArray]); (try simp only [List.set_cons_succ]); (try simp only [List.set_cons_zero])
                  refine wpAnyH_take (i := 21) (v := undef) rfl (by kernel_rfl) (by kernel_rfl) (by kernel_rfl) (fun _ _ _ h => h) (Or.inr ⟨by rfl, rfl⟩) hHeld ?rest22
                  (try simp only [Act.put, List.getElem_toArray, List.getElem_cons_succ, List.getElem_cons_zero]); (try simp only [List.setIfInBounds_toArray]); (try simp only [List.set_cons_succ]); (try simp only [List.set_cons_zero])
                  refine wpAnyH_take (i := 22) (v := undef) rfl (by kernel_rfl) (by kernel_rfl) (by kernel_rfl) (fun _ _ _ h => h) (Or.inr ⟨by rfl, rfl⟩) hHeld ?rest23
                  (try simp only [Act.put, List.getElem_toArray, List.getElem_cons_succ, List.getElem_cons_zero]); (try simp only [List.setIfInBounds_toArray]); (try simp only [List.set_cons_succ]); (try simp only [List.set_cons_zero])
                  refine wpAnyH_take (i := 23) (v := undef) rfl (by kernel_rfl) (by kernel_rfl) (by kernel_rfl) (fun _ _ _ h => h) (Or.inr ⟨by rfl, rfl⟩) hHeld ?rest24
                  (try simp only [Act.put, List.getElem_toArray, List.getElem_cons_succ, List.getElem_cons_zero]); (try simp only [List.setIfInBounds_toArray]); (try simp only [List.set_cons_succ]); (try simp only [List.set_cons_zero])
                  refine wpAnyH_take (i := 24) (v := undef) rfl (by kernel_rfl) (by kernel_rfl) (by kernel_rfl) (fun _ _ _ h => h) (Or.inr ⟨by rfl, rfl⟩) hHeld ?rest25
                  (try simp only [Act.put, List.getElem_toArray, List.getElem_cons_succ, List.getElem_cons_zero]); (try simp only [List.setIfInBounds_toArray]); (try simp only [List.set_cons_succ]); (try simp only [List.set_cons_zero])
                  refine wpAnyH_take (i := 25) (v := undef) rfl (by kernel_rfl) (by kernel_rfl) (by kernel_rfl) (fun _ _ _ h => h) (Or.inr ⟨by rfl, rfl⟩) hHeld ?rest26
                  (try simp only [Act.put, List.getElem_toArray, List.getElem_cons_succ, List.getElem_cons_zero]); (try simp only [List.setIfInBounds_toArray]); (try simp only [List.set_cons_succ]); (try simp only [List.set_cons_zero])
                  refine wpAnyH_take (i := 26) (v := undef) rfl (by kernel_rfl) (by kernel_rfl) (by kernel_rfl) (fun _ _ _ h => h) (Or.inr ⟨by rfl, rfl⟩) hHeld ?rest27
                  (try simp only [Act.put, List.getElem_toArray, List.getElem_cons_succ, List.getElem_cons_zero]); (try simp only [List.setIfInBounds_toArray]); (try simp only [List.set_cons_succ]); (try simp only [List.set_cons_zero])
                  refine wpAnyH_take (i := 27) (v := undef) rfl (by kernel_rfl) (by kernel_rfl) (by kernel_rfl) (fun _ _ _ h => h) (Or.inr ⟨by rfl, rfl⟩) hHeld ?rest28
                  (try simp only [Act.put, List.getElem_toArray, List.getElem_cons_succ, List.getElem_cons_zero]); (try simp only [List.setIfInBounds_toArray]); (try simp only [List.set_cons_succ]); (try simp only [List.set_cons_zero])
                  refine wpAnyH_take (i := 28) (v := undef) rfl (by kernel_rfl) (by kernel_rfl) (by kernel_rfl) (fun _ _ _ h => h) (Or.inr ⟨by rfl, rfl⟩) hHeld ?rest29
                  (try simp only [Act.put, List.getElem_toArray, List.getElem_cons_succ, List.getElem_cons_zero]); (try simp only [List.setIfInBounds_toArray]); (try simp only [List.set_cons_succ]); (try simp only [List.set_cons_zero])
                  refine wpAnyH_take (i := 29) (v := undef) rfl (by kernel_rfl) (by kernel_rfl) (by kernel_rfl) (fun _ _ _ h => h) (Or.inr ⟨by rfl, rfl⟩) hHeld ?rest30
                  (try simp only [Act.put, List.getElem_toArray, List.getElem_cons_succ, List.getElem_cons_zero]); (try simp only [List.setIfInBounds_toArray]); (try simp only [List.set_cons_succ]); (try simp only [List.set_cons_zero])
                  refine wpAnyH_take (i := 30) (v := undef) rfl (by kernel_rfl) (by kernel_rfl) (by kernel_rfl) (fun _ _ _ h => h) (Or.inr ⟨by rfl, rfl⟩) hHeld ?rest31
                  (try simp only [Act.put, List.getElem_toArray, List.getElem_cons_succ, List.getElem_cons_zero]); (try simp only [List.setIfInBounds_toArray]); (try simp only [List.set_cons_succ]); (try simp only [List.set_cons_zero])
                  refine wpAnyH_take (i := 31) (v := undef) rfl (by kernel_rfl) (by kernel_rfl) (by kernel_rfl) (fun _ _ _ h => h) (Or.inr ⟨by rfl, rfl⟩) hHeld ?rest32
                  (try simp only [Act.put, List.getElem_toArray, List.getElem_cons_succ, List.getElem_cons_zero]); (try simp only [List.setIfInBounds_toArray]); (try simp only [List.set_cons_succ]); (try simp only [List.set_cons_zero])
                  refine wpAnyH_take (i := 32) (v := undef) rfl (by kernel_rfl) (by kernel_rfl) (by kernel_rfl) (fun _ _ _ h => h) (Or.inr ⟨by rfl, rfl⟩) hHeld ?rest33
                  (try simp only [Act.put, List.getElem_toArray, List.getElem_cons_succ, List.getElem_cons_zero]); (try simp only [List.setIfInBounds_toArray]); (try simp only [List.set_cons_succ]); (try simp only [List.set_cons_zero])
                  refine wpAnyH_take (i := 33) (v := undef) rfl (by kernel_rfl) (by kernel_rfl) (by kernel_rfl) (fun _ _ _ h => h) (Or.inr ⟨by rfl, rfl⟩) hHeld ?rest34
                  (try simp only [Act.put, List.getElem_toArray, List.getElem_cons_succ, List.getElem_cons_zero]); (try simp only [List.setIfInBounds_toArray]); (try simp only [List.set_cons_succ]); (try simp only [List.set_cons_zero])
                  refine wpAnyH_take (i := 34) (v := ?v35) rfl (by kernel_rfl) (by kernel_rfl) (by kernel_rfl) (fun _ _ _ h => h) (Or.inl ⟨by rfl, ?hy35⟩) hHeld ?rest35
                  case hy35 => (intro wz hSw; (try dsimp only at hSw); go_simp; (try with_reducible rfl))
                  (try simp only [Act.put, List.getElem_toArray, List.getElem_cons_succ, List.getElem_cons_zero]); (try simp only [List.setIfInBounds_toArray]); (try simp only [List.set_cons_succ]); (try simp only [List.set_cons_zero])
                  refine wpAnyH_take (i := 35) (v := ?v36) rfl (by kernel_rfl) (by kernel_rfl) (by kernel_rfl) (fun _ _ _ h => h) (Or.inl ⟨by rfl, ?hy36⟩) hHeld ?rest36
                  case hy36 => (intro wz hSw; (try dsimp only at hSw); go_simp; (try with_reducible rfl))
                  (try simp only [Act.put, List.getElem_toArray, List.getElem_cons_succ, List.getElem_cons_zero]); (try simp only [List.setIfInBounds_toArray]); (try simp only [List.set_cons_succ]); (try simp only [List.set_cons_zero])
                  refine wpAnyH_done (by kernel_rfl) ?_ _
                  have X9 := And.left hHeld
                  clear hHeld

                  have E9 := Lib.hid (hE.out.trans X9)
                  clear lB q0 q1 lW p0 p1 n1 n2 X9
                  go_wp2
                  exact ⟨⟨j + 1, by omega, by simp, by rw [HS.out], E9⟩, by simp [intOf]; omega⟩
                · rw [hst] at HS
                  simp only [Bool.true_and] at HS
                  clear hst
                  rcases ha : (x1 == y1) with _ | _
                  · rw [ha] at HS
                    simp only [Bool.false_and] at HS
                    go_wp2_with fail
                    refine wp_region_held_drew (S := (fun w' => Ext wr w' ∧ (∀ b o, b < wr.heap.size → w'.cell? ⟨b, o, none⟩ = wr.cell? ⟨b, o, none⟩))) (by kernel_rfl) (ext2 (Ext.refl wr).drew) (fun hHeld => ?_)
                    refine wpAnyH_take (i := 0) (v := ?v37) rfl (by kernel_rfl) (by kernel_rfl) (by kernel_rfl) (fun _ _ _ h => h) (Or.inl ⟨by rfl, ?hy37⟩) hHeld ?rest37
                    case hy37 => (intro wz hSw; (try dsimp only at hSw); go_simp; (try with_reducible rfl))
                    (try simp only [Act.put, List.getElem_toArray, List.getElem_cons_succ, List.getElem_cons_zero]); (try simp only [List.setIfInBounds_toArray]); (try simp only [List.set_cons_succ]); (try simp only [List.set_cons_zero])
                    refine wpAnyH_take (i := 1) (v := ?v38) rfl (by kernel_rfl) (by kernel_rfl) (by kernel_rfl) (fun _ _ _ h => h) (Or.inl ⟨by rfl, ?hy38⟩) hHeld ?rest38
                    case hy38 => (intro wz hSw; (try dsimp only at hSw); go_simp; (try with_reducible rfl))
                    (try simp only [Act.put, List.getElem_toArray, List.getElem_cons_succ, List.getElem_cons_zero]); (try simp only [List.setIfInBounds_toArray]); (try simp only [List.set_cons_succ]); (try simp only [List.set_cons_zero])
                    refine wpAnyH_take (i := 2) (v := ?v39) rfl (by kernel_rfl) (by kernel_rfl) (by kernel_rfl) (fun _ _ _ h => h) (Or.inl ⟨by rfl, ?hy39⟩) hHeld ?rest39
                    case hy39 => (intro wz hSw; (try dsimp only at hSw); go_simp; (try with_reducible rfl))
                    (try simp only [Act.put, List.getElem_toArray, List.getElem_cons_succ, List.getElem_cons_zero]); (try simp only [List.setIfInBounds_toArray]); (try simp only [List.set_cons_succ]); (try simp only [List.set_cons_zero])
                    refine wpAnyH_take (i := 3) (v := ?v40) rfl (by kernel_rfl) (by kernel_rfl) (by kernel_rfl) (fun _ _ _ h => h) (Or.inl ⟨by rfl, ?hy40⟩) hHeld ?rest40
                    case hy40 => (intro wz hSw; (try dsimp only at hSw); go_simp; (try with_reducible rfl))
                    (try simp only [Act.put, List.getElem_toArray, List.getElem_cons_succ, List.getElem_cons_zero]); (try simp only [List.setIfInBounds_toArray]); (try simp only [List.set_cons_succ]); (try simp only [List.set_cons_zero])
                    refine wpAnyH_take (i := 4) (v := ?v41) rfl (by kernel_rfl) (by kernel_rfl) (by kernel_rfl) (fun _ _ _ h => h) (Or.inl ⟨by rfl, ?hy41⟩) hHeld ?rest41
                    case hy41 => (intro wz hSw; (try dsimp only at hSw); go_simp; (try with_reducible rfl))
                    (try simp only [Act.put, List.getElem_toArray, List.getElem_cons_succ, List.getElem_cons_zero]); (try simp only [List.setIfInBounds_toArray]); (try simp only [List.set_cons_succ]); (try simp only [List.set_cons_zero])
                    refine wpAnyH_take (i := 5) (v := ?v42) rfl (by kernel_rfl) (by kernel_rfl) (by kernel_rfl) (fun _ _ _ h => h) (Or.inl ⟨by rfl, ?hy42⟩) hHeld ?rest42
                    case hy42 => (intro wz hSw; (try dsimp only at hSw); go_simp; (try with_reducible rfl))
                    (try simp only [Act.put, List.getElem_toArray, List.getElem_cons_succ, List.getElem_cons_zero]); (try simp only [List.setIfInBounds_toArray]); (try simp only [List.set_cons_succ]); (try simp only [List.set_cons_zero])
                    refine wpAnyH_take (i := 6) (v := ?v43) rfl (by kernel_rfl) (by kernel_rfl) (by kernel_rfl) (fun _ _ _ h => h) (Or.inl ⟨by rfl, ?hy43⟩) hHeld ?rest43
                    case hy43 => (intro wz hSw; (try dsimp only at hSw); go_simp; (try with_reducible rfl))
                    (try simp only [Act.put, List.getElem_toArray, List.getElem_cons_succ, List.getElem_cons_zero]); (try simp only [List.setIfInBounds_toArray]); (try simp only [List.set_cons_succ]); (try simp only [List.set_cons_zero])
                    refine wpAnyH_take (i := 7) (v := ?v44) rfl (by kernel_rfl) (by kernel_rfl) (by kernel_rfl) (fun _ _ _ h => h) (Or.inl ⟨by rfl, ?hy44⟩) hHeld ?rest44
                    case hy44 => (intro wz hSw; (try dsimp only at hSw); go_simp; (try with_reducible rfl))
                    (try simp only [Act.put, List.getElem_toArray, List.getElem_cons_succ, List.getElem_cons_zero]); (try simp only [List.setIfInBounds_toArray]); (try simp only [List.set_cons_succ]); (try simp only [List.set_cons_zero])
                    refine wpAnyH_take (i := 8) (v := ?v45) rfl (by kernel_rfl) (by kernel_rfl) (by kernel_rfl) (fun _ _ _ h => h) (Or.inl ⟨by rfl, ?hy45⟩) hHeld ?rest45
                    case hy45 => (intro wz hSw; (try dsimp only at hSw); go_simp; (try with_reducible rfl))
                    (try simp only [Act.put, List.getElem_toArray, List.getElem_cons_succ, List.getElem_cons_zero]); (try simp only [List.setIfInBounds_toArray]); (try simp only [List.set_cons_succ]); (try simp only [List.set_cons_zero])
                    refine wpAnyH_take (i := 9) (v := ?v46) rfl (by kernel_rfl) (by kernel_rfl) (by kernel_rfl) (fun _ _ _ h => h) (Or.inl ⟨by rfl, ?hy46⟩) hHeld ?rest46
                    case hy46 => (intro wz hSw; (try dsimp only at hSw); go_simp; (try with_reducible rfl))
                    (try simp only [Act.put, List.getElem_toArray, List.getElem_cons_succ, List.getElem_cons_zero]); (try simp only [List.setIfInBounds_toArray]); (try simp only [List.set_cons_succ]); (try simp only [List.set_cons_zero])
                    refine wpAnyH_take (i := 10) (v := ?v47) rfl (by kernel_rfl) (by kernel_rfl) (by kernel_rfl) (fun _ _ _ h => h) (Or.inl ⟨by rfl, ?hy47⟩) hHeld ?rest47
                    case hy47 => (intro wz hSw; (try dsimp only at hSw); go_simp; (try with_reducible rfl))
                    (try simp only [Act.put, List.getElem_toArray, List.getElem_cons_succ, List.getElem_cons_zero]); (try simp only [List.setIfInBounds_toArray]); (try simp only [List.set_cons_succ]); (try simp only [List.set_cons_zero])
                    refine wpAnyH_take (i := 12) (v := ?v48) rfl (by kernel_rfl) (by kernel_rfl) (by kernel_rfl) (fun _ _ _ h => h) (Or.inl ⟨by rfl, ?hy48⟩) hHeld ?rest48
                    case hy48 => (intro wz hSw; (try dsimp only at hSw); go_simp; (try with_reducible rfl))
                    (try simp only [Act.put, List.getElem_toArray, List.getElem_cons_succ, List.getElem_cons_zero]); (try simp only [List.setIfInBounds_toArray]); (try simp only [List.set_cons_succ]); (try simp only [List.set_cons_zero])
                    refine wpAnyH_take (i := 13) (v := ?v49) rfl (by kernel_rfl) (by kernel_rfl) (by kernel_rfl) (fun _ _ _ h => h) (Or.inl ⟨by rfl, ?hy49⟩) hHeld ?rest49
                    case hy49 => (intro wz hSw; (try dsimp only at hSw); go_simp; (try with_reducible rfl))
                    (try simp only [Act.put, List.getElem_toArray, List.getElem_cons_succ, List.getElem_cons_zero]); (try simp only [List.setIfInBounds_toArray]); (try simp only [List.set_cons_succ]); (try simp only [List.set_cons_zero])
                    refine wpAnyH_take (i := 14) (v := ?v50) rfl (by kernel_rfl) (by kernel_rfl) (by kernel_rfl) (fun _ _ _ h => h) (Or.inl ⟨by rfl, ?hy50⟩) hHeld ?rest50
                    case hy50 => (intro wz hSw; (try dsimp only at hSw); go_simp; (try with_reducible rfl))
                    (try simp only [Act.put, List.getElem_toArray, List.getElem_cons_succ, List.getElem_cons_zero]); (try simp only [List.setIfInBounds_toArray]); (try simp only [List.set_cons_succ]); (try simp only [List.set_cons_zero])
                    refine wpAnyH_ready (rs := [11]) (by kernel_rfl) (by simp) ?_
                    refine AllReadyH.cons rfl (fun K' hK => ?_) AllReadyH.nil
                    go_simp
                    refine (HA1.out _ (And.left hHeld)).mono ?_
                    rintro e w5 ⟨rfl, hw5⟩
                    have Xw5 := (And.left hHeld).trans hw5
                    dsimp only
                    refine hK.out _ _ (ext2 Xw5) (fun hHeld => ?_)
                    clear hK
                    refine wpAnyH_ready (rs := [15]) (by kernel_rfl) (by simp) ?_
                    refine AllReadyH.cons rfl (fun K' hK => ?_) AllReadyH.nil
                    go_simp
                    refine (HW1.out _ (And.left hHeld)).mono ?_
                    rintro e w6 ⟨rfl, hw6⟩
                    have Xw6 := (And.left hHeld).trans hw6
                    dsimp only
                    refine hK.out _ _ (ext2 Xw6) (fun hHeld => ?_)
                    clear hK
                    refine wpAnyH_take (i := 16) (v := ?v51) rfl (by kernel_rfl) (by kernel_rfl) (by kernel_rfl) (fun _ _ _ h => h) (Or.inl ⟨by rfl, ?hy51⟩) hHeld ?rest51
                    case hy51 => (intro wz hSw; (try dsimp only at hSw); go_simp; (try with_reducible rfl))
                    (try simp only [Act.put, List.getElem_toArray, List.getElem_cons_succ, List.getElem_cons_zero]); (try simp only [List.setIfInBounds_toArray]); (try simp only [List.set_cons_succ]); (try simp only [List.set_cons_zero])
                    refine wpAnyH_take (i := 17) (v := ?v52) rfl (by kernel_rfl) (by kernel_rfl) (by kernel_rfl) (fun _ _ _ h => h) (Or.inl ⟨by rfl, ?hy52⟩) hHeld ?rest52
                    case hy52 => (intro wz hSw; (try dsimp only at hSw); go_simp; (try with_reducible rfl))
                    (try simp only [Act.put, List.getElem_toArray, List.getElem_cons_succ, List.getElem_cons_zero]); (try simp only [List.setIfInBounds_toArray]); (try simp only [List.set_cons_succ]); (try simp only [List.set_cons_zero])
                    refine wpAnyH_take (i := 18) (v := ?v53) rfl (by kernel_rfl) (by kernel_rfl) (by kernel_rfl) (fun _ _ _ h => h) (Or.inl ⟨by rfl, ?hy53⟩) hHeld ?rest53
                    case hy53 => (intro wz hSw; (try dsimp only at hSw); go_simp; (try with_reducible rfl))
                    (try simp only [Act.put, List.getElem_toArray, List.getElem_cons_succ, List.getElem_cons_zero]); (try simp only [List.setIfInBounds_toArray]); (try simp only [List.set_cons_succ]); (try simp only [List.set_cons_zero])
                    refine wpAnyH_take (i := 19) (v := undef) rfl (by kernel_rfl) (by kernel_rfl) (by kernel_rfl) (fun _ _ _ h => h) (Or.inr ⟨by rfl, rfl⟩) hHeld ?rest54
                    (try simp only [Act.put, List.getElem_toArray, List.getElem_cons_succ, List.getElem_cons_zero]); (try simp only [List.setIfInBounds_toArray]); (try simp only [List.set_cons_succ]); (try simp only [List.set_cons_zero])
                    refine wpAnyH_take (i := 20) (v := undef) rfl (by kernel_rfl) (by kernel_rfl) (by kernel_rfl) (fun _ _ _ h => h) (Or.inr ⟨by rfl, rfl⟩) hHeld ?rest55
                    (try simp only [Act.put, List.getElem_toArray, List.getElem_cons_succ, List.getElem_cons_zero]); (try simp only [List.setIfInBounds_toArray]); (try simp only [List.set_cons_succ]); (try simp only [List.set_cons_zero])
                    refine wpAnyH_take (i := 21) (v := undef) rfl (by kernel_rfl) (by kernel_rfl) (by kernel_rfl) (fun _ _ _ h => h) (Or.inr ⟨by rfl, rfl⟩) hHeld ?rest56
                    (try simp only [Act.put, List.getElem_toArray, List.getElem_cons_succ, List.getElem_cons_zero]); (try simp only [List.setIfInBounds_toArray]); (try simp only [List.set_cons_succ]); (try simp only [List.set_cons_zero])
                    refine wpAnyH_take (i := 22) (v := undef) rfl (by kernel_rfl) (by kernel_rfl) (by kernel_rfl) (fun _ _ _ h => h) (Or.inr ⟨by rfl, rfl⟩) hHeld ?rest57
                    (try simp only [Act.put, List.getElem_toArray, List.getElem_cons_succ, List.getElem_cons_zero]); (try simp only [List.setIfInBounds_toArray]); (try simp only [List.set_cons_succ]); (try simp only [List.set_cons_zero])
                    refine wpAnyH_take (i := 23) (v := undef) rfl (by kernel_rfl) (by kernel_rfl) (by kernel_rfl) (fun _ _ _ h => h) (Or.inr ⟨by rfl, rfl⟩) hHeld ?rest58
                    (try simp only [Act.put, List.getElem_toArray, List.getElem_cons_succ, List.getElem_cons_zero]); (try simp only [List.setIfInBounds_toArray]); (try simp only [List.set_cons_succ]); (try simp only [List.set_cons_zero])
                    refine wpAnyH_take (i := 24) (v := undef) rfl (by kernel_rfl) (by kernel_rfl) (by kernel_rfl) (fun _ _ _ h => h) (Or.inr ⟨by rfl, rfl⟩) hHeld ?rest59
                    (try simp only [Act.put, List.getElem_toArray, List.getElem_cons_succ, List.getElem_cons_zero]); (try simp only [List.setIfInBounds_toArray]); (try simp only [List.set_cons_succ]); (try simp only [List.set_cons_zero])
                    refine wpAnyH_take (i := 25) (v := undef) rfl (by kernel_rfl) (by kernel_rfl) (by kernel_rfl) (fun _ _ _ h => h) (Or.inr ⟨by rfl, rfl⟩) hHeld ?rest60
                    (try simp only [Act.put, List.getElem_toArray, List.getElem_cons_succ, List.getElem_cons_zero]); (try simp only [List.setIfInBounds_toArray]); (try simp only [List.set_cons_succ]); (try simp only [List.set_cons_zero])
                    refine wpAnyH_take (i := 26) (v := undef) rfl (by kernel_rfl) (by kernel_rfl) (by kernel_rfl) (fun _ _ _ h => h) (Or.inr ⟨by rfl, rfl⟩) hHeld ?rest61
                    (try simp only [Act.put, List.getElem_toArray, List.getElem_cons_succ, List.getElem_cons_zero]); (try simp only [List.setIfInBounds_toArray]); (try simp only [List.set_cons_succ]); (try simp only [List.set_cons_zero])
                    refine wpAnyH_take (i := 27) (v := undef) rfl (by kernel_rfl) (by kernel_rfl) (by kernel_rfl) (fun _ _ _ h => h) (Or.inr ⟨by rfl, rfl⟩) hHeld ?rest62
                    (try simp only [Act.put, List.getElem_toArray, List.getElem_cons_succ, List.getElem_cons_zero]); (try simp only [List.setIfInBounds_toArray]); (try simp only [List.set_cons_succ]); (try simp only [List.set_cons_zero])
                    refine wpAnyH_take (i := 28) (v := undef) rfl (by kernel_rfl) (by kernel_rfl) (by kernel_rfl) (fun _ _ _ h => h) (Or.inr ⟨by rfl, rfl⟩) hHeld ?rest63
                    (try simp only [Act.put, List.getElem_toArray, List.getElem_cons_succ, List.getElem_cons_zero]); (try simp only [List.setIfInBounds_toArray]); (try simp only [List.set_cons_succ]); (try simp only [List.set_cons_zero])
                    refine wpAnyH_take (i := 29) (v := undef) rfl (by kernel_rfl) (by kernel_rfl) (by kernel_rfl) (fun _ _ _ h => h) (Or.inr ⟨by rfl, rfl⟩) hHeld ?rest64
                    (try simp only [Act.put, List.getElem_toArray, List.getElem_cons_succ, List.getElem_cons_zero]); (try simp only [List.setIfInBounds_toArray]); (try simp only [List.set_cons_succ]); (try simp only [List.set_cons_zero])
                    refine wpAnyH_take (i := 30) (v := undef) rfl (by kernel_rfl) (by kernel_rfl) (by kernel_rfl) (fun _ _ _ h => h) (Or.inr ⟨by rfl, rfl⟩) hHeld ?rest65
                    (try simp only [Act.put, List.getElem_toArray, List.getElem_cons_succ, List.getElem_cons_zero]); (try simp only [List.setIfInBounds_toArray]); (try simp only [List.set_cons_succ]); (try simp only [List.set_cons_zero])
                    refine wpAnyH_take (i := 31) (v := undef) rfl (by kernel_rfl) (by kernel_rfl) (by kernel_rfl) (fun _ _ _ h => h) (Or.inr ⟨by rfl, rfl⟩) hHeld ?rest66
                    (try simp only [Act.put, List.getElem_toArray, List.getElem_cons_succ, List.getElem_cons_zero]); (try simp only [List.setIfInBounds_toArray]); (try simp only [List.set_cons_succ]); (try simp only [List.set_cons_zero])
                    refine wpAnyH_take (i := 32) (v := undef) rfl (by kernel_rfl) (by kernel_rfl) (by kernel_rfl) (fun _ _ _ h => h) (Or.inr ⟨by rfl, rfl⟩) hHeld ?rest67
                    (try simp only [Act.put, List.getElem_toArray, List.getElem_cons_succ, List.getElem_cons_zero]); (try simp only [List.setIfInBounds_toArray]); (try simp only [List.set_cons_succ]); (try simp only [List.set_cons_zero])
                    refine wpAnyH_take (i := 33) (v := undef) rfl (by kernel_rfl) (by kernel_rfl) (by kernel_rfl) (fun _ _ _ h => h) (Or.inr ⟨by rfl, rfl⟩) hHeld ?rest68
                    (try simp only [Act.put, List.getElem_toArray, List.getElem_cons_succ, List.getElem_cons_zero]); (try simp only [List.setIfInBounds_toArray]); (try simp only [List.set_cons_succ]); (try simp only [List.set_cons_zero])
                    refine wpAnyH_take (i := 34) (v := ?v69) rfl (by kernel_rfl) (by kernel_rfl) (by kernel_rfl) (fun _ _ _ h => h) (Or.inl ⟨by rfl, ?hy69⟩) hHeld ?rest69
                    case hy69 => (intro wz hSw; (try dsimp only at hSw); go_simp; (try with_reducible rfl))
                    (try simp only [Act.put, List.getElem_toArray, List.getElem_cons_succ, List.getElem_cons_zero]); (try simp only [List.setIfInBounds_toArray]); (try simp only [List.set_cons_succ]); (try simp only [List.set_cons_zero])
                    refine wpAnyH_take (i := 35) (v := ?v70) rfl (by kernel_rfl) (by kernel_rfl) (by kernel_rfl) (fun _ _ _ h => h) (Or.inl ⟨by rfl, ?hy70⟩) hHeld ?rest70
                    case hy70 => (intro wz hSw; (try dsimp only at hSw); go_simp; (try with_reducible rfl))
                    (try simp only [Act.put, List.getElem_toArray, List.getElem_cons_succ, List.getElem_cons_zero]); (try simp only [List.setIfInBounds_toArray]); (try simp only [List.set_cons_succ]); (try simp only [List.set_cons_zero])
                    refine wpAnyH_done (by kernel_rfl) ?_ _
                    have X9 := And.left hHeld
                    clear hHeld

                    have E9 := Lib.hid (hE.out.trans X9)
                    clear lB q0 q1 lW p0 p1 n1 n2 X9
                    go_wp2
                    exact ⟨⟨j + 1, by omega, by simp, by rw [HS.out], E9⟩, by simp [intOf]; omega⟩
                  · rw [ha] at HS
                    simp only [Bool.true_and] at HS
                    go_wp2_with fail
                    refine wp_region_held_drew (S := (fun w' => Ext wr w' ∧ (∀ b o, b < wr.heap.size → w'.cell? ⟨b, o, none⟩ = wr.cell? ⟨b, o, none⟩))) (by kernel_rfl) (ext2 (Ext.refl wr).drew) (fun hHeld => ?_)
                    refine wpAnyH_take (i := 0) (v := ?v71) rfl (by kernel_rfl) (by kernel_rfl) (by kernel_rfl) (fun _ _ _ h => h) (Or.inl ⟨by rfl, ?hy71⟩) hHeld ?rest71
                    case hy71 => (intro wz hSw; (try dsimp only at hSw); go_simp; (try with_reducible rfl))
                    (try simp only [Act.put, List.getElem_toArray, List.getElem_cons_succ, List.getElem_cons_zero]); (try simp only [List.setIfInBounds_toArray]); (try simp only [List.set_cons_succ]); (try simp only [List.set_cons_zero])
                    refine wpAnyH_take (i := 1) (v := ?v72) rfl (by kernel_rfl) (by kernel_rfl) (by kernel_rfl) (fun _ _ _ h => h) (Or.inl ⟨by rfl, ?hy72⟩) hHeld ?rest72
                    case hy72 => (intro wz hSw; (try dsimp only at hSw); go_simp; (try with_reducible rfl))
                    (try simp only [Act.put, List.getElem_toArray, List.getElem_cons_succ, List.getElem_cons_zero]); (try simp only [List.setIfInBounds_toArray]); (try simp only [List.set_cons_succ]); (try simp only [List.set_cons_zero])
                    refine wpAnyH_take (i := 2) (v := ?v73) rfl (by kernel_rfl) (by kernel_rfl) (by kernel_rfl) (fun _ _ _ h => h) (Or.inl ⟨by rfl, ?hy73⟩) hHeld ?rest73
                    case hy73 => (intro wz hSw; (try dsimp only at hSw); go_simp; (try with_reducible rfl))
                    (try simp only [Act.put, List.getElem_toArray, List.getElem_cons_succ, List.getElem_cons_zero]); (try simp only [List.setIfInBounds_toArray]); (try simp only [List.set_cons_succ]); (try simp only [List.set_cons_zero])
                    refine wpAnyH_take (i := 3) (v := ?v74) rfl (by kernel_rfl) (by kernel_rfl) (by kernel_rfl) (fun _ _ _ h => h) (Or.inl ⟨by rfl, ?hy74⟩) hHeld ?rest74
                    case hy74 => (intro wz hSw; (try dsimp only at hSw); go_simp; (try with_reducible rfl))
                    (try simp only [Act.put, List.getElem_toArray, List.getElem_cons_succ, List.getElem_cons_zero]); (try simp only [List.setIfInBounds_toArray]); (try simp only [List.set_cons_succ]); (try simp only [List.set_cons_zero])
                    refine wpAnyH_take (i := 4) (v := ?v75) rfl (by kernel_rfl) (by kernel_rfl) (by kernel_rfl) (fun _ _ _ h => h) (Or.inl ⟨by rfl, ?hy75⟩) hHeld ?rest75
                    case hy75 => (intro wz hSw; (try dsimp only at hSw); go_simp; (try with_reducible rfl))
                    (try simp only [Act.put, List.getElem_toArray, List.getElem_cons_succ, List.getElem_cons_zero]); (try simp only [List.setIfInBounds_toArray]); (try simp only [List.set_cons_succ]); (try simp only [List.set_cons_zero])
                    refine wpAnyH_take (i := 5) (v := ?v76) rfl (by kernel_rfl) (by kernel_rfl) (by kernel_rfl) (fun _ _ _ h => h) (Or.inl ⟨by rfl, ?hy76⟩) hHeld ?rest76
                    case hy76 => (intro wz hSw; (try dsimp only at hSw); go_simp; (try with_reducible rfl))
                    (try simp only [Act.put, List.getElem_toArray, List.getElem_cons_succ, List.getElem_cons_zero]); (try simp only [List.setIfInBounds_toArray]); (try simp only [List.set_cons_succ]); (try simp only [List.set_cons_zero])
                    refine wpAnyH_take (i := 6) (v := ?v77) rfl (by kernel_rfl) (by kernel_rfl) (by kernel_rfl) (fun _ _ _ h => h) (Or.inl ⟨by rfl, ?hy77⟩) hHeld ?rest77
                    case hy77 => (intro wz hSw; (try dsimp only at hSw); go_simp; (try with_reducible rfl))
                    (try simp only [Act.put, List.getElem_toArray, List.getElem_cons_succ, List.getElem_cons_zero]); (try simp only [List.setIfInBounds_toArray]); (try simp only [List.set_cons_succ]); (try simp only [List.set_cons_zero])
                    refine wpAnyH_take (i := 7) (v := ?v78) rfl (by kernel_rfl) (by kernel_rfl) (by kernel_rfl) (fun _ _ _ h => h) (Or.inl ⟨by rfl, ?hy78⟩) hHeld ?rest78
                    case hy78 => (intro wz hSw; (try dsimp only at hSw); go_simp; (try with_reducible rfl))
                    (try simp only [Act.put, List.getElem_toArray, List.getElem_cons_succ, List.getElem_cons_zero]); (try simp only [List.setIfInBounds_toArray]); (try simp only [List.set_cons_succ]); (try simp only [List.set_cons_zero])
                    refine wpAnyH_take (i := 8) (v := ?v79) rfl (by kernel_rfl) (by kernel_rfl) (by kernel_rfl) (fun _ _ _ h => h) (Or.inl ⟨by rfl, ?hy79⟩) hHeld ?rest79
                    case hy79 => (intro wz hSw; (try dsimp only at hSw); go_simp; (try with_reducible rfl))
                    (try simp only [Act.put, List.getElem_toArray, List.getElem_cons_succ, List.getElem_cons_zero]); (try simp only [List.setIfInBounds_toArray]); (try simp only [List.set_cons_succ]); (try simp only [List.set_cons_zero])
                    refine wpAnyH_take (i := 9) (v := ?v80) rfl (by kernel_rfl) (by kernel_rfl) (by kernel_rfl) (fun _ _ _ h => h) (Or.inl ⟨by rfl, ?hy80⟩) hHeld ?rest80
                    case hy80 => (intro wz hSw; (try dsimp only at hSw); go_simp; (try with_reducible rfl))
                    (try simp only [Act.put, List.getElem_toArray, List.getElem_cons_succ, List.getElem_cons_zero]); (try simp only [List.setIfInBounds_toArray]); (try simp only [List.set_cons_succ]); (try simp only [List.set_cons_zero])
                    refine wpAnyH_take (i := 10) (v := ?v81) rfl (by kernel_rfl) (by kernel_rfl) (by kernel_rfl) (fun _ _ _ h => h) (Or.inl ⟨by rfl, ?hy81⟩) hHeld ?rest81
                    case hy81 => (intro wz hSw; (try dsimp only at hSw); go_simp; (try with_reducible rfl))
                    (try simp only [Act.put, List.getElem_toArray, List.getElem_cons_succ, List.getElem_cons_zero]); (try simp only [List.setIfInBounds_toArray]); (try simp only [List.set_cons_succ]); (try simp only [List.set_cons_zero])
                    refine wpAnyH_take (i := 12) (v := ?v82) rfl (by kernel_rfl) (by kernel_rfl) (by kernel_rfl) (fun _ _ _ h => h) (Or.inl ⟨by rfl, ?hy82⟩) hHeld ?rest82
                    case hy82 => (intro wz hSw; (try dsimp only at hSw); go_simp; (try with_reducible rfl))
                    (try simp only [Act.put, List.getElem_toArray, List.getElem_cons_succ, List.getElem_cons_zero]); (try simp only [List.setIfInBounds_toArray]); (try simp only [List.set_cons_succ]); (try simp only [List.set_cons_zero])
                    refine wpAnyH_take (i := 13) (v := ?v83) rfl (by kernel_rfl) (by kernel_rfl) (by kernel_rfl) (fun _ _ _ h => h) (Or.inl ⟨by rfl, ?hy83⟩) hHeld ?rest83
                    case hy83 => (intro wz hSw; (try dsimp only at hSw); go_simp; (try with_reducible rfl))
                    (try simp only [Act.put, List.getElem_toArray, List.getElem_cons_succ, List.getElem_cons_zero]); (try simp only [List.setIfInBounds_toArray]); (try simp only [List.set_cons_succ]); (try simp only [List.set_cons_zero])
                    refine wpAnyH_take (i := 14) (v := ?v84) rfl (by kernel_rfl) (by kernel_rfl) (by kernel_rfl) (fun _ _ _ h => h) (Or.inl ⟨by rfl, ?hy84⟩) hHeld ?rest84
                    case hy84 => (intro wz hSw; (try dsimp only at hSw); go_simp; (try with_reducible rfl))
                    (try simp only [Act.put, List.getElem_toArray, List.getElem_cons_succ, List.getElem_cons_zero]); (try simp only [List.setIfInBounds_toArray]); (try simp only [List.set_cons_succ]); (try simp only [List.set_cons_zero])
                    refine wpAnyH_ready (rs := [11]) (by kernel_rfl) (by simp) ?_
                    refine AllReadyH.cons rfl (fun K' hK => ?_) AllReadyH.nil
                    go_simp
                    refine (HA1.out _ (And.left hHeld)).mono ?_
                    rintro e w5 ⟨rfl, hw5⟩
                    have Xw5 := (And.left hHeld).trans hw5
                    dsimp only
                    refine hK.out _ _ (ext2 Xw5) (fun hHeld => ?_)
                    clear hK
                    refine wpAnyH_ready (rs := [15]) (by kernel_rfl) (by simp) ?_
                    refine AllReadyH.cons rfl (fun K' hK => ?_) AllReadyH.nil
                    go_simp
                    refine (HW1.out _ (And.left hHeld)).mono ?_
                    rintro e w6 ⟨rfl, hw6⟩
                    have Xw6 := (And.left hHeld).trans hw6
                    dsimp only
                    refine hK.out _ _ (ext2 Xw6) (fun hHeld => ?_)
                    clear hK
                    refine wpAnyH_take (i := 16) (v := ?v85) rfl (by kernel_rfl) (by kernel_rfl) (by kernel_rfl) (fun _ _ _ h => h) (Or.inl ⟨by rfl, ?hy85⟩) hHeld ?rest85
                    case hy85 => (intro wz hSw; (try dsimp only at hSw); go_simp; (try with_reducible rfl))
                    (try simp only [Act.put, List.getElem_toArray, List.getElem_cons_succ, List.getElem_cons_zero]); (try simp only [List.setIfInBounds_toArray]); (try simp only [List.set_cons_succ]); (try simp only [List.set_cons_zero])
                    refine wpAnyH_take (i := 17) (v := ?v86) rfl (by kernel_rfl) (by kernel_rfl) (by kernel_rfl) (fun _ _ _ h => h) (Or.inl ⟨by rfl, ?hy86⟩) hHeld ?rest86
                    case hy86 => (intro wz hSw; (try dsimp only at hSw); go_simp; (try with_reducible rfl))
                    (try simp only [Act.put, List.getElem_toArray, List.getElem_cons_succ, List.getElem_cons_zero]); (try simp only [List.setIfInBounds_toArray]); (try simp only [List.set_cons_succ]); (try simp only [List.set_cons_zero])
                    refine wpAnyH_take (i := 18) (v := ?v87) rfl (by kernel_rfl) (by kernel_rfl) (by kernel_rfl) (fun _ _ _ h => h) (Or.inl ⟨by rfl, ?hy87⟩) hHeld ?rest87
                    case hy87 => (intro wz hSw; (try dsimp only at hSw); go_simp; (try with_reducible rfl))
                    (try simp only [Act.put, List.getElem_toArray, List.getElem_cons_succ, List.getElem_cons_zero]); (try simp only [List.setIfInBounds_toArray]); (try simp only [List.set_cons_succ]); (try simp only [List.set_cons_zero])
                    refine wpAnyH_take (i := 19) (v := ?v88) rfl (by kernel_rfl) (by kernel_rfl) (by kernel_rfl) (fun _ _ _ h => h) (Or.inl ⟨by rfl, ?hy88⟩) hHeld ?rest88
                    case hy88 => (intro wz hSw; (try dsimp only at hSw); go_simp; (try with_reducible rfl))
                    (try simp only [Act.put, List.getElem_toArray, List.getElem_cons_succ, List.getElem_cons_zero]); (try simp only [List.setIfInBounds_toArray]); (try simp only [List.set_cons_succ]); (try simp only [List.set_cons_zero])
                    refine wpAnyH_take (i := 20) (v := ?v89) rfl (by kernel_rfl) (by kernel_rfl) (by kernel_rfl) (fun _ _ _ h => h) (Or.inl ⟨by rfl, ?hy89⟩) hHeld ?rest89
                    case hy89 => (intro wz hSw; (try dsimp only at hSw); go_simp; (try with_reducible rfl))
                    (try simp only [Act.put, List.getElem_toArray, List.getElem_cons_succ, List.getElem_cons_zero]); (try simp only [List.setIfInBounds_toArray]); (try simp only [List.set_cons_succ]); (try simp only [List.set_cons_zero])
                    refine wpAnyH_take (i := 21) (v := ?v90) rfl (by kernel_rfl) (by kernel_rfl) (by kernel_rfl) (fun _ _ _ h => h) (Or.inl ⟨by rfl, ?hy90⟩) hHeld ?rest90
                    case hy90 => (intro wz hSw; (try dsimp only at hSw); go_simp; (try with_reducible rfl))
                    (try simp only [Act.put, List.getElem_toArray, List.getElem_cons_succ, List.getElem_cons_zero]); (try simp only [List.setIfInBounds_toArray]); (try simp only [List.set_cons_succ]); (try simp only [List.set_cons_zero])
                    refine wpAnyH_take (i := 22) (v := ?v91) rfl (by kernel_rfl) (by kernel_rfl) (by kernel_rfl) (fun _ _ _ h => h) (Or.inl ⟨by rfl, ?hy91⟩) hHeld ?rest91
                    case hy91 => (intro wz hSw; (try dsimp only at hSw); go_simp; (try with_reducible rfl))
                    (try simp only [Act.put, List.getElem_toArray, List.getElem_cons_succ, List.getElem_cons_zero]); (try simp only [List.setIfInBounds_toArray]); (try simp only [List.set_cons_succ]); (try simp only [List.set_cons_zero])
                    refine wpAnyH_take (i := 23) (v := ?v92) rfl (by kernel_rfl) (by kernel_rfl) (by kernel_rfl) (fun _ _ _ h => h) (Or.inl ⟨by rfl, ?hy92⟩) hHeld ?rest92
                    case hy92 => (intro wz hSw; (try dsimp only at hSw); go_simp; (try with_reducible rfl))
                    (try simp only [Act.put, List.getElem_toArray, List.getElem_cons_succ, List.getElem_cons_zero]); (try simp only [List.setIfInBounds_toArray]); (try simp only [List.set_cons_succ]); (try simp only [List.set_cons_zero])
                    refine wpAnyH_take (i := 24) (v := ?v93) rfl (by kernel_rfl) (by kernel_rfl) (by kernel_rfl) (fun _ _ _ h => h) (Or.inl ⟨by rfl, ?hy93⟩) hHeld ?rest93
                    case hy93 => (intro wz hSw; (try dsimp only at hSw); go_simp; (try with_reducible rfl))
                    (try simp only [Act.put, List.getElem_toArray, List.getElem_cons_succ, List.getElem_cons_zero]); (try simp only [List.setIfInBounds_toArray]); (try simp only [List.set_cons_succ]); (try simp only [List.set_cons_zero])
                    refine wpAnyH_take (i := 25) (v := ?v94) rfl (by kernel_rfl) (by kernel_rfl) (by kernel_rfl) (fun _ _ _ h => h) (Or.inl ⟨by rfl, ?hy94⟩) hHeld ?rest94
                    case hy94 => (intro wz hSw; (try dsimp only at hSw); go_simp; (try with_reducible rfl))
                    (try simp only [Act.put, List.getElem_toArray, List.getElem_cons_succ, List.getElem_cons_zero]); (try simp only [List.setIfInBounds_toArray]); (try simp only [List.set_cons_succ]); (try simp only [List.set_cons_zero])
                    refine wpAnyH_take (i := 26) (v := ?v95) rfl (by kernel_rfl) (by kernel_rfl) (by kernel_rfl) (fun _ _ _ h => h) (Or.inl ⟨by rfl, ?hy95⟩) hHeld ?rest95
                    case hy95 => (intro wz hSw; (try dsimp only at hSw); go_simp; (try with_reducible rfl))
                    (try simp only [Act.put, List.getElem_toArray, List.getElem_cons_succ, List.getElem_cons_zero]); (try simp only [List.setIfInBounds_toArray]); (try simp only [List.set_cons_succ]); (try simp only [List.set_cons_zero])
                    refine wpAnyH_take (i := 27) (v := ?v96) rfl (by kernel_rfl) (by kernel_rfl) (by kernel_rfl) (fun _ _ _ h => h) (Or.inl ⟨by rfl, ?hy96⟩) hHeld ?rest96
                    case hy96 => (intro wz hSw; (try dsimp only at hSw); go_simp; (try with_reducible rfl))
                    (try simp only [Act.put, List.getElem_toArray, List.getElem_cons_succ, List.getElem_cons_zero]); (try simp only [List.setIfInBounds_toArray]); (try simp only [List.set_cons_succ]); (try simp only [List.set_cons_zero])
                    refine wpAnyH_take (i := 29) (v := ?v97) rfl (by kernel_rfl) (by kernel_rfl) (by kernel_rfl) (fun _ _ _ h => h) (Or.inl ⟨by rfl, ?hy97⟩) hHeld ?rest97
                    case hy97 => (intro wz hSw; (try dsimp only at hSw); go_simp; (try with_reducible rfl))
                    (try simp only [Act.put, List.getElem_toArray, List.getElem_cons_succ, List.getElem_cons_zero]); (try simp only [List.setIfInBounds_toArray]); (try simp only [List.set_cons_succ]); (try simp only [List.set_cons_zero])
                    refine wpAnyH_take (i := 30) (v := ?v98) rfl (by kernel_rfl) (by kernel_rfl) (by kernel_rfl) (fun _ _ _ h => h) (Or.inl ⟨by rfl, ?hy98⟩) hHeld ?rest98
                    case hy98 => (intro wz hSw; (try dsimp only at hSw); go_simp; (try with_reducible rfl))
                    (try simp only [Act.put, List.getElem_toArray, List.getElem_cons_succ, List.getElem_cons_zero]); (try simp only [List.setIfInBounds_toArray]); (try simp only [List.set_cons_succ]); (try simp only [List.set_cons_zero])
                    refine wpAnyH_take (i := 31) (v := ?v99) rfl (by kernel_rfl) (by kernel_rfl) (by kernel_rfl) (fun _ _ _ h => h) (Or.inl ⟨by rfl, ?hy99⟩) hHeld ?rest99
                    case hy99 => (intro wz hSw; (try dsimp only at hSw); go_simp; (try with_reducible rfl))
                    (try simp only [Act.put, List.getElem_toArray, List.getElem_cons_succ, List.getElem_cons_zero]); (try simp only [List.setIfInBounds_toArray]); (try simp only [List.set_cons_succ]); (try simp only [List.set_cons_zero])
                    refine wpAnyH_ready (rs := [28]) (by kernel_rfl) (by simp) ?_
                    refine AllReadyH.cons rfl (fun K' hK => ?_) AllReadyH.nil
                    go_simp
                    refine (HA2.out _ (And.left hHeld)).mono ?_
                    rintro e w7 ⟨rfl, hw7⟩
                    have Xw7 := (And.left hHeld).trans hw7
                    dsimp only
                    refine hK.out _ _ (ext2 Xw7) (fun hHeld => ?_)
                    clear hK
                    refine wpAnyH_ready (rs := [32]) (by kernel_rfl) (by simp) ?_
                    refine AllReadyH.cons rfl (fun K' hK => ?_) AllReadyH.nil
                    go_simp
                    refine (HW2.out _ (And.left hHeld)).mono ?_
                    rintro e w8 ⟨rfl, hw8⟩
                    have Xw8 := (And.left hHeld).trans hw8
                    dsimp only
                    refine hK.out _ _ (ext2 Xw8) (fun hHeld => ?_)
                    clear hK
                    refine wpAnyH_take (i := 33) (v := ?v100) rfl (by kernel_rfl) (by kernel_rfl) (by kernel_rfl) (fun _ _ _ h => h) (Or.inl ⟨by rfl, ?hy100⟩) hHeld ?rest100
                    case hy100 => (intro wz hSw; (try dsimp only at hSw); go_simp; (try with_reducible rfl))
                    (try simp only [Act.put, List.getElem_toArray, List.getElem_cons_succ, List.getElem_cons_zero]); (try simp only [List.setIfInBounds_toArray]); (try simp only [List.set_cons_succ]); (try simp only [List.set_cons_zero])
                    refine wpAnyH_take (i := 34) (v := ?v101) rfl (by kernel_rfl) (by kernel_rfl) (by kernel_rfl) (fun _ _ _ h => h) (Or.inl ⟨by rfl, ?hy101⟩) hHeld ?rest101
                    case hy101 => (intro wz hSw; (try dsimp only at hSw); go_simp; (try with_reducible rfl))
                    (try simp only [Act.put, List.getElem_toArray, List.getElem_cons_succ, List.getElem_cons_zero]); (try simp only [List.setIfInBounds_toArray]); (try simp only [List.set_cons_succ]); (try simp only [List.set_cons_zero])
                    refine wpAnyH_take (i := 35) (v := ?v102) rfl (by kernel_rfl) (by kernel_rfl) (by kernel_rfl) (fun _ _ _ h => h) (Or.inl ⟨by rfl, ?hy102⟩) hHeld ?rest102
                    case hy102 => (intro wz hSw; (try dsimp only at hSw); go_simp; (try with_reducible rfl))
                    (try simp only [Act.put, List.getElem_toArray, List.getElem_cons_succ, List.getElem_cons_zero]); (try simp only [List.setIfInBounds_toArray]); (try simp only [List.set_cons_succ]); (try simp only [List.set_cons_zero])
                    refine wpAnyH_done (by kernel_rfl) ?_ _
                    have X9 := And.left hHeld
                    clear hHeld

                    have E9 := Lib.hid (hE.out.trans X9)
                    clear lB q0 q1 lW p0 p1 n1 n2 X9
                    go_wp2
                    exact ⟨⟨j + 1, by omega, by simp, by rw [HS.out], E9⟩, by simp [intOf]; omega⟩
              · obtain rfl : j = nu + 1 := by omega
                have hjI : ¬ (nu : Int) + 1 ≤ (nu : Int) := by omega
                have HSB := Lib.hid (stepB_eq k xs R next nu)
                have XEE := Lib.hid (WX.out)
                have XIH := Lib.hid (hE.out)
                obtain ⟨a4', c4', e4, hO4⟩ := (hG4.out.ext hE.out).shape
                have HSL := Lib.hid (hG4.out.slc)
                injection e4 with e5 e6 e7
                subst e5; subst e7
                have HO4 := Lib.hid hO4
                have hnc : Hid ((!used.contains (ni rows i) && stepB k xs R (used ++ [ni rows i]) used.length && fitsM k xs R rows m (used ++ [ni rows i])) = (stepJ k xs R next nu (nu + 1) && fitsM k xs R rows m next)) := by
                  rw [Hid, HRI.out, HNX.out, HL.out, HSB.out]
                  have h4 : used.contains r = false := by
                    rcases h : used.contains r with _ | _
                    · rfl
                    · exact absurd (List.contains_iff_mem.1 h) HMEM.out
                  rw [h4]; rfl
                have HYS : Hid (stepJ k xs R next nu (nu + 1) = true → fitsM k xs R rows m next = true → fitsM k xs R rows (m + 1) used = true) := fun h1 h2 => HYES.out HMEM.out (by rw [HL.out, HSB.out]; exact h1) h2
                have HX1 : Hid (Ext W1 wr) := (HX0.out.trans hE.out)
                clear hO4 hG4
                rcases hst : stepJ k xs R next nu (nu + 1) with _ | _
                · have hD2 : Hid (∀ p, p < i + 1 → (!used.contains (ni rows p) && stepB k xs R (used ++ [ni rows p]) used.length && fitsM k xs R rows m (used ++ [ni rows p])) = false) := fun q hq => by
                    by_cases e : q = i
                    · subst e; rw [hnc.out, hst]; rfl
                    · exact hD.out q (by omega)
                  clear hst hD hnc HYS
                  go_wp2
                  exact ⟨⟨i + 1, by omega, by simp, HX1, hD2⟩, by simp [intOf]; omega⟩
                · go_wp2_with fail
                  refine (IH.out next a4 (nu + 1) c4 _ XEE.out HNL.out (by omega) HNR.out HO4.out.reads HSL.out).mono ?_
                  rintro e w6 ⟨rfl, h6⟩
                  have E6 := Lib.hid (HX1.out.trans h6)
                  have Y6 := Lib.hid ((X0.out.trans HX1.out).trans h6)
                  rcases hft : fitsM k xs R rows m next with _ | _
                  · have hD2 : Hid (∀ p, p < i + 1 → (!used.contains (ni rows p) && stepB k xs R (used ++ [ni rows p]) used.length && fitsM k xs R rows m (used ++ [ni rows p])) = false) := fun q hq => by
                      by_cases e : q = i
                      · subst e; rw [hnc.out, hst, hft]; rfl
                      · exact hD.out q (by omega)
                    clear hst hft hD hnc HYS h6
                    go_wp2
                    exact ⟨⟨i + 1, by omega, by simp, E6, hD2⟩, by simp [intOf]; omega⟩
                  · have HF := Lib.hid (HYS.out hst hft)
                    clear hst hft hD hnc HYS h6
                    go_wp2
                    go_ret
                    exact ⟨ret_bool HF.out.symm, Y6.out⟩
      · obtain rfl : i = K := by omega
        have HF : Hid (fitsM k xs R rows (m + 1) used = false) := fitsM_no (fun p hp => hD.out p (by rw [← HRL.out]; exact hp))
        go_wp2
        go_ret
        exact ⟨ret_bool HF.out.symm, XE.out⟩
end Go.Proofs.YtlnpaplbcocmkaaGreat
