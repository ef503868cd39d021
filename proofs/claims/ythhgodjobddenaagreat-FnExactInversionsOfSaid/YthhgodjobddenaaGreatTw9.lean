/-
  InversionsOf, of the program and of the specification.
-/
import Derived.Test.YthhgodjobddenaaGreatDel
import Derived.Test.YthhgodjobddenaaGreatRwR5
import Derived.Test.YthhgodjobddenaaGreatTw7
namespace Go.Proofs.YthhgodjobddenaaGreat
open Go.ChangeShapes Go.WideShapes Go.ChangeAt Go.RowKit
set_option linter.unusedVariables false
set_option linter.unusedSimpArgs false

theorem flat_small : ∀ rs : List (List Int), (∀ r, r ∈ rs → r.length ≤ 4) → rs.flatten.length ≤ 4 * rs.length
  | [], _ => by simp
  | r :: rs, h => by
    have h1 := h r List.mem_cons_self
    have h2 := flat_small rs (fun x hx => h x (List.mem_cons_of_mem _ hx))
    rw [List.flatten_cons, List.length_append, List.length_cons]; omega
theorem row_map {L : List (List Int)} {is : List Nat} {q : Nat} (hq : q < is.length) : row (is.map (row L)) q = row L (is.getD q 0) := by
  simp [row, List.getD_eq_getElem?_getD, hq]
/-- Rows of a list, chosen by their numbers, as a result. -/
theorem rows_sel {w0 w : World} {g m K N : Nat} {Bk C : Nat → Nat} {L : List (List Int)} {is : List Nat} (hV : RowV w g (fun q => .slice (some ⟨Bk (is.getD q 0), 0, none⟩) K (C (is.getD q 0))) m) (hm : is.length = m) (his : ∀ q, q < m → is.getD q 0 < N) (hnd : is.Nodup) (hrows : ∀ i, i < N → Has w (Bk i) (row L i) ∧ w0.heap.size ≤ Bk i) (hlen : ∀ i, i < N → (row L i).length = K) (hne : ∀ i j, i < N → j < N → i ≠ j → Bk i ≠ Bk j) (hg : w0.heap.size ≤ g) (hK : K ≤ 4) (hmN : m ≤ 1024) : RowsR w w0.heap.size w.heap.size (some ⟨g, 0, none⟩) m (is.map (row L)) := by
  have hgl := hV.lt
  obtain ⟨cur, h1, h2, h3⟩ := hV
  have hrow : ∀ q, q < m → row (is.map (row L)) q = row L (is.getD q 0) := fun q hq => row_map (by omega)
  refine ⟨by simp [hm], ?_, .inr ⟨g, cur, fun q => some ⟨Bk (is.getD q 0), 0, none⟩, fun q => C (is.getD q 0), rfl, hg, hgl, h1, fun q hq => ⟨?_, ?_⟩, fun i j b hi hj hij hb => ?_⟩⟩
  · have := flat_small (is.map (row L)) (fun r hr => by
      obtain ⟨x, hx, rfl⟩ := List.mem_map.1 hr
      obtain ⟨q, hq, rfl⟩ := List.mem_iff_getElem.1 hx
      have e : is[q] = is.getD q 0 := by simp [List.getD_eq_getElem?_getD, hq]
      rw [e, hlen _ (his q (by omega))]; exact hK)
    rw [List.length_map, hm] at this
    omega
  · rw [h3 q hq, hrow q hq, hlen _ (his q hq)]
  · rw [hrow q hq]
    have h4 := hrows _ (his q hq)
    exact h4.1.own h4.2 h4.1.lt rfl
  · have e1 : Bk (is.getD i 0) = b := by
      simp only [blk, Option.map_some] at hb
      injection hb
    simp only [blk, Option.map_some]
    intro h5
    injection h5 with h5
    have hd : is.getD i 0 ≠ is.getD j 0 := by
      intro e
      have e2 : is.getD i 0 = is[i]'(by omega) := by simp [List.getD_eq_getElem?_getD, show i < is.length by omega]
      have e3 : is.getD j 0 = is[j]'(by omega) := by simp [List.getD_eq_getElem?_getD, show j < is.length by omega]
      rw [e2, e3] at e
      have hp := List.pairwise_iff_getElem.1 hnd
      rcases Nat.lt_or_gt_of_ne hij with c | c
      · exact hp i j (by omega) (by omega) c e
      · exact hp j i (by omega) (by omega) c e.symm
    exact hne _ _ (his i hi) (his j hj) hd (by rw [e1]; exact h5.symm)
theorem rowsP_open {w : World} {lo K : Nat} {v : Value} {L : List (List Int)} (h : RowsP w lo v L) (h0 : 0 < L.length) (hlen : ∀ i, i < L.length → (row L i).length = K) (hK : 0 < K) : ∃ (g cap : Nat) (Bk C : Nat → Nat), v = .slice (some ⟨g, 0, none⟩) L.length cap ∧ L.length ≤ cap ∧ lo ≤ g ∧ RowV w g (fun i => .slice (some ⟨Bk i, 0, none⟩) K (C i)) L.length ∧ (∀ i, i < L.length → Has w (Bk i) (row L i) ∧ lo ≤ Bk i) ∧ (∀ i j, i < L.length → j < L.length → i ≠ j → Bk i ≠ Bk j) ∧ ∀ i, i < L.length → Bk i ≠ g := by
  obtain ⟨us, B, h1, h2, h3, h4⟩ := h
  rcases h1.2 with ⟨e1, e2⟩ | ⟨g, cap, cur, e1, hb, hg, hn, hc, hcs, htk⟩
  · omega
  · have hrow : ∀ i, i < L.length → ∃ c, cur[i]? = some (.slice (some ⟨B i, 0, none⟩) K c) ∧ Has w (B i) (row L i) ∧ lo ≤ B i := fun i hi => by
      obtain ⟨c, x0, x1⟩ := h3 i hi
      rw [hlen i hi] at x0
      refine ⟨c, ?_, ?_⟩
      · have e : (cur.toList.take (L.length * 1))[i]? = us[i]? := by rw [htk]
        rw [List.getElem?_take, if_pos (by omega), Array.getElem?_toList] at e
        rw [e, x0]
      · rcases x1.2 with ⟨e2, _⟩ | ⟨b, e2, h5, h6, h7⟩
        · cases e2
        · injection e2 with e2
          injection e2 with e2
          subst e2; exact ⟨h7, h5⟩
    have hch : ∃ C : Nat → Nat, ∀ i, i < L.length → cur[i]? = some (.slice (some ⟨B i, 0, none⟩) K (C i)) := by
      refine ⟨fun i => match cur[i]? with | some (.slice _ _ c) => c | _ => 0, fun i hi => ?_⟩
      obtain ⟨c, hc9, _⟩ := hrow i hi
      simp only [hc9]
    obtain ⟨C, hC⟩ := hch
    refine ⟨g, cap, B, C, e1, hn, hb, ⟨cur, hg, by omega, hC⟩, fun i hi => (hrow i hi).choose_spec.2, h4, fun i hi e => ?_⟩
    obtain ⟨c, _, h7, _⟩ := hrow i hi
    obtain ⟨r, hr, _⟩ := h7
    rw [e, hg] at hr
    injection hr with hr
    injection hr with _ hr
    exact absurd hr (by decide)
/-- Whether a root is taken to one with a height above 0. -/
def upD (l x : List Int) (K i : Nat) : Bool := decide (0 < htS (actR l K x (row (posR l K) i)))
def invO (R : Int) (l x : List Int) : List (List Int) := match carG R l with | some _ => if wordB R.toNat x then (kept (upD l x R.toNat) (posR l R.toNat).length).map (row (posR l R.toNat)) else [] | none => []
theorem invO_yes {K : Nat} {l x : List Int} {v : List Nat × List Int} (hG : carG (K : Int) l = some v) (hw : wordB K x = true) : invO K l x = (kept (upD l x K) (posR l K).length).map (row (posR l K)) := by
  simp only [invO, hG, Int.toNat_natCast, hw, if_true]
theorem invO_no {K : Nat} {l x : List Int} {v : List Nat × List Int} (hG : carG (K : Int) l = some v) (hw : wordB K x = false) : invO K l x = [] := by
  simp only [invO, hG, Int.toNat_natCast, hw]; rfl
theorem actR_sys {l x y : List Int} {K : Nat} (hc : RClo l K) (hx : rowB K x = true) (hy : sysB (posR l K) y = true) : sysB (posR l K) (actR l K x y) = true :=
  foldr_P (P := fun u => sysB (posR l K) u = true) (T := rfl5 l K) hy (fun u i hi hu => hc.turn u i hi hu) x hx
theorem htS_neg : ∀ x : List Int, ∀ a : Int, (negL x).foldl (· + ·) (-a) = -(x.foldl (· + ·) a)
  | [], a => rfl
  | b :: x, a => by
    show (negL x).foldl (· + ·) (-a + -b) = -(x.foldl (· + ·) (a + b))
    rw [← htS_neg x (a + b)]
    congr 1; omega
/-- A root has only numbers from 0 on if its height is above 0. -/
theorem sys_pos {l ls y : List Int} {K : Nat} (hok : RootsOk l ls K) (hy : sysB (posR l K) y = true) : allPos y = decide (0 < htS y) := by
  rw [sysB, Bool.or_eq_true, List.contains_iff_mem, List.contains_iff_mem] at hy
  rcases hy with h | h
  · have h1 := (hok.pos y h).2.2.2
    have h2 := posR_row hok h
    rw [decide_eq_true (by omega)]
    exact allPos_yes (fun e _ => (h2.2 e).1)
  · obtain ⟨_, _, ⟨e, he, hne⟩, h1, _⟩ := hok.pos _ h
    have h2 := posR_row hok h
    have h3 : htS (negL y) = - htS y := htS_neg y 0
    rw [decide_eq_false (by omega)]
    have h4 := (h2.2 e).1
    rw [gi_negL] at h4 hne
    have h5 : e < y.length := by have := h2.1; rw [negL_length] at this; omega
    exact allPos_no h5 (by omega)
theorem row_mem9 {L : List (List Int)} {i : Nat} (hi : i < L.length) : row L i ∈ L := by
  rw [row, List.getD_eq_getElem?_getD, List.getElem?_eq_getElem hi]; exact List.getElem_mem hi
theorem sys_row {L : List (List Int)} {i : Nat} (hi : i < L.length) : sysB L (row L i) = true := by
  rw [sysB, Bool.or_eq_true]; left; rw [List.contains_iff_mem]; exact row_mem9 hi

set_option maxRecDepth 100000 in
set_option maxHeartbeats 12800000 in
theorem inversionsOf_impl {R : Int} {a0 oa n bx ox nx : Nat} {l x : List Int} {w : World} {i : List (List Int)} (hT : Reads w (some ⟨a0, oa, none⟩) n l) (hm0 : n ≤ 1048576) (hx : Reads w (some ⟨bx, ox, none⟩) nx x) (hmx : nx ≤ 1048576) (hM : invO R l x = i) :
    Calls Tryz.prog 41 #[.agg #[.int .i64 R, .slice (some ⟨a0, oa, none⟩) n n], .slice (some ⟨bx, ox, none⟩) nx nx] w fun e w' => ∃ v, e = .returned v ∧ Rrows w w' v i ∧ Ext w w' := by
  subst hM
  have HT := Lib.hid hT
  have Hx := Lib.hid hx
  have hmf : ∀ (fn : Fn) (first cap : Array Value) (w : World), (Instr.makeFunc fn first cap).run Tryz.prog w = .ok (.func fn first cap) w := fun _ _ _ _ => rfl
  rcases hG : carG R l with _ | v
  · have HF : Hid (invO R l x = []) := by rw [Hid, invO, hG]
    clear hT hx
    have X0 := Lib.hid ((((Ext.refl w).alloc (.cells #[.int .i64 R, .slice (some ⟨a0, oa, none⟩) n n] 27)).alloc (.cells #[.slice (some ⟨bx, ox, none⟩) nx nx] 22)).alloc (.cells #[.slice (some ⟨bx, ox, none⟩) nx nx] 22))
    go_enter Tryz.func41, Tryz.ntmps41
    go_wp2_with fail
    refine (wrapWords_no (HT.out.ext X0.out) hm0 hG).mono ?_
    rintro e w2 ⟨rfl, hE⟩
    go_wp2
    go_ret
    exact ⟨_, rfl, ⟨_, _, _, rfl, by rw [HF.out]; exact rowsR_nil _ _ _ _, by omega⟩, (X0.out.trans hE).alloc _⟩
  · obtain ⟨K, rfl, hK1, hK4, hlK, ht⟩ := carG_some hG
    have hnK : Hid (n = K * K) := by rw [Hid, ← hT.len]; exact hlK
    obtain ⟨hh, hWOK⟩ := wOk_tab hK1 hK4 ht
    have HWO := Lib.hid hWOK
    clear hWOK
    have HRO := Lib.hid (rootsOk_tab (by omega) hK4 ht)
    have HLE := fullR_len HRO.out
    have HPL : Hid (K ≤ (posR l K).length ∧ (posR l K).length ≤ 24) := by rw [Hid, posR_len HRO.out]; exact HLE
    have HRL : Hid (∀ i, i < (posR l K).length → (row (posR l K) i).length = K) := fun i hi => (posR_row HRO.out (row_mem9 hi)).1
    clear HLE
    clear hT hx
    have X0 := Lib.hid ((((Ext.refl w).alloc (.cells #[.int .i64 (K : Nat), .slice (some ⟨a0, oa, none⟩) n n] 27)).alloc (.cells #[.slice (some ⟨bx, ox, none⟩) nx nx] 22)).alloc (.cells #[.slice (some ⟨bx, ox, none⟩) nx nx] 22))
    have CB := Lib.hid (cells_new' ((w.alloc (.cells #[.int .i64 (K : Nat), .slice (some ⟨a0, oa, none⟩) n n] 27)).alloc (.cells #[.slice (some ⟨bx, ox, none⟩) nx nx] 22)) #[.slice (some ⟨bx, ox, none⟩) nx nx] 22 (w.heap.size + 1 + 1) (by simp))
    have CF1 := Lib.hid ((cells_new' (w.alloc (.cells #[.int .i64 (K : Nat), .slice (some ⟨a0, oa, none⟩) n n] 27)) #[.slice (some ⟨bx, ox, none⟩) nx nx] 22 (w.heap.size + 1) (by simp)).ext ((Ext.refl _).alloc (.cells #[.slice (some ⟨bx, ox, none⟩) nx nx] 22)))
    have HCW := Lib.hid (wrapWords_yes K a0 oa n (w.heap.size + 1 + 1) 1 1 (fun _ => some ⟨bx, ox, none⟩) (fun _ => nx) (fun _ => nx) (fun _ => x) l v _ (HT.out.ext X0.out) hK1 hK4 ht hlK (by simp) (fun j hj => by have e : j = 0 := (by omega); subst e; exact CB.out.2 0 _ rfl) (fun j hj => ⟨Hx.out.ext X0.out, hmx⟩) (by omega))
    rcases hw : wordB K x with _ | _
    · have HF : Hid (invO K l x = []) := invO_no hG hw
      go_enter Tryz.func41, Tryz.ntmps41
      go_wp2_with fail
      refine HCW.out.mono ?_
      rintro e w2 (⟨h1, rfl, hE⟩ | ⟨h1, B, LB, ns, rfl, hns, hW⟩)
      · go_wp2
        go_ret
        exact ⟨_, rfl, ⟨_, _, _, rfl, by rw [HF.out]; exact rowsR_nil _ _ _ _, by omega⟩, (X0.out.trans hE).alloc _⟩
      · rw [wordsB_one6, hw] at h1; cases h1
    · have HF := Lib.hid (invO_yes hG hw)
      have HRx := Lib.hid (wordB_rowB hw)
      go_enter Tryz.func41, Tryz.ntmps41
      go_wp2_with fail
      refine HCW.out.mono ?_
      rintro e w2 (⟨h1, rfl, hE⟩ | ⟨h1, B, LB, ns, rfl, hns, hW⟩)
      · rw [wordsB_one6, hw] at h1; cases h1
      · skip
        have HE2 := Lib.hid (X0.out.trans hW.ext)
        have hWE := Lib.hid hW.ext
        obtain ⟨xa, xn, xc, hbox, hstr⟩ := hW.box
        have X3 := Lib.hid ((Ext.refl w2).alloc (.cells #[.pointer (some ⟨B, 0, none⟩)] 48))
        have HE3 := Lib.hid (HE2.out.trans X3.out)
        have HBX := Lib.hid (hbox.ext X3.out)
        have CF2 := Lib.hid (cells_new w2 #[.pointer (some ⟨B, 0, none⟩)] 48)
        have CF3 := Lib.hid ((CF1.out.ext hWE.out).ext X3.out)
        have hl2 := HE2.out.le
        clear hW hns hbox hstr HCW h1
        have l2 := CF2.out.1
        have f2 := CF2.out.2 0 _ rfl
        go_wp2_with fail
        obtain ⟨W4, hW4⟩ : ∃ W4, w2.alloc (.cells #[.pointer (some ⟨B, 0, none⟩)] 48) = W4 := ⟨_, rfl⟩
        rw [hW4] at HE3 HBX CF2 CF3 l2 f2 ⊢
        clear hW4 X3
        refine (positiveRoots_impl B K a0 oa n n _ _ l v.2 W4 HBX.out (HT.out.ext HE3.out) hnK.out hK1 hK4 HRO.out HWO.out.xb).mono ?_
        rintro e w5 ⟨vr, rfl, hP, h5⟩
        obtain ⟨g, cap, Bk, C, rfl, hcap, hglo, hV, hrows, hdist, hneg⟩ := rowsP_open hP (by have := HPL.out; omega) HRL.out (by omega)
        have HV := Lib.hid hV
        have HRW := Lib.hid hrows
        have HDI := Lib.hid hdist
        have HNG := Lib.hid hneg
        have H5 := Lib.hid h5
        have hW4le := HE3.out.le
        have HDC := Lib.hid (deleteRows g (posR l K).length cap K (w.heap.size + 1) w2.heap.size Bk C (posR l K) (upD l x K) W4 w5 HV.out hglo hcap (fun i hi => (HRW.out i hi).1) HNG.out H5.out (by have := HPL.out; omega) (fun w1 i hE1 hi hHas => inversions_1 (w.heap.size + 1) w2.heap.size B K a0 oa n n bx ox nx nx (Bk i) (C i) _ _ l x (row (posR l K) i) w1 (CF3.out.ext hE1) (CF2.out.ext hE1) (HBX.out.ext hE1) (HT.out.ext (HE3.out.trans hE1)) hnK.out hK1 hK4 HWO.out.xb (Hx.out.ext (HE3.out.trans hE1)) hmx HRx.out hHas HWO.out.rc (sys_row hi)))
        clear hP hV hrows hdist hneg h5 l2 f2
        go_wp2_with fail
        refine HDC.out.mono ?_
        rintro e w6 ⟨rfl, hV6, hR6, hE6⟩
        have HE6 := Lib.hid (HE3.out.trans hE6)
        have hk6 := kept_le (upD l x K) (posR l K).length
        have hpl := HPL.out
        have HRR : Hid (RowsR w6 w.heap.size w6.heap.size (some ⟨g, 0, none⟩) (kept (upD l x K) (posR l K).length).length ((kept (upD l x K) (posR l K).length).map (row (posR l K)))) := rows_sel hV6 rfl (fun q hq => kept_mem hq) (kept_nodup _ _) (fun i hi => ⟨hR6 i hi, by have := (HRW.out i hi).2; omega⟩) HRL.out HDI.out (by omega) hK4 (by omega)
        clear hV6 hR6
        go_wp2
        go_ret
        exact ⟨_, rfl, ⟨_, _, _, rfl, by rw [HF.out]; exact HRR.out, by omega⟩, HE6.out⟩

set_option maxRecDepth 100000 in
set_option maxHeartbeats 12800000 in
theorem inversionsOf_spec {R : Int} {a0 oa n bx ox nx : Nat} {l x : List Int} {w : World} {i : List (List Int)} (hT : Reads w (some ⟨a0, oa, none⟩) n l) (hm0 : n ≤ 1048576) (hx : Reads w (some ⟨bx, ox, none⟩) nx x) (hmx : nx ≤ 1048576) (hM : invO R l x = i) :
    Calls Tryz.prog 40 #[.agg #[.int .i64 R, .slice (some ⟨a0, oa, none⟩) n n], .slice (some ⟨bx, ox, none⟩) nx nx] w fun e w' => ∃ v, e = .returned v ∧ Rrows w w' v i ∧ Ext w w' := by
  subst hM
  have HT := Lib.hid hT
  have Hx := Lib.hid hx
  rcases hG : carG R l with _ | v
  · have HF : Hid (invO R l x = []) := by rw [Hid, invO, hG]
    have HI : wrdO R l x = false := by rw [wrdO, hG]; rfl
    clear hT hx
    go_enter Tryz.func40, Tryz.ntmps40
    go_wp2_with fail
    refine (wordOk_spec (HT.out.ext ((Ext.refl w).alloc _)) hm0 (Hx.out.ext ((Ext.refl w).alloc _)) hmx HI).mono ?_
    rintro e w2 ⟨rfl, hE⟩
    go_wp2
    go_ret
    exact ⟨_, rfl, ⟨_, _, _, rfl, by rw [HF.out]; exact rowsR_nil _ _ _ _, by omega⟩, ((Ext.refl w).alloc _).trans hE⟩
  · obtain ⟨K, rfl, hK1, hK4, hlK, ht⟩ := carG_some hG
    have hnK : Hid (n = K * K) := by rw [Hid, ← hT.len]; exact hlK
    obtain ⟨hh, hWOK⟩ := wOk_tab hK1 hK4 ht
    have HWO := Lib.hid hWOK
    clear hWOK
    have HRO := Lib.hid (rootsOk_tab (by omega) hK4 ht)
    have HLE := fullR_len HRO.out
    have HPL : Hid (K ≤ (posR l K).length ∧ (posR l K).length ≤ 24) := by rw [Hid, posR_len HRO.out]; exact HLE
    have HRL : Hid (∀ i, i < (posR l K).length → (row (posR l K) i).length = K) := fun i hi => (posR_row HRO.out (row_mem9 hi)).1
    clear HLE
    have HI : Hid (wrdO K l x = wordB K x) := by rw [Hid, wrdO, hG]; rfl
    clear hT hx
    rcases hw : wordB K x with _ | _
    · have HF : Hid (invO K l x = []) := invO_no hG hw
      go_enter Tryz.func40, Tryz.ntmps40
      go_wp2_with fail
      refine (wordOk_spec (HT.out.ext ((Ext.refl w).alloc _)) hm0 (Hx.out.ext ((Ext.refl w).alloc _)) hmx HI.out).mono ?_
      rintro e w2 ⟨rfl, hE⟩
      rw [hw]
      go_wp2
      go_ret
      exact ⟨_, rfl, ⟨_, _, _, rfl, by rw [HF.out]; exact rowsR_nil _ _ _ _, by omega⟩, ((Ext.refl w).alloc _).trans hE⟩
    · have HF := Lib.hid (invO_yes hG hw)
      have HRx := Lib.hid (wordB_rowB hw)
      obtain ⟨i1, hi1, hy0, hy1, hy2⟩ := info_parts Tryz.infoInts
      go_enter Tryz.func40, Tryz.ntmps40
      go_wp2_with fail
      refine (wordOk_spec (HT.out.ext ((Ext.refl w).alloc _)) hm0 (Hx.out.ext ((Ext.refl w).alloc _)) hmx HI.out).mono ?_
      rintro e w2 ⟨rfl, hE⟩
      rw [hw]
      have HE2 := Lib.hid (((Ext.refl w).alloc _).trans hE)
      have HB2 := Lib.hid ((cells_new w #[.int .i64 (K : Nat), .slice (some ⟨a0, oa, none⟩) n n] 27).ext hE)
      clear hE
      have lB := HB2.out.1
      have q0 := HB2.out.2 0 _ rfl
      have q1 := HB2.out.2 1 _ rfl
      go_wp2_with fail
      refine (l5Roots_spec K a0 oa n n l v.2 _ (HT.out.ext HE2.out) hnK.out hK1 hK4 HRO.out HWO.out.xb).mono ?_
      rintro e w5 ⟨vr, rfl, hP, h5⟩
      obtain ⟨g, cap, Bk, C, rfl, hcap, hglo, hV, hrows, hdist, hneg⟩ := rowsP_open hP (by have := HPL.out; omega) HRL.out (by omega)
      have HE5 := Lib.hid (HE2.out.trans h5)
      have HB5 := Lib.hid (HB2.out.ext h5)
      have HV := Lib.hid hV
      have HRW := Lib.hid hrows
      have HDI := Lib.hid hdist
      have hle2 := HE2.out.le
      clear hP hV hrows hdist hneg h5 HB2 lB q0 q1
      obtain ⟨D, hD⟩ : ∃ D, upD l x K = D := ⟨_, rfl⟩
      have HDD : Hid (∀ j, j < (posR l K).length → allPos (actR l K x (row (posR l K) j)) = D j) := fun j hj => by
        rw [sys_pos HRO.out (actR_sys HWO.out.rc HRx.out (sys_row hj)), ← hD]; rfl
      rw [hD] at HF
      have HO0 : Hid ((w5.alloc (.cells #[] 22)).ownsRow w5.heap.size 22 1 (.slice (some ⟨w5.heap.size, 0, none⟩) 0 0) (kept D 0).length ((kept D 0).map fun i => (Value.slice (some ⟨Bk i, 0, none⟩) K (C i)))) := World.ownsRow_lit w5 #[] 0 (Nat.le_refl _) (by unfold maxLen; omega) (by simp)
      have X50 := Lib.hid ((Ext.refl w5).alloc (.cells #[] 22))
      obtain ⟨N, hN⟩ : ∃ N, (posR l K).length = N := ⟨_, rfl⟩
      have HNN := Lib.hid hN
      rw [hN] at HPL HRL HV HRW HDI HDD HF hcap ⊢
      clear hD hN
      go_wp2_with fail
      go_loopw [7, 6] (fun z u wr => ∃ (j cv : Nat) (va : Option Addr), j ≤ N ∧ z = .int .i64 j ∧ u = .slice va (kept D j).length cv ∧ Hid (wr.ownsRow w5.heap.size 22 1 (.slice va (kept D j).length cv) (kept D j).length ((kept D j).map fun i => (Value.slice (some ⟨Bk i, 0, none⟩) K (C i)))) ∧ Hid (Ext w5 wr)) (fun z _ _ => N - (intOf z).toNat)
      case atStart => exact ⟨0, 0, _, by omega, rfl, rfl, HO0, X50⟩
      case round =>
        clear HO0 X50
        obtain ⟨j, cv, va, hj, rfl, rfl, hO, hX⟩ := hrel
        by_cases hlt : j < N
        · have HEr := Lib.hid (HE5.out.trans hX.out)
          have HBr := Lib.hid (HB5.out.ext hX.out)
          have lB := HBr.out.1
          have q0 := HBr.out.2 0 _ rfl
          have q1 := HBr.out.2 1 _ rfl
          have cR := (HV.out.ext hX.out).cell hlt
          have lR := (HV.out.ext hX.out).lt
          have hjI : (j : Int) < (N : Int) := by omega
          have hk := kept_le D j
          have hNI : (N : Int) ≤ 24 := by have := HPL.out; omega
          have HNL : Hid (N ≤ 24) := HPL.out.2
          have HSY : Hid (sysB (posR l K) (row (posR l K) j) = true) := sys_row (by rw [HNN.out]; exact hlt)
          have HAC := Lib.hid (l6ActRoot_spec K a0 oa n n bx ox nx nx (Bk j) 0 (C j) l x (row (posR l K) j) (fun u => sysB (posR l K) u = true) wr.drew (HT.out.ext (HEr.out.trans (Ext.refl wr).drew)) hnK.out hK1 hK4 HWO.out.xb (Hx.out.ext (HEr.out.trans (Ext.refl wr).drew)) hmx HRx.out ((((HRW.out j hlt).1.ext hX.out).ext (Ext.refl wr).drew).reads (HRL.out j hlt)) HSY.out (fun u hu => ⟨(HWO.out.rc.row u hu).1, fun e => by have := (HWO.out.rc.row u hu).2 e; omega⟩) (fun u i hi hu => HWO.out.rc.turn u i hi hu))
          have HDJ := Lib.hid (HDD.out j hlt)
          have HAL : Hid ((actR l K x (row (posR l K) j)).length = K) := (HWO.out.rc.row _ (actR_sys HWO.out.rc HRx.out HSY.out)).1
          have hww : ∀ (a : List Int), x.foldr (fun i a => rfl5 l K i.toNat a) a = actR l K x a := fun _ => rfl
          have HAC2 := HAC.out
          simp only [hww] at HAC2
          clear HAC
          have HAC := Lib.hid HAC2
          clear HAC2
          obtain ⟨A, hA⟩ : ∃ A, actR l K x (row (posR l K) j) = A := ⟨_, rfl⟩
          rw [hA] at HAC HDJ HAL
          obtain ⟨W0, hW0⟩ : ∃ W0, W0 = wr := ⟨_, rfl⟩
          subst hW0
          clear hww hA
          rcases hd : D j with _ | _
          · have HKS : Hid (kept D (j + 1) = kept D j ++ [j]) := by rw [Hid, kept_succ, hd]; rfl
            go_wp2_with fail
            refine wp_region_held_drew (S := (fun w' => Ext W0 w' ∧ (∀ b o, b < W0.heap.size → w'.cell? ⟨b, o, none⟩ = W0.cell? ⟨b, o, none⟩))) (by kernel_rfl) (ext2 (Ext.refl W0).drew) (fun hHeld => ?_)
            refine wpAnyH_take (i := 0) (v := ?v1) rfl (by kernel_rfl) (by kernel_rfl) (by kernel_rfl) (fun _ _ _ h => h) (Or.inl ⟨by rfl, ?hy1⟩) hHeld ?rest1
            case hy1 => (intro wz hSw; (try dsimp only at hSw); go_simp; (try with_reducible rfl))
            (try simp only [Act.put, List.getElem_toArray, List.getElem_cons_succ, List.getElem_cons_zero]); (try simp only [List.setIfInBounds_toArray]); (try simp only [List.set_cons_succ]); (try simp only [List.set_cons_zero])
            refine wpAnyH_take (i := 1) (v := ?v2) rfl (by kernel_rfl) (by kernel_rfl) (by kernel_rfl) (fun _ _ _ h => h) (Or.inl ⟨by rfl, ?hy2⟩) hHeld ?rest2
            case hy2 => (intro wz hSw; (try dsimp only at hSw); go_simp; (try with_reducible rfl))
            (try simp only [Act.put, List.getElem_toArray, List.getElem_cons_succ, List.getElem_cons_zero]); (try simp only [List.setIfInBounds_toArray]); (try simp only [List.set_cons_succ]); (try simp only [List.set_cons_zero])
            refine wpAnyH_take (i := 2) (v := ?v3) rfl (by kernel_rfl) (by kernel_rfl) (by kernel_rfl) (fun _ _ _ h => h) (Or.inl ⟨by rfl, ?hy3⟩) hHeld ?rest3
            case hy3 => (intro wz hSw; (try dsimp only at hSw); go_simp; (try with_reducible rfl))
            (try simp only [Act.put, List.getElem_toArray, List.getElem_cons_succ, List.getElem_cons_zero]); (try simp only [List.setIfInBounds_toArray]); (try simp only [List.set_cons_succ]); (try simp only [List.set_cons_zero])
            refine wpAnyH_take (i := 3) (v := ?v4) rfl (by kernel_rfl) (by kernel_rfl) (by kernel_rfl) (fun _ _ _ h => h) (Or.inl ⟨by rfl, ?hy4⟩) hHeld ?rest4
            case hy4 => (intro wz hSw; (try dsimp only at hSw); go_simp; (try with_reducible rfl))
            (try simp only [Act.put, List.getElem_toArray, List.getElem_cons_succ, List.getElem_cons_zero]); (try simp only [List.setIfInBounds_toArray]); (try simp only [List.set_cons_succ]); (try simp only [List.set_cons_zero])
            refine wpAnyH_take (i := 4) (v := ?v5) rfl (by kernel_rfl) (by kernel_rfl) (by kernel_rfl) (fun _ _ _ h => h) (Or.inl ⟨by rfl, ?hy5⟩) hHeld ?rest5
            case hy5 => (intro wz hSw; (try dsimp only at hSw); go_simp; (try with_reducible rfl))
            (try simp only [Act.put, List.getElem_toArray, List.getElem_cons_succ, List.getElem_cons_zero]); (try simp only [List.setIfInBounds_toArray]); (try simp only [List.set_cons_succ]); (try simp only [List.set_cons_zero])
            refine wpAnyH_take (i := 5) (v := ?v6) rfl (by kernel_rfl) (by kernel_rfl) (by kernel_rfl) (fun _ _ _ h => h) (Or.inl ⟨by rfl, ?hy6⟩) hHeld ?rest6
            case hy6 => (intro wz hSw; (try dsimp only at hSw); go_simp; (try with_reducible rfl))
            (try simp only [Act.put, List.getElem_toArray, List.getElem_cons_succ, List.getElem_cons_zero]); (try simp only [List.setIfInBounds_toArray]); (try simp only [List.set_cons_succ]); (try simp only [List.set_cons_zero])
            refine wpAnyH_ready (rs := [6]) (by kernel_rfl) (by simp) ?_
            refine AllReadyH.cons rfl (fun K' hK => ?_) AllReadyH.nil
            go_simp
            refine (HAC.out).mono ?_
            rintro e w6 ⟨b6, c6, rfl, hc6, hb61, hb62, hh6, hP6, h6⟩
            have Xw6 := (And.left hHeld).trans h6
            dsimp only
            refine hK.out _ _ (ext2 Xw6) (fun hHeld => ?_)
            clear hK
            refine wpAnyH_ready (rs := [7]) (by kernel_rfl) (by simp) ?_
            refine AllReadyH.cons rfl (fun K' hK => ?_) AllReadyH.nil
            go_simp
            refine (l5Positive_spec K c6 (some ⟨b6, 0, none⟩) A _ (hh6.reads HAL.out) (by omega)).mono ?_
            rintro e w7 ⟨rfl, h7⟩
            have h7 := h7.symm
            subst h7
            rw [HDJ.out, hd]
            dsimp only
            refine hK.out _ _ hHeld (fun hHeld => ?_)
            clear hK
            refine wpAnyH_take (i := 8) (v := ?v7) rfl (by kernel_rfl) (by kernel_rfl) (by kernel_rfl) (fun _ _ _ h => h) (Or.inl ⟨by rfl, ?hy7⟩) hHeld ?rest7
            case hy7 => (intro wz hSw; (try dsimp only at hSw); go_simp; (try with_reducible rfl))
            (try simp only [Act.put, List.getElem_toArray, List.getElem_cons_succ, List.getElem_cons_zero]); (try simp only [List.setIfInBounds_toArray]); (try simp only [List.set_cons_succ]); (try simp only [List.set_cons_zero])
            refine wpAnyH_done (by kernel_rfl) ?_ _
            have X6 := Lib.hid (And.left hHeld)
            have O6 := Lib.hid (ownsRow_ext hO.out X6.out)
            have E6 := Lib.hid (hX.out.trans X6.out)
            clear hHeld hh6 hP6 HAC hO Xw6 h6
            have cR6 := (HV.out.ext E6.out).cell hlt
            have lR6 := (HV.out.ext E6.out).lt
            have O7 := Lib.hid (ownsRow_ext O6.out ((Ext.refl w6).alloc (.cells #[(Value.slice (some ⟨Bk j, 0, none⟩) K (C j))] 22)))
            have S7 : Hid ((w6.alloc (.cells #[(Value.slice (some ⟨Bk j, 0, none⟩) K (C j))] 22)).cell? ⟨w6.heap.size, 0, none⟩ = some (Value.slice (some ⟨Bk j, 0, none⟩) K (C j))) := (cells_new w6 #[(Value.slice (some ⟨Bk j, 0, none⟩) K (C j))] 22).2 0 _ rfl
            have hs6 := E6.out.le
            clear lB q0 q1 cR lR HEr HBr
            go_wp2_with (at_builtin; refine wpList_append_own _ rfl (.tmp 30) (.tmp 35) 41 rfl w5.heap.size 22 i1 (.slice none 0 0) 1 24 Tryz.underlying41 hi1 hy0 hy1 hy2 rfl (by decide) (.slice va (kept D j).length cv) (kept D j).length ((kept D j).map fun i => (Value.slice (some ⟨Bk i, 0, none⟩) K (C i))) rfl O7.out ⟨w6.heap.size, 0, none⟩ 1 1 [(Value.slice (some ⟨Bk j, 0, none⟩) K (C j))] rfl rfl (one_news S7.out) (fun u hu => by rw [List.mem_singleton] at hu; subst hu; rfl) (by have := HNL.out; unfold maxLen; omega) (by have := HNL.out; omega) (by simp; omega) ?_)
            intro v8 w8 hO8 hg8 _
            have E8 : Hid (Ext w5 w8) := (E6.out.alloc _).grown hg8 (fun z hz => (World.ownsRow.lt O6.out z hz).1)
            have HLK : Hid ((kept D (j + 1)).length = (kept D j).length + 1) := by rw [Hid, HKS.out, List.length_append]; rfl
            obtain ⟨a8, c8, rfl⟩ := ownsRow_shape hO8
            have O8 : Hid (w8.ownsRow w5.heap.size 22 1 (.slice a8 (kept D (j + 1)).length c8) (kept D (j + 1)).length ((kept D (j + 1)).map fun i => (Value.slice (some ⟨Bk i, 0, none⟩) K (C i)))) := by
              rw [HLK.out, HKS.out, List.map_append]; exact hO8
            clear hO8 hg8 O7 S7 O6
            go_wp2
            exact ⟨⟨j + 1, c8, a8, by omega, by first | rfl | simp | trivial, by rw [HLK.out], O8, E8⟩, by (simp [intOf]) <;> omega⟩
          · have HKS : Hid (kept D (j + 1) = kept D j) := by rw [Hid, kept_succ, hd]; rfl
            go_wp2_with fail
            refine wp_region_held_drew (S := (fun w' => Ext W0 w' ∧ (∀ b o, b < W0.heap.size → w'.cell? ⟨b, o, none⟩ = W0.cell? ⟨b, o, none⟩))) (by kernel_rfl) (ext2 (Ext.refl W0).drew) (fun hHeld => ?_)
            refine wpAnyH_take (i := 0) (v := ?v8) rfl (by kernel_rfl) (by kernel_rfl) (by kernel_rfl) (fun _ _ _ h => h) (Or.inl ⟨by rfl, ?hy8⟩) hHeld ?rest8
            case hy8 => (intro wz hSw; (try dsimp only at hSw); go_simp; (try with_reducible rfl))
            (try simp only [Act.put, List.getElem_toArray, List.getElem_cons_succ, List.getElem_cons_zero]); (try simp only [List.setIfInBounds_toArray]); (try simp only [List.set_cons_succ]); (try simp only [List.set_cons_zero])
            refine wpAnyH_take (i := 1) (v := ?v9) rfl (by kernel_rfl) (by kernel_rfl) (by kernel_rfl) (fun _ _ _ h => h) (Or.inl ⟨by rfl, ?hy9⟩) hHeld ?rest9
            case hy9 => (intro wz hSw; (try dsimp only at hSw); go_simp; (try with_reducible rfl))
            (try simp only [Act.put, List.getElem_toArray, List.getElem_cons_succ, List.getElem_cons_zero]); (try simp only [List.setIfInBounds_toArray]); (try simp only [List.set_cons_succ]); (try simp only [List.set_cons_zero])
            refine wpAnyH_take (i := 2) (v := ?v10) rfl (by kernel_rfl) (by kernel_rfl) (by kernel_rfl) (fun _ _ _ h => h) (Or.inl ⟨by rfl, ?hy10⟩) hHeld ?rest10
            case hy10 => (intro wz hSw; (try dsimp only at hSw); go_simp; (try with_reducible rfl))
            (try simp only [Act.put, List.getElem_toArray, List.getElem_cons_succ, List.getElem_cons_zero]); (try simp only [List.setIfInBounds_toArray]); (try simp only [List.set_cons_succ]); (try simp only [List.set_cons_zero])
            refine wpAnyH_take (i := 3) (v := ?v11) rfl (by kernel_rfl) (by kernel_rfl) (by kernel_rfl) (fun _ _ _ h => h) (Or.inl ⟨by rfl, ?hy11⟩) hHeld ?rest11
            case hy11 => (intro wz hSw; (try dsimp only at hSw); go_simp; (try with_reducible rfl))
            (try simp only [Act.put, List.getElem_toArray, List.getElem_cons_succ, List.getElem_cons_zero]); (try simp only [List.setIfInBounds_toArray]); (try simp only [List.set_cons_succ]); (try simp only [List.set_cons_zero])
            refine wpAnyH_take (i := 4) (v := ?v12) rfl (by kernel_rfl) (by kernel_rfl) (by kernel_rfl) (fun _ _ _ h => h) (Or.inl ⟨by rfl, ?hy12⟩) hHeld ?rest12
            case hy12 => (intro wz hSw; (try dsimp only at hSw); go_simp; (try with_reducible rfl))
            (try simp only [Act.put, List.getElem_toArray, List.getElem_cons_succ, List.getElem_cons_zero]); (try simp only [List.setIfInBounds_toArray]); (try simp only [List.set_cons_succ]); (try simp only [List.set_cons_zero])
            refine wpAnyH_take (i := 5) (v := ?v13) rfl (by kernel_rfl) (by kernel_rfl) (by kernel_rfl) (fun _ _ _ h => h) (Or.inl ⟨by rfl, ?hy13⟩) hHeld ?rest13
            case hy13 => (intro wz hSw; (try dsimp only at hSw); go_simp; (try with_reducible rfl))
            (try simp only [Act.put, List.getElem_toArray, List.getElem_cons_succ, List.getElem_cons_zero]); (try simp only [List.setIfInBounds_toArray]); (try simp only [List.set_cons_succ]); (try simp only [List.set_cons_zero])
            refine wpAnyH_ready (rs := [6]) (by kernel_rfl) (by simp) ?_
            refine AllReadyH.cons rfl (fun K' hK => ?_) AllReadyH.nil
            go_simp
            refine (HAC.out).mono ?_
            rintro e w6 ⟨b6, c6, rfl, hc6, hb61, hb62, hh6, hP6, h6⟩
            have Xw6 := (And.left hHeld).trans h6
            dsimp only
            refine hK.out _ _ (ext2 Xw6) (fun hHeld => ?_)
            clear hK
            refine wpAnyH_ready (rs := [7]) (by kernel_rfl) (by simp) ?_
            refine AllReadyH.cons rfl (fun K' hK => ?_) AllReadyH.nil
            go_simp
            refine (l5Positive_spec K c6 (some ⟨b6, 0, none⟩) A _ (hh6.reads HAL.out) (by omega)).mono ?_
            rintro e w7 ⟨rfl, h7⟩
            have h7 := h7.symm
            subst h7
            rw [HDJ.out, hd]
            dsimp only
            refine hK.out _ _ hHeld (fun hHeld => ?_)
            clear hK
            refine wpAnyH_take (i := 8) (v := ?v14) rfl (by kernel_rfl) (by kernel_rfl) (by kernel_rfl) (fun _ _ _ h => h) (Or.inl ⟨by rfl, ?hy14⟩) hHeld ?rest14
            case hy14 => (intro wz hSw; (try dsimp only at hSw); go_simp; (try with_reducible rfl))
            (try simp only [Act.put, List.getElem_toArray, List.getElem_cons_succ, List.getElem_cons_zero]); (try simp only [List.setIfInBounds_toArray]); (try simp only [List.set_cons_succ]); (try simp only [List.set_cons_zero])
            refine wpAnyH_done (by kernel_rfl) ?_ _
            have X6 := Lib.hid (And.left hHeld)
            have O6 := Lib.hid (ownsRow_ext hO.out X6.out)
            have E6 := Lib.hid (hX.out.trans X6.out)
            clear hHeld hh6 hP6 HAC hO Xw6 h6
            rw [← HKS.out] at O6
            clear lB q0 q1 cR lR HEr HBr
            go_wp2
            exact ⟨⟨j + 1, cv, va, by omega, by first | rfl | simp | trivial, by rw [HKS.out], O6, E6⟩, by (simp [intOf]) <;> omega⟩
        · obtain rfl : N = j := by omega
          have hk := kept_le D N
          have hpl := HPL.out
          have HEr := Lib.hid (HE5.out.trans hX.out)
          have hle5 := HE5.out.le
          have HRR : Hid (∃ a c, (Value.slice va (kept D N).length cv) = .slice a (kept D N).length c ∧ RowsR wr w.heap.size wr.heap.size a (kept D N).length ((kept D N).map (row (posR l K)))) := by
            rcases hO.out.2 with ⟨e1, e2⟩ | ⟨g9, cap9, cur9, e1, hb9, hg9, hn9, hc9, hcs9, htk9⟩
            · refine ⟨va, cv, rfl, ?_⟩
              have e3 : kept D N = [] := List.eq_nil_of_length_eq_zero e2
              rw [e3]; exact rowsR_nil _ _ _ _
            · refine ⟨some ⟨g9, 0, none⟩, cap9, e1, ?_⟩
              refine rows_sel (K := K) (N := N) (Bk := Bk) (C := C) ⟨cur9, hg9, by omega, fun q hq => ?_⟩ rfl (fun q hq => kept_mem hq) (kept_nodup _ _) (fun i hi => ⟨(HRW.out i hi).1.ext hX.out, by have := (HRW.out i hi).2; omega⟩) HRL.out HDI.out (by omega) hK4 (by omega)
              have e : (cur9.toList.take ((kept D N).length * 1))[q]? = ((kept D N).map fun i => (Value.slice (some ⟨Bk i, 0, none⟩) K (C i)))[q]? := by rw [htk9]
              rw [List.getElem?_take, if_pos (by omega), Array.getElem?_toList] at e
              rw [e]
              simp [List.getD_eq_getElem?_getD, hq]
          go_wp2
          go_ret
          obtain ⟨a9, c9, e9, h9⟩ := HRR.out
          injection e9 with e1 e2 e3
          subst e1
          exact ⟨_, rfl, ⟨_, _, _, rfl, by rw [HF.out]; exact h9, by omega⟩, HEr.out⟩
end Go.Proofs.YthhgodjobddenaaGreat
