/-
  Root systems wrapped, roots recognized; in both texts.
-/
import Derived.Test.YtinoaldfdcddiaaGreatGs5
import Derived.Test.YtinoaldfdcddiaaGreatCrg
namespace Go.Proofs.YtinoaldfdcddiaaGreat
open Go.ChangeShapes Go.WideShapes Go.ChangeAt Go.RowKit
set_option linter.unusedVariables false
set_option linter.unusedSimpArgs false

/-- Numbers of 64 bits. -/
def Wf5 (xs : List Int) : Prop := ∀ e, -9223372036854775808 ≤ gi xs e ∧ gi xs e ≤ 9223372036854775807
def negW (xs : List Int) : List Int := xs.map fun n => IntKind.i64.wrap (-n)
theorem negW_length (xs : List Int) : (negW xs).length = xs.length := by simp [negW]
theorem gi_negW {xs : List Int} {k : Nat} (h : k < xs.length) : gi (negW xs) k = IntKind.i64.wrap (- gi xs k) := by
  simp [gi, negW, h]
/-- A list or the opposite one is among these. -/
def irB (L : List (List Int)) (x : List Int) : Bool := L.contains x || L.contains (negL x)
theorem wrap_neg {t : Int} (h1 : -9223372036854775808 ≤ t) (h2 : t ≤ 9223372036854775807) (h : 0 ≤ IntKind.i64.wrap (-t)) : IntKind.i64.wrap (-t) = -t := by
  by_cases e : t = -9223372036854775808
  · subst e; exact absurd h (by decide)
  · exact IntWalk.i64_in _ ⟨by omega, by omega⟩
theorem negW_in {L : List (List Int)} {x : List Int} (hL : ∀ r, r ∈ L → ∀ e, 0 ≤ gi r e ∧ gi r e ≤ 6) (hx : Wf5 x) : L.contains (negW x) = L.contains (negL x) := by
  have key : ∀ r, r ∈ L → (r = negW x ↔ r = negL x) := fun r hr => by
    constructor
    · intro e
      rw [e]
      apply List.ext_getElem
      · simp [negW, negL]
      · intro i h1 h2
        have hi : i < x.length := by simpa [negW] using h1
        have h3 := hL r hr i
        rw [e, gi_negW hi] at h3
        have h4 := wrap_neg (hx i).1 (hx i).2 h3.1
        simp only [negW, negL, List.getElem_map]
        rw [show gi x i = x[i] by simp [gi, hi]] at h4
        exact h4
    · intro e
      rw [e]
      apply List.ext_getElem
      · simp [negW, negL]
      · intro i h1 h2
        have hi : i < x.length := by simpa [negL] using h1
        have h3 := hL r hr i
        rw [e, gi_negL] at h3
        simp only [negW, negL, List.getElem_map]
        rw [show gi x i = x[i] by simp [gi, hi]] at h3
        exact (IntWalk.i64_in _ ⟨by omega, by omega⟩).symm
  rcases h1 : L.contains (negL x) with _ | _
  · rcases h2 : L.contains (negW x) with _ | _
    · rfl
    · rw [List.contains_iff_mem] at h2
      have h3 := (key _ h2).1 rfl
      rw [h3, ← List.contains_iff_mem] at h2
      rw [h1] at h2; cases h2
  · rw [List.contains_iff_mem] at h1 ⊢
    have h3 := (key _ h1).2 rfl
    rw [← h3]; exact h1
theorem irB_lat {K : Nat} {L : List (List Int)} {x : List Int} (hL : ∀ r, r ∈ L → r.length = K ∧ ∀ e, 0 ≤ gi r e ∧ gi r e ≤ 6) (h : irB L x = true) : latB K x = true ∧ x.length = K ∧ ∀ e, -6 ≤ gi x e ∧ gi x e ≤ 6 := by
  have h2 : x.length = K ∧ ∀ e, -6 ≤ gi x e ∧ gi x e ≤ 6 := by
    rw [irB, Bool.or_eq_true, List.contains_iff_mem, List.contains_iff_mem] at h
    rcases h with h | h
    · have := hL _ h; exact ⟨this.1, fun e => by have := this.2 e; omega⟩
    · have := hL _ h
      rw [negL_length] at this
      exact ⟨this.1, fun e => by have := this.2 e; rw [gi_negL] at this; omega⟩
  exact ⟨latB_yes h2.1 (fun e _ => by have := h2.2 e; omega), h2⟩
theorem StrR.ext5 {w w' : World} {a : Option Addr} {n : Nat} {ss : List ByteArray} (h : StrR w a n ss) (hE : Ext w w') : StrR w' a n ss := by
  refine ⟨h.1, ?_⟩
  rcases h.2 with h2 | ⟨g, e, hg, hc⟩
  · exact .inl h2
  · exact .inr ⟨g, e, Nat.lt_of_lt_of_le hg hE.le, fun j hj => (hE.cells g j hg).trans (hc j hj)⟩
theorem Wrapped.step5 {W w w' : World} {B LB R : Nat} {da : Value} {ns : List Nat} {ls : List Int} (h : Wrapped W w B LB R da ns ls) (hE : Ext w w') : Wrapped W w' B LB R da ns ls := by
  obtain ⟨⟨a, n, c, h1, h2⟩, h3, h4, h5, h6, h7⟩ := h
  exact ⟨⟨a, n, c, h1.ext hE, h2.ext5 hE⟩, h3.ext hE, h4.trans hE, h5, h6, h7⟩
theorem Wrapped.low5 {V W w : World} {B LB R : Nat} {da : Value} {ns : List Nat} {ls : List Int} (h : Wrapped W w B LB R da ns ls) (hE : Ext V W) : Wrapped V w B LB R da ns ls :=
  ⟨h.box, h.len, hE.trans h.ext, Nat.le_trans hE.le h.loB, Nat.le_trans hE.le h.loL, h.neL⟩
theorem RowsP.low {w : World} {lo lo' : Nat} {v : Value} {L : List (List Int)} (h : RowsP w lo v L) (hl : lo' ≤ lo) : RowsP w lo' v L := by
  obtain ⟨us, B, h1, h2, h3, h4⟩ := h
  refine ⟨us, B, ownsRow_low h1 hl, h2, fun i hi => ?_, h4⟩
  obtain ⟨c, x0, h6⟩ := h3 i hi
  exact ⟨c, x0, h6.mono hl (Nat.le_refl _)⟩
theorem RowsP.rd {w : World} {lo : Nat} {v : Value} {L : List (List Int)} (h : RowsP w lo v L) (h0 : 0 < L.length) : ∃ g cap, v = .slice (some ⟨g, 0, none⟩) L.length cap ∧ RdR w g L ∧ lo ≤ g ∧ ∀ i, i < L.length → ∃ b c, w.cell? ⟨g, i, none⟩ = some (.slice (some ⟨b, 0, none⟩) (row L i).length c) ∧ Own w lo w.heap.size (some ⟨b, 0, none⟩) (row L i).length (row L i) := by
  obtain ⟨us, B, h1, h2, h3, h4⟩ := h
  rcases h1.2 with ⟨e1, e2⟩ | ⟨g, cap, cur, e1, hb, hg, hn, hc, hcs, htk⟩
  · omega
  · have key : ∀ i, i < L.length → ∃ b c, w.cell? ⟨g, i, none⟩ = some (.slice (some ⟨b, 0, none⟩) (row L i).length c) ∧ Own w lo w.heap.size (some ⟨b, 0, none⟩) (row L i).length (row L i) := fun i hi => by
      obtain ⟨c, x0, h6⟩ := h3 i hi
      refine ⟨B i, c, ?_, h6⟩
      rw [cell_of_row w g i _ _ _ hg, ← Array.getElem?_toList]
      have : (cur.toList.take (L.length * 1))[i]? = us[i]? := by rw [htk]
      rw [List.getElem?_take, if_pos (by omega)] at this
      rw [this, x0]
    refine ⟨g, cap, e1, ⟨(Array.getElem?_eq_some_iff.1 hg).1, fun i hi => ?_⟩, hb, key⟩
    obtain ⟨b, c, h5, h6⟩ := key i hi
    exact ⟨b, c, h5, h6.reads⟩
/-- A wrapped root system. -/
structure RSys (W w : World) (S B LB K : Nat) (da : Value) (ns : List Nat) (ls : List Int) (g c : Nat) (L : List (List Int)) : Prop where
  box : Cells w S [.pointer (some ⟨B, 0, none⟩), .slice (some ⟨g, 0, none⟩) L.length c]
  wr : Wrapped W w B LB K da ns ls
  own : RowsP w W.heap.size (.slice (some ⟨g, 0, none⟩) L.length c) L
  rd : RdR w g L
theorem RSys.step {W w w' : World} {S B LB K : Nat} {da : Value} {ns : List Nat} {ls : List Int} {g c : Nat} {L : List (List Int)} (h : RSys W w S B LB K da ns ls g c L) (hE : Ext w w') : RSys W w' S B LB K da ns ls g c L :=
  ⟨h.box.ext hE, h.wr.step5 hE, h.own.ext hE, h.rd.ext hE⟩
theorem RSys.low {V W w : World} {S B LB K : Nat} {da : Value} {ns : List Nat} {ls : List Int} {g c : Nat} {L : List (List Int)} (h : RSys W w S B LB K da ns ls g c L) (hE : Ext V W) : RSys V w S B LB K da ns ls g c L :=
  ⟨h.box, h.wr.low5 hE, h.own.low hE.le, h.rd⟩
/-- What is known of the roots of a Cartan matrix. -/
theorem posR_all {xs ls : List Int} {K : Nat} (hK : K ≤ 4) (hK1 : 1 ≤ K) (h : RootsOk xs ls K) : (∀ r, r ∈ posR xs K → r.length = K ∧ ∀ e, 0 ≤ gi r e ∧ gi r e ≤ 6) ∧ 0 < (posR xs K).length ∧ (posR xs K).length ≤ 24 ∧ (posR xs K).flatten.length ≤ 1048576 ∧ ∀ i, i < (posR xs K).length → (row (posR xs K) i).length ≤ 1024 := by
  have h1 : ∀ r, r ∈ posR xs K → r.length = K ∧ ∀ e, 0 ≤ gi r e ∧ gi r e ≤ 6 := fun r hr => posR_row h hr
  have h2 := posR_len h
  have h3 := fullR_len h
  refine ⟨h1, by omega, by omega, ?_, fun i hi => by rw [(h1 _ (row_mem hi)).1]; omega⟩
  have key : ∀ M : List (List Int), (∀ r, r ∈ M → r.length = K) → M.flatten.length = M.length * K := by
    intro M
    induction M with
    | nil => intro _; simp
    | cons a t ih =>
      intro hm
      rw [List.flatten_cons, List.length_append, ih (fun r hr => hm r (List.mem_cons_of_mem _ hr)), hm a List.mem_cons_self, List.length_cons, Nat.add_mul, Nat.one_mul, Nat.add_comm]
  rw [key _ (fun r hr => (h1 r hr).1)]
  have : (posR xs K).length * K ≤ 24 * 4 := Nat.mul_le_mul (by omega) hK
  omega

set_option maxRecDepth 100000 in
set_option maxHeartbeats 1600000 in
theorem negated_gen (n c : Nat) (a : Option Addr) (xs : List Int) (w : World) (hr : Reads w a n xs) (hn : n ≤ 1048576) :
    Calls Tryz.prog 57 #[.slice a n c] w fun e w' => ∃ b, e = .returned (.slice (some ⟨b, 0, none⟩) n n) ∧ w.heap.size ≤ b ∧ b < w'.heap.size ∧ Has w' b (negW xs) ∧ Ext w w' := by
  have HR := Lib.hid hr
  have HL : Hid ((negW xs).length = n) := by rw [Hid, negW_length]; exact hr.len
  have HXL := Lib.hid hr.len
  have HST : Hid (∀ k, k < n → (mixL (negW xs) n k).set k (IntKind.i64.wrap (- gi xs k)) = mixL (negW xs) n (k + 1)) := fun k hk => by rw [← gi_negW (by rw [hr.len]; exact hk)]; exact mixL_step hk
  have HD := Lib.hid (mixL_done HL.out)
  have HML : Hid (∀ k, k ≤ n → (mixL (negW xs) n k).length = n) := fun k hk => mixL_len
  have hmk := make_ints n (by omega)
  have H0 : Hid (Has (w.alloc (.cells (ints (List.replicate n 0)) 3)) w.heap.size (mixL (negW xs) n 0)) := by rw [mixL_zero]; exact Has.new w _
  have E0 : Hid (Ext w (w.alloc (.cells (ints (List.replicate n 0)) 3))) := (Ext.refl w).alloc _
  clear hr
  go_enter Tryz.func57, Tryz.ntmps57
  go_wp2
  clear hmk
  go_loopw [11, 4, 5] (fun z _ _ wr => ∃ k : Nat, k ≤ n ∧ z = .int .i64 k ∧ Hid (Has wr w.heap.size (mixL (negW xs) n k)) ∧ Hid (Ext w wr)) (fun z _ _ _ => n - (intOf z).toNat)
  case atStart => exact ⟨0, by omega, rfl, H0, E0⟩
  case round =>
    obtain ⟨k, hk, rfl, hH, hE⟩ := hrel
    by_cases hlt : k < n
    · obtain ⟨b, off, rfl, hbl, hc⟩ := reads5 HR.out (by omega)
      have hc1 := (hE.out.cells b (off + k) hbl).trans (hc k hlt)
      have lb := Nat.lt_of_lt_of_le hbl hE.out.le
      have c2 := hH.out.cell k (by rw [HML.out k hk]; exact hlt)
      have f2 := hH.out.free k
      have l2 := hH.out.lt
      obtain ⟨t, ht⟩ : ∃ t, IntKind.i64.wrap (- gi xs k) = t := ⟨_, rfl⟩
      have HH2 : Hid (Has (wr.setCell ⟨w.heap.size, k, none⟩ (.int .i64 t)) w.heap.size (mixL (negW xs) n (k + 1))) := by rw [← ht, ← HST.out k hlt]; exact hH.out.set k (by rw [HML.out k hk]; exact hlt) _
      have HE2 : Hid (Ext w (wr.setCell ⟨w.heap.size, k, none⟩ (.int .i64 t))) := hE.out.setCell (p := ⟨w.heap.size, k, none⟩) (Nat.le_refl _) _
      have hltI : (k : Int) < (n : Int) := by omega
      clear hc hH hE
      generalize gi xs k = x at *
      go_wp2
      exact ⟨⟨k + 1, by omega, by simp, HH2, HE2⟩, by simp [intOf]; omega⟩
    · obtain rfl : n = k := by omega
      rw [HD.out] at hH
      go_wp2
      go_ret
      exact ⟨_, rfl, Nat.le_refl _, hH.out.lt, hH.out, hE.out⟩

set_option maxRecDepth 100000 in
set_option maxHeartbeats 3200000 in
theorem isRoot_impl (S g c n cx : Nat) (pB : Value) (ax : Option Addr) (L : List (List Int)) (x : List Int) (w : World) (hS : Cells w S [pB, .slice (some ⟨g, 0, none⟩) L.length c]) (hR : RdR w g L) (hmm : L.length ≤ 1024) (hL : ∀ r, r ∈ L → ∀ e, 0 ≤ gi r e ∧ gi r e ≤ 6) (hrl : ∀ i, i < L.length → (row L i).length ≤ 1024) (hx : Reads w ax n x) (hn : n ≤ 1048576) (hwf : Wf5 x) :
    Calls Tryz.prog 44 #[.pointer (some ⟨S, 0, none⟩), .slice ax n cx] w fun e w' => e = .returned (.bool (irB L x)) ∧ Ext w w' := by
  have HC1 := Lib.hid (fun w1 (h : Ext w w1) => containsList_impl g L.length c n cx ax L x w1 (hR.ext h) rfl hmm hrl (hx.ext h) hn)
  have HNG := Lib.hid (fun w1 (h : Ext w w1) => negated_gen n cx ax x w1 (hx.ext h) hn)
  have HC2 : Hid (∀ w1 b, Ext w w1 → Has w1 b (negW x) → Calls Tryz.prog 69 #[.slice (some ⟨g, 0, none⟩) L.length c, .slice (some ⟨b, 0, none⟩) n n] w1 fun e w' => e = .returned (.bool (L.contains (negL x))) ∧ Ext w1 w') := fun w1 b h hb => by
    rw [← negW_in hL hwf]
    exact containsList_impl g L.length c n n _ L (negW x) w1 (hR.ext h) rfl hmm hrl (hb.reads (by rw [negW_length]; exact hx.len)) hn
  have HIR : Hid (irB L x = (L.contains x || L.contains (negL x))) := rfl
  obtain ⟨q1, hq1⟩ : ∃ q, L.contains x = q := ⟨_, rfl⟩
  obtain ⟨q2, hq2⟩ : ∃ q, L.contains (negL x) = q := ⟨_, rfl⟩
  rw [hq1, hq2] at HIR
  rw [hq1] at HC1
  rw [hq2] at HC2
  obtain ⟨q3, hq3⟩ : ∃ q, irB L x = q := ⟨_, rfl⟩
  rw [hq3] at HIR ⊢
  have lS := hS.1
  have q1' := hS.2 1 _ rfl
  clear hS hR hrl hx hwf hL hq1 hq2 hq3
  cases q1 with
  | true =>
    have HF : Hid (q3 = true) := by rw [Hid, HIR.out]; rfl
    go_enter Tryz.func44, Tryz.ntmps44
    go_wp2_with fail
    refine wp_region_held_drew (S := (fun w' => Ext w w' ∧ (∀ b o, b < w.heap.size → w'.cell? ⟨b, o, none⟩ = w.cell? ⟨b, o, none⟩))) (by kernel_rfl) (ext2 (Ext.refl w).drew) (fun hHeld => ?_)
    refine wpAnyH_take (i := 0) (v := ?v1) rfl (by kernel_rfl) (by kernel_rfl) (by kernel_rfl) (fun _ _ _ h => h) (Or.inl ⟨by rfl, ?hy1⟩) hHeld ?rest1
    case hy1 => (intro wz hSw; (try dsimp only at hSw); go_simp; (try with_reducible rfl))
    (try simp only [Act.put, List.getElem_toArray, List.getElem_cons_succ, List.getElem_cons_zero]); (try simp only [List.setIfInBounds_toArray]); (try simp only [List.set_cons_succ]); (try simp only [List.set_cons_zero])
    refine wpAnyH_take (i := 1) (v := ?v2) rfl (by kernel_rfl) (by kernel_rfl) (by kernel_rfl) (fun _ _ _ h => h) (Or.inl ⟨by rfl, ?hy2⟩) hHeld ?rest2
    case hy2 => (intro wz hSw; (try dsimp only at hSw); go_simp; (try with_reducible rfl))
    (try simp only [Act.put, List.getElem_toArray, List.getElem_cons_succ, List.getElem_cons_zero]); (try simp only [List.setIfInBounds_toArray]); (try simp only [List.set_cons_succ]); (try simp only [List.set_cons_zero])
    refine wpAnyH_take (i := 2) (v := ?v3) rfl (by kernel_rfl) (by kernel_rfl) (by kernel_rfl) (fun _ _ _ h => h) (Or.inl ⟨by rfl, ?hy3⟩) hHeld ?rest3
    case hy3 => (intro wz hSw; (try dsimp only at hSw); go_simp; (try with_reducible rfl))
    (try simp only [Act.put, List.getElem_toArray, List.getElem_cons_succ, List.getElem_cons_zero]); (try simp only [List.setIfInBounds_toArray]); (try simp only [List.set_cons_succ]); (try simp only [List.set_cons_zero])
    refine wpAnyH_take (i := 3) (v := ?v4) rfl (by kernel_rfl) (by kernel_rfl) (by kernel_rfl) (fun _ _ _ h => h) (Or.inl ⟨by rfl, ?hy4⟩) hHeld ?rest4
    case hy4 => (intro wz hSw; (try dsimp only at hSw); go_simp; (try with_reducible rfl))
    (try simp only [Act.put, List.getElem_toArray, List.getElem_cons_succ, List.getElem_cons_zero]); (try simp only [List.setIfInBounds_toArray]); (try simp only [List.set_cons_succ]); (try simp only [List.set_cons_zero])
    refine wpAnyH_take (i := 4) (v := ?v5) rfl (by kernel_rfl) (by kernel_rfl) (by kernel_rfl) (fun _ _ _ h => h) (Or.inl ⟨by rfl, ?hy5⟩) hHeld ?rest5
    case hy5 => (intro wz hSw; (try dsimp only at hSw); go_simp; (try with_reducible rfl))
    (try simp only [Act.put, List.getElem_toArray, List.getElem_cons_succ, List.getElem_cons_zero]); (try simp only [List.setIfInBounds_toArray]); (try simp only [List.set_cons_succ]); (try simp only [List.set_cons_zero])
    refine wpAnyH_ready (rs := [5]) (by kernel_rfl) (by simp) ?_
    refine AllReadyH.cons rfl (fun K' hK => ?_) AllReadyH.nil
    go_simp
    refine (HC1.out _ (And.left hHeld)).mono ?_
    rintro e w2 ⟨rfl, hw2⟩
    have Xw2 := (And.left hHeld).trans hw2
    dsimp only
    refine hK.out _ _ (ext2 Xw2) (fun hHeld => ?_)
    clear hK
    refine wpAnyH_take (i := 6) (v := ?v6) rfl (by kernel_rfl) (by kernel_rfl) (by kernel_rfl) (fun _ _ _ h => h) (Or.inl ⟨by rfl, ?hy6⟩) hHeld ?rest6
    case hy6 => (intro wz hSw; (try dsimp only at hSw); go_simp; (try with_reducible rfl))
    (try simp only [Act.put, List.getElem_toArray, List.getElem_cons_succ, List.getElem_cons_zero]); (try simp only [List.setIfInBounds_toArray]); (try simp only [List.set_cons_succ]); (try simp only [List.set_cons_zero])
    refine wpAnyH_take (i := 7) (v := undef) rfl (by kernel_rfl) (by kernel_rfl) (by kernel_rfl) (fun _ _ _ h => h) (Or.inr ⟨by rfl, rfl⟩) hHeld ?rest7
    (try simp only [Act.put, List.getElem_toArray, List.getElem_cons_succ, List.getElem_cons_zero]); (try simp only [List.setIfInBounds_toArray]); (try simp only [List.set_cons_succ]); (try simp only [List.set_cons_zero])
    refine wpAnyH_take (i := 8) (v := undef) rfl (by kernel_rfl) (by kernel_rfl) (by kernel_rfl) (fun _ _ _ h => h) (Or.inr ⟨by rfl, rfl⟩) hHeld ?rest8
    (try simp only [Act.put, List.getElem_toArray, List.getElem_cons_succ, List.getElem_cons_zero]); (try simp only [List.setIfInBounds_toArray]); (try simp only [List.set_cons_succ]); (try simp only [List.set_cons_zero])
    refine wpAnyH_take (i := 9) (v := undef) rfl (by kernel_rfl) (by kernel_rfl) (by kernel_rfl) (fun _ _ _ h => h) (Or.inr ⟨by rfl, rfl⟩) hHeld ?rest9
    (try simp only [Act.put, List.getElem_toArray, List.getElem_cons_succ, List.getElem_cons_zero]); (try simp only [List.setIfInBounds_toArray]); (try simp only [List.set_cons_succ]); (try simp only [List.set_cons_zero])
    refine wpAnyH_take (i := 10) (v := undef) rfl (by kernel_rfl) (by kernel_rfl) (by kernel_rfl) (fun _ _ _ h => h) (Or.inr ⟨by rfl, rfl⟩) hHeld ?rest10
    (try simp only [Act.put, List.getElem_toArray, List.getElem_cons_succ, List.getElem_cons_zero]); (try simp only [List.setIfInBounds_toArray]); (try simp only [List.set_cons_succ]); (try simp only [List.set_cons_zero])
    refine wpAnyH_take (i := 11) (v := undef) rfl (by kernel_rfl) (by kernel_rfl) (by kernel_rfl) (fun _ _ _ h => h) (Or.inr ⟨by rfl, rfl⟩) hHeld ?rest11
    (try simp only [Act.put, List.getElem_toArray, List.getElem_cons_succ, List.getElem_cons_zero]); (try simp only [List.setIfInBounds_toArray]); (try simp only [List.set_cons_succ]); (try simp only [List.set_cons_zero])
    refine wpAnyH_take (i := 12) (v := undef) rfl (by kernel_rfl) (by kernel_rfl) (by kernel_rfl) (fun _ _ _ h => h) (Or.inr ⟨by rfl, rfl⟩) hHeld ?rest12
    (try simp only [Act.put, List.getElem_toArray, List.getElem_cons_succ, List.getElem_cons_zero]); (try simp only [List.setIfInBounds_toArray]); (try simp only [List.set_cons_succ]); (try simp only [List.set_cons_zero])
    refine wpAnyH_take (i := 13) (v := undef) rfl (by kernel_rfl) (by kernel_rfl) (by kernel_rfl) (fun _ _ _ h => h) (Or.inr ⟨by rfl, rfl⟩) hHeld ?rest13
    (try simp only [Act.put, List.getElem_toArray, List.getElem_cons_succ, List.getElem_cons_zero]); (try simp only [List.setIfInBounds_toArray]); (try simp only [List.set_cons_succ]); (try simp only [List.set_cons_zero])
    refine wpAnyH_take (i := 14) (v := ?v14) rfl (by kernel_rfl) (by kernel_rfl) (by kernel_rfl) (fun _ _ _ h => h) (Or.inl ⟨by rfl, ?hy14⟩) hHeld ?rest14
    case hy14 => (intro wz hSw; (try dsimp only at hSw); go_simp; (try with_reducible rfl))
    (try simp only [Act.put, List.getElem_toArray, List.getElem_cons_succ, List.getElem_cons_zero]); (try simp only [List.setIfInBounds_toArray]); (try simp only [List.set_cons_succ]); (try simp only [List.set_cons_zero])
    refine wpAnyH_take (i := 15) (v := ?v15) rfl (by kernel_rfl) (by kernel_rfl) (by kernel_rfl) (fun _ _ _ h => h) (Or.inl ⟨by rfl, ?hy15⟩) hHeld ?rest15
    case hy15 => (intro wz hSw; (try dsimp only at hSw); go_simp; (try with_reducible rfl))
    (try simp only [Act.put, List.getElem_toArray, List.getElem_cons_succ, List.getElem_cons_zero]); (try simp only [List.setIfInBounds_toArray]); (try simp only [List.set_cons_succ]); (try simp only [List.set_cons_zero])
    refine wpAnyH_done (by kernel_rfl) ?_ _
    have X9 := And.left hHeld
    clear hHeld
    go_wp2
    go_ret
    exact ⟨ret_bool HF.out.symm, X9⟩
  | false =>
    have HF : Hid (q3 = q2) := by rw [Hid, HIR.out]; rfl
    go_enter Tryz.func44, Tryz.ntmps44
    go_wp2_with fail
    refine wp_region_held_drew (S := (fun w' => Ext w w' ∧ (∀ b o, b < w.heap.size → w'.cell? ⟨b, o, none⟩ = w.cell? ⟨b, o, none⟩))) (by kernel_rfl) (ext2 (Ext.refl w).drew) (fun hHeld => ?_)
    refine wpAnyH_take (i := 0) (v := ?v16) rfl (by kernel_rfl) (by kernel_rfl) (by kernel_rfl) (fun _ _ _ h => h) (Or.inl ⟨by rfl, ?hy16⟩) hHeld ?rest16
    case hy16 => (intro wz hSw; (try dsimp only at hSw); go_simp; (try with_reducible rfl))
    (try simp only [Act.put, List.getElem_toArray, List.getElem_cons_succ, List.getElem_cons_zero]); (try simp only [List.setIfInBounds_toArray]); (try simp only [List.set_cons_succ]); (try simp only [List.set_cons_zero])
    refine wpAnyH_take (i := 1) (v := ?v17) rfl (by kernel_rfl) (by kernel_rfl) (by kernel_rfl) (fun _ _ _ h => h) (Or.inl ⟨by rfl, ?hy17⟩) hHeld ?rest17
    case hy17 => (intro wz hSw; (try dsimp only at hSw); go_simp; (try with_reducible rfl))
    (try simp only [Act.put, List.getElem_toArray, List.getElem_cons_succ, List.getElem_cons_zero]); (try simp only [List.setIfInBounds_toArray]); (try simp only [List.set_cons_succ]); (try simp only [List.set_cons_zero])
    refine wpAnyH_take (i := 2) (v := ?v18) rfl (by kernel_rfl) (by kernel_rfl) (by kernel_rfl) (fun _ _ _ h => h) (Or.inl ⟨by rfl, ?hy18⟩) hHeld ?rest18
    case hy18 => (intro wz hSw; (try dsimp only at hSw); go_simp; (try with_reducible rfl))
    (try simp only [Act.put, List.getElem_toArray, List.getElem_cons_succ, List.getElem_cons_zero]); (try simp only [List.setIfInBounds_toArray]); (try simp only [List.set_cons_succ]); (try simp only [List.set_cons_zero])
    refine wpAnyH_take (i := 3) (v := ?v19) rfl (by kernel_rfl) (by kernel_rfl) (by kernel_rfl) (fun _ _ _ h => h) (Or.inl ⟨by rfl, ?hy19⟩) hHeld ?rest19
    case hy19 => (intro wz hSw; (try dsimp only at hSw); go_simp; (try with_reducible rfl))
    (try simp only [Act.put, List.getElem_toArray, List.getElem_cons_succ, List.getElem_cons_zero]); (try simp only [List.setIfInBounds_toArray]); (try simp only [List.set_cons_succ]); (try simp only [List.set_cons_zero])
    refine wpAnyH_take (i := 4) (v := ?v20) rfl (by kernel_rfl) (by kernel_rfl) (by kernel_rfl) (fun _ _ _ h => h) (Or.inl ⟨by rfl, ?hy20⟩) hHeld ?rest20
    case hy20 => (intro wz hSw; (try dsimp only at hSw); go_simp; (try with_reducible rfl))
    (try simp only [Act.put, List.getElem_toArray, List.getElem_cons_succ, List.getElem_cons_zero]); (try simp only [List.setIfInBounds_toArray]); (try simp only [List.set_cons_succ]); (try simp only [List.set_cons_zero])
    refine wpAnyH_ready (rs := [5]) (by kernel_rfl) (by simp) ?_
    refine AllReadyH.cons rfl (fun K' hK => ?_) AllReadyH.nil
    go_simp
    refine (HC1.out _ (And.left hHeld)).mono ?_
    rintro e w2 ⟨rfl, hw2⟩
    have Xw2 := (And.left hHeld).trans hw2
    dsimp only
    refine hK.out _ _ (ext2 Xw2) (fun hHeld => ?_)
    clear hK
    refine wpAnyH_take (i := 6) (v := ?v21) rfl (by kernel_rfl) (by kernel_rfl) (by kernel_rfl) (fun _ _ _ h => h) (Or.inl ⟨by rfl, ?hy21⟩) hHeld ?rest21
    case hy21 => (intro wz hSw; (try dsimp only at hSw); go_simp; (try with_reducible rfl))
    (try simp only [Act.put, List.getElem_toArray, List.getElem_cons_succ, List.getElem_cons_zero]); (try simp only [List.setIfInBounds_toArray]); (try simp only [List.set_cons_succ]); (try simp only [List.set_cons_zero])
    refine wpAnyH_take (i := 7) (v := ?v22) rfl (by kernel_rfl) (by kernel_rfl) (by kernel_rfl) (fun _ _ _ h => h) (Or.inl ⟨by rfl, ?hy22⟩) hHeld ?rest22
    case hy22 => (intro wz hSw; (try dsimp only at hSw); go_simp; (try with_reducible rfl))
    (try simp only [Act.put, List.getElem_toArray, List.getElem_cons_succ, List.getElem_cons_zero]); (try simp only [List.setIfInBounds_toArray]); (try simp only [List.set_cons_succ]); (try simp only [List.set_cons_zero])
    refine wpAnyH_take (i := 8) (v := ?v23) rfl (by kernel_rfl) (by kernel_rfl) (by kernel_rfl) (fun _ _ _ h => h) (Or.inl ⟨by rfl, ?hy23⟩) hHeld ?rest23
    case hy23 => (intro wz hSw; (try dsimp only at hSw); go_simp; (try with_reducible rfl))
    (try simp only [Act.put, List.getElem_toArray, List.getElem_cons_succ, List.getElem_cons_zero]); (try simp only [List.setIfInBounds_toArray]); (try simp only [List.set_cons_succ]); (try simp only [List.set_cons_zero])
    refine wpAnyH_take (i := 9) (v := ?v24) rfl (by kernel_rfl) (by kernel_rfl) (by kernel_rfl) (fun _ _ _ h => h) (Or.inl ⟨by rfl, ?hy24⟩) hHeld ?rest24
    case hy24 => (intro wz hSw; (try dsimp only at hSw); go_simp; (try with_reducible rfl))
    (try simp only [Act.put, List.getElem_toArray, List.getElem_cons_succ, List.getElem_cons_zero]); (try simp only [List.setIfInBounds_toArray]); (try simp only [List.set_cons_succ]); (try simp only [List.set_cons_zero])
    refine wpAnyH_take (i := 10) (v := ?v25) rfl (by kernel_rfl) (by kernel_rfl) (by kernel_rfl) (fun _ _ _ h => h) (Or.inl ⟨by rfl, ?hy25⟩) hHeld ?rest25
    case hy25 => (intro wz hSw; (try dsimp only at hSw); go_simp; (try with_reducible rfl))
    (try simp only [Act.put, List.getElem_toArray, List.getElem_cons_succ, List.getElem_cons_zero]); (try simp only [List.setIfInBounds_toArray]); (try simp only [List.set_cons_succ]); (try simp only [List.set_cons_zero])
    refine wpAnyH_take (i := 11) (v := ?v26) rfl (by kernel_rfl) (by kernel_rfl) (by kernel_rfl) (fun _ _ _ h => h) (Or.inl ⟨by rfl, ?hy26⟩) hHeld ?rest26
    case hy26 => (intro wz hSw; (try dsimp only at hSw); go_simp; (try with_reducible rfl))
    (try simp only [Act.put, List.getElem_toArray, List.getElem_cons_succ, List.getElem_cons_zero]); (try simp only [List.setIfInBounds_toArray]); (try simp only [List.set_cons_succ]); (try simp only [List.set_cons_zero])
    refine wpAnyH_ready (rs := [12]) (by kernel_rfl) (by simp) ?_
    refine AllReadyH.cons rfl (fun K' hK => ?_) AllReadyH.nil
    go_simp
    refine (HNG.out _ (And.left hHeld)).mono ?_
    rintro e w3 ⟨b3, rfl, hb3, hb32, hh3, hw3⟩
    have Xw3 := (And.left hHeld).trans hw3
    dsimp only
    refine hK.out _ _ (ext2 Xw3) (fun hHeld => ?_)
    clear hK
    refine wpAnyH_ready (rs := [13]) (by kernel_rfl) (by simp) ?_
    refine AllReadyH.cons rfl (fun K' hK => ?_) AllReadyH.nil
    go_simp
    refine (HC2.out _ b3 (And.left hHeld) hh3).mono ?_
    rintro e w4 ⟨rfl, hw4⟩
    have Xw4 := (And.left hHeld).trans hw4
    dsimp only
    refine hK.out _ _ (ext2 Xw4) (fun hHeld => ?_)
    clear hK
    refine wpAnyH_take (i := 14) (v := ?v27) rfl (by kernel_rfl) (by kernel_rfl) (by kernel_rfl) (fun _ _ _ h => h) (Or.inl ⟨by rfl, ?hy27⟩) hHeld ?rest27
    case hy27 => (intro wz hSw; (try dsimp only at hSw); go_simp; (try with_reducible rfl))
    (try simp only [Act.put, List.getElem_toArray, List.getElem_cons_succ, List.getElem_cons_zero]); (try simp only [List.setIfInBounds_toArray]); (try simp only [List.set_cons_succ]); (try simp only [List.set_cons_zero])
    refine wpAnyH_take (i := 15) (v := ?v28) rfl (by kernel_rfl) (by kernel_rfl) (by kernel_rfl) (fun _ _ _ h => h) (Or.inl ⟨by rfl, ?hy28⟩) hHeld ?rest28
    case hy28 => (intro wz hSw; (try dsimp only at hSw); go_simp; (try with_reducible rfl))
    (try simp only [Act.put, List.getElem_toArray, List.getElem_cons_succ, List.getElem_cons_zero]); (try simp only [List.setIfInBounds_toArray]); (try simp only [List.set_cons_succ]); (try simp only [List.set_cons_zero])
    refine wpAnyH_done (by kernel_rfl) ?_ _
    have X9 := And.left hHeld
    clear hHeld
    go_wp2
    go_ret
    exact ⟨ret_bool HF.out.symm, X9⟩

set_option maxRecDepth 100000 in
set_option maxHeartbeats 3200000 in
theorem l5IsRoot_spec (g c n cx : Nat) (ax : Option Addr) (L : List (List Int)) (x : List Int) (w : World) (hR : RdR w g L) (hmm : L.length ≤ 1024) (hrl : ∀ i, i < L.length → (row L i).length ≤ 1024) (hx : Reads w ax n x) (hn : n ≤ 1024) (hxb : ∀ e, -1000000 ≤ gi x e ∧ gi x e ≤ 1000000) :
    Calls Tryz.prog 43 #[.slice (some ⟨g, 0, none⟩) L.length c, .slice ax n cx] w fun e w' => e = .returned (.bool (irB L x)) ∧ Ext w w' := by
  have HC1 := Lib.hid (l5Place_spec g L.length c n cx ax L x w hR rfl hmm hrl hx hn)
  have HNG := Lib.hid (fun w1 (h : Ext w w1) => l5Minus_spec n cx ax x w1 (hx.ext h) hn hxb)
  have HC2 : Hid (∀ w1 b, Ext w w1 → Has w1 b (negL x) → _) := fun w1 b h hb => l5Place_spec g L.length c n n (some ⟨b, 0, none⟩) L (negL x) w1 (hR.ext h) rfl hmm hrl (hb.reads (by rw [negL_length]; exact hx.len)) hn
  have HIR : Hid (irB L x = (L.contains x || L.contains (negL x))) := rfl
  obtain ⟨q1, hq1⟩ : ∃ q, L.contains x = q := ⟨_, rfl⟩
  obtain ⟨q2, hq2⟩ : ∃ q, L.contains (negL x) = q := ⟨_, rfl⟩
  rw [hq1, hq2] at HIR
  rw [hq1] at HC1
  rw [hq2] at HC2
  obtain ⟨q3, hq3⟩ : ∃ q, irB L x = q := ⟨_, rfl⟩
  rw [hq3] at HIR ⊢
  clear hR hrl hx hxb hq1 hq2 hq3
  cases q1 with
  | true =>
    have HF : Hid (q3 = true) := by rw [Hid, HIR.out]; rfl
    go_enter Tryz.func43, Tryz.ntmps43
    go_wp2_with fail
    refine HC1.out.mono ?_
    rintro e w2 ⟨z, rfl, hz, _, hE⟩
    have hz2 : 0 ≤ z := of_decide_eq_true hz
    clear hz
    go_wp2
    go_ret
    exact ⟨ret_bool HF.out.symm, hE⟩
  | false =>
    have HF : Hid (q3 = q2) := by rw [Hid, HIR.out]; rfl
    go_enter Tryz.func43, Tryz.ntmps43
    go_wp2_with fail
    refine HC1.out.mono ?_
    rintro e w2 ⟨z, rfl, hz, _, hE⟩
    have hz2 : ¬ 0 ≤ z := of_decide_eq_false hz
    have hz3 := hz
    have HE := Lib.hid hE
    clear hz hE
    go_wp2_with fail
    refine (HNG.out _ HE.out).mono ?_
    rintro e w3 ⟨b3, rfl, hb3, hb32, hh3, hE3⟩
    have HE3 := Lib.hid (HE.out.trans hE3)
    have HH3 := Lib.hid hh3
    clear hE3 hh3
    go_wp2_with fail
    refine (HC2.out _ b3 HE3.out HH3.out).mono ?_
    rintro e w4 ⟨z4, rfl, hz4, _, hE4⟩
    have HZ := Lib.hid (hz4.trans HF.out.symm)
    clear hz4
    go_wp2
    go_ret
    exact ⟨ret_bool HZ.out, HE3.out.trans hE4⟩

set_option maxRecDepth 100000 in
set_option maxHeartbeats 1600000 in
theorem wrapRoots_no {R : Int} {a0 oa n : Nat} {l : List Int} {w : World} (hT : Reads w (some ⟨a0, oa, none⟩) n l) (hm0 : n ≤ 1048576) (hG : carG R l = none) :
    Calls Tryz.prog 41 #[.agg #[.int .i64 R, .slice (some ⟨a0, oa, none⟩) n n]] w fun e w' => e = .returned (.tuple #[.pointer none, .bool false]) ∧ Ext w w' := by
  have HT := Lib.hid hT
  clear hT
  go_enter Tryz.func41, Tryz.ntmps41
  go_wp2_with fail
  refine (wrapCartan_no (HT.out.ext ((Ext.refl w).alloc _)) hm0 hG).mono ?_
  rintro e w2 ⟨rfl, hE⟩
  go_wp2
  go_ret2
  exact ⟨rfl, ((Ext.refl w).alloc _).trans hE⟩
set_option maxRecDepth 100000 in
set_option maxHeartbeats 1600000 in
theorem wrapRoots_yes {K a0 oa n : Nat} {l : List Int} {v : List Nat × List Int} {w : World} (hT : Reads w (some ⟨a0, oa, none⟩) n l) (hK1 : 1 ≤ K) (hK4 : K ≤ 4) (hG : tabGet K l = some v) (hl : l.length = K * K) (hok : RootsOk l v.2 K) (hlo : LenOk l v.2 K) :
    Calls Tryz.prog 41 #[.agg #[.int .i64 (K : Nat), .slice (some ⟨a0, oa, none⟩) n n]] w fun e w' => ∃ S B LB ns g c, e = .returned (.tuple #[.pointer (some ⟨S, 0, none⟩), .bool true]) ∧ sortN ns = v.1 ∧ RSys w w' S B LB K (.slice (some ⟨a0, oa, none⟩) n n) ns v.2 g c (posR l K) := by
  have HT := Lib.hid hT
  have HNK : Hid (n = K * K) := by rw [Hid, ← hT.len]; exact hl
  have HOK := Lib.hid hok
  have HXB := Lib.hid hlo.xb
  have HPA := Lib.hid (posR_all hK4 hK1 hok)
  obtain ⟨PR, hPR⟩ : ∃ PR, posR l K = PR := ⟨_, rfl⟩
  have HPR := Lib.hid hPR
  rw [hPR] at HPA ⊢
  clear hT hok hlo hPR
  go_enter Tryz.func41, Tryz.ntmps41
  go_wp2_with fail
  refine (wrapCartan_yes (HT.out.ext ((Ext.refl w).alloc _)) hK1 hK4 hG hl).mono ?_
  rintro e w2 ⟨B, LB, ns, rfl, hns, hW⟩
  have HW := Lib.hid (hW.low5 ((Ext.refl w).alloc _))
  have HNS := Lib.hid hns
  obtain ⟨xa, xn, xc, hbox, hstr⟩ := hW.box
  have HBX := Lib.hid hbox
  clear hW hns hbox hstr
  go_wp2_with fail
  refine (positiveRoots_impl B K a0 oa n n _ _ l v.2 _ HBX.out (HT.out.ext HW.out.ext) HNK.out hK1 hK4 HOK.out HXB.out).mono ?_
  rw [HPR.out]
  rintro e w3 ⟨v3, rfl, hP, hE3⟩
  have HW3 := Lib.hid (HW.out.step5 hE3)
  have HP3 := Lib.hid (hP.low HW.out.ext.le)
  obtain ⟨g, c, rfl, _⟩ := hP.rd HPA.out.2.1
  have hle := HW.out.ext.le
  have hle3 := hE3.le
  clear hP hE3 HW HBX
  go_wp2
  go_ret2
  have hB9 := cells_new w3 #[.pointer (some ⟨B, 0, none⟩), .slice (some ⟨g, 0, none⟩) PR.length c] 55
  have hP9 := HP3.out.ext ((Ext.refl w3).alloc (.cells #[.pointer (some ⟨B, 0, none⟩), .slice (some ⟨g, 0, none⟩) PR.length c] 55))
  obtain ⟨g2, c2, e2, hrd, _⟩ := hP9.rd HPA.out.2.1
  injection e2 with e2 _ _
  injection e2 with e2
  injection e2 with e2
  subst e2
  exact ⟨w3.heap.size, B, LB, ns, g, c, rfl, HNS.out, hB9, HW3.out.step5 ((Ext.refl w3).alloc _), hP9, hrd⟩
end Go.Proofs.YtinoaldfdcddiaaGreat
