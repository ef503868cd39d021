/-
  Root systems wrapped, roots recognized; in both texts.
-/
import Derived.Test.YtlnpaplbcocmkaaGreatGs5
import Derived.Test.YtlnpaplbcocmkaaGreatCg
namespace Go.Proofs.YtlnpaplbcocmkaaGreat
open Go.ChangeShapes Go.WideShapes Go.ChangeAt Go.RowKit
set_option linter.unusedVariables false
set_option linter.unusedSimpArgs false

/-- Numbers of 64 bits. -/
def Wf5 (xs : List Int) : Prop := ∀ e, -9223372036854775808 ≤ gi xs e ∧ gi xs e ≤ 9223372036854775807
def negW (xs : List Int) : List Int := xs.map fun n => IntKind.i64.wrap (-n)
theorem negW_length (xs : List Int) : (negW xs).length = xs.length := by simp [negW]
theorem gi_negW {xs : List Int} {k : Nat} (h : k < xs.length) : gi (negW xs) k = IntKind.i64.wrap (- gi xs k) := by
  simp [gi, negW, h]
/-- A list or the opposite one is among these. -/
def irB (L : List (List Int)) (x : List Int) : Bool := L.contains x || L.contains (negL x)
theorem wrap_neg {t : Int} (h1 : -9223372036854775808 ≤ t) (h2 : t ≤ 9223372036854775807) (h : 0 ≤ IntKind.i64.wrap (-t)) : IntKind.i64.wrap (-t) = -t := by
  by_cases e : t = -9223372036854775808
  · subst e; exact absurd h (by decide)
  · exact IntWalk.i64_in _ ⟨by omega, by omega⟩
theorem negW_in {L : List (List Int)} {x : List Int} (hL : ∀ r, r ∈ L → ∀ e, 0 ≤ gi r e ∧ gi r e ≤ 6) (hx : Wf5 x) : L.contains (negW x) = L.contains (negL x) := by
  have key : ∀ r, r ∈ L → (r = negW x ↔ r = negL x) := fun r hr => by
    constructor
    · intro e
      rw [e]
      apply List.ext_getElem
      · simp [negW, negL]
      · intro i h1 h2
        have hi : i < x.length := by simpa [negW] using h1
        have h3 := hL r hr i
        rw [e, gi_negW hi] at h3
        have h4 := wrap_neg (hx i).1 (hx i).2 h3.1
        simp only [negW, negL, List.getElem_map]
        rw [show gi x i = x[i] by simp [gi, hi]] at h4
        exact h4
    · intro e
      rw [e]
      apply List.ext_getElem
      · simp [negW, negL]
      · intro i h1 h2
        have hi : i < x.length := by simpa [negL] using h1
        have h3 := hL r hr i
        rw [e, gi_negL] at h3
        simp only [negW, negL, List.getElem_map]
        rw [show gi x i = x[i] by simp [gi, hi]] at h3
        exact (IntWalk.i64_in _ ⟨by omega, by omega⟩).symm
  rcases h1 : L.contains (negL x) with _ | _
  · rcases h2 : L.contains (negW x) with _ | _
    · rfl
    · rw [List.contains_iff_mem] at h2
      have h3 := (key _ h2).1 rfl
      rw [h3, ← List.contains_iff_mem] at h2
      rw [h1] at h2; cases h2
  · rw [List.contains_iff_mem] at h1 ⊢
    have h3 := (key _ h1).2 rfl
    rw [← h3]; exact h1
theorem irB_lat {K : Nat} {L : List (List Int)} {x : List Int} (hL : ∀ r, r ∈ L → r.length = K ∧ ∀ e, 0 ≤ gi r e ∧ gi r e ≤ 6) (h : irB L x = true) : latB K x = true ∧ x.length = K ∧ ∀ e, -6 ≤ gi x e ∧ gi x e ≤ 6 := by
  have h2 : x.length = K ∧ ∀ e, -6 ≤ gi x e ∧ gi x e ≤ 6 := by
    rw [irB, Bool.or_eq_true, List.contains_iff_mem, List.contains_iff_mem] at h
    rcases h with h | h
    · have := hL _ h; exact ⟨this.1, fun e => by have := this.2 e; omega⟩
    · have := hL _ h
      rw [negL_length] at this
      exact ⟨this.1, fun e => by have := this.2 e; rw [gi_negL] at this; omega⟩
  exact ⟨latB_yes h2.1 (fun e _ => by have := h2.2 e; omega), h2⟩
theorem StrR.ext5 {w w' : World} {a : Option Addr} {n : Nat} {ss : List ByteArray} (h : StrR w a n ss) (hE : Ext w w') : StrR w' a n ss := by
  refine ⟨h.1, ?_⟩
  rcases h.2 with h2 | ⟨g, e, hg, hc⟩
  · exact .inl h2
  · exact .inr ⟨g, e, Nat.lt_of_lt_of_le hg hE.le, fun j hj => (hE.cells g j hg).trans (hc j hj)⟩
theorem Wrapped.step5 {W w w' : World} {B LB R : Nat} {da : Value} {ns : List Nat} {ls : List Int} (h : Wrapped W w B LB R da ns ls) (hE : Ext w w') : Wrapped W w' B LB R da ns ls := by
  obtain ⟨⟨a, n, c, h1, h2⟩, h3, h4, h5, h6, h7⟩ := h
  exact ⟨⟨a, n, c, h1.ext hE, h2.ext5 hE⟩, h3.ext hE, h4.trans hE, h5, h6, h7⟩
theorem Wrapped.low5 {V W w : World} {B LB R : Nat} {da : Value} {ns : List Nat} {ls : List Int} (h : Wrapped W w B LB R da ns ls) (hE : Ext V W) : Wrapped V w B LB R da ns ls :=
  ⟨h.box, h.len, hE.trans h.ext, Nat.le_trans hE.le h.loB, Nat.le_trans hE.le h.loL, h.neL⟩
theorem RowsP.low {w : World} {lo lo' : Nat} {v : Value} {L : List (List Int)} (h : RowsP w lo v L) (hl : lo' ≤ lo) : RowsP w lo' v L := by
  obtain ⟨us, B, h1, h2, h3, h4⟩ := h
  refine ⟨us, B, ownsRow_low h1 hl, h2, fun i hi => ?_, h4⟩
  obtain ⟨c, x0, h6⟩ := h3 i hi
  exact ⟨c, x0, h6.mono hl (Nat.le_refl _)⟩
theorem RowsP.rd {w : World} {lo : Nat} {v : Value} {L : List (List Int)} (h : RowsP w lo v L) (h0 : 0 < L.length) : ∃ g cap, v = .slice (some ⟨g, 0, none⟩) L.length cap ∧ RdR w g L ∧ lo ≤ g ∧ ∀ i, i < L.length → ∃ b c, w.cell? ⟨g, i, none⟩ = some (.slice (some ⟨b, 0, none⟩) (row L i).length c) ∧ Own w lo w.heap.size (some ⟨b, 0, none⟩) (row L i).length (row L i) := by
  obtain ⟨us, B, h1, h2, h3, h4⟩ := h
  rcases h1.2 with ⟨e1, e2⟩ | ⟨g, cap, cur, e1, hb, hg, hn, hc, hcs, htk⟩
  · omega
  · have key : ∀ i, i < L.length → ∃ b c, w.cell? ⟨g, i, none⟩ = some (.slice (some ⟨b, 0, none⟩) (row L i).length c) ∧ Own w lo w.heap.size (some ⟨b, 0, none⟩) (row L i).length (row L i) := fun i hi => by
      obtain ⟨c, x0, h6⟩ := h3 i hi
      refine ⟨B i, c, ?_, h6⟩
      rw [cell_of_row w g i _ _ _ hg, ← Array.getElem?_toList]
      have : (cur.toList.take (L.length * 1))[i]? = us[i]? := by rw [htk]
      rw [List.getElem?_take, if_pos (by omega)] at this
      rw [this, x0]
    refine ⟨g, cap, e1, ⟨(Array.getElem?_eq_some_iff.1 hg).1, fun i hi => ?_⟩, hb, key⟩
    obtain ⟨b, c, h5, h6⟩ := key i hi
    exact ⟨b, c, h5, h6.reads⟩
/-- A wrapped root system. -/
structure RSys (W w : World) (S B LB K : Nat) (da : Value) (ns : List Nat) (ls : List Int) (g c : Nat) (L : List (List Int)) : Prop where
  box : Cells w S [.pointer (some ⟨B, 0, none⟩), .slice (some ⟨g, 0, none⟩) L.length c]
  wr : Wrapped W w B LB K da ns ls
  own : RowsP w W.heap.size (.slice (some ⟨g, 0, none⟩) L.length c) L
  rd : RdR w g L
theorem RSys.step {W w w' : World} {S B LB K : Nat} {da : Value} {ns : List Nat} {ls : List Int} {g c : Nat} {L : List (List Int)} (h : RSys W w S B LB K da ns ls g c L) (hE : Ext w w') : RSys W w' S B LB K da ns ls g c L :=
  ⟨h.box.ext hE, h.wr.step5 hE, h.own.ext hE, h.rd.ext hE⟩
theorem RSys.low {V W w : World} {S B LB K : Nat} {da : Value} {ns : List Nat} {ls : List Int} {g c : Nat} {L : List (List Int)} (h : RSys W w S B LB K da ns ls g c L) (hE : Ext V W) : RSys V w S B LB K da ns ls g c L :=
  ⟨h.box, h.wr.low5 hE, h.own.low hE.le, h.rd⟩
/-- What is known of the roots of a Cartan matrix. -/
theorem posR_all {xs ls : List Int} {K : Nat} (hK : K ≤ 4) (hK1 : 1 ≤ K) (h : RootsOk xs ls K) : (∀ r, r ∈ posR xs K → r.length = K ∧ ∀ e, 0 ≤ gi r e ∧ gi r e ≤ 6) ∧ 0 < (posR xs K).length ∧ (posR xs K).length ≤ 24 ∧ (posR xs K).flatten.length ≤ 1048576 ∧ ∀ i, i < (posR xs K).length → (row (posR xs K) i).length ≤ 1024 := by
  have h1 : ∀ r, r ∈ posR xs K → r.length = K ∧ ∀ e, 0 ≤ gi r e ∧ gi r e ≤ 6 := fun r hr => posR_row h hr
  have h2 := posR_len h
  have h3 := fullR_len h
  refine ⟨h1, by omega, by omega, ?_, fun i hi => by rw [(h1 _ (row_mem hi)).1]; omega⟩
  have key : ∀ M : List (List Int), (∀ r, r ∈ M → r.length = K) → M.flatten.length = M.length * K := by
    intro M
    induction M with
    | nil => intro _; simp
    | cons a t ih =>
      intro hm
      rw [List.flatten_cons, List.length_append, ih (fun r hr => hm r (List.mem_cons_of_mem _ hr)), hm a List.mem_cons_self, List.length_cons, Nat.add_mul, Nat.one_mul, Nat.add_comm]
  rw [key _ (fun r hr => (h1 r hr).1)]
  have : (posR xs K).length * K ≤ 24 * 4 := Nat.mul_le_mul (by omega) hK
  omega

set_option maxRecDepth 100000 in
set_option maxHeartbeats 1600000 in
theorem negated_gen (n c : Nat) (a : Option Addr) (xs : List Int) (w : World) (hr : Reads w a n xs) (hn : n ≤ 1048576) :
    Calls Tryz.prog 78 #[.slice a n c] w fun e w' => ∃ b, e = .returned (.slice (some ⟨b, 0, none⟩) n n) ∧ w.heap.size ≤ b ∧ b < w'.heap.size ∧ Has w' b (negW xs) ∧ Ext w w' := by
  have HR := Lib.hid hr
  have HL : Hid ((negW xs).length = n) := by rw [Hid, negW_length]; exact hr.len
  have HXL := Lib.hid hr.len
  have HST : Hid (∀ k, k < n → (mixL (negW xs) n k).set k (IntKind.i64.wrap (- gi xs k)) = mixL (negW xs) n (k + 1)) := fun k hk => by rw [← gi_negW (by rw [hr.len]; exact hk)]; exact mixL_step hk
  have HD := Lib.hid (mixL_done HL.out)
  have HML : Hid (∀ k, k ≤ n → (mixL (negW xs) n k).length = n) := fun k hk => mixL_len
  have hmk := make_ints n (by omega)
  have H0 : Hid (Has (w.alloc (.cells (ints (List.replicate n 0)) 3)) w.heap.size (mixL (negW xs) n 0)) := by rw [mixL_zero]; exact Has.new w _
  have E0 : Hid (Ext w (w.alloc (.cells (ints (List.replicate n 0)) 3))) := (Ext.refl w).alloc _
  clear hr
  go_enter Tryz.func78, Tryz.ntmps78
  go_wp2
  clear hmk
  go_loopw [11, 4, 5] (fun z _ _ wr => ∃ k : Nat, k ≤ n ∧ z = .int .i64 k ∧ Hid (Has wr w.heap.size (mixL (negW xs) n k)) ∧ Hid (Ext w wr)) (fun z _ _ _ => n - (intOf z).toNat)
  case atStart => exact ⟨0, by omega, rfl, H0, E0⟩
  case round =>
    obtain ⟨k, hk, rfl, hH, hE⟩ := hrel
    by_cases hlt : k < n
    · obtain ⟨b, off, rfl, hbl, hc⟩ := reads5 HR.out (by omega)
      have hc1 := (hE.out.cells b (off + k) hbl).trans (hc k hlt)
      have lb := Nat.lt_of_lt_of_le hbl hE.out.le
      have c2 := hH.out.cell k (by rw [HML.out k hk]; exact hlt)
      have f2 := hH.out.free k
      have l2 := hH.out.lt
      obtain ⟨t, ht⟩ : ∃ t, IntKind.i64.wrap (- gi xs k) = t := ⟨_, rfl⟩
      have HH2 : Hid (Has (wr.setCell ⟨w.heap.size, k, none⟩ (.int .i64 t)) w.heap.size (mixL (negW xs) n (k + 1))) := by rw [← ht, ← HST.out k hlt]; exact hH.out.set k (by rw [HML.out k hk]; exact hlt) _
      have HE2 : Hid (Ext w (wr.setCell ⟨w.heap.size, k, none⟩ (.int .i64 t))) := hE.out.setCell (p := ⟨w.heap.size, k, none⟩) (Nat.le_refl _) _
      have hltI : (k : Int) < (n : Int) := by omega
      clear hc hH hE
      generalize gi xs k = x at *
      go_wp2
      exact ⟨⟨k + 1, by omega, by simp, HH2, HE2⟩, by simp [intOf]; omega⟩
    · obtain rfl : n = k := by omega
      rw [HD.out] at hH
      go_wp2
      go_ret
      exact ⟨_, rfl, Nat.le_refl _, hH.out.lt, hH.out, hE.out⟩

set_option maxRecDepth 100000 in
set_option maxHeartbeats 1600000 in
theorem wrapRoots_no {R : Int} {a0 oa n : Nat} {l : List Int} {w : World} (hT : Reads w (some ⟨a0, oa, none⟩) n l) (hm0 : n ≤ 1048576) (hG : carG R l = none) :
    Calls Tryz.prog 69 #[.agg #[.int .i64 R, .slice (some ⟨a0, oa, none⟩) n n]] w fun e w' => e = .returned (.tuple #[.pointer none, .bool false]) ∧ Ext w w' := by
  have HT := Lib.hid hT
  clear hT
  go_enter Tryz.func69, Tryz.ntmps69
  go_wp2_with fail
  refine (wrapCartan_no (HT.out.ext ((Ext.refl w).alloc _)) hm0 hG).mono ?_
  rintro e w2 ⟨rfl, hE⟩
  go_wp2
  go_ret2
  exact ⟨rfl, ((Ext.refl w).alloc _).trans hE⟩
set_option maxRecDepth 100000 in
set_option maxHeartbeats 1600000 in
theorem wrapRoots_yes {K a0 oa n : Nat} {l : List Int} {v : List Nat × List Int} {w : World} (hT : Reads w (some ⟨a0, oa, none⟩) n l) (hK1 : 1 ≤ K) (hK4 : K ≤ 4) (hG : tabGet K l = some v) (hl : l.length = K * K) (hok : RootsOk l v.2 K) (hlo : LenOk l v.2 K) :
    Calls Tryz.prog 69 #[.agg #[.int .i64 (K : Nat), .slice (some ⟨a0, oa, none⟩) n n]] w fun e w' => ∃ S B LB ns g c, e = .returned (.tuple #[.pointer (some ⟨S, 0, none⟩), .bool true]) ∧ sortN ns = v.1 ∧ RSys w w' S B LB K (.slice (some ⟨a0, oa, none⟩) n n) ns v.2 g c (posR l K) := by
  have HT := Lib.hid hT
  have HNK : Hid (n = K * K) := by rw [Hid, ← hT.len]; exact hl
  have HOK := Lib.hid hok
  have HXB := Lib.hid hlo.xb
  have HPA := Lib.hid (posR_all hK4 hK1 hok)
  obtain ⟨PR, hPR⟩ : ∃ PR, posR l K = PR := ⟨_, rfl⟩
  have HPR := Lib.hid hPR
  rw [hPR] at HPA ⊢
  clear hT hok hlo hPR
  go_enter Tryz.func69, Tryz.ntmps69
  go_wp2_with fail
  refine (wrapCartan_yes (HT.out.ext ((Ext.refl w).alloc _)) hK1 hK4 hG hl).mono ?_
  rintro e w2 ⟨B, LB, ns, rfl, hns, hW⟩
  have HW := Lib.hid (hW.low5 ((Ext.refl w).alloc _))
  have HNS := Lib.hid hns
  obtain ⟨xa, xn, xc, hbox, hstr⟩ := hW.box
  have HBX := Lib.hid hbox
  clear hW hns hbox hstr
  go_wp2_with fail
  refine (positiveRoots_impl B K a0 oa n n _ _ l v.2 _ HBX.out (HT.out.ext HW.out.ext) HNK.out hK1 hK4 HOK.out HXB.out).mono ?_
  rw [HPR.out]
  rintro e w3 ⟨v3, rfl, hP, hE3⟩
  have HW3 := Lib.hid (HW.out.step5 hE3)
  have HP3 := Lib.hid (hP.low HW.out.ext.le)
  obtain ⟨g, c, rfl, _⟩ := hP.rd HPA.out.2.1
  have hle := HW.out.ext.le
  have hle3 := hE3.le
  clear hP hE3 HW HBX
  go_wp2
  go_ret2
  have hB9 := cells_new w3 #[.pointer (some ⟨B, 0, none⟩), .slice (some ⟨g, 0, none⟩) PR.length c] 85
  have hP9 := HP3.out.ext ((Ext.refl w3).alloc (.cells #[.pointer (some ⟨B, 0, none⟩), .slice (some ⟨g, 0, none⟩) PR.length c] 85))
  obtain ⟨g2, c2, e2, hrd, _⟩ := hP9.rd HPA.out.2.1
  injection e2 with e2 _ _
  injection e2 with e2
  injection e2 with e2
  subst e2
  exact ⟨w3.heap.size, B, LB, ns, g, c, rfl, HNS.out, hB9, HW3.out.step5 ((Ext.refl w3).alloc _), hP9, hrd⟩
end Go.Proofs.YtlnpaplbcocmkaaGreat
