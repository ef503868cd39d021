/-
  IsCartan, of the program and of the specification.
-/
import Derived.Test.YtlnpaplbcocmkaaGreatPrt
import Derived.Test.YtlnpaplbcocmkaaGreatLnz
import Derived.Test.YtlnpaplbcocmkaaGreatRtk
namespace Go.Proofs.YtlnpaplbcocmkaaGreat
open Go.ChangeShapes Go.WideShapes Go.ChangeAt Go.RowKit
set_option linter.unusedVariables false
set_option linter.unusedSimpArgs false

/-- Whether a rank and numbers are a Cartan matrix. -/
def carB (R : Int) (l : List Int) : Bool := decide (1 ≤ R ∧ R ≤ 4 ∧ (l.length : Int) = R * R) && (tabGet R.toNat l).isSome
theorem carB_nat {R : Nat} {l : List Int} (h0 : 1 ≤ R) (hR : R ≤ 4) (hl : l.length = R * R) : carB R l = (tabGet R l).isSome := by
  rw [carB, decide_eq_true ⟨by omega, by omega, by rw [hl]; simp⟩]; rfl
theorem carB_wrap {R : Nat} {l : List Int} (h0 : 1 ≤ R) (hR : R ≤ 4) (hl : l.length = R * R) : (wrapS l R R = none → carB R l = false) ∧ ∀ v, wrapS l R R = some v → carB R l = true := by
  rw [carB_nat h0 hR hl, ← wrapS_tab h0 hR hl]
  exact ⟨fun h => by rw [h]; rfl, fun v h => by rw [h]; rfl⟩
theorem carB_spec {R : Nat} {l : List Int} (h0 : 1 ≤ R) (hR : R ≤ 4) (hl : l.length = R * R) : (specM l R = none → carB R l = false) ∧ ∀ v, specM l R = some v → carB R l = true := by
  rw [carB_nat h0 hR hl, specM_tab h0 hR hl]
  constructor
  · intro h; rw [Option.map_eq_none_iff] at h; rw [h]; rfl
  · intro v h; rw [Option.map_eq_some_iff] at h; obtain ⟨u, h, _⟩ := h; rw [h]; rfl

set_option maxRecDepth 100000 in
set_option maxHeartbeats 1600000 in
theorem isCartan_spec {R : Int} {a0 oa n : Nat} {l : List Int} {w : World} {i : Bool} (hT : Reads w (some ⟨a0, oa, none⟩) n l) (hm0 : n ≤ 1048576) (hM : carB R l = i) :
    Calls Tryz.prog 58 #[.agg #[.int .i64 R, .slice (some ⟨a0, oa, none⟩) n n]] w fun e w' => e = .returned (.bool i) ∧ Ext w w' := by
  have hln := hT.len
  by_cases h : 1 ≤ R ∧ R ≤ 4 ∧ (n : Int) = R * R
  · obtain ⟨R, rfl⟩ := Int.eq_ofNat_of_zero_le (show 0 ≤ R by omega)
    have hn : Hid (n = R * R) := by have := h.2.2; rw [Hid]; exact_mod_cast this
    have h : 1 ≤ R ∧ R ≤ 4 := ⟨by omega, by omega⟩
    have hT := Lib.hid hT
    have HNO := Lib.hid (carB_spec h.1 h.2 (hln.trans hn.out))
    rw [hM] at HNO
    clear hM hln
    go_enter Tryz.func58, Tryz.ntmps58
    go_wp2_with fail
    refine (l5Parts_spec R a0 oa n n l _ (hT.out.ext (show Ext w _ by with_reducible first | exact Ext.refl _ | exact (Ext.refl _).alloc _)) hn.out h.1 h.2).mono ?_
    rintro e w2 ⟨hE, ⟨h1, rfl⟩ | ⟨ns, a, c, h1, rfl⟩⟩
    · have HF := Lib.hid (HNO.out.1 h1)
      go_wp2
      go_ret
      exact ⟨ret_bool HF.out.symm, (show Ext w _ by with_reducible first | exact Ext.refl _ | exact (Ext.refl _).alloc _).trans hE⟩
    · have HF := Lib.hid (HNO.out.2 _ h1)
      go_wp2
      go_ret
      exact ⟨ret_bool HF.out.symm, (show Ext w _ by with_reducible first | exact Ext.refl _ | exact (Ext.refl _).alloc _).trans hE⟩
  · have HF : Hid (i = false) := by
      rw [Hid, ← hM, carB, hln, decide_eq_false h]; rfl
    clear hM hln hT
    go_enter Tryz.func58, Tryz.ntmps58
    go_wp2_with fail
    refine (l5Parts_bad R a0 oa n n _ hm0 h).mono ?_
    rintro e w2 ⟨rfl, hE⟩
    go_wp2
    go_ret
    exact ⟨ret_bool HF.out.symm, (show Ext w _ by with_reducible first | exact Ext.refl _ | exact (Ext.refl _).alloc _).trans hE⟩
end Go.Proofs.YtlnpaplbcocmkaaGreat

/-
  A list of R numbers of small size: l5Lattice of the specification.
-/
namespace Go.Proofs.YtlnpaplbcocmkaaGreat
open Go.ChangeShapes Go.WideShapes Go.ChangeAt Go.RowKit
set_option linter.unusedVariables false
set_option linter.unusedSimpArgs false

/-- R numbers between -1000 and 1000. -/
def latB (R : Nat) (ys : List Int) : Bool := ys.length == R && ys.all fun y => decide (-1000 ≤ y ∧ y ≤ 1000)
theorem latB_len {R : Nat} {ys : List Int} (h : ¬ ys.length = R) : latB R ys = false := by
  rw [latB, beq_eq_false_iff_ne.2 h]; rfl
theorem latB_yes {R : Nat} {ys : List Int} (h : ys.length = R) (h2 : ∀ e, e < R → -1000 ≤ gi ys e ∧ gi ys e ≤ 1000) : latB R ys = true := by
  rw [latB, beq_iff_eq.2 h, Bool.true_and, List.all_eq_true]
  intro y hy
  obtain ⟨e, he, rfl⟩ := List.mem_iff_getElem.1 hy
  have := h2 e (by omega)
  rw [show gi ys e = ys[e] by simp [gi, he]] at this
  exact decide_eq_true this
theorem latB_no {R : Nat} {ys : List Int} {e : Nat} (he : e < ys.length) (h2 : ¬ (-1000 ≤ gi ys e ∧ gi ys e ≤ 1000)) : latB R ys = false := by
  rw [show gi ys e = ys[e] by simp [gi, he]] at h2
  rcases h : latB R ys with _ | _
  · rfl
  · rw [latB, Bool.and_eq_true, List.all_eq_true] at h
    exact absurd (of_decide_eq_true (h.2 _ (List.getElem_mem he))) h2

set_option maxRecDepth 100000 in
set_option maxHeartbeats 3200000 in
theorem l5Lattice_spec (R da od n cD ax ox m cx : Nat) (ys : List Int) (w : World) (hy : Reads w (some ⟨ax, ox, none⟩) m ys) (hR : R ≤ 4) (hmm : m ≤ 1048576) :
    Calls Tryz.prog 67 #[.agg #[.int .i64 (R : Nat), .slice (some ⟨da, od, none⟩) n cD], .slice (some ⟨ax, ox, none⟩) m cx] w fun e w' => e = .returned (.bool (latB R ys)) ∧ Ext w w' := by
  have HY := Lib.hid hy
  have C0 := Lib.hid (cells_new w #[.int .i64 (R : Nat), .slice (some ⟨da, od, none⟩) n cD] 27)
  have X0 := Lib.hid ((Ext.refl w).alloc (.cells #[.int .i64 (R : Nat), .slice (some ⟨da, od, none⟩) n cD] 27))
  have HL := hy.len
  by_cases hm : m = R
  · have hmq : ((m : Int) == (R : Int)) = true := by simp; omega
    have hmn : ((m : Int) != (R : Int)) = false := by rw [bne, hmq]; rfl
    have HYES := Lib.hid (fun h2 => latB_yes (ys := ys) (R := R) (by omega) h2)
    have HNO := Lib.hid (fun e he h2 => latB_no (ys := ys) (R := R) (e := e) he h2)
    obtain ⟨q, hq⟩ : ∃ q, latB R ys = q := ⟨_, rfl⟩
    rw [hq] at HYES HNO
    rw [hq]
    clear hy hq
    go_enter Tryz.func67, Tryz.ntmps67
    go_wp2_with fail
    generalize (w.alloc (.cells #[.int .i64 (R : Nat), .slice (some ⟨da, od, none⟩) n cD] 27)) = W1 at *
    go_loopw [5] (fun z wr => ∃ e : Nat, e ≤ m ∧ z = .int .i64 e ∧ Hid (Ext W1 wr) ∧ Hid (∀ p, p < e → -1000 ≤ gi ys p ∧ gi ys p ≤ 1000)) (fun z _ => m - (intOf z).toNat)
    case atStart => exact ⟨0, by omega, rfl, Ext.refl _, fun p h => by omega⟩
    case round =>
      obtain ⟨e, he, rfl, hE, hD⟩ := hrel
      have XE := Lib.hid (X0.out.trans hE.out)
      by_cases hlt : e < m
      · have HRW := HY.out.ext XE.out
        have hc : ax < wr.heap.size ∧ wr.cell? ⟨ax, ox + e, none⟩ = some (.int .i64 (gi ys e)) := by
          rcases HRW.2 with h | ⟨b3, o3, h, hb3, hc3⟩
          · omega
          · simp only [Option.some.injEq, Addr.mk.injEq, and_true] at h
            obtain ⟨rfl, rfl⟩ := h
            exact ⟨hb3, hc3 e hlt⟩
        obtain ⟨hdl, hc⟩ := hc
        have HD2 : Hid ((-1000 ≤ gi ys e ∧ gi ys e ≤ 1000) → ∀ p, p < e + 1 → -1000 ≤ gi ys p ∧ gi ys p ≤ 1000) := fun h p hp => by
          by_cases ep : p = e
          · subst ep; exact h
          · exact hD.out p (by omega)
        have HN := Lib.hid (HNO.out e (by omega))
        generalize gi ys e = x at *
        have HIN := Lib.hid (fun w1 => l1In_spec x (-1000) 1000 w1)
        have hltI : (e : Int) < (m : Int) := by omega
        clear HRW hD
        rcases hin : decide (-1000 ≤ x ∧ x ≤ 1000) with _ | _
        · have HF := Lib.hid (HN.out (fun h => by rw [decide_eq_true h] at hin; cases hin))
          rw [hin] at HIN
          go_wp2_with fail
          refine (HIN.out _).mono ?_
          rintro e' w' ⟨rfl, rfl⟩
          go_wp2
          go_ret
          exact ⟨ret_bool HF.out.symm, XE.out⟩
        · have HF := Lib.hid (HD2.out (of_decide_eq_true hin))
          rw [hin] at HIN
          go_wp2_with fail
          refine (HIN.out _).mono ?_
          rintro e' w' ⟨rfl, rfl⟩
          go_wp2
          exact ⟨⟨e + 1, by omega, by simp, hE, HF⟩, by simp [intOf]; omega⟩
      · obtain rfl : m = e := by omega
        have HF := Lib.hid (HYES.out (fun e h => hD.out e (by omega)))
        go_wp2
        go_ret
        exact ⟨ret_bool HF.out.symm, XE.out⟩
  · have hmq : ((m : Int) == (R : Int)) = false := by simp; omega
    have hmn : ((m : Int) != (R : Int)) = true := by rw [bne, hmq]; rfl
    have HF := Lib.hid (latB_len (R := R) (ys := ys) (by omega))
    clear hy HL
    go_enter Tryz.func67, Tryz.ntmps67
    go_wp2
    go_ret
    exact ⟨ret_bool HF.out.symm, X0.out⟩

def latA (ys : List Int) : Bool := ys.all fun y => decide (-1000 ≤ y ∧ y ≤ 1000)
theorem latA_yes {ys : List Int} (h2 : ∀ e, e < ys.length → -1000 ≤ gi ys e ∧ gi ys e ≤ 1000) : latA ys = true := by
  have := latB_yes (R := ys.length) rfl h2
  rw [latB, Bool.and_eq_true] at this; exact this.2
theorem latA_no {ys : List Int} {e : Nat} (he : e < ys.length) (h2 : ¬ (-1000 ≤ gi ys e ∧ gi ys e ≤ 1000)) : latA ys = false := by
  have := latB_no (R := ys.length) he h2
  rw [latB, beq_self_eq_true, Bool.true_and] at this; exact this
theorem latB_A {R : Nat} {ys : List Int} (h : ys.length = R) : latB R ys = latA ys := by rw [latB, beq_iff_eq.2 h, Bool.true_and]; rfl
set_option maxHeartbeats 400000 in
theorem hasLat_1 (x : Int) (w : World) : Calls Tryz.prog 169 #[.int .i64 x] w fun e w' => e = .returned (.bool (!decide (-1000 ≤ x ∧ x ≤ 1000))) ∧ w = w' := by
  by_cases h1 : x < -1000
  · go_enter Tryz.func169, Tryz.ntmps169
    go_wp2
    go_ret
    exact ⟨ret_bool (by first | (simp; omega) | (simp [*]; done) | (simp [*]; omega)), rfl⟩
  · go_enter Tryz.func169, Tryz.ntmps169
    go_wp2
    go_ret
    exact ⟨ret_bool (by rcases Classical.em (x ≤ 1000) with h | h <;> (have h3 : (-1000 : Int) ≤ x := by omega) <;> first | (simp [h, h3]; done) | (simp [h, h3]; omega) | (simp; omega) | (simp [*]; done)), rfl⟩
set_option maxRecDepth 100000 in
set_option maxHeartbeats 3200000 in
theorem indexLat (ax ox m cx : Nat) (ys : List Int) (w : World) (hy : Reads w (some ⟨ax, ox, none⟩) m ys) (hmm : m ≤ 1048576) :
    Calls Tryz.prog 125 #[.slice (some ⟨ax, ox, none⟩) m cx, .func (.func 169) #[] #[]] w fun e w' => ∃ z : Int, e = .returned (.int .i64 z) ∧ (decide (0 ≤ z) = !latA ys) ∧ Ext w w' := by
  have HY := Lib.hid hy
  have HL := hy.len
  have HYES := Lib.hid (fun h2 => latA_yes (ys := ys) h2)
  have HNO := Lib.hid (fun e he h2 => latA_no (ys := ys) (e := e) he h2)
  obtain ⟨q, hq⟩ : ∃ q, latA ys = q := ⟨_, rfl⟩
  rw [hq] at HYES HNO
  rw [hq]
  clear hy hq
  go_enter Tryz.func125, Tryz.ntmps125
  go_wp2_with fail
  go_loopw [8, 5] (fun z _ wr => ∃ e : Nat, e ≤ m ∧ z = .int .i64 e ∧ Hid (Ext w wr) ∧ Hid (∀ p, p < e → -1000 ≤ gi ys p ∧ gi ys p ≤ 1000)) (fun z _ _ => m - (intOf z).toNat)
  case atStart => exact ⟨0, by omega, rfl, Ext.refl _, fun p h => by omega⟩
  case round =>
    obtain ⟨e, he, rfl, hE, hD⟩ := hrel
    by_cases hlt : e < m
    · have HRW := HY.out.ext hE.out
      have hc : ax < wr.heap.size ∧ wr.cell? ⟨ax, ox + e, none⟩ = some (.int .i64 (gi ys e)) := by
        rcases HRW.2 with h | ⟨b3, o3, h, hb3, hc3⟩
        · omega
        · simp only [Option.some.injEq, Addr.mk.injEq, and_true] at h
          obtain ⟨rfl, rfl⟩ := h
          exact ⟨hb3, hc3 e hlt⟩
      obtain ⟨hdl, hc⟩ := hc
      have HD2 : Hid ((-1000 ≤ gi ys e ∧ gi ys e ≤ 1000) → ∀ p, p < e + 1 → -1000 ≤ gi ys p ∧ gi ys p ≤ 1000) := fun h p hp => by
        by_cases ep : p = e
        · subst ep; exact h
        · exact hD.out p (by omega)
      have HN := Lib.hid (HNO.out e (by omega))
      generalize gi ys e = x at *
      have HIN := Lib.hid (fun w1 => hasLat_1 x w1)
      have hltI : (e : Int) < (m : Int) := by omega
      clear HRW hD
      rcases hin : decide (-1000 ≤ x ∧ x ≤ 1000) with _ | _
      · have HF := Lib.hid (HN.out (fun h => by rw [decide_eq_true h] at hin; cases hin))
        rw [hin] at HIN
        go_wp2_with fail
        refine (HIN.out _).mono ?_
        rintro e' w' ⟨rfl, rfl⟩
        go_wp2
        go_ret
        exact ⟨e, rfl, by rw [HF.out]; simp, hE.out⟩
      · have HF := Lib.hid (HD2.out (of_decide_eq_true hin))
        rw [hin] at HIN
        go_wp2_with fail
        refine (HIN.out _).mono ?_
        rintro e' w' ⟨rfl, rfl⟩
        go_wp2
        exact ⟨⟨e + 1, by omega, by simp, hE, HF⟩, by simp [intOf]; omega⟩
    · obtain rfl : m = e := by omega
      have HF := Lib.hid (HYES.out (fun e h => hD.out e (by omega)))
      go_wp2
      go_ret
      exact ⟨-1, rfl, by rw [HF.out]; rfl, hE.out⟩
set_option maxRecDepth 100000 in
set_option maxHeartbeats 1600000 in
theorem containsLat (ax ox m cx : Nat) (ys : List Int) (w : World) (hy : Reads w (some ⟨ax, ox, none⟩) m ys) (hmm : m ≤ 1048576) :
    Calls Tryz.prog 168 #[.slice (some ⟨ax, ox, none⟩) m cx, .func (.func 169) #[] #[]] w fun e w' => e = .returned (.bool (!latA ys)) ∧ Ext w w' := by
  go_enter Tryz.func168, Tryz.ntmps168
  go_wp2_with fail
  refine (indexLat ax ox m cx ys _ hy hmm).mono ?_
  rintro e w2 ⟨z, rfl, hz, hE⟩
  have HZ := Lib.hid hz
  clear hz
  go_wp2
  go_ret
  exact ⟨ret_bool HZ.out, hE⟩
set_option maxRecDepth 100000 in
set_option maxHeartbeats 1600000 in
theorem hasLattice_impl (B R da od n cD ax ox m cx : Nat) (v2 v3 : Value) (ys : List Int) (w : World) (hB : Cells w B [.int .i64 (R : Nat), .slice (some ⟨da, od, none⟩) n cD, v2, v3]) (hy : Reads w (some ⟨ax, ox, none⟩) m ys) (hR : R ≤ 4) (hmm : m ≤ 1048576) :
    Calls Tryz.prog 114 #[.pointer (some ⟨B, 0, none⟩), .slice (some ⟨ax, ox, none⟩) m cx] w fun e w' => e = .returned (.bool (latB R ys)) ∧ Ext w w' := by
  have HL := hy.len
  have HY := Lib.hid (fun w1 (h : Ext w w1) => containsLat ax ox m cx ys w1 (hy.ext h) hmm)
  have lB := hB.1
  have q0 := hB.2 0 _ rfl
  by_cases hm : m = R
  · subst hm
    have hmq : ((m : Int) == (m : Int)) = true := by simp
    have HF := Lib.hid (latB_A (R := m) (ys := ys) (by omega))
    clear hy hB
    go_enter Tryz.func114, Tryz.ntmps114
    go_wp2_with fail
    refine (HY.out _ (Ext.refl _)).mono ?_
    rintro e w2 ⟨rfl, hE⟩
    go_wp2
    go_ret
    exact ⟨ret_bool (by first | (rw [HF.out]; done) | (rw [HF.out]; simp)), hE⟩
  · have hmq : ((m : Int) == (R : Int)) = false := by simp; omega
    have HF := Lib.hid (latB_len (R := R) (ys := ys) (by omega))
    clear hy hB HY
    go_enter Tryz.func114, Tryz.ntmps114
    go_wp2
    go_ret
    exact ⟨ret_bool HF.out.symm, Ext.refl _⟩
end Go.Proofs.YtlnpaplbcocmkaaGreat

/-
  A Cartan matrix, known or not: what both texts do first.
-/
namespace Go.Proofs.YtlnpaplbcocmkaaGreat
open Go.ChangeShapes Go.WideShapes Go.ChangeAt Go.RowKit
set_option linter.unusedVariables false
set_option linter.unusedSimpArgs false

/-- What is known of a Cartan matrix: the names of its parts, and its lengths. -/
def carG (R : Int) (l : List Int) : Option (List Nat × List Int) := if 1 ≤ R ∧ R ≤ 4 ∧ (l.length : Int) = R * R then tabGet R.toNat l else none
theorem carB_G {R : Int} {l : List Int} : carB R l = (carG R l).isSome := by
  unfold carB carG
  by_cases h : 1 ≤ R ∧ R ≤ 4 ∧ (l.length : Int) = R * R
  · rw [if_pos h, decide_eq_true h]; rfl
  · rw [if_neg h, decide_eq_false h]; rfl
theorem carG_some {R : Int} {l : List Int} {v : List Nat × List Int} (h : carG R l = some v) : ∃ K : Nat, R = (K : Int) ∧ 1 ≤ K ∧ K ≤ 4 ∧ l.length = K * K ∧ tabGet K l = some v := by
  unfold carG at h
  by_cases h1 : 1 ≤ R ∧ R ≤ 4 ∧ (l.length : Int) = R * R
  · rw [if_pos h1] at h
    obtain ⟨K, rfl⟩ := Int.eq_ofNat_of_zero_le (show 0 ≤ R by omega)
    exact ⟨K, rfl, by omega, by omega, by have := h1.2.2; exact_mod_cast this, h⟩
  · rw [if_neg h1] at h; cases h
def Rints5 (w w' : World) (v : Value) (xs : List Int) : Prop := ∃ a n c, v = .slice a n c ∧ Own w' w.heap.size w'.heap.size a n xs ∧ n ≤ 1048576
theorem latB_bnd {R : Nat} {ys : List Int} (h : latB R ys = true) : ys.length = R ∧ ∀ e, -1000 ≤ gi ys e ∧ gi ys e ≤ 1000 := by
  rw [latB, Bool.and_eq_true, List.all_eq_true] at h
  refine ⟨eq_of_beq h.1, fun e => ?_⟩
  by_cases he : e < ys.length
  · rw [show gi ys e = ys[e] by simp [gi, he]]
    exact of_decide_eq_true (h.2 _ (List.getElem_mem he))
  · rw [show gi ys e = 0 by simp [gi, List.getD_eq_getElem?_getD, he]]; omega

theorem wrapCartan_no {R : Int} {a0 oa n : Nat} {l : List Int} {w : World} (hT : Reads w (some ⟨a0, oa, none⟩) n l) (hm0 : n ≤ 1048576) (hG : carG R l = none) :
    Calls Tryz.prog 60 #[.agg #[.int .i64 R, .slice (some ⟨a0, oa, none⟩) n n]] w fun e w' => e = .returned (.tuple #[.pointer none, .bool false]) ∧ Ext w w' := by
  have hln := hT.len
  by_cases h : 1 ≤ R ∧ R ≤ 4 ∧ (n : Int) = R * R
  · obtain ⟨R, rfl⟩ := Int.eq_ofNat_of_zero_le (show 0 ≤ R by omega)
    have hn : n = R * R := by have := h.2.2; exact_mod_cast this
    refine (wrapCartan_impl R a0 oa n l w hT hn (by omega) (by omega)).mono ?_
    rintro e w' (⟨h1, rfl, hE⟩ | ⟨B, LB, ns, ls, h1, rfl, hW⟩)
    · exact ⟨rfl, hE⟩
    · exfalso
      have h2 := wrapS_tab (show 0 < R by omega) (by omega) (hln.trans hn)
      rw [h1] at h2
      rw [carG, if_pos (by rw [hln]; exact h)] at hG
      simp only [Int.toNat_natCast] at hG
      rw [hG] at h2
      cases h2
  · exact wrapCartan_bad R a0 oa n w hm0 h
theorem wrapCartan_yes {K a0 oa n : Nat} {l : List Int} {v : List Nat × List Int} {w : World} (hT : Reads w (some ⟨a0, oa, none⟩) n l) (hK1 : 1 ≤ K) (hK4 : K ≤ 4) (hG : tabGet K l = some v) (hl : l.length = K * K) :
    Calls Tryz.prog 60 #[.agg #[.int .i64 (K : Nat), .slice (some ⟨a0, oa, none⟩) n n]] w fun e w' => ∃ B LB ns, e = .returned (.tuple #[.pointer (some ⟨B, 0, none⟩), .bool true]) ∧ sortN ns = v.1 ∧ Wrapped w w' B LB K (.slice (some ⟨a0, oa, none⟩) n n) ns v.2 := by
  have hln := hT.len
  refine (wrapCartan_impl K a0 oa n l w hT (by omega) hK1 hK4).mono ?_
  have h2 := wrapS_tab (show 0 < K by omega) hK4 hl
  rintro e w' (⟨h1, rfl, hE⟩ | ⟨B, LB, ns, ls, h1, rfl, hW⟩)
  · rw [h1, hG] at h2; cases h2
  · rw [h1, hG] at h2
    have h3 := Option.some.inj h2
    exact ⟨B, LB, ns, rfl, congrArg Prod.fst h3, by rw [← h3]; exact hW⟩
theorem isCartan_no {R : Int} {a0 oa n : Nat} {l : List Int} {w : World} (hT : Reads w (some ⟨a0, oa, none⟩) n l) (hm0 : n ≤ 1048576) (hG : carG R l = none) :
    Calls Tryz.prog 58 #[.agg #[.int .i64 R, .slice (some ⟨a0, oa, none⟩) n n]] w fun e w' => e = .returned (.bool false) ∧ Ext w w' :=
  isCartan_spec hT hm0 (by rw [carB_G, hG]; rfl)
theorem isCartan_yes {R : Int} {a0 oa n : Nat} {l : List Int} {v : List Nat × List Int} {w : World} (hT : Reads w (some ⟨a0, oa, none⟩) n l) (hm0 : n ≤ 1048576) (hG : carG R l = some v) :
    Calls Tryz.prog 58 #[.agg #[.int .i64 R, .slice (some ⟨a0, oa, none⟩) n n]] w fun e w' => e = .returned (.bool true) ∧ Ext w w' :=
  isCartan_spec hT hm0 (by rw [carB_G, hG]; rfl)
end Go.Proofs.YtlnpaplbcocmkaaGreat
