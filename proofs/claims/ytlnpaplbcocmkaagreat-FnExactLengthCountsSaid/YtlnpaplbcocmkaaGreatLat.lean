/-
  A list of R numbers of small size: l5Lattice of the specification.
-/
import Derived.Test.YtlnpaplbcocmkaaGreatPrt
namespace Go.Proofs.YtlnpaplbcocmkaaGreat
open Go.ChangeShapes Go.WideShapes Go.ChangeAt Go.RowKit
set_option linter.unusedVariables false
set_option linter.unusedSimpArgs false

/-- R numbers between -1000 and 1000. -/
def latB (R : Nat) (ys : List Int) : Bool := ys.length == R && ys.all fun y => decide (-1000 ≤ y ∧ y ≤ 1000)
theorem latB_len {R : Nat} {ys : List Int} (h : ¬ ys.length = R) : latB R ys = false := by
  rw [latB, beq_eq_false_iff_ne.2 h]; rfl
theorem latB_yes {R : Nat} {ys : List Int} (h : ys.length = R) (h2 : ∀ e, e < R → -1000 ≤ gi ys e ∧ gi ys e ≤ 1000) : latB R ys = true := by
  rw [latB, beq_iff_eq.2 h, Bool.true_and, List.all_eq_true]
  intro y hy
  obtain ⟨e, he, rfl⟩ := List.mem_iff_getElem.1 hy
  have := h2 e (by omega)
  rw [show gi ys e = ys[e] by simp [gi, he]] at this
  exact decide_eq_true this
theorem latB_no {R : Nat} {ys : List Int} {e : Nat} (he : e < ys.length) (h2 : ¬ (-1000 ≤ gi ys e ∧ gi ys e ≤ 1000)) : latB R ys = false := by
  rw [show gi ys e = ys[e] by simp [gi, he]] at h2
  rcases h : latB R ys with _ | _
  · rfl
  · rw [latB, Bool.and_eq_true, List.all_eq_true] at h
    exact absurd (of_decide_eq_true (h.2 _ (List.getElem_mem he))) h2

set_option maxRecDepth 100000 in
set_option maxHeartbeats 3200000 in
theorem l5Lattice_spec (R da od n cD ax ox m cx : Nat) (ys : List Int) (w : World) (hy : Reads w (some ⟨ax, ox, none⟩) m ys) (hR : R ≤ 4) (hmm : m ≤ 1048576) :
    Calls Tryz.prog 67 #[.agg #[.int .i64 (R : Nat), .slice (some ⟨da, od, none⟩) n cD], .slice (some ⟨ax, ox, none⟩) m cx] w fun e w' => e = .returned (.bool (latB R ys)) ∧ Ext w w' := by
  have HY := Lib.hid hy
  have C0 := Lib.hid (cells_new w #[.int .i64 (R : Nat), .slice (some ⟨da, od, none⟩) n cD] 27)
  have X0 := Lib.hid ((Ext.refl w).alloc (.cells #[.int .i64 (R : Nat), .slice (some ⟨da, od, none⟩) n cD] 27))
  have HL := hy.len
  by_cases hm : m = R
  · have hmq : ((m : Int) == (R : Int)) = true := by simp; omega
    have hmn : ((m : Int) != (R : Int)) = false := by rw [bne, hmq]; rfl
    have HYES := Lib.hid (fun h2 => latB_yes (ys := ys) (R := R) (by omega) h2)
    have HNO := Lib.hid (fun e he h2 => latB_no (ys := ys) (R := R) (e := e) he h2)
    obtain ⟨q, hq⟩ : ∃ q, latB R ys = q := ⟨_, rfl⟩
    rw [hq] at HYES HNO
    rw [hq]
    clear hy hq
    go_enter Tryz.func67, Tryz.ntmps67
    go_wp2_with fail
    generalize (w.alloc (.cells #[.int .i64 (R : Nat), .slice (some ⟨da, od, none⟩) n cD] 27)) = W1 at *
    go_loopw [5] (fun z wr => ∃ e : Nat, e ≤ m ∧ z = .int .i64 e ∧ Hid (Ext W1 wr) ∧ Hid (∀ p, p < e → -1000 ≤ gi ys p ∧ gi ys p ≤ 1000)) (fun z _ => m - (intOf z).toNat)
    case atStart => exact ⟨0, by omega, rfl, Ext.refl _, fun p h => by omega⟩
    case round =>
      obtain ⟨e, he, rfl, hE, hD⟩ := hrel
      have XE := Lib.hid (X0.out.trans hE.out)
      by_cases hlt : e < m
      · have HRW := HY.out.ext XE.out
        have hc : ax < wr.heap.size ∧ wr.cell? ⟨ax, ox + e, none⟩ = some (.int .i64 (gi ys e)) := by
          rcases HRW.2 with h | ⟨b3, o3, h, hb3, hc3⟩
          · omega
          · simp only [Option.some.injEq, Addr.mk.injEq, and_true] at h
            obtain ⟨rfl, rfl⟩ := h
            exact ⟨hb3, hc3 e hlt⟩
        obtain ⟨hdl, hc⟩ := hc
        have HD2 : Hid ((-1000 ≤ gi ys e ∧ gi ys e ≤ 1000) → ∀ p, p < e + 1 → -1000 ≤ gi ys p ∧ gi ys p ≤ 1000) := fun h p hp => by
          by_cases ep : p = e
          · subst ep; exact h
          · exact hD.out p (by omega)
        have HN := Lib.hid (HNO.out e (by omega))
        generalize gi ys e = x at *
        have HIN := Lib.hid (fun w1 => l1In_spec x (-1000) 1000 w1)
        have hltI : (e : Int) < (m : Int) := by omega
        clear HRW hD
        rcases hin : decide (-1000 ≤ x ∧ x ≤ 1000) with _ | _
        · have HF := Lib.hid (HN.out (fun h => by rw [decide_eq_true h] at hin; cases hin))
          rw [hin] at HIN
          go_wp2_with fail
          refine (HIN.out _).mono ?_
          rintro e' w' ⟨rfl, rfl⟩
          go_wp2
          go_ret
          exact ⟨ret_bool HF.out.symm, XE.out⟩
        · have HF := Lib.hid (HD2.out (of_decide_eq_true hin))
          rw [hin] at HIN
          go_wp2_with fail
          refine (HIN.out _).mono ?_
          rintro e' w' ⟨rfl, rfl⟩
          go_wp2
          exact ⟨⟨e + 1, by omega, by simp, hE, HF⟩, by simp [intOf]; omega⟩
      · obtain rfl : m = e := by omega
        have HF := Lib.hid (HYES.out (fun e h => hD.out e (by omega)))
        go_wp2
        go_ret
        exact ⟨ret_bool HF.out.symm, XE.out⟩
  · have hmq : ((m : Int) == (R : Int)) = false := by simp; omega
    have hmn : ((m : Int) != (R : Int)) = true := by rw [bne, hmq]; rfl
    have HF := Lib.hid (latB_len (R := R) (ys := ys) (by omega))
    clear hy HL
    go_enter Tryz.func67, Tryz.ntmps67
    go_wp2
    go_ret
    exact ⟨ret_bool HF.out.symm, X0.out⟩

def latA (ys : List Int) : Bool := ys.all fun y => decide (-1000 ≤ y ∧ y ≤ 1000)
theorem latA_yes {ys : List Int} (h2 : ∀ e, e < ys.length → -1000 ≤ gi ys e ∧ gi ys e ≤ 1000) : latA ys = true := by
  have := latB_yes (R := ys.length) rfl h2
  rw [latB, Bool.and_eq_true] at this; exact this.2
theorem latA_no {ys : List Int} {e : Nat} (he : e < ys.length) (h2 : ¬ (-1000 ≤ gi ys e ∧ gi ys e ≤ 1000)) : latA ys = false := by
  have := latB_no (R := ys.length) he h2
  rw [latB, beq_self_eq_true, Bool.true_and] at this; exact this
theorem latB_A {R : Nat} {ys : List Int} (h : ys.length = R) : latB R ys = latA ys := by rw [latB, beq_iff_eq.2 h, Bool.true_and]; rfl
set_option maxHeartbeats 400000 in
theorem hasLat_1 (x : Int) (w : World) : Calls Tryz.prog 169 #[.int .i64 x] w fun e w' => e = .returned (.bool (!decide (-1000 ≤ x ∧ x ≤ 1000))) ∧ w = w' := by
  by_cases h1 : x < -1000
  · go_enter Tryz.func169, Tryz.ntmps169
    go_wp2
    go_ret
    exact ⟨ret_bool (by first | (simp; omega) | (simp [*]; done) | (simp [*]; omega)), rfl⟩
  · go_enter Tryz.func169, Tryz.ntmps169
    go_wp2
    go_ret
    exact ⟨ret_bool (by rcases Classical.em (x ≤ 1000) with h | h <;> (have h3 : (-1000 : Int) ≤ x := by omega) <;> first | (simp [h, h3]; done) | (simp [h, h3]; omega) | (simp; omega) | (simp [*]; done)), rfl⟩
set_option maxRecDepth 100000 in
set_option maxHeartbeats 3200000 in
theorem indexLat (ax ox m cx : Nat) (ys : List Int) (w : World) (hy : Reads w (some ⟨ax, ox, none⟩) m ys) (hmm : m ≤ 1048576) :
    Calls Tryz.prog 125 #[.slice (some ⟨ax, ox, none⟩) m cx, .func (.func 169) #[] #[]] w fun e w' => ∃ z : Int, e = .returned (.int .i64 z) ∧ (decide (0 ≤ z) = !latA ys) ∧ Ext w w' := by
  have HY := Lib.hid hy
  have HL := hy.len
  have HYES := Lib.hid (fun h2 => latA_yes (ys := ys) h2)
  have HNO := Lib.hid (fun e he h2 => latA_no (ys := ys) (e := e) he h2)
  obtain ⟨q, hq⟩ : ∃ q, latA ys = q := ⟨_, rfl⟩
  rw [hq] at HYES HNO
  rw [hq]
  clear hy hq
  go_enter Tryz.func125, Tryz.ntmps125
  go_wp2_with fail
  go_loopw [8, 5] (fun z _ wr => ∃ e : Nat, e ≤ m ∧ z = .int .i64 e ∧ Hid (Ext w wr) ∧ Hid (∀ p, p < e → -1000 ≤ gi ys p ∧ gi ys p ≤ 1000)) (fun z _ _ => m - (intOf z).toNat)
  case atStart => exact ⟨0, by omega, rfl, Ext.refl _, fun p h => by omega⟩
  case round =>
    obtain ⟨e, he, rfl, hE, hD⟩ := hrel
    by_cases hlt : e < m
    · have HRW := HY.out.ext hE.out
      have hc : ax < wr.heap.size ∧ wr.cell? ⟨ax, ox + e, none⟩ = some (.int .i64 (gi ys e)) := by
        rcases HRW.2 with h | ⟨b3, o3, h, hb3, hc3⟩
        · omega
        · simp only [Option.some.injEq, Addr.mk.injEq, and_true] at h
          obtain ⟨rfl, rfl⟩ := h
          exact ⟨hb3, hc3 e hlt⟩
      obtain ⟨hdl, hc⟩ := hc
      have HD2 : Hid ((-1000 ≤ gi ys e ∧ gi ys e ≤ 1000) → ∀ p, p < e + 1 → -1000 ≤ gi ys p ∧ gi ys p ≤ 1000) := fun h p hp => by
        by_cases ep : p = e
        · subst ep; exact h
        · exact hD.out p (by omega)
      have HN := Lib.hid (HNO.out e (by omega))
      generalize gi ys e = x at *
      have HIN := Lib.hid (fun w1 => hasLat_1 x w1)
      have hltI : (e : Int) < (m : Int) := by omega
      clear HRW hD
      rcases hin : decide (-1000 ≤ x ∧ x ≤ 1000) with _ | _
      · have HF := Lib.hid (HN.out (fun h => by rw [decide_eq_true h] at hin; cases hin))
        rw [hin] at HIN
        go_wp2_with fail
        refine (HIN.out _).mono ?_
        rintro e' w' ⟨rfl, rfl⟩
        go_wp2
        go_ret
        exact ⟨e, rfl, by rw [HF.out]; simp, hE.out⟩
      · have HF := Lib.hid (HD2.out (of_decide_eq_true hin))
        rw [hin] at HIN
        go_wp2_with fail
        refine (HIN.out _).mono ?_
        rintro e' w' ⟨rfl, rfl⟩
        go_wp2
        exact ⟨⟨e + 1, by omega, by simp, hE, HF⟩, by simp [intOf]; omega⟩
    · obtain rfl : m = e := by omega
      have HF := Lib.hid (HYES.out (fun e h => hD.out e (by omega)))
      go_wp2
      go_ret
      exact ⟨-1, rfl, by rw [HF.out]; rfl, hE.out⟩
set_option maxRecDepth 100000 in
set_option maxHeartbeats 1600000 in
theorem containsLat (ax ox m cx : Nat) (ys : List Int) (w : World) (hy : Reads w (some ⟨ax, ox, none⟩) m ys) (hmm : m ≤ 1048576) :
    Calls Tryz.prog 168 #[.slice (some ⟨ax, ox, none⟩) m cx, .func (.func 169) #[] #[]] w fun e w' => e = .returned (.bool (!latA ys)) ∧ Ext w w' := by
  go_enter Tryz.func168, Tryz.ntmps168
  go_wp2_with fail
  refine (indexLat ax ox m cx ys _ hy hmm).mono ?_
  rintro e w2 ⟨z, rfl, hz, hE⟩
  have HZ := Lib.hid hz
  clear hz
  go_wp2
  go_ret
  exact ⟨ret_bool HZ.out, hE⟩
set_option maxRecDepth 100000 in
set_option maxHeartbeats 1600000 in
theorem hasLattice_impl (B R da od n cD ax ox m cx : Nat) (v2 v3 : Value) (ys : List Int) (w : World) (hB : Cells w B [.int .i64 (R : Nat), .slice (some ⟨da, od, none⟩) n cD, v2, v3]) (hy : Reads w (some ⟨ax, ox, none⟩) m ys) (hR : R ≤ 4) (hmm : m ≤ 1048576) :
    Calls Tryz.prog 114 #[.pointer (some ⟨B, 0, none⟩), .slice (some ⟨ax, ox, none⟩) m cx] w fun e w' => e = .returned (.bool (latB R ys)) ∧ Ext w w' := by
  have HL := hy.len
  have HY := Lib.hid (fun w1 (h : Ext w w1) => containsLat ax ox m cx ys w1 (hy.ext h) hmm)
  have lB := hB.1
  have q0 := hB.2 0 _ rfl
  by_cases hm : m = R
  · subst hm
    have hmq : ((m : Int) == (m : Int)) = true := by simp
    have HF := Lib.hid (latB_A (R := m) (ys := ys) (by omega))
    clear hy hB
    go_enter Tryz.func114, Tryz.ntmps114
    go_wp2_with fail
    refine (HY.out _ (Ext.refl _)).mono ?_
    rintro e w2 ⟨rfl, hE⟩
    go_wp2
    go_ret
    exact ⟨ret_bool (by first | (rw [HF.out]; done) | (rw [HF.out]; simp)), hE⟩
  · have hmq : ((m : Int) == (R : Int)) = false := by simp; omega
    have HF := Lib.hid (latB_len (R := R) (ys := ys) (by omega))
    clear hy hB HY
    go_enter Tryz.func114, Tryz.ntmps114
    go_wp2
    go_ret
    exact ⟨ret_bool HF.out.symm, Ext.refl _⟩
end Go.Proofs.YtlnpaplbcocmkaaGreat
