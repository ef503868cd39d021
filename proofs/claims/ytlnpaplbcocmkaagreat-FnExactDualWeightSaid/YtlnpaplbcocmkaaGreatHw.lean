/-
  A list of R numbers from 0 to 3: a highest weight, in both texts.
-/
import Derived.Test.YtlnpaplbcocmkaaGreatCg
import Derived.Test.YtlnpaplbcocmkaaGreatRs5
namespace Go.Proofs.YtlnpaplbcocmkaaGreat
open Go.ChangeShapes Go.WideShapes Go.ChangeAt Go.RowKit
set_option linter.unusedVariables false
set_option linter.unusedSimpArgs false

/-- R numbers from 0 to 3. -/
def hiB (R : Nat) (ys : List Int) : Bool := ys.length == R && ys.all fun y => decide (0 ≤ y ∧ y ≤ 3)
theorem hiB_len {R : Nat} {ys : List Int} (h : ¬ ys.length = R) : hiB R ys = false := by
  rw [hiB, beq_eq_false_iff_ne.2 h]; rfl
theorem hiB_yes {R : Nat} {ys : List Int} (h : ys.length = R) (h2 : ∀ e, e < R → 0 ≤ gi ys e ∧ gi ys e ≤ 3) : hiB R ys = true := by
  rw [hiB, beq_iff_eq.2 h, Bool.true_and, List.all_eq_true]
  intro y hy
  obtain ⟨e, he, rfl⟩ := List.mem_iff_getElem.1 hy
  have := h2 e (by omega)
  rw [show gi ys e = ys[e] by simp [gi, he]] at this
  exact decide_eq_true this
theorem hiB_no {R : Nat} {ys : List Int} {e : Nat} (he : e < ys.length) (h2 : ¬ (0 ≤ gi ys e ∧ gi ys e ≤ 3)) : hiB R ys = false := by
  rw [show gi ys e = ys[e] by simp [gi, he]] at h2
  rcases h : hiB R ys with _ | _
  · rfl
  · rw [hiB, Bool.and_eq_true, List.all_eq_true] at h
    exact absurd (of_decide_eq_true (h.2 _ (List.getElem_mem he))) h2

set_option maxRecDepth 300 in
set_option maxHeartbeats 3200000 in
theorem l8Highest_spec (R da od n cD ax ox m cx : Nat) (ys : List Int) (w : World) (hy : Reads w (some ⟨ax, ox, none⟩) m ys) (hR : R ≤ 4) (hmm : m ≤ 1048576) :
    Calls Tryz.prog 72 #[.agg #[.int .i64 (R : Nat), .slice (some ⟨da, od, none⟩) n cD], .slice (some ⟨ax, ox, none⟩) m cx] w fun e w' => e = .returned (.bool (hiB R ys)) ∧ Ext w w' := by
  have HY := Lib.hid hy
  have C0 := Lib.hid (cells_new w #[.int .i64 (R : Nat), .slice (some ⟨da, od, none⟩) n cD] 27)
  have X0 := Lib.hid ((Ext.refl w).alloc (.cells #[.int .i64 (R : Nat), .slice (some ⟨da, od, none⟩) n cD] 27))
  have HL := hy.len
  by_cases hm : m = R
  · have hmq : ((m : Int) == (R : Int)) = true := by simp; omega
    have hmn : ((m : Int) != (R : Int)) = false := by rw [bne, hmq]; rfl
    have HYES := Lib.hid (fun h2 => hiB_yes (ys := ys) (R := R) (by omega) h2)
    have HNO := Lib.hid (fun e he h2 => hiB_no (ys := ys) (R := R) (e := e) he h2)
    obtain ⟨q, hq⟩ : ∃ q, hiB R ys = q := ⟨_, rfl⟩
    rw [hq] at HYES HNO
    rw [hq]
    clear hy hq
    go_enter Tryz.func72, Tryz.ntmps72
    go_wp2_with fail
    generalize (w.alloc (.cells #[.int .i64 (R : Nat), .slice (some ⟨da, od, none⟩) n cD] 27)) = W1 at *
    go_loopw [5] (fun z wr => ∃ e : Nat, e ≤ m ∧ z = .int .i64 e ∧ Hid (Ext W1 wr) ∧ Hid (∀ p, p < e → 0 ≤ gi ys p ∧ gi ys p ≤ 3)) (fun z _ => m - (intOf z).toNat)
    case atStart => exact ⟨0, by omega, rfl, Ext.refl _, fun p h => by omega⟩
    case round =>
      obtain ⟨e, he, rfl, hE, hD⟩ := hrel
      have XE := Lib.hid (X0.out.trans hE.out)
      by_cases hlt : e < m
      · have HRW := HY.out.ext XE.out
        have hc : ax < wr.heap.size ∧ wr.cell? ⟨ax, ox + e, none⟩ = some (.int .i64 (gi ys e)) := by
          rcases HRW.2 with h | ⟨b3, o3, h, hb3, hc3⟩
          · omega
          · simp only [Option.some.injEq, Addr.mk.injEq, and_true] at h
            obtain ⟨rfl, rfl⟩ := h
            exact ⟨hb3, hc3 e hlt⟩
        obtain ⟨hdl, hc⟩ := hc
        have HD2 : Hid ((0 ≤ gi ys e ∧ gi ys e ≤ 3) → ∀ p, p < e + 1 → 0 ≤ gi ys p ∧ gi ys p ≤ 3) := fun h p hp => by
          by_cases ep : p = e
          · subst ep; exact h
          · exact hD.out p (by omega)
        have HN := Lib.hid (HNO.out e (by omega))
        generalize gi ys e = x at *
        have HIN := Lib.hid (fun w1 => l1In_spec x 0 3 w1)
        have hltI : (e : Int) < (m : Int) := by omega
        clear HRW hD
        rcases hin : decide (0 ≤ x ∧ x ≤ 3) with _ | _
        · have HF := Lib.hid (HN.out (fun h => by rw [decide_eq_true h] at hin; cases hin))
          rw [hin] at HIN
          go_wp2_with fail
          refine (HIN.out _).mono ?_
          rintro e' w' ⟨rfl, rfl⟩
          go_wp2
          go_ret
          exact ⟨ret_bool HF.out.symm, XE.out⟩
        · have HF := Lib.hid (HD2.out (of_decide_eq_true hin))
          rw [hin] at HIN
          go_wp2_with fail
          refine (HIN.out _).mono ?_
          rintro e' w' ⟨rfl, rfl⟩
          go_wp2
          exact ⟨⟨e + 1, by omega, by simp, hE, HF⟩, by simp [intOf]; omega⟩
      · obtain rfl : m = e := by omega
        have HF := Lib.hid (HYES.out (fun e h => hD.out e (by omega)))
        go_wp2
        go_ret
        exact ⟨ret_bool HF.out.symm, XE.out⟩
  · have hmq : ((m : Int) == (R : Int)) = false := by simp; omega
    have hmn : ((m : Int) != (R : Int)) = true := by rw [bne, hmq]; rfl
    have HF := Lib.hid (hiB_len (R := R) (ys := ys) (by omega))
    clear hy HL
    go_enter Tryz.func72, Tryz.ntmps72
    go_wp2
    go_ret
    exact ⟨ret_bool HF.out.symm, X0.out⟩

def hiA (ys : List Int) : Bool := ys.all fun y => decide (0 ≤ y ∧ y ≤ 3)
theorem hiA_yes {ys : List Int} (h2 : ∀ e, e < ys.length → 0 ≤ gi ys e ∧ gi ys e ≤ 3) : hiA ys = true := by
  have := hiB_yes (R := ys.length) rfl h2
  rw [hiB, Bool.and_eq_true] at this; exact this.2
theorem hiA_no {ys : List Int} {e : Nat} (he : e < ys.length) (h2 : ¬ (0 ≤ gi ys e ∧ gi ys e ≤ 3)) : hiA ys = false := by
  have := hiB_no (R := ys.length) he h2
  rw [hiB, beq_self_eq_true, Bool.true_and] at this; exact this
theorem hiB_A {R : Nat} {ys : List Int} (h : ys.length = R) : hiB R ys = hiA ys := by rw [hiB, beq_iff_eq.2 h, Bool.true_and]; rfl
set_option maxHeartbeats 400000 in
theorem hasHi_1 (x : Int) (w : World) : Calls Tryz.prog 172 #[.int .i64 x] w fun e w' => e = .returned (.bool (!decide (0 ≤ x ∧ x ≤ 3))) ∧ w = w' := by
  by_cases h1 : x < 0
  · go_enter Tryz.func172, Tryz.ntmps172
    go_wp2
    go_ret
    exact ⟨ret_bool (by first | (simp; omega) | (simp [*]; done) | (simp [*]; omega)), rfl⟩
  · go_enter Tryz.func172, Tryz.ntmps172
    go_wp2
    go_ret
    exact ⟨ret_bool (by rcases Classical.em (x ≤ 3) with h | h <;> (have h3 : (0 : Int) ≤ x := by omega) <;> first | (simp [h, h3]; done) | (simp [h, h3]; omega) | (simp; omega) | (simp [*]; done)), rfl⟩
set_option maxRecDepth 300 in
set_option maxHeartbeats 3200000 in
theorem indexHi (ax ox m cx : Nat) (ys : List Int) (w : World) (hy : Reads w (some ⟨ax, ox, none⟩) m ys) (hmm : m ≤ 1048576) :
    Calls Tryz.prog 125 #[.slice (some ⟨ax, ox, none⟩) m cx, .func (.func 172) #[] #[]] w fun e w' => ∃ z : Int, e = .returned (.int .i64 z) ∧ (decide (0 ≤ z) = !hiA ys) ∧ Ext w w' := by
  have HY := Lib.hid hy
  have HL := hy.len
  have HYES := Lib.hid (fun h2 => hiA_yes (ys := ys) h2)
  have HNO := Lib.hid (fun e he h2 => hiA_no (ys := ys) (e := e) he h2)
  obtain ⟨q, hq⟩ : ∃ q, hiA ys = q := ⟨_, rfl⟩
  rw [hq] at HYES HNO
  rw [hq]
  clear hy hq
  go_enter Tryz.func125, Tryz.ntmps125
  go_wp2_with fail
  go_loopw [8, 5] (fun z _ wr => ∃ e : Nat, e ≤ m ∧ z = .int .i64 e ∧ Hid (Ext w wr) ∧ Hid (∀ p, p < e → 0 ≤ gi ys p ∧ gi ys p ≤ 3)) (fun z _ _ => m - (intOf z).toNat)
  case atStart => exact ⟨0, by omega, rfl, Ext.refl _, fun p h => by omega⟩
  case round =>
    obtain ⟨e, he, rfl, hE, hD⟩ := hrel
    by_cases hlt : e < m
    · have HRW := HY.out.ext hE.out
      have hc : ax < wr.heap.size ∧ wr.cell? ⟨ax, ox + e, none⟩ = some (.int .i64 (gi ys e)) := by
        rcases HRW.2 with h | ⟨b3, o3, h, hb3, hc3⟩
        · omega
        · simp only [Option.some.injEq, Addr.mk.injEq, and_true] at h
          obtain ⟨rfl, rfl⟩ := h
          exact ⟨hb3, hc3 e hlt⟩
      obtain ⟨hdl, hc⟩ := hc
      have HD2 : Hid ((0 ≤ gi ys e ∧ gi ys e ≤ 3) → ∀ p, p < e + 1 → 0 ≤ gi ys p ∧ gi ys p ≤ 3) := fun h p hp => by
        by_cases ep : p = e
        · subst ep; exact h
        · exact hD.out p (by omega)
      have HN := Lib.hid (HNO.out e (by omega))
      generalize gi ys e = x at *
      have HIN := Lib.hid (fun w1 => hasHi_1 x w1)
      have hltI : (e : Int) < (m : Int) := by omega
      clear HRW hD
      rcases hin : decide (0 ≤ x ∧ x ≤ 3) with _ | _
      · have HF := Lib.hid (HN.out (fun h => by rw [decide_eq_true h] at hin; cases hin))
        rw [hin] at HIN
        go_wp2_with fail
        refine (HIN.out _).mono ?_
        rintro e' w' ⟨rfl, rfl⟩
        go_wp2
        go_ret
        exact ⟨e, rfl, by rw [HF.out]; simp, hE.out⟩
      · have HF := Lib.hid (HD2.out (of_decide_eq_true hin))
        rw [hin] at HIN
        go_wp2_with fail
        refine (HIN.out _).mono ?_
        rintro e' w' ⟨rfl, rfl⟩
        go_wp2
        exact ⟨⟨e + 1, by omega, by simp, hE, HF⟩, by simp [intOf]; omega⟩
    · obtain rfl : m = e := by omega
      have HF := Lib.hid (HYES.out (fun e h => hD.out e (by omega)))
      go_wp2
      go_ret
      exact ⟨-1, rfl, by rw [HF.out]; rfl, hE.out⟩
set_option maxRecDepth 300 in
set_option maxHeartbeats 1600000 in
theorem containsHi (ax ox m cx : Nat) (ys : List Int) (w : World) (hy : Reads w (some ⟨ax, ox, none⟩) m ys) (hmm : m ≤ 1048576) :
    Calls Tryz.prog 168 #[.slice (some ⟨ax, ox, none⟩) m cx, .func (.func 172) #[] #[]] w fun e w' => e = .returned (.bool (!hiA ys)) ∧ Ext w w' := by
  go_enter Tryz.func168, Tryz.ntmps168
  go_wp2_with fail
  refine (indexHi ax ox m cx ys _ hy hmm).mono ?_
  rintro e w2 ⟨z, rfl, hz, hE⟩
  have HZ := Lib.hid hz
  clear hz
  go_wp2
  go_ret
  exact ⟨ret_bool HZ.out, hE⟩
set_option maxRecDepth 300 in
set_option maxHeartbeats 1600000 in
theorem hasHighest_impl (B R da od n cD ax ox m cx : Nat) (v2 v3 : Value) (ys : List Int) (w : World) (hB : Cells w B [.int .i64 (R : Nat), .slice (some ⟨da, od, none⟩) n cD, v2, v3]) (hy : Reads w (some ⟨ax, ox, none⟩) m ys) (hR : R ≤ 4) (hmm : m ≤ 1048576) :
    Calls Tryz.prog 119 #[.pointer (some ⟨B, 0, none⟩), .slice (some ⟨ax, ox, none⟩) m cx] w fun e w' => e = .returned (.bool (hiB R ys)) ∧ Ext w w' := by
  have HL := hy.len
  have HY := Lib.hid (fun w1 (h : Ext w w1) => containsHi ax ox m cx ys w1 (hy.ext h) hmm)
  have lB := hB.1
  have q0 := hB.2 0 _ rfl
  by_cases hm : m = R
  · subst hm
    have hmq : ((m : Int) == (m : Int)) = true := by simp
    have HF := Lib.hid (hiB_A (R := m) (ys := ys) (by omega))
    clear hy hB
    go_enter Tryz.func119, Tryz.ntmps119
    go_wp2_with fail
    refine (HY.out _ (Ext.refl _)).mono ?_
    rintro e w2 ⟨rfl, hE⟩
    go_wp2
    go_ret
    exact ⟨ret_bool (by first | (rw [HF.out]; done) | (rw [HF.out]; simp)), hE⟩
  · have hmq : ((m : Int) == (R : Int)) = false := by simp; omega
    have HF := Lib.hid (hiB_len (R := R) (ys := ys) (by omega))
    clear hy hB HY
    go_enter Tryz.func119, Tryz.ntmps119
    go_wp2
    go_ret
    exact ⟨ret_bool HF.out.symm, Ext.refl _⟩
end Go.Proofs.YtlnpaplbcocmkaaGreat

/-
  Highest weights of a Cartan matrix, by the program.
-/
namespace Go.Proofs.YtlnpaplbcocmkaaGreat
open Go.ChangeShapes Go.WideShapes Go.ChangeAt Go.RowKit
set_option linter.unusedVariables false
set_option linter.unusedSimpArgs false

set_option maxRecDepth 100000 in
set_option maxHeartbeats 1600000 in
theorem wrapHi_1 (F S B R da od n cD ax ox m cx : Nat) (v1 v2 v3 : Value) (ys : List Int) (w : World) (hF : Cells w F [.pointer (some ⟨S, 0, none⟩)]) (hS : Cells w S [.pointer (some ⟨B, 0, none⟩), v1]) (hB : Cells w B [.int .i64 (R : Nat), .slice (some ⟨da, od, none⟩) n cD, v2, v3]) (hy : Reads w (some ⟨ax, ox, none⟩) m ys) (hR : R ≤ 4) (hmm : m ≤ 1048576) :
    Calls Tryz.prog 118 #[.slice (some ⟨ax, ox, none⟩) m cx, .pointer (some ⟨F, 0, none⟩)] w fun e w' => e = .returned (.bool (!hiB R ys)) ∧ Ext w w' := by
  have HC := Lib.hid (hasHighest_impl B R da od n cD ax ox m cx v2 v3 ys w hB hy hR hmm)
  have lF := hF.1
  have f0 := hF.2 0 _ rfl
  have lS := hS.1
  have s0 := hS.2 0 _ rfl
  clear hF hS hB hy
  go_enter Tryz.func118, Tryz.ntmps118
  go_wp2_with fail
  refine HC.out.mono ?_
  rintro e w2 ⟨rfl, hE⟩
  go_wp2
  go_ret
  exact ⟨rfl, hE⟩
set_option maxRecDepth 100000 in
set_option maxHeartbeats 3200000 in
theorem indexHiR (F S B R da od n cD g c ax ox m cx : Nat) (v1 v2 v3 : Value) (ys : List Int) (w : World) (hg : w.cell? ⟨g, 0, none⟩ = some (.slice (some ⟨ax, ox, none⟩) m cx)) (hgl : g < w.heap.size) (hF : Cells w F [.pointer (some ⟨S, 0, none⟩)]) (hS : Cells w S [.pointer (some ⟨B, 0, none⟩), v1]) (hB : Cells w B [.int .i64 (R : Nat), .slice (some ⟨da, od, none⟩) n cD, v2, v3]) (hy : Reads w (some ⟨ax, ox, none⟩) m ys) (hR : R ≤ 4) (hmm : m ≤ 1048576) :
    Calls Tryz.prog 171 #[.slice (some ⟨g, 0, none⟩) 1 c, .func (.func 118) #[] #[.pointer (some ⟨F, 0, none⟩)]] w fun e w' => ∃ z : Int, e = .returned (.int .i64 z) ∧ (decide (0 ≤ z) = !hiB R ys) ∧ Ext w w' := by
  have HG := Lib.hid hg
  have HC := Lib.hid (fun w1 (h : Ext w w1) => wrapHi_1 F S B R da od n cD ax ox m cx v1 v2 v3 ys w1 (hF.ext h) (hS.ext h) (hB.ext h) (hy.ext h) hR hmm)
  obtain ⟨q, hq⟩ : ∃ q, hiB R ys = q := ⟨_, rfl⟩
  rw [hq] at HC ⊢
  clear hg hF hS hB hy hq
  go_enter Tryz.func171, Tryz.ntmps171
  go_wp2_with fail
  go_loopw [8, 5] (fun z _ wr => ∃ e : Nat, e ≤ 1 ∧ z = .int .i64 e ∧ Hid (Ext w wr) ∧ Hid (0 < e → q = true)) (fun z _ _ => 1 - (intOf z).toNat)
  case atStart => exact ⟨0, by omega, rfl, Ext.refl _, fun h => absurd h (Nat.lt_irrefl _)⟩
  case round =>
    obtain ⟨e, he, rfl, hE, hD⟩ := hrel
    by_cases hlt : e < 1
    · obtain rfl : e = 0 := by omega
      have hc := (hE.out.cells g 0 hgl).trans HG.out
      have lg := Nat.lt_of_lt_of_le hgl hE.out.le
      have HCC := Lib.hid (HC.out wr hE.out)
      cases q
      · go_wp2_with fail
        refine HCC.out.mono ?_
        rintro e' w' ⟨rfl, h5⟩
        go_wp2
        go_ret
        exact ⟨0, rfl, rfl, hE.out.trans h5⟩
      · go_wp2_with fail
        refine HCC.out.mono ?_
        rintro e' w' ⟨rfl, h5⟩
        have HE5 := Lib.hid (hE.out.trans h5)
        go_wp2
        exact ⟨⟨1, by omega, by simp, HE5, by first | exact fun _ => rfl | exact fun _ => trivial | trivial⟩, by simp [intOf]⟩
    · obtain rfl : e = 1 := by omega
      have HF := hD.out (by omega)
      subst HF
      go_wp2
      go_ret
      exact ⟨-1, rfl, by first | rfl | decide | omega, hE.out⟩
set_option maxRecDepth 100000 in
set_option maxHeartbeats 1600000 in
theorem containsHiR (F S B R da od n cD g c ax ox m cx : Nat) (v1 v2 v3 : Value) (ys : List Int) (w : World) (hg : w.cell? ⟨g, 0, none⟩ = some (.slice (some ⟨ax, ox, none⟩) m cx)) (hgl : g < w.heap.size) (hF : Cells w F [.pointer (some ⟨S, 0, none⟩)]) (hS : Cells w S [.pointer (some ⟨B, 0, none⟩), v1]) (hB : Cells w B [.int .i64 (R : Nat), .slice (some ⟨da, od, none⟩) n cD, v2, v3]) (hy : Reads w (some ⟨ax, ox, none⟩) m ys) (hR : R ≤ 4) (hmm : m ≤ 1048576) :
    Calls Tryz.prog 117 #[.slice (some ⟨g, 0, none⟩) 1 c, .func (.func 118) #[] #[.pointer (some ⟨F, 0, none⟩)]] w fun e w' => e = .returned (.bool (!hiB R ys)) ∧ Ext w w' := by
  have HC := Lib.hid (indexHiR F S B R da od n cD g c ax ox m cx v1 v2 v3 ys w hg hgl hF hS hB hy hR hmm)
  clear hg hF hS hB hy
  go_enter Tryz.func117, Tryz.ntmps117
  go_wp2_with fail
  refine HC.out.mono ?_
  rintro e w2 ⟨z, rfl, hz, hE⟩
  have HZ := Lib.hid hz
  clear hz
  go_wp2
  go_ret
  exact ⟨ret_bool HZ.out, hE⟩
set_option maxRecDepth 100000 in
set_option maxHeartbeats 1600000 in
theorem wrapHighest_no {R : Int} {a0 oa n : Nat} {v1 : Value} {l : List Int} {w : World} (hT : Reads w (some ⟨a0, oa, none⟩) n l) (hm0 : n ≤ 1048576) (hG : carG R l = none) :
    Calls Tryz.prog 76 #[.agg #[.int .i64 R, .slice (some ⟨a0, oa, none⟩) n n], v1] w fun e w' => e = .returned (.tuple #[.pointer none, .bool false]) ∧ Ext w w' := by
  have HT := Lib.hid hT
  clear hT
  go_enter Tryz.func76, Tryz.ntmps76
  go_wp2_with fail
  refine (wrapRoots_no (HT.out.ext ((Ext.refl w).alloc _)) hm0 hG).mono ?_
  rintro e w2 ⟨rfl, hE⟩
  go_wp2
  go_ret2
  exact ⟨rfl, (((Ext.refl w).alloc _).trans hE).alloc _⟩
set_option maxRecDepth 100000 in
set_option maxHeartbeats 3200000 in
theorem wrapHighest_yes {K a0 oa n g c ax ox m cx : Nat} {l ys : List Int} {v : List Nat × List Int} {w : World} (hT : Reads w (some ⟨a0, oa, none⟩) n l) (hK1 : 1 ≤ K) (hK4 : K ≤ 4) (hG : tabGet K l = some v) (hl : l.length = K * K) (hok : RootsOk l v.2 K) (hlo : LenOk l v.2 K) (hg : w.cell? ⟨g, 0, none⟩ = some (.slice (some ⟨ax, ox, none⟩) m cx)) (hgl : g < w.heap.size) (hy : Reads w (some ⟨ax, ox, none⟩) m ys) (hmm : m ≤ 1048576) :
    Calls Tryz.prog 76 #[.agg #[.int .i64 (K : Nat), .slice (some ⟨a0, oa, none⟩) n n], .slice (some ⟨g, 0, none⟩) 1 c] w fun e w' => (hiB K ys = false ∧ e = .returned (.tuple #[.pointer none, .bool false]) ∧ Ext w w') ∨ (hiB K ys = true ∧ ∃ S B LB ns gr cr, e = .returned (.tuple #[.pointer (some ⟨S, 0, none⟩), .bool true]) ∧ sortN ns = v.1 ∧ RSys w w' S B LB K (.slice (some ⟨a0, oa, none⟩) n n) ns v.2 gr cr (posR l K)) := by
  have HT := Lib.hid hT
  have HG := Lib.hid hg
  have HY := Lib.hid hy
  have X0 := Lib.hid ((Ext.refl w).alloc (.cells #[.int .i64 (K : Nat), .slice (some ⟨a0, oa, none⟩) n n] 27))
  clear hT hg hy
  go_enter Tryz.func76, Tryz.ntmps76
  go_wp2_with fail
  refine (wrapRoots_yes (HT.out.ext X0.out) hK1 hK4 hG hl hok hlo).mono ?_
  rintro e w2 ⟨S, B, LB, ns, gr, cr, rfl, hns, hS⟩
  have HS := Lib.hid (hS.low X0.out)
  have HNS := Lib.hid hns
  have XF := Lib.hid ((Ext.refl w2).alloc (.cells #[.pointer (some ⟨S, 0, none⟩)] 80))
  have HF := Lib.hid (cells_new w2 #[.pointer (some ⟨S, 0, none⟩)] 80)
  obtain ⟨xa, xn, xc, hbox, hstr⟩ := hS.wr.box
  have HBX := Lib.hid hbox
  have HSB := Lib.hid hS.box
  clear hS hns hbox hstr
  have HCH := Lib.hid (containsHiR w2.heap.size S B K a0 oa n n g c ax ox m cx _ _ _ ys _ ((((HS.out.wr.ext.trans XF.out)).cells g 0 hgl).trans HG.out) (Nat.lt_of_lt_of_le hgl (HS.out.wr.ext.trans XF.out).le) HF.out (HSB.out.ext XF.out) (HBX.out.ext XF.out) (HY.out.ext (HS.out.wr.ext.trans XF.out)) hK4 hmm)
  have lF := HF.out.1
  have f0 := HF.out.2 0 _ rfl
  rcases hh : hiB K ys with _ | _
  · rw [hh] at HCH
    go_wp2_with fail
    refine HCH.out.mono ?_
    rintro e w3 ⟨rfl, h3⟩
    go_wp2
    go_ret2
    exact .inl ⟨hh, rfl, (HS.out.wr.ext.trans XF.out).trans h3⟩
  · rw [hh] at HCH
    go_wp2_with fail
    refine HCH.out.mono ?_
    rintro e w3 ⟨rfl, h3⟩
    have f3 := (HF.out.ext h3).2 0 _ rfl
    have l3 := (HF.out.ext h3).1
    clear f0 lF
    go_wp2
    go_ret2
    exact .inr ⟨hh, S, B, LB, ns, gr, cr, rfl, HNS.out, (HS.out.step XF.out).step h3⟩
end Go.Proofs.YtlnpaplbcocmkaaGreat
