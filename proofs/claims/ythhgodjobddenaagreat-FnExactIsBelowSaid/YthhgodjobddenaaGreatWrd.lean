/-
  Words of a Weyl group, in both texts.
-/
import Derived.Test.YthhgodjobddenaaGreatCrg
import Derived.Laws.EntriesVeiled
namespace Go.Proofs.YthhgodjobddenaaGreat
open Go.ChangeShapes Go.WideShapes Go.ChangeAt Go.RowKit
set_option linter.unusedVariables false
set_option linter.unusedSimpArgs false

theorem readsW {w : World} {a : Option Addr} {n : Nat} {xs : List Int} (h : Reads w a n xs) (h0 : 0 < n) : ∃ b o, a = some ⟨b, o, none⟩ ∧ b < w.heap.size ∧ ∀ j, j < n → w.cell? ⟨b, o + j, none⟩ = some (.int .i64 (gi xs j)) := by
  rcases h.2 with h1 | h1
  · omega
  · exact h1
def rowB (R : Nat) (ys : List Int) : Bool := ys.all fun y => decide (0 ≤ y ∧ y < (R : Int))
/-- At most 60 numbers of rows. -/
def wordB (R : Nat) (ys : List Int) : Bool := decide (ys.length ≤ 60) && rowB R ys
theorem rowB_yes {R : Nat} {ys : List Int} (h2 : ∀ e, e < ys.length → 0 ≤ gi ys e ∧ gi ys e < (R : Int)) : rowB R ys = true := by
  rw [rowB, List.all_eq_true]
  intro y hy
  obtain ⟨e, he, rfl⟩ := List.mem_iff_getElem.1 hy
  have := h2 e he
  rw [show gi ys e = ys[e] by simp [gi, he]] at this
  exact decide_eq_true this
theorem rowB_no {R : Nat} {ys : List Int} {e : Nat} (he : e < ys.length) (h2 : ¬ (0 ≤ gi ys e ∧ gi ys e < (R : Int))) : rowB R ys = false := by
  rw [show gi ys e = ys[e] by simp [gi, he]] at h2
  rcases h : rowB R ys with _ | _
  · rfl
  · rw [rowB, List.all_eq_true] at h
    exact absurd (of_decide_eq_true (h _ (List.getElem_mem he))) h2
theorem rowB_at {R : Nat} {ys : List Int} (h : rowB R ys = true) {e : Nat} (he : e < ys.length) : 0 ≤ gi ys e ∧ gi ys e < (R : Int) := by
  rw [rowB, List.all_eq_true] at h
  rw [show gi ys e = ys[e] by simp [gi, he]]
  exact of_decide_eq_true (h _ (List.getElem_mem he))
theorem wordB_len {R : Nat} {ys : List Int} (h : ¬ ys.length ≤ 60) : wordB R ys = false := by
  rw [wordB, decide_eq_false h]; rfl
theorem wordB_row {R : Nat} {ys : List Int} (h : ys.length ≤ 60) : wordB R ys = rowB R ys := by
  rw [wordB, decide_eq_true h]; rfl

set_option maxRecDepth 100000 in
set_option maxHeartbeats 3200000 in
theorem l6Word_spec (R da od n cD m cx : Nat) (ax : Option Addr) (ys : List Int) (w : World) (hy : Reads w ax m ys) (hR0 : 1 ≤ R) (hR : R ≤ 4) (hmm : m ≤ 1048576) :
    Calls Tryz.prog 93 #[.agg #[.int .i64 (R : Nat), .slice (some ⟨da, od, none⟩) n cD], .slice ax m cx] w fun e w' => e = .returned (.bool (wordB R ys)) ∧ Ext w w' := by
  have HY := Lib.hid hy
  have C0 := Lib.hid (cells_new w #[.int .i64 (R : Nat), .slice (some ⟨da, od, none⟩) n cD] 27)
  have X0 := Lib.hid ((Ext.refl w).alloc (.cells #[.int .i64 (R : Nat), .slice (some ⟨da, od, none⟩) n cD] 27))
  have HL := hy.len
  by_cases hm : m ≤ 60
  · have HYES := Lib.hid (fun h2 => rowB_yes (ys := ys) (R := R) h2)
    have HNO := Lib.hid (fun e he h2 => rowB_no (ys := ys) (R := R) (e := e) he h2)
    rw [wordB_row (by omega)]
    obtain ⟨q, hq⟩ : ∃ q, rowB R ys = q := ⟨_, rfl⟩
    rw [hq] at HYES HNO
    rw [hq]
    have hmI : ¬ (60 < (m : Int)) := by omega
    clear hy hq
    go_enter Tryz.func93, Tryz.ntmps93
    go_wp2_with fail
    generalize (w.alloc (.cells #[.int .i64 (R : Nat), .slice (some ⟨da, od, none⟩) n cD] 27)) = W1 at *
    go_loopw [5] (fun z wr => ∃ e : Nat, e ≤ m ∧ z = .int .i64 e ∧ Hid (Ext W1 wr) ∧ Hid (∀ p, p < e → 0 ≤ gi ys p ∧ gi ys p < (R : Int))) (fun z _ => m - (intOf z).toNat)
    case atStart => exact ⟨0, by omega, rfl, Ext.refl _, fun p h => by omega⟩
    case round =>
      obtain ⟨e, he, rfl, hE, hD⟩ := hrel
      have C1 := Lib.hid (C0.out.ext hE.out)
      have X1 := Lib.hid (X0.out.trans hE.out)
      have lB := C1.out.1
      have q0 := C1.out.2 0 _ rfl
      by_cases hlt : e < m
      · obtain ⟨bx, ox, rfl, hbx, hxc⟩ := readsW HY.out (by omega)
        have lx := Nat.lt_of_lt_of_le hbx X1.out.le
        have cx := (X1.out.cells bx (ox + e) hbx).trans (hxc e hlt)
        have HD2 : Hid ((0 ≤ gi ys e ∧ gi ys e < (R : Int)) → ∀ p, p < e + 1 → 0 ≤ gi ys p ∧ gi ys p < (R : Int)) := fun h p hp => by
          by_cases ep : p = e
          · subst ep; exact h
          · exact hD.out p (by omega)
        have HN := Lib.hid (HNO.out e (by omega))
        generalize gi ys e = x at *
        have HIN := Lib.hid (fun w1 => l1In_spec x 0 ((R : Int) - 1) w1)
        have hltI : (e : Int) < (m : Int) := by omega
        have vR : IntKind.i64.wrap ((R : Int) - 1) = (R : Int) - 1 := IntWalk.i64_in _ ⟨by omega, by omega⟩
        clear hxc hD
        rcases hin : decide (0 ≤ x ∧ x ≤ (R : Int) - 1) with _ | _
        · have HF := Lib.hid (HN.out (fun h => by rw [decide_eq_true ⟨h.1, by omega⟩] at hin; cases hin))
          rw [hin] at HIN
          go_wp2_with fail
          go_quiet ((go_at_call 94; exact Calls.quiet_of_same ((HIN.out _).mono fun _ _ ⟨he, hw⟩ => ⟨he, hw.symm⟩)))
          go_wp2
          go_ret
          exact ⟨ret_bool HF.out.symm, by with_reducible repeat (first | exact X1.out | refine Ext.drewN ?_ _ | refine Ext.drew ?_)⟩
        · have hin2 := of_decide_eq_true hin
          have HF := Lib.hid (HD2.out ⟨hin2.1, by omega⟩)
          rw [hin] at HIN
          clear hin2
          go_wp2_with fail
          go_quiet ((go_at_call 94; exact Calls.quiet_of_same ((HIN.out _).mono fun _ _ ⟨he, hw⟩ => ⟨he, hw.symm⟩)))
          go_wp2
          exact ⟨⟨e + 1, by omega, by simp, hE.out.drewN _, HF⟩, by simp [intOf]; omega⟩
      · obtain rfl : m = e := by omega
        have HF := Lib.hid (HYES.out (fun e h => hD.out e (by omega)))
        go_wp2
        go_ret
        exact ⟨ret_bool HF.out.symm, X1.out⟩
  · have HF := Lib.hid (wordB_len (R := R) (ys := ys) (by omega))
    have hmI : (60 < (m : Int)) := by omega
    clear hy HL
    go_enter Tryz.func93, Tryz.ntmps93
    go_wp2
    go_ret
    exact ⟨ret_bool HF.out.symm, X0.out⟩

set_option maxRecDepth 100000 in
set_option maxHeartbeats 400000 in
theorem hasWord_1 (F B R : Nat) (v1 v2 v3 : Value) (x : Int) (w : World) (hF : Cells w F [.pointer (some ⟨B, 0, none⟩)]) (hB : Cells w B [.int .i64 (R : Nat), v1, v2, v3]) : Calls Tryz.prog 128 #[.int .i64 x, .pointer (some ⟨F, 0, none⟩)] w fun e w' => e = .returned (.bool (!decide (0 ≤ x ∧ x < (R : Int)))) ∧ Ext w w' := by
  have lF := hF.1
  have f0 := hF.2 0 _ rfl
  have lB := hB.1
  have q0 := hB.2 0 _ rfl
  obtain ⟨qq, hqq⟩ : ∃ qq, (!decide (0 ≤ x ∧ x < (R : Int))) = qq := ⟨_, rfl⟩
  rw [hqq]
  have HQ := Lib.hid hqq
  clear hF hB hqq
  by_cases h1 : x < 0
  · go_enter Tryz.func128, Tryz.ntmps128
    go_wp2
    go_ret
    exact ⟨ret_bool (by rw [← HQ.out, decide_eq_false (by omega)]; rfl), Ext.refl _⟩
  · have h0 : 0 ≤ x := by omega
    have hd : decide (x < 0) = false := decide_eq_false h1
    by_cases h2 : (R : Int) ≤ x
    · go_enter Tryz.func128, Tryz.ntmps128
      go_wp2
      go_ret
      exact ⟨ret_bool (by rw [← HQ.out, decide_eq_false (show ¬ (0 ≤ x ∧ x < (R : Int)) by omega)]; first | rfl | simp [h2]), Ext.refl _⟩
    · go_enter Tryz.func128, Tryz.ntmps128
      go_wp2
      go_ret
      exact ⟨ret_bool (by rw [← HQ.out, decide_eq_true (show (0 ≤ x ∧ x < (R : Int)) by omega)]; first | rfl | simp [h2] | (simp; omega)), Ext.refl _⟩
set_option maxRecDepth 100000 in
set_option maxHeartbeats 3200000 in
theorem indexWord (F B R m cx : Nat) (ax : Option Addr) (v1 v2 v3 : Value) (ys : List Int) (w : World) (hF : Cells w F [.pointer (some ⟨B, 0, none⟩)]) (hB : Cells w B [.int .i64 (R : Nat), v1, v2, v3]) (hy : Reads w ax m ys) (hmm : m ≤ 1048576) :
    Calls Tryz.prog 131 #[.slice ax m cx, .func (.func 128) #[] #[.pointer (some ⟨F, 0, none⟩)]] w fun e w' => ∃ z : Int, e = .returned (.int .i64 z) ∧ (decide (0 ≤ z) = !rowB R ys) ∧ Ext w w' := by
  have HY := Lib.hid hy
  have HF := Lib.hid hF
  have HB := Lib.hid hB
  have HL := hy.len
  have HYES := Lib.hid (fun h2 => rowB_yes (ys := ys) (R := R) h2)
  have HNO := Lib.hid (fun e he h2 => rowB_no (ys := ys) (R := R) (e := e) he h2)
  obtain ⟨q, hq⟩ : ∃ q, rowB R ys = q := ⟨_, rfl⟩
  rw [hq] at HYES HNO
  rw [hq]
  clear hy hq hF hB
  go_enter Tryz.func131, Tryz.ntmps131
  go_wp2_with fail
  go_loopw [8, 5] (fun z _ wr => ∃ e : Nat, e ≤ m ∧ z = .int .i64 e ∧ Hid (Ext w wr) ∧ Hid (∀ p, p < e → 0 ≤ gi ys p ∧ gi ys p < (R : Int))) (fun z _ _ => m - (intOf z).toNat)
  case atStart => exact ⟨0, by omega, rfl, Ext.refl _, fun p h => by omega⟩
  case round =>
    obtain ⟨e, he, rfl, hE, hD⟩ := hrel
    by_cases hlt : e < m
    · obtain ⟨bx, ox, rfl, hbx, hxc⟩ := readsW (HY.out.ext hE.out) (by omega)
      have hc := hxc e hlt
      have HD2 : Hid ((0 ≤ gi ys e ∧ gi ys e < (R : Int)) → ∀ p, p < e + 1 → 0 ≤ gi ys p ∧ gi ys p < (R : Int)) := fun h p hp => by
        by_cases ep : p = e
        · subst ep; exact h
        · exact hD.out p (by omega)
      have HN := Lib.hid (HNO.out e (by omega))
      generalize gi ys e = x at *
      have HIN := Lib.hid (fun w1 (h : Ext w w1) => hasWord_1 F B R v1 v2 v3 x w1 (HF.out.ext h) (HB.out.ext h))
      have hltI : (e : Int) < (m : Int) := by omega
      clear hxc hD
      rcases hin : decide (0 ≤ x ∧ x < (R : Int)) with _ | _
      · have HFF := Lib.hid (HN.out (fun h => by rw [decide_eq_true h] at hin; cases hin))
        rw [hin] at HIN
        go_wp2_with fail
        refine (HIN.out _ hE.out).mono ?_
        rintro e' w' ⟨rfl, hE2⟩
        go_wp2
        go_ret
        exact ⟨e, rfl, by rw [HFF.out]; simp, hE.out.trans hE2⟩
      · have HFF := Lib.hid (HD2.out (of_decide_eq_true hin))
        rw [hin] at HIN
        go_wp2_with fail
        refine (HIN.out _ hE.out).mono ?_
        rintro e' w' ⟨rfl, hE2⟩
        go_wp2
        exact ⟨⟨e + 1, by omega, by simp, hE.out.trans hE2, HFF⟩, by simp [intOf]; omega⟩
    · obtain rfl : m = e := by omega
      have HFF := Lib.hid (HYES.out (fun e h => hD.out e (by omega)))
      go_wp2
      go_ret
      exact ⟨-1, rfl, by rw [HFF.out]; rfl, hE.out⟩
set_option maxRecDepth 100000 in
set_option maxHeartbeats 1600000 in
theorem containsWord (F B R m cx : Nat) (ax : Option Addr) (v1 v2 v3 : Value) (ys : List Int) (w : World) (hF : Cells w F [.pointer (some ⟨B, 0, none⟩)]) (hB : Cells w B [.int .i64 (R : Nat), v1, v2, v3]) (hy : Reads w ax m ys) (hmm : m ≤ 1048576) :
    Calls Tryz.prog 101 #[.slice ax m cx, .func (.func 128) #[] #[.pointer (some ⟨F, 0, none⟩)]] w fun e w' => e = .returned (.bool (!rowB R ys)) ∧ Ext w w' := by
  go_enter Tryz.func101, Tryz.ntmps101
  go_wp2_with fail
  refine (indexWord F B R m cx ax v1 v2 v3 ys _ hF hB hy hmm).mono ?_
  rintro e w2 ⟨z, rfl, hz, hE⟩
  have HZ := Lib.hid hz
  clear hz
  go_wp2
  go_ret
  exact ⟨ret_bool HZ.out, hE⟩
set_option maxRecDepth 100000 in
set_option maxHeartbeats 1600000 in
theorem hasWord_impl (B R m cx : Nat) (ax : Option Addr) (v1 v2 v3 : Value) (ys : List Int) (w : World) (hB : Cells w B [.int .i64 (R : Nat), v1, v2, v3]) (hy : Reads w ax m ys) (hmm : m ≤ 1048576) :
    Calls Tryz.prog 97 #[.pointer (some ⟨B, 0, none⟩), .slice ax m cx] w fun e w' => e = .returned (.bool (wordB R ys)) ∧ Ext w w' := by
  have HL := hy.len
  have hmf : ∀ (fn : Fn) (first cap : Array Value) (w : World), (Instr.makeFunc fn first cap).run Tryz.prog w = .ok (.func fn first cap) w := fun _ _ _ _ => rfl
  have PT := 48
  have X0 := Lib.hid ((Ext.refl w).alloc (.cells #[.pointer (some ⟨B, 0, none⟩)] 48))
  have HCW := Lib.hid (containsWord w.heap.size B R m cx ax v1 v2 v3 ys (w.alloc (.cells #[.pointer (some ⟨B, 0, none⟩)] 48)) (cells_new w #[.pointer (some ⟨B, 0, none⟩)] _) (hB.ext X0.out) (hy.ext X0.out) hmm)
  clear PT
  by_cases hm : m ≤ 60
  · have hmI : (m : Int) ≤ 60 := by omega
    rw [wordB_row (by omega)]
    clear hy hB HL
    go_enter Tryz.func97, Tryz.ntmps97
    go_wp2_with fail
    refine HCW.out.mono ?_
    rintro e w2 ⟨rfl, hE⟩
    go_wp2
    go_ret
    exact ⟨ret_bool (by simp), X0.out.trans hE⟩
  · have HF := Lib.hid (wordB_len (R := R) (ys := ys) (by omega))
    have hmI : ¬ ((m : Int) ≤ 60) := by omega
    clear hy hB HL HCW
    go_enter Tryz.func97, Tryz.ntmps97
    go_wp2
    go_ret
    exact ⟨ret_bool HF.out.symm, X0.out⟩

theorem StrR.ext {w w' : World} {a : Option Addr} {n : Nat} {ss : List ByteArray} (h : StrR w a n ss) (hE : Ext w w') : StrR w' a n ss := by
  refine ⟨h.1, ?_⟩
  rcases h.2 with h2 | ⟨g, e, hg, hc⟩
  · exact .inl h2
  · exact .inr ⟨g, e, Nat.lt_of_lt_of_le hg hE.le, fun j hj => (hE.cells g j hg).trans (hc j hj)⟩
theorem Wrapped.step {W w w' : World} {B LB R : Nat} {da : Value} {ns : List Nat} {ls : List Int} (h : Wrapped W w B LB R da ns ls) (hE : Ext w w') : Wrapped W w' B LB R da ns ls := by
  obtain ⟨⟨a, n, c, h1, h2⟩, h3, h4, h5, h6, h7⟩ := h
  exact ⟨⟨a, n, c, h1.ext hE, h2.ext hE⟩, h3.ext hE, h4.trans hE, h5, h6, h7⟩
theorem Wrapped.low {V W w : World} {B LB R : Nat} {da : Value} {ns : List Nat} {ls : List Int} (h : Wrapped W w B LB R da ns ls) (hE : Ext V W) : Wrapped V w B LB R da ns ls :=
  ⟨h.box, h.len, hE.trans h.ext, Nat.le_trans hE.le h.loB, Nat.le_trans hE.le h.loL, h.neL⟩
def wordsB (K N : Nat) (Y : Nat → List Int) : Bool := (List.range N).all fun j => wordB K (Y j)
theorem wordsB_yes {K N : Nat} {Y : Nat → List Int} (h : ∀ j, j < N → wordB K (Y j) = true) : wordsB K N Y = true := by
  rw [wordsB, List.all_eq_true]; exact fun j hj => h j (List.mem_range.1 hj)
theorem wordsB_no {K N j : Nat} {Y : Nat → List Int} (hj : j < N) (h : wordB K (Y j) = false) : wordsB K N Y = false := by
  rcases h1 : wordsB K N Y with _ | _
  · rfl
  · rw [wordsB, List.all_eq_true] at h1
    have := h1 j (List.mem_range.2 hj)
    rw [h] at this; cases this
set_option maxRecDepth 100000 in
set_option maxHeartbeats 3200000 in
theorem wrapWords_yes (K a0 oa n g N cg : Nat) (A : Nat → Option Addr) (M C : Nat → Nat) (Y : Nat → List Int) (l : List Int) (v : List Nat × List Int) (w : World) (hT : Reads w (some ⟨a0, oa, none⟩) n l) (hK1 : 1 ≤ K) (hK4 : K ≤ 4) (hG : tabGet K l = some v) (hl : l.length = K * K) (hg : g < w.heap.size) (hcell : ∀ j, j < N → w.cell? ⟨g, j, none⟩ = some (.slice (A j) (M j) (C j))) (hY : ∀ j, j < N → Reads w (A j) (M j) (Y j) ∧ M j ≤ 1048576) (hN : N ≤ 8) :
    Calls Tryz.prog 57 #[.agg #[.int .i64 (K : Nat), .slice (some ⟨a0, oa, none⟩) n n], .slice (some ⟨g, 0, none⟩) N cg] w fun e w' => (wordsB K N Y = false ∧ e = .returned (.tuple #[.pointer none, .bool false]) ∧ Ext w w') ∨ (wordsB K N Y = true ∧ ∃ B LB ns, e = .returned (.tuple #[.pointer (some ⟨B, 0, none⟩), .bool true]) ∧ sortN ns = v.1 ∧ Wrapped w w' B LB K (.slice (some ⟨a0, oa, none⟩) n n) ns v.2) := by
  have HT := Lib.hid hT
  have HC := Lib.hid hcell
  have HY := Lib.hid hY
  have HYES := Lib.hid (@wordsB_yes K N Y)
  have HNO : Hid (∀ j, j < N → wordB K (Y j) = false → wordsB K N Y = false) := fun j h1 h2 => wordsB_no h1 h2
  clear hT hcell hY
  go_enter Tryz.func57, Tryz.ntmps57
  go_wp2_with fail
  refine (wrapCartan_yes (HT.out.ext ((Ext.refl w).alloc _)) hK1 hK4 hG hl).mono ?_
  rintro e w2 ⟨B, LB, ns, rfl, hns, hW⟩
  have HW := Lib.hid (hW.low ((Ext.refl w).alloc _))
  have HNS := Lib.hid hns
  clear hW hns
  go_wp2_with fail
  go_loopw [19, 9] (fun z _ wr => ∃ j : Nat, j ≤ N ∧ z = .int .i64 j ∧ Hid (Wrapped w wr B LB K (.slice (some ⟨a0, oa, none⟩) n n) ns v.2) ∧ Hid (∀ p, p < j → wordB K (Y p) = true)) (fun z _ _ => N - (intOf z).toNat)
  case atStart => exact ⟨0, by omega, rfl, HW, fun p h => by omega⟩
  case round =>
    clear HW
    obtain ⟨j, hj, rfl, HW, hD⟩ := hrel
    by_cases hlt : j < N
    · have c1 := (HW.out.ext.cells g j hg).trans (HC.out j hlt)
      have lg := Nat.lt_of_lt_of_le hg HW.out.ext.le
      obtain ⟨xa, xn, xc, hbox, hstr⟩ := HW.out.box
      have HBX := Lib.hid hbox
      have hjI : (j : Int) < (N : Int) := by omega
      have HD2 : Hid (wordB K (Y j) = true → ∀ p, p < j + 1 → wordB K (Y p) = true) := fun h p hp => by
        by_cases e : p = j
        · subst e; exact h
        · exact hD.out p (by omega)
      clear hbox hstr hD
      have HH := Lib.hid (fun w1 (h : Ext wr w1) => hasWord_impl B K (M j) (C j) (A j) _ _ _ (Y j) w1 (HBX.out.ext h) ((HY.out j hlt).1.ext (HW.out.ext.trans h)) (HY.out j hlt).2)
      rcases hw : wordB K (Y j) with _ | _
      · have HF := Lib.hid (HNO.out j hlt hw)
        rw [hw] at HH
        go_wp2_with fail
        refine (HH.out _ (Ext.refl _)).mono ?_
        rintro e w3 ⟨rfl, h3⟩
        go_wp2
        go_ret2
        exact .inl ⟨HF.out, rfl, HW.out.ext.trans h3⟩
      · have HF := Lib.hid (HD2.out hw)
        rw [hw] at HH
        go_wp2_with fail
        refine (HH.out _ (Ext.refl _)).mono ?_
        rintro e w3 ⟨rfl, h3⟩
        go_wp2
        exact ⟨⟨j + 1, by omega, by simp, HW.out.step h3, HF⟩, by simp [intOf]; omega⟩
    · obtain rfl : N = j := by omega
      have HF := Lib.hid (HYES.out hD.out)
      go_wp2
      go_ret2
      exact .inr ⟨HF.out, B, LB, ns, rfl, HNS.out, HW.out⟩
set_option maxRecDepth 100000 in
set_option maxHeartbeats 1600000 in
theorem wrapWords_no {R : Int} {a0 oa n : Nat} {v1 : Value} {l : List Int} {w : World} (hT : Reads w (some ⟨a0, oa, none⟩) n l) (hm0 : n ≤ 1048576) (hG : carG R l = none) :
    Calls Tryz.prog 57 #[.agg #[.int .i64 R, .slice (some ⟨a0, oa, none⟩) n n], v1] w fun e w' => e = .returned (.tuple #[.pointer none, .bool false]) ∧ Ext w w' := by
  have HT := Lib.hid hT
  clear hT
  go_enter Tryz.func57, Tryz.ntmps57
  go_wp2_with fail
  refine (wrapCartan_no (HT.out.ext ((Ext.refl w).alloc _)) hm0 hG).mono ?_
  rintro e w2 ⟨rfl, hE⟩
  go_wp2
  go_ret2
  exact ⟨rfl, ((Ext.refl w).alloc _).trans hE⟩
def wrdO (R : Int) (l ys : List Int) : Bool := (carG R l).isSome && wordB R.toNat ys

set_option maxRecDepth 100000 in
set_option maxHeartbeats 1600000 in
theorem wordOk_spec {R : Int} {a0 oa n b0 o0 n1 : Nat} {l ys : List Int} {w : World} {i : Bool} (hT : Reads w (some ⟨a0, oa, none⟩) n l) (hm0 : n ≤ 1048576) (hY : Reads w (some ⟨b0, o0, none⟩) n1 ys) (hm1 : n1 ≤ 1048576) (hM : wrdO R l ys = i) :
    Calls Tryz.prog 54 #[.agg #[.int .i64 R, .slice (some ⟨a0, oa, none⟩) n n], .slice (some ⟨b0, o0, none⟩) n1 n1] w fun e w' => e = .returned (.bool i) ∧ Ext w w' := by
  subst hM
  have HT := Lib.hid hT
  have HY := Lib.hid hY
  rcases hG : carG R l with _ | v
  · have HF : Hid (wrdO R l ys = false) := by rw [Hid, wrdO, hG]; rfl
    clear hT hY
    go_enter Tryz.func54, Tryz.ntmps54
    go_wp2_with fail
    refine (isCartan_no (HT.out.ext ((Ext.refl w).alloc _)) hm0 hG).mono ?_
    rintro e w2 ⟨rfl, hE⟩
    go_wp2
    go_ret
    exact ⟨ret_bool HF.out.symm, ((Ext.refl w).alloc _).trans hE⟩
  · obtain ⟨K, rfl, hK1, hK4, hlK, ht⟩ := carG_some hG
    have HF : Hid (wrdO K l ys = wordB K ys) := by rw [Hid, wrdO, hG]; rfl
    clear hT hY
    go_enter Tryz.func54, Tryz.ntmps54
    go_wp2_with fail
    refine (isCartan_yes (HT.out.ext ((Ext.refl w).alloc _)) hm0 hG).mono ?_
    rintro e w2 ⟨rfl, hE⟩
    have HE := Lib.hid (((Ext.refl w).alloc _).trans hE)
    have HBX := Lib.hid ((cells_new w #[.int .i64 (K : Nat), .slice (some ⟨a0, oa, none⟩) n n] 27).ext hE)
    have lB := HBX.out.1
    have q0 := HBX.out.2 0 _ rfl
    have q1 := HBX.out.2 1 _ rfl
    clear hE
    go_wp2_with fail
    refine (l6Word_spec K a0 oa n n n1 n1 _ ys _ (HY.out.ext HE.out) hK1 hK4 hm1).mono ?_
    rintro e w3 ⟨rfl, h3⟩
    go_wp2
    go_ret
    exact ⟨ret_bool HF.out.symm, HE.out.trans h3⟩

end Go.Proofs.YthhgodjobddenaaGreat
