/-
  Lists of terms: the law package's helpers.
-/
import Derived.Test.YtlnpaplbcocmkaaGreatTrmB
namespace Go.Proofs.YtlnpaplbcocmkaaGreat
open Go.ChangeShapes Go.WideShapes Go.ChangeAt Go.RowKit
set_option linter.unusedVariables false
set_option linter.unusedSimpArgs false

set_option maxHeartbeats 400000 in
theorem szTerm_yes (a : Option Addr) (n c : Nat) (q k : Int) (w : World) (hk1 : k ≤ 1073741824) (hn : (n : Int) ≤ k) :
    Calls Tryz.prog 79 #[.agg #[.slice a n c, .int .i64 q], .int .i64 k] w fun e w' => e = .returned (.int .i64 (k - n)) ∧ Ext w w' := by
  have h : 0 ≤ k - n := by omega
  go_enter Tryz.func79, Tryz.ntmps79
  go_wp2_with ((with_reducible refine (szIntS_yes _ _ _ _ _ hk1 hn).mono ?_); rintro e w' ⟨rfl, rfl⟩)
  go_ret
  exact ⟨rfl, (Ext.refl _).alloc _⟩
set_option maxHeartbeats 400000 in
theorem szTerm_no (a : Option Addr) (n c : Nat) (q k : Int) (w : World) (hk0 : 0 ≤ k) (hk1 : k ≤ 1073741824) (hn : n ≤ maxLen) (hlt : k < (n : Int)) :
    Calls Tryz.prog 79 #[.agg #[.slice a n c, .int .i64 q], .int .i64 k] w fun e w' => e = .returned (.int .i64 (-1)) ∧ Ext w w' := by
  go_enter Tryz.func79, Tryz.ntmps79
  go_wp2_with ((with_reducible refine (szIntS_no _ _ _ _ _ hk0 hk1 hn hlt).mono ?_); rintro e w' ⟨rfl, rfl⟩)
  go_ret
  exact ⟨rfl, (Ext.refl _).alloc _⟩
set_option maxRecDepth 100000 in
set_option maxHeartbeats 1600000 in
theorem szTermS_law (a : Option Addr) (n c : Nat) (k : Int) (ts : List (List Int × Int)) (w : World) (hr : TrmR w a n ts) (hw : TrmW ts) (hk0 : 0 ≤ k) (hk1 : k ≤ 1073741824) (hn : n ≤ maxLen) :
    Calls Tryz.prog 36 #[.slice a n c, .int .i64 k] w fun e w' => ((((n + tmL ts n : Nat) : Int) ≤ k ∧ e = .returned (.int .i64 (k - ((n + tmL ts n : Nat) : Int)))) ∨ (k < ((n + tmL ts n : Nat) : Int) ∧ e = .returned (.int .i64 (-1)))) ∧ Ext w w' := by
  have HR := Lib.hid hr
  have HW : Hid (∀ j, j < n → (tmR ts j).length ≤ maxLen) := fun j hj => hw.1 j (by rw [hr.1]; exact hj)
  have HL : Hid (∀ j, tmL ts (j + 1) = tmL ts j + (tmR ts j).length) := fun j => rfl
  have HM : Hid (∀ i, i ≤ n → tmL ts i ≤ tmL ts n) := fun i hi => by
    have : ∀ d, tmL ts i ≤ tmL ts (i + d) := by
      intro d
      induction d with
      | zero => exact Nat.le_refl _
      | succ d ih => rw [← Nat.add_assoc]; show _ ≤ tmL ts (i + d) + _; omega
    have := this (n - i)
    rwa [show i + (n - i) = n by omega] at this
  have HL0 : Hid (tmL ts 0 = 0) := rfl
  have hmx : n ≤ 9223372036854775807 := by unfold maxLen at hn; omega
  obtain ⟨L, hL⟩ : ∃ L, tmL ts = L := ⟨_, rfl⟩
  rw [hL] at HL HM HL0 ⊢
  obtain ⟨N, hN⟩ : ∃ N, L n = N := ⟨_, rfl⟩
  have HN := Lib.hid hN
  rw [hN] at HM ⊢
  clear hr hw hL hN hn
  by_cases hlt : k < (n : Int)
  · have v1 : IntKind.i64.wrap (k - n) = k - n := IntWalk.i64_in _ ⟨by omega, by omega⟩
    have hneg : k - n < 0 := by omega
    go_enter Tryz.func36, Tryz.ntmps36
    go_wp2
    go_ret
    exact ⟨.inr ⟨by omega, rfl⟩, Ext.refl _⟩
  · have v1 : IntKind.i64.wrap (k - n) = k - n := IntWalk.i64_in _ ⟨by omega, by omega⟩
    have hneg : (k - n < 0) = False := eq_false (by omega)
    go_enter Tryz.func36, Tryz.ntmps36
    go_wp2_with fail
    clear v1 hneg
    go_loopw [5, 1] (fun z v wr => ∃ i : Nat, i ≤ n ∧ z = .int .i64 i ∧ v = .int .i64 (k - n - (L i : Nat)) ∧ ((n + L i : Nat) : Int) ≤ k ∧ Hid (Ext w wr)) (fun z _ _ => n - (intOf z).toNat)
    case atStart => exact ⟨0, by omega, rfl, by rw [HL0.out]; simp, by rw [HL0.out]; omega, Ext.refl _⟩
    case round =>
      obtain ⟨i, hi, rfl, rfl, hik, hE⟩ := hrel
      by_cases hin : i < n
      · have hinI : (i : Int) < (n : Int) := by omega
        obtain ⟨b, o, rfl, hbl, hcell⟩ : ∃ b o, a = some ⟨b, o, none⟩ ∧ b < wr.heap.size ∧ ∃ aj cj, wr.cell? ⟨b, o + i * 2, none⟩ = some (.slice aj (tmR ts i).length cj) ∧ wr.cell? ⟨b, o + i * 2 + 1, none⟩ = some (.int .i64 (tmC ts i)) := by
          rcases (HR.out.ext hE.out).2 with h0 | ⟨b, o, e1, e2, e3⟩
          · omega
          · obtain ⟨aj, cj, h1, _, h3⟩ := e3 i hin
            exact ⟨b, o, e1, e2, aj, cj, h1, h3⟩
        obtain ⟨aj, cj, hc0, hc1⟩ := hcell
        have hwl := HW.out i hin
        have HLi := Lib.hid (HL.out i)
        have hMi := HM.out (i + 1) (by omega)
        obtain ⟨r, hr⟩ : ∃ r, (tmR ts i).length = r := ⟨_, rfl⟩
        obtain ⟨Li, hLi⟩ : ∃ Li, L i = Li := ⟨_, rfl⟩
        rw [hr] at hc0 hwl HLi
        rw [hLi] at HLi hik ⊢
        rw [HLi.out] at hMi
        clear hr hLi
        by_cases hrk : (r : Int) ≤ k - n - (Li : Nat)
        · have HS := Lib.hid (fun w1 => szTerm_yes aj r cj (tmC ts i) (k - n - (Li : Nat)) w1 (by omega) hrk)
          have hnn : (k - n - (Li : Nat) - r < 0) = False := eq_false (by omega)
          clear hwl
          go_wp2_with fail
          refine (HS.out _).mono ?_
          rintro e w2 ⟨rfl, h2⟩
          have HE2 := Lib.hid (hE.out.trans h2)
          clear hc0 hc1
          go_wp2
          exact ⟨⟨i + 1, by omega, by first | rfl | simp, by rw [HLi.out]; congr 1; omega, by rw [HLi.out]; omega, HE2⟩, by (simp [intOf]) <;> omega⟩
        · have HS := Lib.hid (fun w1 => szTerm_no aj r cj (tmC ts i) (k - n - (Li : Nat)) w1 (by omega) (by omega) hwl (by omega))
          clear hwl
          go_wp2_with fail
          refine (HS.out _).mono ?_
          rintro e w2 ⟨rfl, h2⟩
          go_wp2
          go_ret
          exact ⟨.inr ⟨by omega, rfl⟩, hE.out.trans h2⟩
      · obtain rfl : i = n := by omega
        go_wp2
        go_ret
        rw [HN.out] at hik
        exact ⟨.inl ⟨hik, by rw [HN.out, show k - ((i : Nat) : Int) - ((N : Nat) : Int) = k - ((i + N : Nat) : Int) by omega]; rfl⟩, hE.out⟩
set_option maxHeartbeats 400000 in
/-- At equal ones. -/
theorem eqTerm_law (a a' : Option Addr) (n c c' : Nat) (q : Int) (xs : List Int) (w : World) (hr : Reads w a n xs) (hr' : Reads w a' n xs) (hn : n ≤ 1048576) :
    Calls Tryz.prog 83 #[.agg #[.slice a n c, .int .i64 q], .agg #[.slice a' n c', .int .i64 q]] w fun e w' => e = .returned (.bool true) ∧ Ext w w' := by
  have HR := Lib.hid hr
  have HR' := Lib.hid hr'
  have hqq : (q != q) = false := by simp
  clear hr hr'
  go_enter Tryz.func83, Tryz.ntmps83
  go_wp2_with fail
  refine (eqIntS_law a a' n c c' xs _ (HR.out.ext (((Ext.refl _).alloc _).alloc _)) (HR'.out.ext (((Ext.refl _).alloc _).alloc _)) hn).mono ?_
  rintro e w1 ⟨rfl, m, rfl⟩
  go_wp2
  go_ret
  exact ⟨rfl, (((Ext.refl _).alloc _).alloc _).drewN m⟩

set_option maxHeartbeats 400000 in
theorem toTerm_law (a : Option Addr) (n c : Nat) (q : Int) (xs : List Int) (w : World) (hr : Reads w a n xs) (hn : n ≤ 1048576) :
    Calls Tryz.prog 81 #[.agg #[.slice a n c, .int .i64 q]] w fun e w' => ∃ b, e = .returned (.agg #[.slice (some ⟨b, 0, none⟩) n n, .int .i64 q]) ∧ Own w' w.heap.size w'.heap.size (some ⟨b, 0, none⟩) n xs ∧ Ext w w' := by
  have HR := Lib.hid hr
  clear hr
  go_enter Tryz.func81, Tryz.ntmps81
  go_wp2_with fail
  refine (toIntS_law a n c xs _ (HR.out.ext ((((Ext.refl _).alloc _).alloc _).alloc _)) hn).mono ?_
  rintro e w1 ⟨b, rfl, ho, hbel⟩
  have hc := hbel.cells
  have hf := hbel.frees
  have hz := hbel.le
  simp at hz
  have HO := Lib.hid ho
  have hbk := ho.blk b rfl
  simp at hbk
  obtain ⟨hb1, hb2⟩ := hbk
  clear ho
  go_wp2
  have hh : Has w1 b xs := by
    rcases HO.out.2 with h | ⟨b', h, _, _, h2⟩
    · simp at h
    · simp at h; subst h; exact h2
  refine bodyPost_ret (v := .agg #[.slice (some ⟨b, 0, none⟩) n n, .int .i64 q]) (by simp [results, Tryz.results81, go_sem, hc]) rfl ⟨b, rfl, ?_, ?_⟩
  · refine Has.own ?_ (by omega) (by simp; omega) HO.out.len
    repeat with_reducible (first | exact hh | refine Has.setOther ?_ (by simp <;> omega) _)
  · repeat with_reducible (first | refine Ext.setCell ?_ (by simp <;> omega) _ | (refine Ext.trans ?_ hbel; exact (((Ext.refl _).alloc _).alloc _).alloc _))
theorem Tryz.infoTerm : (Tryz.prog.info? 94).map (fun i => (i.zero, i.size, i.bytes)) = some (some (.agg #[.slice none 0 0, .int .i64 0]), 2, 32) := by kernel_rfl
theorem make_terms (n : Nat) (hn : n ≤ 1048576) (w : World) :
    (Instr.makeSlice 47 (.int .i64 (n : Int)) (.int .i64 (n : Int))).run Tryz.prog w = .ok (.slice (some ⟨w.heap.size, 0, none⟩) n n) (w.alloc (.cells (madeCells #[.slice none 0 0, .int .i64 0] (n * 2)) 94)) := by
  obtain ⟨i0, hi, hz0, hz1, hz2⟩ := info_parts Tryz.infoTerm
  have h := run_make (P := Tryz.prog) w 47 94 i0 (.agg #[.slice none 0 0, .int .i64 0]) Tryz.underlying47 hi hz0 .i64 .i64 n n (by omega) (by omega) (by rw [hz2]; omega) (by omega)
  simp only [Int.toNat_natCast, hz1] at h
  rw [h]
  rfl
set_option maxRecDepth 100000 in
set_option maxHeartbeats 1600000 in
theorem toTermS_law (a : Option Addr) (n c : Nat) (ts : List (List Int × Int)) (w : World) (hr : TrmR w a n ts) (hn : n ≤ 1048576) (hl : ∀ j, j < n → (tmR ts j).length ≤ 1048576) :
    Calls Tryz.prog 38 #[.slice a n c] w fun e w' => ∃ b, e = .returned (.slice (some ⟨b, 0, none⟩) n n) ∧ TrmR w' (some ⟨b, 0, none⟩) n ts ∧ Ext w w' := by
  have HR := Lib.hid hr
  have HLE := Lib.hid hl
  have HLN := Lib.hid hr.1
  have hmk := make_terms n hn
  have H0 : Hid (TblK (w.alloc (.cells (madeCells #[.slice none 0 0, .int .i64 0] (n * 2)) 94)) w.heap.size n 0 ts) := tblK_start w n ts _
  have X0 := Lib.hid ((Ext.refl w).alloc (.cells (madeCells #[.slice none 0 0, .int .i64 0] (n * 2)) 94))
  clear hr hl
  go_enter Tryz.func38, Tryz.ntmps38
  go_wp2_with fail
  clear hmk
  go_loopw [4] (fun z wr => ∃ i : Nat, i ≤ n ∧ z = .int .i64 i ∧ Hid (TblK wr w.heap.size n i ts) ∧ Hid (Ext w wr)) (fun z _ => n - (intOf z).toNat)
  case atStart => exact ⟨0, by omega, rfl, H0, X0⟩
  case round =>
    clear H0 X0
    obtain ⟨i, hi, rfl, hK, hE⟩ := hrel
    by_cases hin : i < n
    · have hinI : (i : Int) < (n : Int) := by omega
      obtain ⟨b, o, rfl, hbl, hcell⟩ : ∃ b o, a = some ⟨b, o, none⟩ ∧ b < wr.heap.size ∧ ∃ aj cj, wr.cell? ⟨b, o + i * 2, none⟩ = some (.slice aj (tmR ts i).length cj) ∧ Reads wr aj (tmR ts i).length (tmR ts i) ∧ wr.cell? ⟨b, o + i * 2 + 1, none⟩ = some (.int .i64 (tmC ts i)) := by
        rcases (HR.out.ext hE.out).2 with h0 | ⟨b, o, e1, e2, e3⟩
        · omega
        · obtain ⟨aj, cj, h1, h2, h3⟩ := e3 i hin
          exact ⟨b, o, e1, e2, aj, cj, h1, h2, h3⟩
      obtain ⟨aj, cj, hc0, hrd, hc1⟩ := hcell
      have HRD := Lib.hid hrd
      have HC := Lib.hid (toTerm_law aj _ cj (tmC ts i) _ wr hrd (HLE.out i hin))
      clear hrd
      go_wp2_with fail
      refine HC.out.mono ?_
      rintro e w2 ⟨b2, rfl, hO2, hE2⟩
      have HE2 := Lib.hid (hE.out.trans hE2)
      have hK2 := hK.out.ext hE2
      have k0 := hK2.1
      have k1 := hK2.2.1 (i * 2)
      have k2 := hK2.2.1 (i * 2 + 1)
      obtain ⟨z0, k3⟩ := hK2.2.2.1 (i * 2) (by omega)
      obtain ⟨z1, k4⟩ := hK2.2.2.1 (i * 2 + 1) (by omega)
      have HK3 := Lib.hid (hK2.step hin hO2.reads (by have h1 := (hO2.blk b2 rfl).1; have h2 := hK.out.1; omega))
      have HE3 : Hid (Ext w ((w2.setCell ⟨w.heap.size, i * 2, none⟩ (.slice (some ⟨b2, 0, none⟩) (tmR ts i).length (tmR ts i).length)).setCell ⟨w.heap.size, i * 2 + 1, none⟩ (.int .i64 (tmC ts i)))) := (HE2.out.setCell (p := ⟨w.heap.size, i * 2, none⟩) (Nat.le_refl _) _).setCell (p := ⟨w.heap.size, i * 2 + 1, none⟩) (Nat.le_refl _) _
      clear hc0 hc1 hK hE hK2 hO2 hE2 HC
      go_wp2
      exact ⟨⟨i + 1, by omega, by first | rfl | simp, HK3, HE3⟩, by (simp [intOf]) <;> omega⟩
    · obtain rfl : i = n := by omega
      go_wp2
      go_ret
      exact ⟨_, rfl, hK.out.done HLN.out, hE.out⟩

set_option maxRecDepth 100000 in
set_option maxHeartbeats 1600000 in
theorem eqTermS_law (a a' : Option Addr) (n c c' : Nat) (ts : List (List Int × Int)) (w : World) (hr : TrmR w a n ts) (hr' : TrmR w a' n ts) (hn : n ≤ 1048576) (hl : ∀ j, j < n → (tmR ts j).length ≤ 1048576) :
    Calls Tryz.prog 40 #[.slice a n c, .slice a' n c'] w fun e w' => e = .returned (.bool true) ∧ Ext w w' := by
  have HR := Lib.hid hr
  have HQ := Lib.hid hr'
  have HLE := Lib.hid hl
  have hnn : ((n : Int) != (n : Int)) = false := by simp
  clear hr hr' hl
  go_enter Tryz.func40, Tryz.ntmps40
  go_wp2_with fail
  go_loopw [5] (fun z wr => ∃ i : Nat, i ≤ n ∧ z = .int .i64 i ∧ Hid (Ext w wr)) (fun z _ => n - (intOf z).toNat)
  case atStart => exact ⟨0, by omega, rfl, Ext.refl _⟩
  case round =>
    obtain ⟨i, hi, rfl, hE⟩ := hrel
    by_cases hin : i < n
    · have hinI : (i : Int) < (n : Int) := by omega
      obtain ⟨b, o, rfl, hbl, hcell⟩ : ∃ b o, a = some ⟨b, o, none⟩ ∧ b < wr.heap.size ∧ ∃ aj cj, wr.cell? ⟨b, o + i * 2, none⟩ = some (.slice aj (tmR ts i).length cj) ∧ Reads wr aj (tmR ts i).length (tmR ts i) ∧ wr.cell? ⟨b, o + i * 2 + 1, none⟩ = some (.int .i64 (tmC ts i)) := by
        rcases (HR.out.ext hE.out).2 with h0 | ⟨b, o, e1, e2, e3⟩
        · omega
        · obtain ⟨aj, cj, h1, h2, h3⟩ := e3 i hin
          exact ⟨b, o, e1, e2, aj, cj, h1, h2, h3⟩
      obtain ⟨aj, cj, hc0, hrd, hc1⟩ := hcell
      obtain ⟨b9, o9, rfl, hbl9, hcell9⟩ : ∃ b o, a' = some ⟨b, o, none⟩ ∧ b < wr.heap.size ∧ ∃ aj cj, wr.cell? ⟨b, o + i * 2, none⟩ = some (.slice aj (tmR ts i).length cj) ∧ Reads wr aj (tmR ts i).length (tmR ts i) ∧ wr.cell? ⟨b, o + i * 2 + 1, none⟩ = some (.int .i64 (tmC ts i)) := by
        rcases (HQ.out.ext hE.out).2 with h0 | ⟨b, o, e1, e2, e3⟩
        · omega
        · obtain ⟨aj, cj, h1, h2, h3⟩ := e3 i hin
          exact ⟨b, o, e1, e2, aj, cj, h1, h2, h3⟩
      obtain ⟨aj9, cj9, hc09, hrd9, hc19⟩ := hcell9
      have HC := Lib.hid (fun w1 (h : Ext wr w1) => eqTerm_law aj aj9 _ cj cj9 (tmC ts i) _ w1 (hrd.ext h) (hrd9.ext h) (HLE.out i hin))
      clear hrd hrd9
      go_wp2_with fail
      refine wp_region_held_drew (S := (fun w' => Ext wr w' ∧ (∀ b o, b < wr.heap.size → w'.cell? ⟨b, o, none⟩ = wr.cell? ⟨b, o, none⟩))) (by kernel_rfl) (ext2 (Ext.refl wr).drew) (fun hHeld => ?_)
      refine wpAnyH_take (i := 0) (v := ?v1) rfl (by kernel_rfl) (by kernel_rfl) (by kernel_rfl) (fun _ _ _ h => h) (Or.inl ⟨by rfl, ?hy1⟩) hHeld ?rest1
      case hy1 => (intro wz hSw; (try dsimp only at hSw); go_simp; (try with_reducible rfl))
      (try simp only [Act.put, List.getElem_toArray, List.getElem_cons_succ, List.getElem_cons_zero]); (try simp only [List.setIfInBounds_toArray]); (try simp only [List.set_cons_succ]); (try simp only [List.set_cons_zero])
      refine wpAnyH_take (i := 1) (v := ?v2) rfl (by kernel_rfl) (by kernel_rfl) (by kernel_rfl) (fun _ _ _ h => h) (Or.inl ⟨by rfl, ?hy2⟩) hHeld ?rest2
      case hy2 => (intro wz hSw; (try dsimp only at hSw); go_simp; (try with_reducible rfl))
      (try simp only [Act.put, List.getElem_toArray, List.getElem_cons_succ, List.getElem_cons_zero]); (try simp only [List.setIfInBounds_toArray]); (try simp only [List.set_cons_succ]); (try simp only [List.set_cons_zero])
      refine wpAnyH_take (i := 2) (v := ?v3) rfl (by kernel_rfl) (by kernel_rfl) (by kernel_rfl) (fun _ _ _ h => h) (Or.inl ⟨by rfl, ?hy3⟩) hHeld ?rest3
      case hy3 => (intro wz hSw; (try dsimp only at hSw); go_simp; (try with_reducible rfl))
      (try simp only [Act.put, List.getElem_toArray, List.getElem_cons_succ, List.getElem_cons_zero]); (try simp only [List.setIfInBounds_toArray]); (try simp only [List.set_cons_succ]); (try simp only [List.set_cons_zero])
      refine wpAnyH_take (i := 3) (v := ?v4) rfl (by kernel_rfl) (by kernel_rfl) (by kernel_rfl) (fun _ _ _ h => h) (Or.inl ⟨by rfl, ?hy4⟩) hHeld ?rest4
      case hy4 => (intro wz hSw; (try dsimp only at hSw); go_simp; (try with_reducible rfl))
      (try simp only [Act.put, List.getElem_toArray, List.getElem_cons_succ, List.getElem_cons_zero]); (try simp only [List.setIfInBounds_toArray]); (try simp only [List.set_cons_succ]); (try simp only [List.set_cons_zero])
      refine wpAnyH_take (i := 4) (v := ?v5) rfl (by kernel_rfl) (by kernel_rfl) (by kernel_rfl) (fun _ _ _ h => h) (Or.inl ⟨by rfl, ?hy5⟩) hHeld ?rest5
      case hy5 => (intro wz hSw; (try dsimp only at hSw); go_simp; (try with_reducible rfl))
      (try simp only [Act.put, List.getElem_toArray, List.getElem_cons_succ, List.getElem_cons_zero]); (try simp only [List.setIfInBounds_toArray]); (try simp only [List.set_cons_succ]); (try simp only [List.set_cons_zero])
      refine wpAnyH_take (i := 5) (v := ?v6) rfl (by kernel_rfl) (by kernel_rfl) (by kernel_rfl) (fun _ _ _ h => h) (Or.inl ⟨by rfl, ?hy6⟩) hHeld ?rest6
      case hy6 => (intro wz hSw; (try dsimp only at hSw); go_simp; (try with_reducible rfl))
      (try simp only [Act.put, List.getElem_toArray, List.getElem_cons_succ, List.getElem_cons_zero]); (try simp only [List.setIfInBounds_toArray]); (try simp only [List.set_cons_succ]); (try simp only [List.set_cons_zero])
      refine wpAnyH_take (i := 6) (v := ?v7) rfl (by kernel_rfl) (by kernel_rfl) (by kernel_rfl) (fun _ _ _ h => h) (Or.inl ⟨by rfl, ?hy7⟩) hHeld ?rest7
      case hy7 => (intro wz hSw; (try dsimp only at hSw); go_simp; (try with_reducible rfl))
      (try simp only [Act.put, List.getElem_toArray, List.getElem_cons_succ, List.getElem_cons_zero]); (try simp only [List.setIfInBounds_toArray]); (try simp only [List.set_cons_succ]); (try simp only [List.set_cons_zero])
      refine wpAnyH_take (i := 7) (v := ?v8) rfl (by kernel_rfl) (by kernel_rfl) (by kernel_rfl) (fun _ _ _ h => h) (Or.inl ⟨by rfl, ?hy8⟩) hHeld ?rest8
      case hy8 => (intro wz hSw; (try dsimp only at hSw); go_simp; (try with_reducible rfl))
      (try simp only [Act.put, List.getElem_toArray, List.getElem_cons_succ, List.getElem_cons_zero]); (try simp only [List.setIfInBounds_toArray]); (try simp only [List.set_cons_succ]); (try simp only [List.set_cons_zero])
      refine wpAnyH_ready (rs := [8]) (by kernel_rfl) (by simp) ?_
      refine AllReadyH.cons rfl (fun K' hK => ?_) AllReadyH.nil
      go_simp
      refine (HC.out _ (And.left hHeld)).mono ?_
      rintro e w2 ⟨rfl, hE2⟩
      have X2 := (And.left hHeld).trans hE2
      dsimp only
      refine hK.out _ _ (ext2 X2) (fun hHeld => ?_)
      clear hK
      refine wpAnyH_take (i := 9) (v := ?v9) rfl (by kernel_rfl) (by kernel_rfl) (by kernel_rfl) (fun _ _ _ h => h) (Or.inl ⟨by rfl, ?hy9⟩) hHeld ?rest9
      case hy9 => (intro wz hSw; (try dsimp only at hSw); go_simp; (try with_reducible rfl))
      (try simp only [Act.put, List.getElem_toArray, List.getElem_cons_succ, List.getElem_cons_zero]); (try simp only [List.setIfInBounds_toArray]); (try simp only [List.set_cons_succ]); (try simp only [List.set_cons_zero])
      refine wpAnyH_done (by kernel_rfl) ?_ _
      clear hHeld
      have HE2 := Lib.hid (hE.out.trans X2)
      clear hc0 hc1 hc09 hc19 hE X2 hE2 HC
      go_wp2
      exact ⟨⟨i + 1, by omega, by first | rfl | simp, HE2⟩, by (simp [intOf]) <;> omega⟩
    · obtain rfl : i = n := by omega
      go_wp2
      go_ret
      exact ⟨rfl, hE.out⟩
end Go.Proofs.YtlnpaplbcocmkaaGreat
