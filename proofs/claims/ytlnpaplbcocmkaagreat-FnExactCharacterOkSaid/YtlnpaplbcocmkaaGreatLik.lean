/-
  Rows that are like those of a family, in some order: the program's search.
-/
import Derived.Test.YtlnpaplbcocmkaaGreatCnc
namespace Go.Proofs.YtlnpaplbcocmkaaGreat
open Go.ChangeShapes Go.WideShapes Go.ChangeAt Go.RowKit
set_option linter.unusedVariables false
set_option linter.unusedSimpArgs false

def rI (l : List Nat) : List Int := l.map fun x : Nat => (x : Int)
theorem rI_length (l : List Nat) : (rI l).length = l.length := by simp [rI]
theorem gi_rI (l : List Nat) (i : Nat) : gi (rI l) i = ((ni l i : Nat) : Int) := by
  simp only [gi, rI, ni, List.getD_eq_getElem?_getD, List.getElem?_map]
  cases l[i]? <;> rfl
theorem rI_app (l m : List Nat) : rI (l ++ m) = rI l ++ rI m := by simp [rI]
theorem rI_erase (l : List Nat) (i : Nat) : rI (l.eraseIdx i) = (rI l).take i ++ (rI l).drop (i + 1) := by
  simp [rI, List.eraseIdx_eq_take_drop_succ]
theorem at_lt {R i j : Nat} (hi : i < R) (hj : j < R) : i * R + j < R * R := by
  have : (i + 1) * R ≤ R * R := Nat.mul_le_mul_right R hi
  rw [Nat.add_mul, Nat.one_mul] at this
  omega
theorem sq4 {R : Nat} (h : R ≤ 4) : R * R ≤ 16 := Nat.mul_le_mul h h

set_option maxRecDepth 100000 in
set_option maxHeartbeats 1600000 in
theorem at_impl (B R da od n cD : Nat) (v2 v3 : Value) (xs : List Int) (i j : Nat) (w : World) (hB : Cells w B [.int .i64 (R : Nat), .slice (some ⟨da, od, none⟩) n cD, v2, v3]) (hr : Reads w (some ⟨da, od, none⟩) n xs) (hn : n = R * R) (hR : R ≤ 4) (hi : i < R) (hj : j < R) :
    Calls Tryz.prog 147 #[.pointer (some ⟨B, 0, none⟩), .int .i64 i, .int .i64 j] w fun e w' => e = .returned (.int .i64 (gi xs (i * R + j))) ∧ Ext w w' := by
  have hlt := at_lt hi hj
  have h16 := sq4 hR
  rcases hr.2 with h0 | ⟨b, off, h0, hb, hc⟩
  · omega
  simp only [Option.some.injEq, Addr.mk.injEq, and_true] at h0
  obtain ⟨rfl, rfl⟩ := h0
  have c1 := hc (i * R + j) (by omega)
  have e1 : (i : Int) * (R : Int) = ((i * R : Nat) : Int) := by simp
  have hiR : i * R ≤ 16 := by omega
  have w1 : IntKind.i64.wrap ((i : Int) * (R : Int)) = (i : Int) * (R : Int) := IntWalk.i64_in _ ⟨by rw [e1]; omega, by rw [e1]; omega⟩
  have w2 : IntKind.i64.wrap ((i : Int) * (R : Int) + (j : Int)) = (i : Int) * (R : Int) + (j : Int) := IntWalk.i64_in _ ⟨by rw [e1]; omega, by rw [e1]; omega⟩
  have g0 : 0 ≤ (i : Int) * (R : Int) + (j : Int) := by rw [e1]; omega
  have g1 : (i : Int) * (R : Int) + (j : Int) < (n : Int) := by rw [e1, hn]; omega
  have t1 : ((i : Int) * (R : Int) + (j : Int)).toNat = i * R + j := by rw [e1]; omega
  have lB := hB.1
  have q0 := hB.2 0 _ rfl
  have q1 := hB.2 1 _ rfl
  clear hc hr hB e1 hn h16 hlt
  go_enter Tryz.func147, Tryz.ntmps147
  go_wp2_with fail
  go_quiet (fail)
  go_wp2
  go_ret
  exact ⟨rfl, by with_reducible repeat (first | exact Ext.refl _ | refine Ext.drewN ?_ _ | refine Ext.drew ?_)⟩
theorem likeB_true {k : Nat} {xs : List Int} {R : Nat} {rows : List Nat} (h : ∀ i j, i < rows.length → j < rows.length → gi xs (ni rows i * R + ni rows j) = elM k (i + 1) (j + 1)) : likeB k xs R rows = true := by
  unfold likeB
  simp only [List.all_eq_true, List.mem_range, beq_iff_eq]
  exact fun i hi j hj => h i j hi hj
theorem likeB_false {k : Nat} {xs : List Int} {R : Nat} {rows : List Nat} {i j : Nat} (hi : i < rows.length) (hj : j < rows.length) (h : gi xs (ni rows i * R + ni rows j) ≠ elM k (i + 1) (j + 1)) : likeB k xs R rows = false := by
  rcases h1 : likeB k xs R rows with _ | _
  · rfl
  · exact absurd (likeB_at h1 hi hj) h
set_option maxRecDepth 100000 in
set_option maxHeartbeats 3200000 in
theorem isLike_impl (B R da od n cD : Nat) (v2 v3 : Value) (xs : List Int) {k : Nat} {u : TypeId} {v : Value} {gr gb gn : FuncId} {vr vb vn : Value} (hF : FamOk k u v gr gb gn vr vb vn) (a : Option Addr) (m c : Nat) (rows : List Nat) (w : World) (hB : Cells w B [.int .i64 (R : Nat), .slice (some ⟨da, od, none⟩) n cD, v2, v3]) (hr : Reads w (some ⟨da, od, none⟩) n xs) (hn : n = R * R) (hR : R ≤ 4) (hrow : Reads w a m (rI rows)) (hm : m ≤ 4) (hlt : ∀ i, i < m → ni rows i < R) :
    Calls Tryz.prog 184 #[.pointer (some ⟨B, 0, none⟩), .iface u v, .slice a m c] w fun e w' => e = .returned (.bool (likeB k xs R rows)) ∧ Ext w w' := by
  have HB := Lib.hid hB
  have HR := Lib.hid hr
  have HN := Lib.hid hn
  have HROW := Lib.hid hrow
  have HLT := Lib.hid hlt
  have HM : Hid (rows.length = m) := by rw [Hid, ← rI_length]; exact hrow.1
  have HEL := Lib.hid (fun i j h1 h2 w => elementIn_impl hF i j h1 h2 w)
  clear hB hr hn hrow hlt hF
  go_enter Tryz.func184, Tryz.ntmps184
  go_wp2_with fail
  go_loopw [13, 7, 8, 9, 10] (fun z _ _ _ _ wr => ∃ i : Nat, i ≤ m ∧ z = .int .i64 i ∧ Hid (Ext w wr) ∧ Hid (∀ p q, p < i → q < m → gi xs (ni rows p * R + ni rows q) = elM k (p + 1) (q + 1))) (fun z _ _ _ _ _ => m - (intOf z).toNat)
  case atStart => exact ⟨0, by omega, rfl, Ext.refl w, fun p q h => by omega⟩
  case round =>
    obtain ⟨i, hi, rfl, hE, hD⟩ := hrel
    by_cases h1 : i < m
    · have HRW := HROW.out.ext hE.out
      obtain ⟨b0, o0, rfl⟩ : ∃ b0 o0, a = some ⟨b0, o0, none⟩ := by
        rcases HRW.2 with h | ⟨b3, o3, h, _⟩
        · omega
        · exact ⟨b3, o3, h⟩
      have c0 : wr.cell? ⟨b0, o0 + i, none⟩ = some (.int .i64 (ni rows i : Nat)) := by
        rcases HRW.2 with h | ⟨b3, o3, h, hb3, hc3⟩
        · omega
        · simp only [Option.some.injEq, Addr.mk.injEq, and_true] at h
          obtain ⟨rfl, rfl⟩ := h
          rw [← gi_rI]; exact hc3 i h1
      have hri := HLT.out i h1
      clear HRW
      obtain ⟨r, hr⟩ : ∃ r, ni rows i = r := ⟨_, rfl⟩
      have HRI := Lib.hid hr
      rw [hr] at c0 hri
      clear hr
      go_wp2_with fail
      clear c0
      go_loopw [20, 9, 10] (fun z _ _ wr => ∃ j : Nat, j ≤ m ∧ z = .int .i64 j ∧ Hid (Ext w wr) ∧ Hid (∀ q, q < j → gi xs (ni rows i * R + ni rows q) = elM k (i + 1) (q + 1))) (fun z _ _ _ => m - (intOf z).toNat)
      case atStart => exact ⟨0, by omega, rfl, hE, fun q h => by omega⟩
      case round =>
        clear hE
        obtain ⟨j, hj, rfl, hE, hD2⟩ := hrel
        by_cases h2 : j < m
        · have HRW := HROW.out.ext hE.out
          have c0 : wr.cell? ⟨b0, o0 + j, none⟩ = some (.int .i64 (ni rows j : Nat)) := by
            rcases HRW.2 with h | ⟨b3, o3, h, hb3, hc3⟩
            · omega
            · simp only [Option.some.injEq, Addr.mk.injEq, and_true] at h
              obtain ⟨rfl, rfl⟩ := h
              rw [← gi_rI]; exact hc3 j h2
          have hsj := HLT.out j h2
          clear HRW
          obtain ⟨s, hs⟩ : ∃ s, ni rows j = s := ⟨_, rfl⟩
          have HSJ := Lib.hid hs
          rw [hs] at c0 hsj
          clear hs
          go_wp2_with fail
          refine (at_impl B R da od n cD v2 v3 xs r s _ (HB.out.ext hE.out) (HR.out.ext hE.out) HN.out hR hri hsj).mono ?_
          rintro e w2 ⟨rfl, h2'⟩
          go_wp2_with fail
          have hcall := HEL.out (i + 1) (j + 1) (by omega) (by omega) w2
          rw [show ((i + 1 : Nat) : Int) = (i : Int) + 1 by simp, show ((j + 1 : Nat) : Int) = (j : Int) + 1 by simp] at hcall
          refine hcall.mono ?_
          rintro e w3 ⟨rfl, h3'⟩
          clear hcall
          have E3 := Lib.hid ((hE.out.trans h2').trans h3')
          clear h2' h3' hE c0
          by_cases h3 : gi xs (r * R + s) = elM k (i + 1) (j + 1)
          · have hb : (gi xs (r * R + s) == elM k (i + 1) (j + 1)) = true := by simpa using h3
            have hD3 : Hid (∀ q, q < j + 1 → gi xs (ni rows i * R + ni rows q) = elM k (i + 1) (q + 1)) := fun q hq => by
              by_cases e : q = j
              · subst e; rw [HRI.out, HSJ.out]; exact h3
              · exact hD2.out q (by omega)
            clear h3 hD2
            go_wp2
            exact ⟨⟨j + 1, by omega, by simp, E3, hD3⟩, by simp [intOf]; omega⟩
          · have hb : (gi xs (r * R + s) == elM k (i + 1) (j + 1)) = false := by simpa using h3
            have HF : Hid (likeB k xs R rows = false) := likeB_false (by rw [HM.out]; exact h1) (by rw [HM.out]; exact h2) (by rw [HRI.out, HSJ.out]; exact h3)
            clear h3 hD2
            go_wp2
            go_ret
            exact ⟨ret_bool HF.out.symm, E3.out⟩
        · obtain rfl : m = j := by omega
          have hD3 : Hid (∀ p q, p < i + 1 → q < m → gi xs (ni rows p * R + ni rows q) = elM k (p + 1) (q + 1)) := fun p q hp hq => by
            by_cases e : p = i
            · subst e; exact hD2.out q hq
            · exact hD.out p q (by omega) hq
          clear hD2 hD
          go_wp2
          exact ⟨⟨i + 1, by omega, by simp, hE, hD3⟩, by simp [intOf]; omega⟩
    · obtain rfl : m = i := by omega
      have HF : Hid (likeB k xs R rows = true) := likeB_true (fun p q hp hq => hD.out p q (by rw [← HM.out]; exact hp) (by rw [← HM.out]; exact hq))
      go_wp2
      go_ret
      exact ⟨ret_bool HF.out.symm, hE.out⟩
end Go.Proofs.YtlnpaplbcocmkaaGreat
