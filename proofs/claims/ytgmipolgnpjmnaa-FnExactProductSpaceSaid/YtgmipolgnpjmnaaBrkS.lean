/-
  Brackets of two elements, and the matrix of the brackets with one, in the specification.
-/
import Derived.Test.YtgmipolgnpjmnaaBrk
namespace Go.Proofs.Ytgmipolgnpjmnaa
open Go.ChangeShapes Go.WideShapes Go.ChangeAt Go.RowKit
set_option linter.unusedVariables false
set_option linter.unusedSimpArgs false

/-- append of one row, as a step of a region. -/
theorem step_appendRow {ops : Array Oper} {o : Oper} {a : Act} {w : World} {K : Act → World → Prop} {Q : Exit → Act → World → Prop} {E : Prop} (hgd : o.guard = none) (s x : Operand)
    (ho : o.op = .call { callee := .builtin .append, args := #[s, x], argTypes := #[89, 89] }) {base : Nat}
    (v : Value) (rs : List (List Int)) (hs : a.eval s = v) (hown : RowsG w base v rs) (g b0 m c0 c : Nat) (ys : List Int) (hx : a.eval x = .slice (some ⟨g, 0, none⟩) 1 c) (hcell : w.cell? ⟨g, 0, none⟩ = some (.slice (some ⟨b0, 0, none⟩) m c0)) (hrow : Own w base w.heap.size (some ⟨b0, 0, none⟩) m ys) (hb : rs.length + 1 ≤ 1048577) (hbase : base ≤ w.heap.size)
    (h : ∀ v' w', RowsG w' base v' (rs ++ [ys]) → w.grownBy w' v.ownBlock → K (a.put o.dst v') w') :
    if Region.wanted o (yielded ops a.tmps) = true then Oper.wp Try.prog o a w K Q else E := by
  obtain ⟨i0, hi, hz0, hz1, hz2⟩ := info_parts Try.infoInts
  have hw : Region.wanted o (yielded ops a.tmps) = true := by simp [Region.wanted, hgd]
  rw [if_pos hw]
  obtain ⟨vs, h1, h2, h3⟩ := hown
  refine wp_append_own w s x 89 ho base 22 i0 (.slice none 0 0) 1 24 Try.underlying89 hi hz0 hz1 hz2 rfl (by decide) v rs.length vs hs h1 ⟨g, 0, none⟩ 1 c [.slice (some ⟨b0, 0, none⟩) m c0] hx rfl (fun j u hu => ?_) (fun u hu => by simp at hu; subst hu; rfl) (by unfold maxLen; omega) (by omega) hbase (fun v' w' g1 g2 _ => h v' w' ?_ g2)
  · obtain rfl : j = 0 := by have := (List.getElem?_eq_some_iff.1 hu).1; simp at this; omega
    simp at hu
    subst hu
    rw [show (⟨g, 0, none⟩ : Addr).add 0 = ⟨g, 0, none⟩ from rfl]
    exact hcell
  · have hty : ∀ k, v.ownBlock = some k → ∃ cur z, w.heap[k]? = some (.cells cur 22 z) := by
      intro k hk
      rcases h1.2 with ⟨e1, _⟩ | ⟨g, cap, cur, e1, _, hg, _⟩
      · subst e1; simp [Value.ownBlock] at hk
      · subst e1
        simp [Value.ownBlock] at hk
        subst hk
        exact ⟨cur, _, hg⟩
    refine ⟨vs ++ [.slice (some ⟨b0, 0, none⟩) m c0], by simpa using g1, by simp [h2], fun i hi => ?_⟩
    rw [row_snoc]
    by_cases e : i < rs.length
    · obtain ⟨b', n', c', h4, h6⟩ := h3 i e
      refine ⟨b', n', c', by rw [List.getElem?_append_left (by omega)]; exact h4, ?_⟩
      rw [if_pos e]
      exact (own_other h6 g2 hty).mono (Nat.le_refl _) g2.size
    · have e2 : i = rs.length := by simp at hi; omega
      subst e2
      refine ⟨b0, m, c0, by rw [List.getElem?_append_right (by omega)]; simp [h2], ?_⟩
      rw [if_neg e, if_pos rfl]
      exact (own_other hrow g2 hty).mono (Nat.le_refl _) g2.size

def AdjPost (w : World) (P : Int) (D : Nat) (l xs : List Int) (e : Ending) (w' : World) : Prop := ∃ a c, e = .returned (.agg #[.int .i64 P, .int .i64 D, .int .i64 D, .slice a (D * D) c]) ∧ Own w' w.heap.size w'.heap.size a (D * D) (adTo P D l xs D) ∧ Ext w w'
set_option maxRecDepth 100000 in
set_option maxHeartbeats 6400000 in
theorem l2Adjoint_spec (P : Int) (D a0 oa n d c : Nat) (ax : Option Addr) (l xs : List Int) (w : World) (hT : Reads w (some ⟨a0, oa, none⟩) n l) (hr : Reads w ax D xs) (hD : D ≤ 28) (hn : n = D * D * D) (hp : 2 ≤ P) (hp2 : P ≤ 10007) (hl : Res l P) (hx : Res xs P) :
    Calls Try.prog 139 #[.agg #[.int .i64 P, .int .i64 D, .slice (some ⟨a0, oa, none⟩) n d], .slice ax D c] w (AdjPost w P D l xs) := by
  have HT := Lib.hid hT
  have HR := Lib.hid hr
  have HN := Lib.hid hn
  have HRL := Lib.hid hl
  have HRX := Lib.hid hx
  have h27 : D * D ≤ 784 := Nat.mul_le_mul hD hD
  have A0 := Lib.hid ((cells_new' w #[.int .i64 P, .int .i64 D, .slice (some ⟨a0, oa, none⟩) n d] 26 w.heap.size rfl).ext ((Ext.refl _).alloc (.cells #[.int .i64 0, .int .i64 0, .int .i64 0, .slice none 0 0] 36)))
  have R0 := Lib.hid (cells_new' (w.alloc (.cells #[.int .i64 P, .int .i64 D, .slice (some ⟨a0, oa, none⟩) n d] 26)) #[.int .i64 0, .int .i64 0, .int .i64 0, .slice none 0 0] 36 (w.heap.size + 1) (by simp))
  have E0 := Lib.hid (((Ext.refl w).alloc (.cells #[.int .i64 P, .int .i64 D, .slice (some ⟨a0, oa, none⟩) n d] 26)).alloc (.cells #[.int .i64 0, .int .i64 0, .int .i64 0, .slice none 0 0] 36))
  have G0 := Lib.hid (rows_lit ((w.alloc (.cells #[.int .i64 P, .int .i64 D, .slice (some ⟨a0, oa, none⟩) n d] 26)).alloc (.cells #[.int .i64 0, .int .i64 0, .int .i64 0, .slice none 0 0] 36)) (w.heap.size + 1 + 1) (by simp))
  have E00 := Lib.hid ((Ext.refl ((w.alloc (.cells #[.int .i64 P, .int .i64 D, .slice (some ⟨a0, oa, none⟩) n d] 26)).alloc (.cells #[.int .i64 0, .int .i64 0, .int .i64 0, .slice none 0 0] 36))).alloc (.cells #[] 22))
  have hW2 : ((w.alloc (.cells #[.int .i64 P, .int .i64 D, .slice (some ⟨a0, oa, none⟩) n d] 26)).alloc (.cells #[.int .i64 0, .int .i64 0, .int .i64 0, .slice none 0 0] 36)).heap.size = w.heap.size + 1 + 1 := by simp
  rw [hW2] at G0
  have HW2 := Lib.hid hW2
  clear hT hr hn hl hx hW2
  go_enter Try.func139, Try.ntmps139
  go_wp2_with fail
  try simp only [World.size_alloc]
  generalize ((w.alloc (.cells #[.int .i64 P, .int .i64 D, .slice (some ⟨a0, oa, none⟩) n d] 26)).alloc (.cells #[.int .i64 0, .int .i64 0, .int .i64 0, .slice none 0 0] 36)) = W2 at *
  go_loopw [5, 6] (fun v z wr => ∃ k : Nat, k ≤ D ∧ z = .int .i64 k ∧ Hid (RowsG wr (w.heap.size + 1 + 1) v (adR P D l xs k)) ∧ Hid (Ext W2 wr)) (fun _ z _ => D - (intOf z).toNat)
  case atStart => exact ⟨0, by omega, rfl, G0, E00⟩
  case round =>
    clear G0 E00
    obtain ⟨k, hk, rfl, hG, hE⟩ := hrel
    have lW : w.heap.size < W2.heap.size := by have := HW2.out; omega
    have q0 := A0.out.2 0 _ rfl
    have q1 := A0.out.2 1 _ rfl
    have q2 := A0.out.2 2 _ rfl
    have AX := A0.out.ext hE.out
    have lX := AX.1
    have x0 := AX.2 0 _ rfl
    have x1 := AX.2 1 _ rfl
    have x2 := AX.2 2 _ rfl
    clear AX
    obtain ⟨va, vc, rfl, _⟩ := hG.out.shape
    by_cases hlt : k < D
    · have HKL : Hid ((adR P D l xs k).length ≤ 28) := by rw [Hid, adR_length]; omega
      have HGD := Lib.hid (RowsG.ext hG.out (Ext.refl _).drew)
      have HBR : ∀ w1 b, Ext W2 w1 → Has w1 b (basL D k) → Calls Try.prog 95 #[.agg #[.int .i64 P, .int .i64 D, .slice (some ⟨a0, oa, none⟩) n d], .slice ax D c, .slice (some ⟨b, 0, none⟩) D D] w1 (BrPost w1 P D l xs (basL D k)) := fun w1 b h hh => l2Bracket_spec P D a0 oa n d c D ax (some ⟨b, 0, none⟩) l xs (basL D k) w1 (HT.out.ext (E0.out.trans h)) (HR.out.ext (E0.out.trans h)) (hh.reads basL_length) hD HN.out hp hp2 HRL.out HRX.out (basL_res hp)
      have HBR2 := Lib.hid HBR
      clear HBR
      go_wp2_with fail
      go_region_held3 (fun w' => Ext W2 w' ∧ (∀ b o, b < W2.heap.size → w'.cell? ⟨b, o, none⟩ = W2.cell? ⟨b, o, none⟩)) (first | assumption | (with_reducible exact ext2 (Ext.trans (And.left ‹Ext W2 _ ∧ _›) ‹Ext _ _›)) | (refine ext2 ?_; with_reducible repeat (first | exact Ext.refl _ | exact And.left ‹Ext W2 _ ∧ _› | exact hE.out | refine Ext.drew ?_ | refine Ext.drewN ?_ _ | refine Ext.alloc ?_ _))) (first
        | (go_at_call 136; (with_reducible refine (l2Basis_spec D k _ hD hlt).mono ?_); rintro e w3 ⟨b, rfl, kb, h3⟩)
        | (go_at_call 95; (with_reducible refine (HBR2.out _ _ (And.left ‹Ext W2 _ ∧ _›) kb).mono ?_); rintro e w4 ⟨b4, rfl, hb4, kr, h4⟩)
        | (have sz1 := hE.out.le; have sz2 := h3.le; have sz3 := h4.le; have sz4 := HW2.out; rw [World.size_drew] at sz2; have sz5 : w.heap.size + 1 + 1 ≤ w4.heap.size := by omega
           have sz6 : w.heap.size + 1 + 1 ≤ b4 := by omega
           have sz7 : (w4.alloc (.cells #[.slice (some ⟨b4, 0, none⟩) D D] 22)).heap.size = w4.heap.size + 1 := by simp
           have sz8 := kr.lt
           have sz9 := HKL.out
           have HRow : Own (w4.alloc (.cells #[.slice (some ⟨b4, 0, none⟩) D D] 22)) (w.heap.size + 1 + 1) (w4.alloc (.cells #[.slice (some ⟨b4, 0, none⟩) D D] 22)).heap.size (some ⟨b4, 0, none⟩) D (brL P D l xs (basL D k)) := (kr.alloc _).own sz6 (by omega) brL_len
           have hcl : (w4.alloc (.cells #[.slice (some ⟨b4, 0, none⟩) D D] 22)).cell? ⟨w4.heap.size, 0, none⟩ = some (.slice (some ⟨b4, 0, none⟩) D D) := by rw [World.cell?_alloc_at _ _ _ _ rfl]; rfl
           refine step_appendRow rfl (.tmp 14) (.tmp 22) rfl (base := w.heap.size + 1 + 1) (.slice va (adR P D l xs k).length vc) (adR P D l xs k) rfl (RowsG.ext (RowsG.ext HGD.out (h3.trans h4)) ((Ext.refl _).alloc _)) w4.heap.size b4 D D 1 (brL P D l xs (basL D k)) rfl hcl HRow (by omega) (by omega) ?_
           intro v5 w5 hG5 hg5
           have E5 : Ext W2 w5 := Ext.grown (Ext.alloc (Ext.trans (Ext.trans (Ext.drew hE.out) h3) h4) _) hg5 (fun z hz => by have := HGD.out.blk z hz; have := HW2.out; omega)
           have E52 := ext2 E5))
      all_goals
        have G5 : Hid (RowsG w5 (w.heap.size + 1 + 1) v5 (adR P D l xs (k + 1))) := by rw [Hid, adR_succ]; exact hG5
        have E6 := Lib.hid E5
        clear hG hE hG5 hg5 E5 E52 HGD HRow kr kb h3 h4
        go_wp2
        exact ⟨⟨k + 1, by omega, by simp, G5, E6⟩, by simp [intOf]; omega⟩
    · obtain rfl : D = k := by omega
      have hflat := adR_all (P := P) (D := D) (l := l) (xs := xs)
      have hall : (adR P D l xs D).length = D := adR_length D
      rw [hall] at hG ⊢
      have HRW := l1Rows_spec P D D (w.heap.size + 1 + 1) vc va (adR P D l xs D) wr hG.out (by omega) (by rw [hflat, adTo_length]; omega)
      rw [hflat] at HRW
      have HRW2 := Lib.hid HRW
      have HAL : Hid ((adTo P D l xs D).length = D * D) := adTo_length D
      have EQ := Lib.hid (E0.out.trans hE.out)
      have R2 := Lib.hid (R0.out.ext hE.out)
      have hle := hE.out.le
      have hW := HW2.out
      clear HRW hflat hall
      go_wp2_with fail
      refine HRW2.out.mono ?_
      rintro e w5 ⟨ra, rc, rfl, hnil, ho, h5⟩
      rw [HAL.out] at ho ⊢
      have HO := Lib.hid ho
      have R3 := Lib.hid (R2.out.ext h5)
      have EQ3 := Lib.hid (EQ.out.trans h5)
      have hw5 := h5.le
      have hrl := R2.out.1
      clear ho hnil R2 EQ h5 hE
      have r0 := R3.out.2 0 _ rfl
      have r1 := R3.out.2 1 _ rfl
      have r2 := R3.out.2 2 _ rfl
      have r3 := R3.out.2 3 _ rfl
      have tR := R3.out.3
      have lR := R3.out.1
      go_wp2
      refine bodyPost_ret (v := .agg #[.int .i64 P, .int .i64 D, .int .i64 D, .slice ra (D * D) rc]) (by simp [results, Try.results139, go_sem, r0, r1, r2, r3]) rfl ⟨ra, rc, rfl, ?_, ?_⟩
      · exact Own.mono (own4 HO.out (by omega) _ _ _ _) (by omega) (by simp)
      · exact ext4 EQ3.out (by omega) _ _ _ _

end Go.Proofs.Ytgmipolgnpjmnaa
