/-
  Brackets of two elements, and the matrix of the brackets with one, in the program.
-/
import Derived.Test.YtnikfalpjieibaaAlgOk2
import Derived.Test.YtnikfalpjieibaaAdj
import Derived.Test.YtnikfalpjieibaaSm
import Derived.Test.YtnikfalpjieibaaRi
import Derived.Test.YtnikfalpjieibaaJn
import Derived.Test.YtnikfalpjieibaaAd
import Derived.Test.YtnikfalpjieibaaFr
import Derived.Test.YtnikfalpjieibaaLi
import Derived.Test.YtnikfalpjieibaaTm
namespace Go.Proofs.Ytnikfalpjieibaa
open Go.ChangeShapes Go.WideShapes Go.ChangeAt Go.RowKit
set_option linter.unusedVariables false
set_option linter.unusedSimpArgs false

/-! The bracket as a product with the matrix of brackets. -/
section
variable {P : Int} {D : Nat} {l xs ys : List Int}
theorem gi_kTo_row (A : List Int) (hA : A.length = D * D) (hp : 0 < P) (k : Nat) (hk : k ≤ D) {q : Nat} (hq : q < D) : gi (kTo P ys A D D 0 (List.replicate (1 * D) 0) k) q = (sumN k fun j => gi ys j * gi A (j * D + q)) % P := by
  induction k with
  | zero => rw [kTo, gi_replicate]; simp [sumN]
  | succ k ih =>
    simp only [kTo, Nat.zero_mul, Nat.zero_add, sumN]
    by_cases h : gi ys k = 0
    · rw [axL, if_pos h, ih (by omega), h]; simp
    · rw [axL, if_neg h]
      have hl : (kTo P ys A D D 0 (List.replicate (1 * D) 0) k).length = D := by rw [kTo_length]; simp
      have h1 := gi_axTo_in P (gi ys k) 0 (k * D) D (kTo P ys A D D 0 (List.replicate (1 * D) 0) k) A (by rw [hl]; omega) q D hq (Nat.le_refl _)
      simp only [Nat.zero_add] at h1
      rw [h1, ih (by omega)]
      exact Int.emod_add_emod _ _ _
theorem brk_eq (hp : 0 < P) : mulTo P ys (adTo P D l xs D) 1 D D 1 = brL P D l xs ys := by
  refine ext_gi (by rw [mulTo_length, brL, List.length_map, List.length_range, Nat.one_mul]) (fun q hq => ?_)
  rw [mulTo_length, Nat.one_mul] at hq
  rw [mulTo, mulTo, gi_kTo_row _ (adTo_length D) hp D (Nat.le_refl _) hq, brL, gi_map D _ hq]
  refine Eqm.to_emod ?_
  have e1 : Eqm P (sumN D fun j => gi ys j * gi (adTo P D l xs D) (j * D + q)) (sumN D fun j => gi ys j * adN D l (gi xs) j q) :=
    sumN_eqm (fun j hj => by rw [adTo_row hj hq]; exact (Eqm.refl _).mul (Eqm.emod _))
  refine e1.trans (Eqm.of_eq ?_)
  rw [brN]
  have e2 : (sumN D fun j => gi ys j * adN D l (gi xs) j q) = sumN D fun j => sumN D fun i => gi xs i * gi ys j * tb D l i j q := by
    refine sumN_congr (fun j _ => ?_)
    rw [adN, ← sumN_mul]
    exact sumN_congr (fun i _ => by grind)
  rw [e2, sumN_swap]
theorem gi_cut (m : List Int) (a n q : Nat) (hq : q < n) : gi ((m.drop a).take n) q = gi m (a + q) := by
  simp [gi, List.getD_eq_getElem?_getD, List.getElem?_take, List.getElem?_drop, hq]
/-- The rows of the matrix of brackets. -/
def adR (P : Int) (D : Nat) (l xs : List Int) (k : Nat) : List (List Int) := (List.range k).map fun j => brL P D l xs (basL D j)
theorem adR_length (k : Nat) : (adR P D l xs k).length = k := by simp [adR]
theorem adR_succ (k : Nat) : adR P D l xs (k + 1) = adR P D l xs k ++ [brL P D l xs (basL D k)] := by simp [adR, List.range_succ]
theorem brL_len : (brL P D l xs ys).length = D := by simp [brL]
theorem adR_row {k : Nat} (hk : k < D) : brL P D l xs (basL D k) = ((adTo P D l xs D).drop (k * D)).take D := by
  have h := ad_place (D := D) (j := k) (m := D - 1) hk (by omega)
  refine ext_gi (by rw [brL_len, List.length_take, List.length_drop, adTo_length]; omega) (fun q hq => ?_)
  rw [brL_len] at hq
  rw [gi_cut _ _ _ _ hq, brL, gi_map D _ hq, brN_bas _ hk, adTo_row hk hq]
theorem adR_flat {k : Nat} (hk : k ≤ D) : (adR P D l xs k).flatten = (adTo P D l xs D).take (k * D) := by
  induction k with
  | zero => simp [adR]
  | succ k ih =>
    rw [adR_succ, List.flatten_append, ih (by omega), List.flatten_cons, List.flatten_nil, List.append_nil, adR_row (by omega), Nat.add_mul, Nat.one_mul, List.take_add]
theorem adR_all : (adR P D l xs D).flatten = adTo P D l xs D := by
  rw [adR_flat (Nat.le_refl _), List.take_of_length_le (by rw [adTo_length]; exact Nat.le_refl _)]
end
noncomputable def vecB (P D : Int) (xs : List Int) : Bool := ((xs.length : Int) == D) && resB xs P
noncomputable def brkM (P D : Int) (l xs ys : List Int) : List Int := if algB P D l && (vecB P D xs && vecB P D ys) then brL P D.toNat l xs ys else []
noncomputable def adjM (P D : Int) (l xs : List Int) : Mat := if algB P D l && vecB P D xs then ⟨P, D, D, adTo P D.toNat l xs D.toNat⟩ else noMat

theorem product1_impl (P : Int) (D b1 o1 b0 : Nat) (l xs ys : List Int) (w : World) (hY : Reads w (some ⟨b1, o1, none⟩) D ys) (hA : Reads w (some ⟨b0, 0, none⟩) (D * D) (adTo P D l xs D)) (hD : D ≤ 28) (hp : 2 ≤ P) (hp2 : P ≤ 10007) (hy : Res ys P) :
    Calls Try.prog 117 #[.agg #[.int .i64 P, .int .i64 1, .int .i64 D, .slice (some ⟨b1, o1, none⟩) D D], .agg #[.int .i64 P, .int .i64 D, .int .i64 D, .slice (some ⟨b0, 0, none⟩) (D * D) (D * D)]] w fun e w' => ∃ b, e = .returned (.agg #[.int .i64 P, .int .i64 1, .int .i64 D, .slice (some ⟨b, 0, none⟩) D D]) ∧ w.heap.size ≤ b ∧ b < w'.heap.size ∧ Has w' b (brL P D l xs ys) ∧ Ext w w' := by
  have h := product_impl P 1 D D b1 o1 b0 0 D (D * D) ys (adTo P D l xs D) w hY hA (Nat.one_mul D).symm rfl (by omega) (by omega) (by omega) hp hp2 hy (adTo_res (by omega) D)
  rw [brk_eq (by omega)] at h
  simp only [Nat.one_mul] at h
  exact h

end Go.Proofs.Ytnikfalpjieibaa

/-
  Brackets of two elements, and the matrix of the brackets with one, in the specification.
-/
namespace Go.Proofs.Ytnikfalpjieibaa
open Go.ChangeShapes Go.WideShapes Go.ChangeAt Go.RowKit
set_option linter.unusedVariables false
set_option linter.unusedSimpArgs false

/-- append of one row, as a step of a region. -/
theorem step_appendRow {ops : Array Oper} {o : Oper} {a : Act} {w : World} {K : Act → World → Prop} {Q : Exit → Act → World → Prop} {E : Prop} (hgd : o.guard = none) (s x : Operand)
    (ho : o.op = .call { callee := .builtin .append, args := #[s, x], argTypes := #[102, 102] }) {base : Nat}
    (v : Value) (rs : List (List Int)) (hs : a.eval s = v) (hown : RowsG w base v rs) (g b0 m c0 c : Nat) (ys : List Int) (hx : a.eval x = .slice (some ⟨g, 0, none⟩) 1 c) (hcell : w.cell? ⟨g, 0, none⟩ = some (.slice (some ⟨b0, 0, none⟩) m c0)) (hrow : Own w base w.heap.size (some ⟨b0, 0, none⟩) m ys) (hb : rs.length + 1 ≤ 1048577) (hbase : base ≤ w.heap.size)
    (h : ∀ v' w', RowsG w' base v' (rs ++ [ys]) → w.grownBy w' v.ownBlock → K (a.put o.dst v') w') :
    if Region.wanted o (yielded ops a.tmps) = true then Oper.wp Try.prog o a w K Q else E := by
  obtain ⟨i0, hi, hz0, hz1, hz2⟩ := info_parts Try.infoInts
  have hw : Region.wanted o (yielded ops a.tmps) = true := by simp [Region.wanted, hgd]
  rw [if_pos hw]
  obtain ⟨vs, h1, h2, h3⟩ := hown
  refine wp_append_own w s x 102 ho base 22 i0 (.slice none 0 0) 1 24 Try.underlying102 hi hz0 hz1 hz2 rfl (by decide) v rs.length vs hs h1 ⟨g, 0, none⟩ 1 c [.slice (some ⟨b0, 0, none⟩) m c0] hx rfl (fun j u hu => ?_) (fun u hu => by simp at hu; subst hu; rfl) (by unfold maxLen; omega) (by omega) hbase (fun v' w' g1 g2 _ => h v' w' ?_ g2)
  · obtain rfl : j = 0 := by have := (List.getElem?_eq_some_iff.1 hu).1; simp at this; omega
    simp at hu
    subst hu
    rw [show (⟨g, 0, none⟩ : Addr).add 0 = ⟨g, 0, none⟩ from rfl]
    exact hcell
  · have hty : ∀ k, v.ownBlock = some k → ∃ cur z, w.heap[k]? = some (.cells cur 22 z) := by
      intro k hk
      rcases h1.2 with ⟨e1, _⟩ | ⟨g, cap, cur, e1, _, hg, _⟩
      · subst e1; simp [Value.ownBlock] at hk
      · subst e1
        simp [Value.ownBlock] at hk
        subst hk
        exact ⟨cur, _, hg⟩
    refine ⟨vs ++ [.slice (some ⟨b0, 0, none⟩) m c0], by simpa using g1, by simp [h2], fun i hi => ?_⟩
    rw [row_snoc]
    by_cases e : i < rs.length
    · obtain ⟨b', n', c', h4, h6⟩ := h3 i e
      refine ⟨b', n', c', by rw [List.getElem?_append_left (by omega)]; exact h4, ?_⟩
      rw [if_pos e]
      exact (own_other h6 g2 hty).mono (Nat.le_refl _) g2.size
    · have e2 : i = rs.length := by simp at hi; omega
      subst e2
      refine ⟨b0, m, c0, by rw [List.getElem?_append_right (by omega)]; simp [h2], ?_⟩
      rw [if_neg e, if_pos rfl]
      exact (own_other hrow g2 hty).mono (Nat.le_refl _) g2.size

set_option maxHeartbeats 800000 in
theorem l2Vector_spec (P D : Int) (a0 oa n d m c : Nat) (a : Option Addr) (xs : List Int) (w : World) (hr : Reads w a m xs) (hm : m ≤ maxLen) :
    Calls Try.prog 55 #[.agg #[.int .i64 P, .int .i64 D, .slice (some ⟨a0, oa, none⟩) n d], .slice a m c] w fun e w' => e = .returned (.bool (((m : Int) == D) && resB xs P)) ∧ Ext w w' := by
  have HR := Lib.hid hr
  have A0 := Lib.hid (cells_new w #[.int .i64 P, .int .i64 D, .slice (some ⟨a0, oa, none⟩) n d] 29)
  have E0 := Lib.hid ((Ext.refl w).alloc (.cells #[.int .i64 P, .int .i64 D, .slice (some ⟨a0, oa, none⟩) n d] 29))
  have lA := A0.out.1
  have q0 := A0.out.2 0 _ rfl
  have q1 := A0.out.2 1 _ rfl
  have q2 := A0.out.2 2 _ rfl
  clear hr
  have hm2 := hm
  unfold maxLen at hm2
  by_cases hd : (m : Int) = D
  · have hb : ((m : Int) == D) = true := by simpa using hd
    generalize hq : (((m : Int) == D) && resB xs P) = q
    have HQ : Hid (q = resB xs P) := by rw [Hid, ← hq, hb, Bool.true_and]
    clear hq hd
    go_enter Try.func55, Try.ntmps55
    go_wp2_with fail
    refine (l1Residues_spec _ m _ xs _ _ (HR.out.ext E0.out) hm).mono ?_
    rintro e w' ⟨rfl, rfl⟩
    rw [← HQ.out]
    go_wp2
    go_ret
    exact ⟨rfl, E0.out⟩
  · have hb : ((m : Int) == D) = false := by simpa using hd
    have HF : Hid ((((m : Int) == D) && resB xs P) = false) := by rw [Hid, hb, Bool.false_and]
    generalize (((m : Int) == D) && resB xs P) = q at HF
    clear hd
    go_enter Try.func55, Try.ntmps55
    go_wp2
    go_ret
    exact ⟨ret_bool HF.out.symm, E0.out⟩

def AdjPost (w : World) (P : Int) (D : Nat) (l xs : List Int) (e : Ending) (w' : World) : Prop := ∃ a c, e = .returned (.agg #[.int .i64 P, .int .i64 D, .int .i64 D, .slice a (D * D) c]) ∧ Own w' w.heap.size w'.heap.size a (D * D) (adTo P D l xs D) ∧ Ext w w'
set_option maxRecDepth 100000 in
set_option maxHeartbeats 6400000 in
theorem l2Adjoint_spec (P : Int) (D a0 oa n d c : Nat) (ax : Option Addr) (l xs : List Int) (w : World) (hT : Reads w (some ⟨a0, oa, none⟩) n l) (hr : Reads w ax D xs) (hD : D ≤ 28) (hn : n = D * D * D) (hp : 2 ≤ P) (hp2 : P ≤ 10007) (hl : Res l P) (hx : Res xs P) :
    Calls Try.prog 59 #[.agg #[.int .i64 P, .int .i64 D, .slice (some ⟨a0, oa, none⟩) n d], .slice ax D c] w (AdjPost w P D l xs) := by
  have HT := Lib.hid hT
  have HR := Lib.hid hr
  have HN := Lib.hid hn
  have HRL := Lib.hid hl
  have HRX := Lib.hid hx
  have h27 : D * D ≤ 784 := Nat.mul_le_mul hD hD
  have A0 := Lib.hid ((cells_new' w #[.int .i64 P, .int .i64 D, .slice (some ⟨a0, oa, none⟩) n d] 29 w.heap.size rfl).ext ((Ext.refl _).alloc (.cells #[.int .i64 0, .int .i64 0, .int .i64 0, .slice none 0 0] 37)))
  have R0 := Lib.hid (cells_new' (w.alloc (.cells #[.int .i64 P, .int .i64 D, .slice (some ⟨a0, oa, none⟩) n d] 29)) #[.int .i64 0, .int .i64 0, .int .i64 0, .slice none 0 0] 37 (w.heap.size + 1) (by simp))
  have E0 := Lib.hid (((Ext.refl w).alloc (.cells #[.int .i64 P, .int .i64 D, .slice (some ⟨a0, oa, none⟩) n d] 29)).alloc (.cells #[.int .i64 0, .int .i64 0, .int .i64 0, .slice none 0 0] 37))
  have G0 := Lib.hid (rows_lit ((w.alloc (.cells #[.int .i64 P, .int .i64 D, .slice (some ⟨a0, oa, none⟩) n d] 29)).alloc (.cells #[.int .i64 0, .int .i64 0, .int .i64 0, .slice none 0 0] 37)) (w.heap.size + 1 + 1) (by simp))
  have E00 := Lib.hid ((Ext.refl ((w.alloc (.cells #[.int .i64 P, .int .i64 D, .slice (some ⟨a0, oa, none⟩) n d] 29)).alloc (.cells #[.int .i64 0, .int .i64 0, .int .i64 0, .slice none 0 0] 37))).alloc (.cells #[] 22))
  have hW2 : ((w.alloc (.cells #[.int .i64 P, .int .i64 D, .slice (some ⟨a0, oa, none⟩) n d] 29)).alloc (.cells #[.int .i64 0, .int .i64 0, .int .i64 0, .slice none 0 0] 37)).heap.size = w.heap.size + 1 + 1 := by simp
  rw [hW2] at G0
  have HW2 := Lib.hid hW2
  clear hT hr hn hl hx hW2
  go_enter Try.func59, Try.ntmps59
  go_wp2_with fail
  try simp only [World.size_alloc]
  generalize ((w.alloc (.cells #[.int .i64 P, .int .i64 D, .slice (some ⟨a0, oa, none⟩) n d] 29)).alloc (.cells #[.int .i64 0, .int .i64 0, .int .i64 0, .slice none 0 0] 37)) = W2 at *
  go_loopw [5, 6] (fun v z wr => ∃ k : Nat, k ≤ D ∧ z = .int .i64 k ∧ Hid (RowsG wr (w.heap.size + 1 + 1) v (adR P D l xs k)) ∧ Hid (Ext W2 wr)) (fun _ z _ => D - (intOf z).toNat)
  case atStart => exact ⟨0, by omega, rfl, G0, E00⟩
  case round =>
    clear G0 E00
    obtain ⟨k, hk, rfl, hG, hE⟩ := hrel
    have lW : w.heap.size < W2.heap.size := by have := HW2.out; omega
    have q0 := A0.out.2 0 _ rfl
    have q1 := A0.out.2 1 _ rfl
    have q2 := A0.out.2 2 _ rfl
    have AX := A0.out.ext hE.out
    have lX := AX.1
    have x0 := AX.2 0 _ rfl
    have x1 := AX.2 1 _ rfl
    have x2 := AX.2 2 _ rfl
    clear AX
    obtain ⟨va, vc, rfl, _⟩ := hG.out.shape
    by_cases hlt : k < D
    · have HKL : Hid ((adR P D l xs k).length ≤ 28) := by rw [Hid, adR_length]; omega
      have HGD := Lib.hid (RowsG.ext hG.out (Ext.refl _).drew)
      have HBR : ∀ w1 b, Ext W2 w1 → Has w1 b (basL D k) → Calls Try.prog 102 #[.agg #[.int .i64 P, .int .i64 D, .slice (some ⟨a0, oa, none⟩) n d], .slice ax D c, .slice (some ⟨b, 0, none⟩) D D] w1 (BrPost w1 P D l xs (basL D k)) := fun w1 b h hh => l2Bracket_spec P D a0 oa n d c D ax (some ⟨b, 0, none⟩) l xs (basL D k) w1 (HT.out.ext (E0.out.trans h)) (HR.out.ext (E0.out.trans h)) (hh.reads basL_length) hD HN.out hp hp2 HRL.out HRX.out (basL_res hp)
      have HBR2 := Lib.hid HBR
      clear HBR
      go_wp2_with fail
      go_region_held3 (fun w' => Ext W2 w' ∧ (∀ b o, b < W2.heap.size → w'.cell? ⟨b, o, none⟩ = W2.cell? ⟨b, o, none⟩)) (first | assumption | (with_reducible exact ext2 (Ext.trans (And.left ‹Ext W2 _ ∧ _›) ‹Ext _ _›)) | (refine ext2 ?_; with_reducible repeat (first | exact Ext.refl _ | exact And.left ‹Ext W2 _ ∧ _› | exact hE.out | refine Ext.drew ?_ | refine Ext.drewN ?_ _ | refine Ext.alloc ?_ _))) (first
        | (go_at_call 60; (with_reducible refine (l2Basis_spec D k _ hD hlt).mono ?_); rintro e w3 ⟨b, rfl, kb, h3⟩)
        | (go_at_call 102; (with_reducible refine (HBR2.out _ _ (And.left ‹Ext W2 _ ∧ _›) kb).mono ?_); rintro e w4 ⟨b4, rfl, hb4, kr, h4⟩)
        | (have sz1 := hE.out.le; have sz2 := h3.le; have sz3 := h4.le; have sz4 := HW2.out; rw [World.size_drew] at sz2; have sz5 : w.heap.size + 1 + 1 ≤ w4.heap.size := by omega
           have sz6 : w.heap.size + 1 + 1 ≤ b4 := by omega
           have sz7 : (w4.alloc (.cells #[.slice (some ⟨b4, 0, none⟩) D D] 22)).heap.size = w4.heap.size + 1 := by simp
           have sz8 := kr.lt
           have sz9 := HKL.out
           have HRow : Own (w4.alloc (.cells #[.slice (some ⟨b4, 0, none⟩) D D] 22)) (w.heap.size + 1 + 1) (w4.alloc (.cells #[.slice (some ⟨b4, 0, none⟩) D D] 22)).heap.size (some ⟨b4, 0, none⟩) D (brL P D l xs (basL D k)) := (kr.alloc _).own sz6 (by omega) brL_len
           have hcl : (w4.alloc (.cells #[.slice (some ⟨b4, 0, none⟩) D D] 22)).cell? ⟨w4.heap.size, 0, none⟩ = some (.slice (some ⟨b4, 0, none⟩) D D) := by rw [World.cell?_alloc_at _ _ _ _ rfl]; rfl
           refine step_appendRow rfl (.tmp 14) (.tmp 22) rfl (base := w.heap.size + 1 + 1) (.slice va (adR P D l xs k).length vc) (adR P D l xs k) rfl (RowsG.ext (RowsG.ext HGD.out (h3.trans h4)) ((Ext.refl _).alloc _)) w4.heap.size b4 D D 1 (brL P D l xs (basL D k)) rfl hcl HRow (by omega) (by omega) ?_
           intro v5 w5 hG5 hg5
           have E5 : Ext W2 w5 := Ext.grown (Ext.alloc (Ext.trans (Ext.trans (Ext.drew hE.out) h3) h4) _) hg5 (fun z hz => by have := HGD.out.blk z hz; have := HW2.out; omega)
           have E52 := ext2 E5))
      all_goals
        have G5 : Hid (RowsG w5 (w.heap.size + 1 + 1) v5 (adR P D l xs (k + 1))) := by rw [Hid, adR_succ]; exact hG5
        have E6 := Lib.hid E5
        clear hG hE hG5 hg5 E5 E52 HGD HRow kr kb h3 h4
        go_wp2
        exact ⟨⟨k + 1, by omega, by simp, G5, E6⟩, by simp [intOf]; omega⟩
    · obtain rfl : D = k := by omega
      have hflat := adR_all (P := P) (D := D) (l := l) (xs := xs)
      have hall : (adR P D l xs D).length = D := adR_length D
      rw [hall] at hG ⊢
      have HRW := l1Rows_spec P D D (w.heap.size + 1 + 1) vc va (adR P D l xs D) wr hG.out (by omega) (by rw [hflat, adTo_length]; omega)
      rw [hflat] at HRW
      have HRW2 := Lib.hid HRW
      have HAL : Hid ((adTo P D l xs D).length = D * D) := adTo_length D
      have EQ := Lib.hid (E0.out.trans hE.out)
      have R2 := Lib.hid (R0.out.ext hE.out)
      have hle := hE.out.le
      have hW := HW2.out
      clear HRW hflat hall
      go_wp2_with fail
      refine HRW2.out.mono ?_
      rintro e w5 ⟨ra, rc, rfl, hnil, ho, h5⟩
      rw [HAL.out] at ho ⊢
      have HO := Lib.hid ho
      have R3 := Lib.hid (R2.out.ext h5)
      have EQ3 := Lib.hid (EQ.out.trans h5)
      have hw5 := h5.le
      have hrl := R2.out.1
      clear ho hnil R2 EQ h5 hE
      have r0 := R3.out.2 0 _ rfl
      have r1 := R3.out.2 1 _ rfl
      have r2 := R3.out.2 2 _ rfl
      have r3 := R3.out.2 3 _ rfl
      have tR := R3.out.3
      have lR := R3.out.1
      go_wp2
      refine bodyPost_ret (v := .agg #[.int .i64 P, .int .i64 D, .int .i64 D, .slice ra (D * D) rc]) (by simp [results, Try.results59, go_sem, r0, r1, r2, r3]) rfl ⟨ra, rc, rfl, ?_, ?_⟩
      · exact Own.mono (own4 HO.out (by omega) _ _ _ _) (by omega) (by simp)
      · exact ext4 EQ3.out (by omega) _ _ _ _

end Go.Proofs.Ytnikfalpjieibaa

/-
  Inverses: the matrix with the unit matrix behind it. Plain mathematics.
-/
namespace Go.Proofs.Ytnikfalpjieibaa
set_option linter.unusedVariables false

/-! Inverses: the matrix with the unit matrix behind it. -/
theorem gi_unitTo {m : Nat} (k i c : Nat) (hk : k ≤ m) (hi : i < m) (hc : c < m) : gi (unitTo m k) (i * m + c) = if i = c ∧ i < k then 1 else 0 := by
  induction k with
  | zero => rw [unitTo, gi_replicate, if_neg (by omega)]
  | succ k ih =>
    have hkm := diag_lt (show k < m by omega)
    rw [unitTo, gi_set _ _ _ _ (by rw [unitTo_length]; exact hkm), ih (by omega)]
    by_cases e : i * m + c = k * m + k
    · have h1 : i = k ∧ c = k := by
        have hd : (i * m + c) / m = (k * m + k) / m := by rw [e]
        rw [Nat.mul_comm i, Nat.mul_comm k, Nat.mul_add_div (by omega), Nat.mul_add_div (by omega), Nat.div_eq_of_lt hc, Nat.div_eq_of_lt (show k < m by omega)] at hd
        have : i = k := by omega
        subst this
        omega
      rw [if_pos e, if_pos (by omega)]
    · rw [if_neg e]
      by_cases e2 : i = c ∧ i < k
      · rw [if_pos e2, if_pos (by omega)]
      · rw [if_neg e2, if_neg (fun h => e2 ⟨h.1, by
          have : i ≠ k := fun h2 => e (by rw [← h.1, h2])
          omega⟩)]
theorem at2_unitTo {m i c : Nat} (hi : i < m) (hc : c < m) : at2 m (unitTo m m) i c = unitF i c := by
  rw [at2, gi_unitTo m i c (Nat.le_refl _) hi hc, unitF]
  by_cases e : i = c
  · rw [if_pos ⟨e, hi⟩, if_pos e]
  · rw [if_neg (fun h => e h.1), if_neg e]
theorem unitTo_res2 (P : Int) (hp : 2 ≤ P) (m k : Nat) : Res (unitTo m k) P := by
  induction k with
  | zero => intro j _; rw [unitTo, gi_replicate]; omega
  | succ k ih => exact res_set _ _ _ _ ih (by omega) (by omega)
/-- The matrix and the unit matrix. -/
def wideL (n : Nat) (xs : List Int) : List Int := jmTo n n xs (unitTo n n) n
def invS (P : Int) (n : Nat) (xs : List Int) : RSt := redTo P n (n + n) (wideL n xs) n
def invOk (P : Int) (n : Nat) (xs : List Int) : Bool := (invS P n xs).pv.length == n
/-- The last n columns. -/
def invR (n : Nat) (m : List Int) : List Int := mkL n n fun i j => gi m (i * (n + n) + (n + j))
theorem wideL_length {n : Nat} {xs : List Int} (hl : xs.length = n * n) : (wideL n xs).length = n * (n + n) := jmTo_length hl (unitTo_length n n) n (Nat.le_refl _)
theorem inv_yes {P : Int} {n : Nat} {xs : List Int} (h : invOk P n xs = true) : redM P n (n + n) (wideL n xs) = invS P n xs ∧ (invS P n xs).pv.length = n ∧ ∀ i, i < n → (invS P n xs).pv.getD i 0 < n := by
  have h1 : (invS P n xs).pv.length = n := by simpa [invOk] using h
  refine ⟨redTo_full (Nat.le_of_eq h1.symm) n, h1, fun i hi => ?_⟩
  refine (redTo_pv (P := P) (R := n) (C := n + n) (xs := wideL n xs) n).2.2 _ ?_
  have : i < (invS P n xs).pv.length := by omega
  show _ ∈ (invS P n xs).pv
  rw [List.getD_eq_getElem?_getD, List.getElem?_eq_getElem this]; simp
theorem inv_no {P : Int} {n : Nat} {xs : List Int} (hp : IsP P) (hl : xs.length = n * n) (hx : Res xs P) (h : invOk P n xs = false) : 0 < n ∧ (invS P n xs).pv.length < n ∧ (redM P n (n + n) (wideL n xs)).pv.length = n ∧ n ≤ (redM P n (n + n) (wideL n xs)).pv.getD (n - 1) 0 := by
  have h0 := (redTo_pv (P := P) (R := n) (C := n + n) (xs := wideL n xs) n).2.1
  have h1 : (redTo P n (n + n) (wideL n xs) n).pv.length ≠ n := by simpa [invOk, invS] using h
  have h2 := wide_rank hp hl hx (unitTo_length n n) (unitTo_res2 P hp.1 n n) (fun i c hi hc => at2_unitTo hi hc)
  obtain ⟨l, h3, h4⟩ := redTo_prefix (P := P) (R := n) (C := n + n) (xs := wideL n xs) n n
  change (redM P n (n + n) (wideL n xs)).pv.length = n at h2
  change (redM P n (n + n) (wideL n xs)).pv = _ at h3
  refine ⟨by omega, by unfold invS; omega, h2, ?_⟩
  have h5 := h2
  rw [h3, List.length_append] at h5
  rw [h3, List.getD_eq_getElem?_getD, List.getElem?_append_right (by omega)]
  have h6 : n - 1 - (redTo P n (n + n) (wideL n xs) n).pv.length < l.length := by omega
  rw [List.getElem?_eq_getElem h6]
  exact h4 _ (List.getElem_mem h6)

/-- The last columns, k numbers of them, and zeros behind. -/
def ivAt (n : Nat) (m : List Int) (k : Nat) : List Int := mix (invR n m) (List.replicate (n * n) 0) k
theorem invR_length (n : Nat) (m : List Int) : (invR n m).length = n * n := mkL_length ..
theorem ivAt_zero (n : Nat) (m : List Int) : ivAt n m 0 = List.replicate (n * n) 0 := mix_zero _ _
theorem ivAt_full (n : Nat) (m : List Int) : ivAt n m (n * n) = invR n m := by
  have := mix_full (invR n m) (List.replicate (n * n) 0) (by rw [invR_length]; simp)
  rwa [List.length_replicate] at this
theorem ivAt_length (n : Nat) (m : List Int) (k : Nat) (hk : k ≤ n * n) : (ivAt n m k).length = n * n := by
  rw [ivAt, mix_length _ _ _ (by rw [invR_length]; simp) (by simpa using hk)]; simp
theorem ivAt_set (n : Nat) (m : List Int) {i j : Nat} (hi : i < n) (hj : j < n) : (ivAt n m (i * n + j)).set (i * n + j) (gi m (i * (n + n) + (n + j))) = ivAt n m (i * n + (j + 1)) := by
  have h : i * n + j < n * n := place_lt hi hj
  have e : gi (invR n m) (i * n + j) = gi m (i * (n + n) + (n + j)) := at2_mkL (fun i j => gi m (i * (n + n) + (n + j))) hi hj
  rw [← e, ivAt, mix_set _ _ _ (by rw [invR_length]; simp) (by simpa using h)]
  rfl
theorem ivAt_row (n : Nat) (m : List Int) (hm : m.length = n * (n + n)) {i : Nat} (hi : i < n) : spl (ivAt n m (i * n)) (i * n) ((m.drop (i * (n + n) + n)).take n) = ivAt n m ((i + 1) * n) := by
  have h1 : i * n + n ≤ n * n := row_le hi
  have h2 : i * (n + n) + (n + n) ≤ n * (n + n) := row_le hi
  have hr := invR_length n m
  have hl : ((m.drop (i * (n + n) + n)).take n).length = n := by rw [List.length_take, List.length_drop]; omega
  have e : (i + 1) * n = i * n + n := by rw [Nat.add_mul, Nat.one_mul]
  have hle := ivAt_length n m (i * n) (by omega)
  have hf : i * n + ((m.drop (i * (n + n) + n)).take n).length ≤ (ivAt n m (i * n)).length := by rw [hl, hle]; exact h1
  refine ext_gi ?_ (fun q hq => ?_)
  · rw [spl_length _ _ _ hf, hle, ivAt_length _ _ _ (by omega)]
  · rw [spl_length _ _ _ hf, hle] at hq
    rw [gi_spl _ _ _ hf, hl]
    by_cases h : i * n ≤ q ∧ q < i * n + n
    · rw [if_pos h, gi_take _ _ _ (by omega), gi_drop]
      have e2 : gi (ivAt n m ((i + 1) * n)) q = gi (invR n m) q := by
        rw [ivAt, mix, gi_append_l (by rw [List.length_take]; omega), gi_take _ _ _ (by omega)]
      have e3 := at2_mkL (k := n) (n := n) (fun i j => gi m (i * (n + n) + (n + j))) hi (show q - i * n < n by omega)
      rw [e2]
      have e4 : q = i * n + (q - i * n) := by omega
      rw [e4]
      refine Eq.trans ?_ e3.symm
      congr 1; omega
    · rw [if_neg h, ivAt, ivAt, mix, mix]
      by_cases h3 : q < i * n
      · rw [gi_append_l (by rw [List.length_take]; omega), gi_append_l (by rw [List.length_take]; omega), gi_take _ _ _ h3, gi_take _ _ _ (by omega)]
      · rw [gi_append_r (by rw [List.length_take]; omega), gi_append_r (by rw [List.length_take]; omega), List.length_take, List.length_take, gi_drop, gi_drop, gi_replicate, gi_replicate]
noncomputable def invertM (P R C : Int) (xs : List Int) : Mat × Bool := if mok P R C xs && (R == C) then (if invOk P R.toNat xs then (⟨P, R, R, invR R.toNat (invS P R.toNat xs).m⟩, true) else (noMat, false)) else (noMat, false)
end Go.Proofs.Ytnikfalpjieibaa

/-
  Products of matrices and brackets of rows. Plain mathematics.
-/
namespace Go.Proofs.Ytnikfalpjieibaa
set_option linter.unusedVariables false

/-! Products of matrices, number by number; all brackets of the rows of two matrices. -/
section
variable {p : Int} {xs ys : List Int} {R K Q : Nat}
theorem gi_kTo_out (i : Nat) (l : List Int) (hl : i * Q + Q ≤ l.length) (k q : Nat) (hq : q < i * Q ∨ i * Q + Q ≤ q) : gi (kTo p xs ys K Q i l k) q = gi l q := by
  induction k with
  | zero => rfl
  | succ k ih =>
    rw [kTo, axL]
    split
    · exact ih
    · rw [gi_axTo_out (n := Q) _ _ _ _ _ _ (by rw [kTo_length]; exact hl) q hq Q (Nat.le_refl _)]; exact ih
theorem gi_kTo_in (i : Nat) (l : List Int) (hl : i * Q + Q ≤ l.length) (k : Nat) {j : Nat} (hj : j < Q) (h0 : gi l (i * Q + j) = 0) : gi (kTo p xs ys K Q i l k) (i * Q + j) = (sumN k fun c => gi xs (i * K + c) * gi ys (c * Q + j)) % p := by
  induction k with
  | zero => rw [kTo, h0]; simp [sumN]
  | succ k ih =>
    rw [kTo, sumN]
    by_cases h : gi xs (i * K + k) = 0
    · rw [axL, if_pos h, ih, h]; simp
    · rw [axL, if_neg h, gi_axTo_in p (gi xs (i * K + k)) (i * Q) (k * Q) Q (kTo p xs ys K Q i l k) ys (by rw [kTo_length]; exact hl) j Q hj (Nat.le_refl _), ih]
      exact Int.emod_add_emod _ _ _
theorem gi_mulTo (i : Nat) (hi : i ≤ R) (r j : Nat) (hr : r < R) (hj : j < Q) : gi (mulTo p xs ys R K Q i) (r * Q + j) = if r < i then (sumN K fun c => gi xs (r * K + c) * gi ys (c * Q + j)) % p else 0 := by
  induction i with
  | zero => rw [mulTo, gi_replicate, if_neg (by omega)]
  | succ i ih =>
    have hb := row_le (Q := Q) (show i < R by omega)
    have hl : i * Q + Q ≤ (mulTo p xs ys R K Q i).length := by rw [mulTo_length]; exact hb
    rw [mulTo]
    by_cases e : r = i
    · subst e
      rw [if_pos (by omega), gi_kTo_in r _ hl K hj (by rw [ih (by omega), if_neg (by omega)])]
    · rw [gi_kTo_out i _ hl K _ (by
        rcases Nat.lt_or_gt_of_ne e with h | h
        · have := row_le (Q := Q) h; left; omega
        · have := row_le (Q := Q) h; right; omega), ih (by omega)]
      by_cases e2 : r < i
      · rw [if_pos e2, if_pos (by omega)]
      · rw [if_neg e2, if_neg (by omega)]
theorem at2_mulTo (r j : Nat) (hr : r < R) (hj : j < Q) : gi (mulTo p xs ys R K Q R) (r * Q + j) = (sumN K fun c => gi xs (r * K + c) * gi ys (c * Q + j)) % p := by
  rw [gi_mulTo R (Nat.le_refl _) r j hr hj, if_pos hr]
end
section
variable {P : Int} {D : Nat} {l : List Int}
/-- The brackets of x and the first k rows of t. -/
def bRows (P : Int) (D : Nat) (l xs ts : List Int) (k : Nat) : List (List Int) := (List.range k).map fun j => brL P D l xs (rowL D ts j)
theorem bRows_length (xs ts : List Int) (k : Nat) : (bRows P D l xs ts k).length = k := by simp [bRows]
theorem bRows_succ (xs ts : List Int) (k : Nat) : bRows P D l xs ts (k + 1) = bRows P D l xs ts k ++ [brL P D l xs (rowL D ts k)] := by simp [bRows, List.range_succ]
theorem bRows_flen (xs ts : List Int) (k : Nat) : (bRows P D l xs ts k).flatten.length = k * D := by
  induction k with
  | zero => simp [bRows]
  | succ k ih => rw [bRows_succ, List.flatten_append, List.length_append, ih, List.flatten_cons, List.flatten_nil, List.append_nil, brL_len, Nat.add_mul, Nat.one_mul]
theorem gi_bRows (xs ts : List Int) (k : Nat) {j q : Nat} (hj : j < k) (hq : q < D) : gi (bRows P D l xs ts k).flatten (j * D + q) = gi (brL P D l xs (rowL D ts j)) q := by
  induction k with
  | zero => omega
  | succ k ih =>
    rw [bRows_succ, List.flatten_append, List.flatten_cons, List.flatten_nil, List.append_nil]
    by_cases e : j = k
    · subst e
      rw [gi_append_r (by rw [bRows_flen]; omega), bRows_flen, Nat.add_sub_cancel_left]
    · have := row_le (Q := D) (show j < k by omega)
      rw [gi_append_l (by rw [bRows_flen]; omega)]
      exact ih (by omega)
theorem gi_rowL2 (ts : List Int) (j : Nat) {q : Nat} (hq : q < D) : gi (rowL D ts j) q = gi ts (j * D + q) := by
  rw [rowL, gi_take _ _ _ hq, gi_drop]
theorem gi_rowLo (ts : List Int) (j : Nat) {q : Nat} (hq : D ≤ q) : gi (rowL D ts j) q = 0 := by
  simp only [gi, List.getD_eq_getElem?_getD, rowL]
  rw [List.getElem?_eq_none (by rw [List.length_take]; omega)]; rfl
theorem gi_brL (xs ys : List Int) {q : Nat} (hq : q < D) : gi (brL P D l xs ys) q = brN D l (gi xs) (gi ys) q % P := by rw [brL, gi_map D _ hq]
theorem brN_eqm (hp : 0 < P) (xs : List Int) (y : Nat → Int) {q : Nat} (hq : q < D) : (sumN D fun c => y c * gi (adTo P D l xs D) (c * D + q)) % P = brN D l (gi xs) y q % P := by
  refine Eqm.to_emod ?_
  have e1 : Eqm P (sumN D fun j => y j * gi (adTo P D l xs D) (j * D + q)) (sumN D fun j => y j * adN D l (gi xs) j q) :=
    sumN_eqm (fun j hj => by rw [adTo_row hj hq]; exact (Eqm.refl _).mul (Eqm.emod _))
  refine e1.trans (Eqm.of_eq ?_)
  rw [brN]
  have e2 : (sumN D fun j => y j * adN D l (gi xs) j q) = sumN D fun j => sumN D fun i => gi xs i * y j * tb D l i j q := by
    refine sumN_congr (fun j _ => ?_)
    rw [adN, ← sumN_mul]
    exact sumN_congr (fun i _ => by grind)
  rw [e2, sumN_swap]
theorem brN_congr (x y z : Nat → Int) (h : ∀ c, c < D → y c = z c) (q : Nat) : brN D l x y q = brN D l x z q :=
  sumN_congr (fun i _ => sumN_congr (fun j hj => by rw [h j hj]))
theorem mul_rows (hp : 0 < P) (xs ts : List Int) (R : Nat) : mulTo P ts (adTo P D l xs D) R D D R = (bRows P D l xs ts R).flatten := by
  refine ext_gi (by rw [mulTo_length, bRows_flen]) (fun q hq => ?_)
  rw [mulTo_length] at hq
  have hD : 0 < D := by
    rcases Nat.eq_zero_or_pos D with h | h
    · subst h; simp at hq
    · exact h
  have hm := Nat.mod_lt q hD
  have hd : q / D < R := Nat.div_lt_of_lt_mul (by rw [Nat.mul_comm]; exact hq)
  have e : q = q / D * D + q % D := by rw [Nat.mul_comm]; exact (Nat.div_add_mod q D).symm
  rw [e, at2_mulTo _ _ hd hm, gi_bRows _ _ _ hd hm, gi_brL _ _ hm, brN_eqm hp xs (fun c => gi ts (q / D * D + c)) hm]
  congr 1
  exact brN_congr _ _ _ (fun c hc => (gi_rowL2 ts _ hc).symm) _
theorem bRows_res (hp : 0 < P) (xs ts : List Int) (k : Nat) : Res (bRows P D l xs ts k).flatten P := by
  induction k with
  | zero => intro j hj; simp [bRows] at hj
  | succ k ih =>
    rw [bRows_succ, List.flatten_append, List.flatten_cons, List.flatten_nil, List.append_nil]
    exact res_append ih (brL_res hp)
/-- All brackets of the first i rows of s and the rows of t. -/
def pRows (P : Int) (D : Nat) (l ss ts : List Int) (R2 : Nat) : Nat → List (List Int)
  | 0 => []
  | i + 1 => pRows P D l ss ts R2 i ++ bRows P D l (rowL D ss i) ts R2
theorem pRows_length (ss ts : List Int) (R2 i : Nat) : (pRows P D l ss ts R2 i).length = i * R2 := by
  induction i with
  | zero => simp [pRows]
  | succ i ih => rw [pRows, List.length_append, ih, bRows_length, Nat.add_mul, Nat.one_mul]
def pL (P : Int) (D : Nat) (l ss ts : List Int) (R2 i : Nat) : List Int := (pRows P D l ss ts R2 i).flatten
theorem pL_succ (ss ts : List Int) (R2 i : Nat) : pL P D l ss ts R2 (i + 1) = pL P D l ss ts R2 i ++ (bRows P D l (rowL D ss i) ts R2).flatten := by rw [pL, pRows, List.flatten_append]; rfl
theorem pL_length (ss ts : List Int) (R2 i : Nat) : (pL P D l ss ts R2 i).length = i * (R2 * D) := by
  induction i with
  | zero => simp [pL, pRows]
  | succ i ih => rw [pL_succ, List.length_append, ih, bRows_flen, Nat.add_mul, Nat.one_mul]
theorem pL_res (hp : 0 < P) (ss ts : List Int) (R2 i : Nat) : Res (pL P D l ss ts R2 i) P := by
  induction i with
  | zero => intro j hj; simp [pL, pRows] at hj
  | succ i ih => rw [pL_succ]; exact res_append ih (bRows_res hp _ _ _)
/-- The first i blocks, and zeros behind them. -/
def pAt (P : Int) (D : Nat) (l ss ts : List Int) (R1 R2 i : Nat) : List Int := pL P D l ss ts R2 i ++ List.replicate ((R1 - i) * (R2 * D)) 0
theorem pAt_zero (ss ts : List Int) (R1 R2 : Nat) : pAt P D l ss ts R1 R2 0 = List.replicate (R1 * (R2 * D)) 0 := by simp [pAt, pL, pRows]
theorem pAt_end (ss ts : List Int) (R1 R2 : Nat) : pAt P D l ss ts R1 R2 R1 = pL P D l ss ts R2 R1 := by simp [pAt]
theorem pAt_length (ss ts : List Int) (R1 R2 i : Nat) (hi : i ≤ R1) : (pAt P D l ss ts R1 R2 i).length = R1 * (R2 * D) := by
  rw [pAt, List.length_append, pL_length, List.length_replicate, ← Nat.add_mul]; congr 1; omega
theorem pAt_step (ss ts : List Int) (R1 R2 i : Nat) (hi : i < R1) : spl (pAt P D l ss ts R1 R2 i) (i * (R2 * D)) (bRows P D l (rowL D ss i) ts R2).flatten = pAt P D l ss ts R1 R2 (i + 1) := by
  have h : R1 - i = (R1 - (i + 1)) + 1 := by omega
  rw [pAt, spl_at _ _ _ _ (pL_length _ _ _ _), bRows_flen, List.drop_replicate, pAt, pL_succ, List.append_assoc, h, Nat.add_mul, Nat.one_mul, Nat.add_sub_cancel]
/-- The rows of the unit matrix give the table back. -/
theorem rowL_unit {i : Nat} (hi : i < D) : rowL D (unitTo D D) i = basL D i := by
  refine ext_gi ?_ (fun q hq => ?_)
  · have := row_le (Q := D) hi
    rw [rowL, List.length_take, List.length_drop, unitTo_length, basL_length]; omega
  · have hq2 : q < D := by rw [rowL, List.length_take] at hq; omega
    rw [gi_rowL2 _ _ hq2, gi_basL hi]
    have := at2_unitTo hi hq2
    rw [at2] at this
    rw [this, unitF]
    by_cases e : i = q
    · rw [if_pos e, if_pos e.symm]
    · rw [if_neg e, if_neg (Ne.symm e)]
theorem adN_bas {i j q : Nat} (hi : i < D) : adN D l (gi (basL D i)) j q = tb D l i j q := by
  rw [adN, sumN_one (k := i) (fun c => gi (basL D i) c * tb D l c j q) hi (fun c _ hne => by rw [gi_basL hi, if_neg hne]; simp), gi_basL hi, if_pos rfl, Int.one_mul]
theorem brL_bas (hl : Res l P) (hll : l.length = D * D * D) {i j q : Nat} (hi : i < D) (hj : j < D) (hq : q < D) : gi (brL P D l (basL D i) (basL D j)) q = tb D l i j q := by
  rw [gi_brL _ _ hq, brN_bas _ hj, adN_bas hi]
  have := tb_res hl hll hi hj hq
  exact Int.emod_eq_of_lt this.1 this.2
end
section
variable {P : Int} {D : Nat} {l : List Int}
theorem gi_pL (ss ts : List Int) (R2 n : Nat) {i j q : Nat} (hi : i < n) (hj : j < R2) (hq : q < D) : gi (pL P D l ss ts R2 n) (i * (R2 * D) + (j * D + q)) = gi (brL P D l (rowL D ss i) (rowL D ts j)) q := by
  have hjq : j * D + q < R2 * D := place_lt hj hq
  induction n with
  | zero => omega
  | succ n ih =>
    rw [pL_succ]
    by_cases e : i = n
    · subst e
      rw [gi_append_r (by rw [pL_length]; omega), pL_length, Nat.add_sub_cancel_left, gi_bRows _ _ _ hj hq]
    · have := row_le (Q := R2 * D) (show i < n by omega)
      rw [gi_append_l (by rw [pL_length]; omega)]
      exact ih (by omega)
theorem pL_units (hl : Res l P) (hll : l.length = D * D * D) : pL P D l (unitTo D D) (unitTo D D) D D = l := by
  refine ext_gi (by rw [pL_length, hll, Nat.mul_assoc]) (fun q hq => ?_)
  rw [pL_length] at hq
  have hD : 0 < D := by
    rcases Nat.eq_zero_or_pos D with h | h
    · subst h; simp at hq
    · exact h
  have hDD : 0 < D * D := Nat.mul_pos hD hD
  have hi : q / (D * D) < D := Nat.div_lt_of_lt_mul (by rw [Nat.mul_comm]; exact hq)
  have hm := Nat.mod_lt q hDD
  have hj : q % (D * D) / D < D := Nat.div_lt_of_lt_mul hm
  have hc := Nat.mod_lt (q % (D * D)) hD
  have e2 : q % (D * D) = q % (D * D) / D * D + q % (D * D) % D := by
    have := Nat.div_add_mod (q % (D * D)) D
    rw [Nat.mul_comm D (q % (D * D) / D)] at this; exact this.symm
  have e : q = q / (D * D) * (D * D) + (q % (D * D) / D * D + q % (D * D) % D) := by
    rw [← e2, Nat.mul_comm (q / (D * D))]; exact (Nat.div_add_mod q (D * D)).symm
  have h := gi_pL (P := P) (l := l) (unitTo D D) (unitTo D D) D D hi hj hc
  rw [← e] at h
  rw [h, rowL_unit hi, rowL_unit hj, brL_bas hl hll hi hj hc, tb]
  congr 1
  have e3 : (q / (D * D) * D + q % (D * D) / D) * D = q / (D * D) * (D * D) + q % (D * D) / D * D := by rw [Nat.add_mul, Nat.mul_assoc]
  omega
end
open Go.ChangeShapes Go.WideShapes Go.ChangeAt Go.RowKit

end Go.Proofs.Ytnikfalpjieibaa

/-
  The space of all elements, and the one without any but 0: both texts.
-/
namespace Go.Proofs.Ytnikfalpjieibaa
open Go.ChangeShapes Go.WideShapes Go.ChangeAt Go.RowKit
set_option linter.unusedVariables false
set_option linter.unusedSimpArgs false

end Go.Proofs.Ytnikfalpjieibaa
