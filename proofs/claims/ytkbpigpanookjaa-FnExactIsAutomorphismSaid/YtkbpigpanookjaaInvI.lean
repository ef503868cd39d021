/-
  InverseMatrix, in the program.
-/
import Derived.Test.YtkbpigpanookjaaBr
import Derived.Test.YtkbpigpanookjaaRi
namespace Go.Proofs.Ytkbpigpanookjaa
open Go.ChangeShapes Go.WideShapes Go.ChangeAt Go.RowKit
set_option linter.unusedVariables false
set_option linter.unusedSimpArgs false

/-- What the copies of rows keep. -/
structure InvK (w wr : World) (B b B2 b2 : Nat) (vw vm : List Value) (m l : List Int) : Prop where
  loc : Loc w wr B2 b2 vm l
  wide : Cells wr B vw
  has : Has wr b m
  ne : b ≠ b2
  ne2 : B ≠ b2
theorem InvK.step {w wr wr' : World} {B b B2 b2 : Nat} {vw vm : List Value} {m l : List Int} (h : InvK w wr B b B2 b2 vw vm m l) (hE : Ext wr wr') : InvK w wr' B b B2 b2 vw vm m l :=
  ⟨h.loc.step hE, h.wide.ext hE, h.has.ext hE, h.ne, h.ne2⟩
theorem InvK.row {w wr wr' : World} {B b B2 b2 : Nat} {vw vm : List Value} {m l l' : List Int} (h : InvK w wr B b B2 b2 vw vm m l) (hh : Has wr' b2 l') (hg : wr.grownBy wr' (some b2)) : InvK w wr' B b B2 b2 vw vm m l' := by
  have h1 := h.ne
  have h2 := h.ne2
  refine ⟨h.loc.row hh hg, h.wide.grown hg (fun k hk => by simp at hk; omega), ?_, h.ne, h.ne2⟩
  obtain ⟨r, h3, h4⟩ := h.has
  exact ⟨r, by rw [hg.block b h.has.lt (by simp; omega)]; exact h3, h4⟩
def IS (w wr : World) (B b B2 b2 : Nat) (vw vm : List Value) (m : List Int) (N off : Nat) (cs l2 : List Int) : Prop := ∃ l, InvK w wr B b B2 b2 vw vm m l ∧ l.length = N ∧ spl l off cs = l2
theorem IS.mk' {w wr : World} {B b B2 b2 : Nat} {vw vm : List Value} {m : List Int} {N off : Nat} {cs l2 l : List Int} (h1 : InvK w wr B b B2 b2 vw vm m l) (h2 : l.length = N) (h3 : spl l off cs = l2) : IS w wr B b B2 b2 vw vm m N off cs l2 := ⟨l, h1, h2, h3⟩
theorem IS.step {w wr wr' : World} {B b B2 b2 : Nat} {vw vm : List Value} {m : List Int} {N off : Nat} {cs l2 : List Int} (h : IS w wr B b B2 b2 vw vm m N off cs l2) (hE : Ext wr wr') : IS w wr' B b B2 b2 vw vm m N off cs l2 := by
  obtain ⟨l, h1, h2⟩ := h
  exact ⟨l, h1.step hE, h2⟩
theorem is8 {w wr : World} {B b B2 b2 : Nat} {a1 a2 a3 a4 b1 c2 b3 b4 : Value} {m : List Int} {N off : Nat} {cs l2 : List Int} (h : IS w wr B b B2 b2 [a1, a2, a3, a4] [b1, c2, b3, b4] m N off cs l2) : wr.cell? ⟨B, 0, none⟩ = some a1 ∧ wr.cell? ⟨B, 1, none⟩ = some a2 ∧ wr.cell? ⟨B, 2, none⟩ = some a3 ∧ wr.cell? ⟨B, 3, none⟩ = some a4 ∧ wr.cell? ⟨B2, 0, none⟩ = some b1 ∧ wr.cell? ⟨B2, 1, none⟩ = some c2 ∧ wr.cell? ⟨B2, 2, none⟩ = some b3 ∧ wr.cell? ⟨B2, 3, none⟩ = some b4 ∧ IS w wr B b B2 b2 [a1, a2, a3, a4] [b1, c2, b3, b4] m N off cs l2 := by
  obtain ⟨l, h1, h2⟩ := h
  exact ⟨h1.wide.2 0 _ rfl, h1.wide.2 1 _ rfl, h1.wide.2 2 _ rfl, h1.wide.2 3 _ rfl, h1.loc.box.2 0 _ rfl, h1.loc.box.2 1 _ rfl, h1.loc.box.2 2 _ rfl, h1.loc.box.2 3 _ rfl, l, h1, h2⟩
def IvPost (w : World) (p r c : Int) (d : List Int) (ok : Bool) (e : Ending) (w' : World) : Prop := ∃ v, e = .returned (.tuple #[v, .bool ok]) ∧ Rmat w w' v p r c d ∧ Ext w w'

set_option maxRecDepth 100000 in
set_option maxHeartbeats 6400000 in
theorem inverseMatrix_impl {P R C : Int} {a0 oa nn : Nat} {xs : List Int} {w : World} {p r c : Int} {d : List Int} {ok : Bool} (h : Reads w (some ⟨a0, oa, none⟩) nn xs) (hm : nn ≤ 1048576) (hM : invertM P R C xs = (⟨p, r, c, d⟩, ok)) :
    Calls Try.prog 79 #[.agg #[.int .i64 P, .int .i64 R, .int .i64 C, .slice (some ⟨a0, oa, none⟩) nn nn]] w fun e w' => ∃ v, e = .returned (.tuple #[v, .bool ok]) ∧ Rmat w w' v p r c d ∧ Ext w w' := by
  have HR := Lib.hid h
  have hm2 : nn ≤ maxLen := by unfold maxLen; omega
  rcases h1 : (mok P R C xs && (R == C)) with _ | _
  · simp only [invertM, h1, noMat, Bool.false_eq_true, if_false, Prod.mk.injEq, Mat.mk.injEq] at hM
    obtain ⟨⟨rfl, rfl, rfl, rfl⟩, rfl⟩ := hM
    have H1 := Lib.hid h1
    clear h1 h
    go_enter Try.func79, Try.ntmps79
    have A0_1 := Lib.hid ((cells_new' w #[.int .i64 P, .int .i64 R, .int .i64 C, .slice (some ⟨a0, oa, none⟩) nn nn] 41 (w.heap.size) (by simp)).ext ((Ext.refl _).alloc (.cells #[.int .i64 0, .int .i64 0, .int .i64 0, .slice none 0 0] 41)))
    have R_2 := Lib.hid (cells_new' (w.alloc (.cells #[.int .i64 P, .int .i64 R, .int .i64 C, .slice (some ⟨a0, oa, none⟩) nn nn] 41)) #[.int .i64 0, .int .i64 0, .int .i64 0, .slice none 0 0] 41 (w.heap.size + 1) (by simp))
    have E_3 := Lib.hid (((Ext.refl w).alloc (.cells #[.int .i64 P, .int .i64 R, .int .i64 C, .slice (some ⟨a0, oa, none⟩) nn nn] 41)).alloc (.cells #[.int .i64 0, .int .i64 0, .int .i64 0, .slice none 0 0] 41))
    have lA0 := A0_1.out.1
    have qA00 := A0_1.out.2 0 _ rfl
    have qA01 := A0_1.out.2 1 _ rfl
    have qA02 := A0_1.out.2 2 _ rfl
    have qA03 := A0_1.out.2 3 _ rfl
    try simp only [World.size_alloc] at lA0
    go_wp2_with fail
    refine (squareOk_impl _ _ _ _ _ _ xs _ (HR.out.ext E_3.out) hm2).mono ?_
    rintro e w_4 ⟨rfl, h_4⟩
    clear lA0 qA00 qA01 qA02 qA03
    have A0_5 := Lib.hid (A0_1.out.ext h_4)
    clear A0_1
    have R_6 := Lib.hid (R_2.out.ext h_4)
    clear R_2
    have E_7 := Lib.hid (E_3.out.trans h_4)
    clear E_3
    rw [H1.out]
    have r0 := R_6.out.2 0 _ rfl
    have r1 := R_6.out.2 1 _ rfl
    have r2 := R_6.out.2 2 _ rfl
    have r3 := R_6.out.2 3 _ rfl
    have tR := R_6.out.3
    have lR := R_6.out.1
    go_wp2
    refine bodyPost_ret (v := .tuple #[.agg #[.int .i64 0, .int .i64 0, .int .i64 0, .slice none 0 0], .bool false]) (by simp [results, Try.results79, go_sem, r0, r1, r2, r3]) rfl ⟨_, rfl, ⟨_, _, _, rfl, own_nil _ _ _, by omega⟩, ext4 E_7.out (by omega) _ _ _ _⟩
  have hmo : mok P R C xs = true := by simp only [Bool.and_eq_true] at h1; exact h1.1
  have hRC : C = R := by simp only [Bool.and_eq_true, beq_iff_eq] at h1; exact h1.2.symm
  have H1 := Lib.hid h1
  simp only [invertM, h1, if_true] at hM
  clear h1
  subst hRC
  have hp := mok_lo hmo
  have hp2 := mok_hi hmo
  have hl1 := mok_len hmo
  have HPR := Lib.hid (mok_iff.1 hmo).1
  have HX := Lib.hid (mok_res hmo)
  have hq1 := inB_iff.1 (mok_iff.1 hmo).2.1
  obtain ⟨n, rfl⟩ := Int.eq_ofNat_of_zero_le hq1.1
  have hn40 : n ≤ 40 := by omega
  have hnn : nn = n * n := by rw [HR.out.1, ← Int.natCast_mul] at hl1; omega
  have hlx : xs.length = n * n := by rw [h.1, hnn]
  simp only [Int.toNat_natCast] at hM
  clear hl1 hq1 hmo
  obtain ⟨E, hE1⟩ : ∃ E, E = n + n := ⟨_, rfl⟩
  obtain ⟨N, hN⟩ : ∃ N, N = n * (n + n) := ⟨_, rfl⟩
  have hNb : N ≤ 3200 := by rw [hN]; exact Nat.le_trans (Nat.mul_le_mul hn40 (show n + n ≤ 80 by omega)) (by decide)
  have hj : ∀ w1 bu, Ext w w1 → Has w1 bu (unitTo n n) → Calls Try.prog 133 #[.agg #[.int .i64 P, .int .i64 n, .int .i64 n, .slice (some ⟨a0, oa, none⟩) nn nn], .agg #[.int .i64 P, .int .i64 n, .int .i64 n, .slice (some ⟨bu, 0, none⟩) (n * n) (n * n)]] w1 fun e w' => ∃ b, e = .returned (.agg #[.int .i64 P, .int .i64 n, .int .i64 E, .slice (some ⟨b, 0, none⟩) N N]) ∧ w1.heap.size ≤ b ∧ b < w'.heap.size ∧ Has w' b (wideL n xs) ∧ Ext w1 w' := fun w1 bu hE hU =>
    joinColumns_impl P P n n n n E nn (n * n) N a0 oa bu 0 xs (unitTo n n) w1 (h.ext hE) (hU.reads (unitTo_length n n)) hnn rfl hE1 (by rw [hE1]; exact hN) (fun h => h) (by omega) (by omega) (by omega)
  have HJ := Lib.hid hj
  have HLJ : Hid ((wideL n xs).length = N) := by rw [Hid, wideL_length hlx, hN]
  have HXJ : Hid (Res (wideL n xs) P) := jmTo_res (C := n) (D := n) hp HX.out (unitTo_res2 P hp n n) n
  have HE := Lib.hid hE1
  have HNN := Lib.hid hnn
  have HNE : Hid (N = n * E) := by rw [Hid, hE1]; exact hN
  have HIO : Hid (redTo P n E (wideL n xs) n = invS P n xs) := by rw [Hid, hE1]; rfl
  have HNO := Lib.hid (fun h => inv_no (isP_iff.1 HPR.out) hlx HX.out (P := P) (n := n) (xs := xs) h)
  have HYES := Lib.hid (fun h => inv_yes (P := P) (n := n) (xs := xs) h)
  have hpv := (redTo_pv (P := P) (R := n) (C := n + n) (xs := wideL n xs) n).2.1
  have HPV : Hid ((invS P n xs).pv.length ≤ n) := hpv
  have hsl : (invS P n xs).m.length = N := by rw [invS, redTo_length, wideL_length hlx, hN]
  have HSL := Lib.hid hsl
  have HIRW : Hid (∀ i, i < n → spl (ivAt n (invS P n xs).m (i * n)) (i * n) (((invS P n xs).m.drop (i * (n + n) + n)).take n) = ivAt n (invS P n xs).m ((i + 1) * n)) := fun i hi => ivAt_row n (invS P n xs).m (by rw [hsl, hN]) hi
  have HM := Lib.hid hM
  have hEb : E ≤ 80 := by omega
  have hnE : n ≤ E := by omega
  have hEn : E - n = n := by omega
  have hnnb : nn ≤ 1600 := by rw [hnn]; exact Nat.mul_le_mul hn40 hn40
  clear h hj hlx hN hM hE1 hnn hpv hsl
  go_enter Try.func79, Try.ntmps79
  have A0_1 := Lib.hid ((cells_new' w #[.int .i64 P, .int .i64 n, .int .i64 n, .slice (some ⟨a0, oa, none⟩) nn nn] 41 (w.heap.size) (by simp)).ext ((Ext.refl _).alloc (.cells #[.int .i64 0, .int .i64 0, .int .i64 0, .slice none 0 0] 41)))
  have R_2 := Lib.hid (cells_new' (w.alloc (.cells #[.int .i64 P, .int .i64 n, .int .i64 n, .slice (some ⟨a0, oa, none⟩) nn nn] 41)) #[.int .i64 0, .int .i64 0, .int .i64 0, .slice none 0 0] 41 (w.heap.size + 1) (by simp))
  have E_3 := Lib.hid (((Ext.refl w).alloc (.cells #[.int .i64 P, .int .i64 n, .int .i64 n, .slice (some ⟨a0, oa, none⟩) nn nn] 41)).alloc (.cells #[.int .i64 0, .int .i64 0, .int .i64 0, .slice none 0 0] 41))
  have lA0 := A0_1.out.1
  have qA00 := A0_1.out.2 0 _ rfl
  have qA01 := A0_1.out.2 1 _ rfl
  have qA02 := A0_1.out.2 2 _ rfl
  have qA03 := A0_1.out.2 3 _ rfl
  try simp only [World.size_alloc] at lA0
  go_wp2_with fail
  refine (squareOk_impl _ _ _ _ _ _ xs _ (HR.out.ext E_3.out) hm2).mono ?_
  rintro e w_4 ⟨rfl, h_4⟩
  clear lA0 qA00 qA01 qA02 qA03
  have A0_5 := Lib.hid (A0_1.out.ext h_4)
  clear A0_1
  have R_6 := Lib.hid (R_2.out.ext h_4)
  clear R_2
  have E_7 := Lib.hid (E_3.out.trans h_4)
  clear E_3
  rw [H1.out]
  have lA0 := A0_5.out.1
  have qA00 := A0_5.out.2 0 _ rfl
  have qA01 := A0_5.out.2 1 _ rfl
  have qA02 := A0_5.out.2 2 _ rfl
  have qA03 := A0_5.out.2 3 _ rfl
  try simp only [World.size_alloc] at lA0
  go_upto_region 4 with fail
  have hws : w.heap.size + 2 ≤ w_4.heap.size := by have := R_6.out.1; omega
  go_cut [5] (fun s5 wx => ∃ B b, s5 = .pointer (some ⟨B, 0, none⟩) ∧ Hid (Cells wx B [.int .i64 P, .int .i64 n, .int .i64 E, .slice (some ⟨b, 0, none⟩) N N]) ∧ Hid (Has wx b (wideL n xs)) ∧ Hid (Ext w_4 wx) ∧ w_4.heap.size ≤ B ∧ w_4.heap.size ≤ b ∧ B ≠ b)
  case first =>
    go_region_held3 (fun w' => Ext w_4 w' ∧ (∀ b o, b < w_4.heap.size → w'.cell? ⟨b, o, none⟩ = w_4.cell? ⟨b, o, none⟩)) (first | (with_reducible exact ext2 (Ext.trans (And.left ‹Ext w_4 _ ∧ _›) ‹Ext _ _›)) | (refine ext2 ?_; with_reducible repeat (first | exact Ext.refl _ | exact And.left ‹Ext w_4 _ ∧ _› | exact Ext.trans (Ext.trans (Ext.drew (Ext.refl _)) hU) hJ | exact Ext.trans (Ext.trans (Ext.alloc (Ext.drew (Ext.refl _)) _) hU) hJ | exact Ext.trans (Ext.alloc (Ext.trans (Ext.drew (Ext.refl _)) hU) _) hJ | exact Ext.trans (Ext.drew (Ext.refl _)) hU | refine Ext.drew ?_ | refine Ext.drewN ?_ _ | refine Ext.alloc ?_ _ | refine Ext.setCell ?_ (by have e0 : w_4.drew.heap.size = w_4.heap.size := rfl; simp <;> omega) _))) (first
      | (go_at_call 117; refine (unit_impl P n _ hn40).mono ?_; rintro e wU ⟨bu, rfl, bu1, bu2, kU, hU⟩; have cU := hU.cells; have fU := hU.frees; have yU := hU.le; have xU := fun k hk => Nat.lt_of_lt_of_le (n := k) hk hU.le; (try simp only [World.size_drew] at yU xU); (try simp only [World.size_alloc] at yU xU); (try simp only [World.size_drew] at bu1); (try simp only [World.size_alloc] at bu1); (try simp only [World.size_drew] at bu1))
      | (go_at_call 133; (with_reducible refine (HJ.out _ _ (E_7.out.trans (And.left ‹Ext w_4 _ ∧ _›)) (by first | exact kU | exact kU.alloc _)).mono ?_); rintro e wJ ⟨b, rfl, bj1, bj2, kJ, hJ⟩; have cJ := hJ.cells; have fJ := hJ.frees; have yJ := hJ.le; have xJ := fun k hk => Nat.lt_of_lt_of_le (n := k) hk hJ.le; (try simp only [World.size_drew] at yJ xJ); (try simp only [World.size_alloc] at yJ xJ); (try simp only [World.size_drew] at bj1); (try simp only [World.size_alloc] at bj1); (try simp only [World.size_drew] at bj1)))
    all_goals (go_wp2_with fail; go_meet; first
      | exact ⟨wJ.heap.size, b, rfl, cells_new _ _ _, kJ.alloc _, And.left ‹Ext w_4 _ ∧ _›, by omega, by omega, by omega⟩
      | exact ⟨wU.heap.size, b, rfl, early4 (lo := 0) ((cells_new wU _ _).ext hJ), Lib.hid (by repeat with_reducible (first | exact kJ | refine Has.setOther ?_ (by simp <;> omega) _)), And.left ‹Ext w_4 _ ∧ _›, by omega, by omega, by omega⟩
      | exact ⟨w_4.heap.size, b, rfl, early4 (lo := 0) (((((cells_new w_4 _ _).ext (Ext.drew (Ext.refl _)))).ext hU).ext hJ), Lib.hid (by repeat with_reducible (first | exact kJ | refine Has.setOther ?_ (by simp <;> omega) _)), And.left ‹Ext w_4 _ ∧ _›, by omega, by omega, by omega⟩)
  case rest =>
    clear lA0 qA00 qA01 qA02 qA03
    obtain ⟨B, b, rfl, HC0, HH0, hE0, hB1, hb1, hBb⟩ := hcut
    have hx0 := hE0.out
    obtain ⟨wq, hwq⟩ : ∃ wq : World, wq = wc := ⟨_, rfl⟩
    subst hwq
    have A0_8 := Lib.hid (A0_5.out.ext hx0)
    clear A0_5
    have R_9 := Lib.hid (R_6.out.ext hx0)
    clear R_6
    have E_10 := Lib.hid (E_7.out.trans hx0)
    clear E_7
    clear hx0 hE0
    have lA0 := A0_8.out.1
    have qA00 := A0_8.out.2 0 _ rfl
    have qA01 := A0_8.out.2 1 _ rfl
    have qA02 := A0_8.out.2 2 _ rfl
    have qA03 := A0_8.out.2 3 _ rfl
    have lM := HC0.out.1
    have qM0 := HC0.out.2 0 _ rfl
    have qM1 := HC0.out.2 1 _ rfl
    have qM2 := HC0.out.2 2 _ rfl
    have qM3 := HC0.out.2 3 _ rfl
    try simp only [World.size_alloc] at lA0 lM
    go_wp2_with fail
    with_reducible refine (reduceRows_impl P n E n b N (wideL n xs) wq HH0.out HLJ.out HNE.out (by omega) hnE (by omega) (by omega) hp hp2 HXJ.out).mono ?_
    rintro e w_11 ⟨pa, cap, rfl, hpo, hh, hg⟩
    clear lA0 qA00 qA01 qA02 qA03 lM qM0 qM1 qM2 qM3
    rw [HIO.out] at hh hpo ⊢
    have hbq : b < wq.heap.size := HH0.out.lt
    clear HH0 HJ HLJ HXJ
    have A0_12 := Lib.hid (A0_8.out.grown hg (fun k hk => by simp at hk; omega))
    clear A0_8
    have R_13 := Lib.hid (R_9.out.grown hg (fun k hk => by simp at hk; omega))
    clear R_9
    have M_14 := Lib.hid (HC0.out.grown hg (fun k hk => by simp at hk; omega))
    clear HC0
    have E_15 := Lib.hid (E_10.out.grown hg (fun k hk => by simp at hk; omega))
    clear E_10
    have HH := Lib.hid hh
    have HP := Lib.hid hpo
    have HG := Lib.hid hg.size
    clear hh hpo hg
    rcases hok : invOk P n xs with _ | _
    · obtain ⟨hn0, hlt0, _, _⟩ := HNO.out hok
      have hM := HM.out
      simp only [hok, Bool.false_eq_true, if_false, noMat, Prod.mk.injEq, Mat.mk.injEq] at hM
      obtain ⟨⟨rfl, rfl, rfl, rfl⟩, rfl⟩ := hM
      clear hok HYES HNO HM HIO HPV HIRW HSL
      generalize invS P n xs = S at *
      have hcm : (S.pv.length : Int) < (n : Int) := by omega
      have hlr : w.heap.size + 1 < w_11.heap.size := R_13.out.1
      have r0 := R_13.out.2 0 _ rfl
      have r1 := R_13.out.2 1 _ rfl
      have r2 := R_13.out.2 2 _ rfl
      have r3 := R_13.out.2 3 _ rfl
      have tR := R_13.out.3
      have lR := R_13.out.1
      go_wp2
      refine bodyPost_ret (v := .tuple #[.agg #[.int .i64 0, .int .i64 0, .int .i64 0, .slice none 0 0], .bool false]) (by simp [results, Try.results79, go_sem, r0, r1, r2, r3]) rfl ⟨_, rfl, ⟨_, _, _, rfl, own_nil _ _ _, by omega⟩, ext4 E_15.out (by omega) _ _ _ _⟩
    obtain ⟨_, hpl, _⟩ := HYES.out hok
    have hM := HM.out
    simp only [hok, if_true, Prod.mk.injEq, Mat.mk.injEq] at hM
    obtain ⟨⟨rfl, rfl, rfl, rfl⟩, rfl⟩ := hM
    clear hok HYES HNO HM HIO HPV
    generalize hSS : invS P n xs = S at *
    have HSS := Lib.hid hSS
    clear hSS
    have hcm : ¬ (S.pv.length : Int) < (n : Int) := by omega
    have e1 : (n : Int) * (n : Int) = ((n * n : Nat) : Int) := by simp
    have z0 : 0 ≤ (n : Int) * (n : Int) := by rw [e1]; omega
    have z1 : (n : Int) * (n : Int) ≤ 1048576 := by rw [e1]; have := HNN.out; omega
    have Z1 : Hid (((n : Int) * (n : Int)).toNat = nn) := by rw [Hid, e1, Int.toNat_natCast]; exact HNN.out.symm
    clear e1 HP
    have hMlt : B < w_11.heap.size := M_14.out.1
    have hblt : b < w_11.heap.size := HH.out.lt
    have hrlt : w.heap.size + 1 < w_11.heap.size := R_13.out.1
    have lA0 := A0_12.out.1
    have qA00 := A0_12.out.2 0 _ rfl
    have qA01 := A0_12.out.2 1 _ rfl
    have qA02 := A0_12.out.2 2 _ rfl
    have qA03 := A0_12.out.2 3 _ rfl
    try simp only [World.size_alloc] at lA0
    go_wp2_with fail
    refine (zeros_impl _ _ _ _ z0 z1).mono ?_
    rintro e w_16 ⟨b2, rfl, hb21, hb22, hh2, h_16⟩
    clear lA0 qA00 qA01 qA02 qA03
    rw [Z1.out] at hh2 ⊢
    clear z0 z1 hcm
    have A0_17 := Lib.hid (A0_12.out.ext h_16)
    clear A0_12
    have R_18 := Lib.hid (R_13.out.ext h_16)
    clear R_13
    have M_19 := Lib.hid (M_14.out.ext h_16)
    clear M_14
    have E_20 := Lib.hid (E_15.out.trans h_16)
    clear E_15
    have HHa := Lib.hid (HH.out.ext h_16)
    have hb23 := HG.out
    clear h_16
    have H0 := Lib.hid (hh2.alloc (.cells #[.int .i64 P, .int .i64 n, .int .i64 n, .slice (some ⟨b2, 0, none⟩) nn nn] 41))
    have HHb := Lib.hid (HHa.out.alloc (.cells #[.int .i64 P, .int .i64 n, .int .i64 n, .slice (some ⟨b2, 0, none⟩) nn nn] 41))
    clear hh2 HHa HH
    have P_21 := (Ext.refl w_16).alloc (.cells #[.int .i64 P, .int .i64 n, .int .i64 n, .slice (some ⟨b2, 0, none⟩) nn nn] 41)
    have A0_22 := Lib.hid (A0_17.out.ext P_21)
    clear A0_17
    have R_23 := Lib.hid (R_18.out.ext P_21)
    clear R_18
    have M_24 := Lib.hid (M_19.out.ext P_21)
    clear M_19
    have E_25 := Lib.hid (E_20.out.trans P_21)
    clear E_20
    clear P_21
    have D_26 := Lib.hid (cells_new w_16 #[.int .i64 P, .int .i64 n, .int .i64 n, .slice (some ⟨b2, 0, none⟩) nn nn] 41)
    have K0 : Hid (InvK w (w_16.alloc (.cells #[.int .i64 P, .int .i64 n, .int .i64 n, .slice (some ⟨b2, 0, none⟩) nn nn] 41)) B b w_16.heap.size b2 [.int .i64 P, .int .i64 n, .int .i64 E, .slice (some ⟨b, 0, none⟩) N N] [.int .i64 P, .int .i64 n, .int .i64 n, .slice (some ⟨b2, 0, none⟩) nn nn] S.m (ivAt n S.m (0 * n))) := by
      have hz := ivAt_zero n S.m
      rw [Nat.zero_mul, hz, ← HNN.out]
      exact ⟨⟨D_26.out, H0.out, E_25.out, by omega, H0.out.lt, by omega⟩, M_24.out, HHb.out, by omega, by omega⟩
    have hle3 : w_11.heap.size ≤ w_16.heap.size := by omega
    go_wp2_with fail
    have RR := Lib.hid R_23.out
    clear A0_22 M_24 D_26 E_25 H0 HHb
    generalize (w_16.alloc (.cells #[.int .i64 P, .int .i64 n, .int .i64 n, .slice (some ⟨b2, 0, none⟩) nn nn] 41)) = W4 at *
    generalize w_16.heap.size = B2 at *
    go_loopw [39, 9] (fun z _ wr => ∃ i : Nat, i ≤ n ∧ z = .int .i64 i ∧ Hid (InvK w wr B b B2 b2 [.int .i64 P, .int .i64 n, .int .i64 E, .slice (some ⟨b, 0, none⟩) N N] [.int .i64 P, .int .i64 n, .int .i64 n, .slice (some ⟨b2, 0, none⟩) nn nn] S.m (ivAt n S.m (i * n))) ∧ Hid (Cells wr (w.heap.size + 1) [.int .i64 0, .int .i64 0, .int .i64 0, .slice none 0 0])) (fun z _ _ => n - (intOf z).toNat)
    case atStart => exact ⟨0, by omega, rfl, K0, RR⟩
    case round =>
      clear K0 RR
      obtain ⟨i, hi, rfl, K, RZ⟩ := hrel
      by_cases hlt : i < n
      · have r0 : i * n + n ≤ n * n := row_le hlt
        have r1 : i * E + E ≤ N := by rw [HNE.out]; exact row_le hlt
        rw [← HNN.out] at r0
        have hivl := ivAt_length n S.m (i * n) (by have := HNN.out; omega)
        rw [← HNN.out] at hivl
        have hivl2 := ivAt_length n S.m ((i + 1) * n) (by have := HNN.out; rw [Nat.add_mul]; omega)
        rw [← HNN.out] at hivl2
        have hcs : ((S.m.drop (i * E + n)).take n).length = n := by rw [List.length_take, List.length_drop, HSL.out]; omega
        have HS1 : Hid (spl (ivAt n S.m (i * n)) (i * n) ((S.m.drop (i * E + n)).take n) = ivAt n S.m ((i + 1) * n)) := by rw [Hid, HE.out]; exact HIRW.out i hlt
        have HS2 : Hid (spl (ivAt n S.m ((i + 1) * n)) (i * n) ((S.m.drop (i * E + n)).take n) = ivAt n S.m ((i + 1) * n)) := by
          rw [Hid, ← HS1.out]; exact spl_idem _ _ _ (by rw [hivl, hcs]; exact r0)
        have HIV := Lib.hid hivl
        have HIV2 := Lib.hid hivl2
        have HCS := Lib.hid hcs
        have HR1 : Hid ((i + 1) * E ≤ N) := by rw [Hid, Nat.add_mul]; omega
        have HR0 : Hid ((i + 1) * n ≤ nn) := by rw [Hid, Nat.add_mul]; omega
        clear hivl hivl2 hcs
        have K3 : Hid (IS w wr B b B2 b2 [.int .i64 P, .int .i64 n, .int .i64 E, .slice (some ⟨b, 0, none⟩) N N] [.int .i64 P, .int .i64 n, .int .i64 n, .slice (some ⟨b2, 0, none⟩) nn nn] S.m nn (i * n) ((S.m.drop (i * E + n)).take n) (ivAt n S.m ((i + 1) * n))) := ⟨_, K.out, HIV.out, HS1.out⟩
        have k1 : (n : Int) ≤ (E : Int) := by omega
        have k2 : n ≠ N - i * E := by omega
        have k3 : ¬ N - i * E = n := by omega
        have HK : Hid (i * n + n ≤ nn) := r0
        obtain ⟨q0, q1, q2, q3, q4, q5, q6, q7, _⟩ := is8 K3.out
        have lB := K.out.wide.1
        have lB2 := K.out.loc.box.1
        have HLT := Lib.hid hlt
        have HRZ : ∀ wx, IS w wx B b B2 b2 [.int .i64 P, .int .i64 n, .int .i64 E, .slice (some ⟨b, 0, none⟩) N N] [.int .i64 P, .int .i64 n, .int .i64 n, .slice (some ⟨b2, 0, none⟩) nn nn] S.m nn (i * n) ((S.m.drop (i * E + n)).take n) (ivAt n S.m ((i + 1) * n)) → Reads wx (some ⟨b, i * E + n, none⟩) n ((S.m.drop (i * E + n)).take n) := fun wx hq => by
          obtain ⟨l0, hk0, _⟩ := hq
          refine ⟨HCS.out, .inr ⟨b, _, rfl, hk0.has.lt, fun j hj => ?_⟩⟩
          rw [gi_take _ _ _ hj, gi_drop]
          exact hk0.has.cell (i * E + n + j) (by rw [HSL.out]; omega)
        have HRZ2 := Lib.hid HRZ
        have hc1 : ∀ wx, Calls Try.prog 121 #[.agg #[.int .i64 P, .int .i64 n, .int .i64 n, .slice (some ⟨b2, 0, none⟩) nn nn], .int .i64 i] wx fun e w' => e = .returned (.slice (some ⟨b2, 0 + i * n, none⟩) n (nn - i * n)) ∧ Ext wx w' := fun wx => rowOf_impl P n n i b2 0 nn wx HR0.out (by omega) (by omega)
        have hc2 : ∀ wx, Calls Try.prog 121 #[.agg #[.int .i64 P, .int .i64 n, .int .i64 E, .slice (some ⟨b, 0, none⟩) N N], .int .i64 i] wx fun e w' => e = .returned (.slice (some ⟨b, 0 + i * E, none⟩) E (N - i * E)) ∧ Ext wx w' := fun wx => rowOf_impl P n E i b 0 N wx HR1.out (by omega) (by omega)
        simp only [Nat.zero_add] at hc1 hc2
        have HC1 := Lib.hid hc1
        have HC2 := Lib.hid hc2
        have hE9 := K.out.loc.ext
        clear hc1 hc2 HRZ r0 r1 hlt
        have RZ2 := Lib.hid (RZ.out.3)
        go_wp2_with fail
        go_region_held3 (fun wx => wx.cell? ⟨B, 0, none⟩ = some (.int .i64 P) ∧ wx.cell? ⟨B, 1, none⟩ = some (.int .i64 n) ∧ wx.cell? ⟨B, 2, none⟩ = some (.int .i64 E) ∧ wx.cell? ⟨B, 3, none⟩ = some (.slice (some ⟨b, 0, none⟩) N N) ∧ wx.cell? ⟨B2, 0, none⟩ = some (.int .i64 P) ∧ wx.cell? ⟨B2, 1, none⟩ = some (.int .i64 n) ∧ wx.cell? ⟨B2, 2, none⟩ = some (.int .i64 n) ∧ wx.cell? ⟨B2, 3, none⟩ = some (.slice (some ⟨b2, 0, none⟩) nn nn) ∧ IS w wx B b B2 b2 [.int .i64 P, .int .i64 n, .int .i64 E, .slice (some ⟨b, 0, none⟩) N N] [.int .i64 P, .int .i64 n, .int .i64 n, .slice (some ⟨b2, 0, none⟩) nn nn] S.m nn (i * n) ((S.m.drop (i * E + n)).take n) (ivAt n S.m ((i + 1) * n))) (first | assumption | (with_reducible exact is8 (IS.step (And.right (And.right (And.right (And.right (And.right (And.right (And.right (And.right ‹_ ∧ _ ∧ _ ∧ _ ∧ _ ∧ _ ∧ _ ∧ _ ∧ IS _ _ _ _ _ _ _ _ _ _ _ _ _›)))))))) ‹Ext _ _›)) | (with_reducible exact is8 (IS.mk' ‹InvK _ _ _ _ _ _ _ _ _ _› HIV2.out HS2.out)) | (refine is8 (IS.step K3.out ?_); with_reducible repeat (first | exact Ext.refl _ | refine Ext.drew ?_))) (first
          | (go_at_call_of 121 (Value.agg #[.int .i64 P, .int .i64 n, .int .i64 n, .slice (some ⟨b2, 0, none⟩) nn nn]); (with_reducible refine (HC1.out _).mono ?_); rintro e w4 ⟨rfl, h4⟩)
          | (go_at_call_of 121 (Value.agg #[.int .i64 P, .int .i64 n, .int .i64 E, .slice (some ⟨b, 0, none⟩) N N]); (with_reducible refine (HC2.out _).mono ?_); rintro e w5 ⟨rfl, h5⟩)
          | ((have hi9 := And.right (And.right (And.right (And.right (And.right (And.right (And.right (And.right ‹_ ∧ _ ∧ _ ∧ _ ∧ _ ∧ _ ∧ _ ∧ _ ∧ IS _ _ _ _ _ _ _ _ _ _ _ _ _›))))))); have hrd := HRZ2.out _ hi9; obtain ⟨l, hJ, hl, he⟩ := hi9; refine step_copyM rfl (.tmp 44) (.tmp 49) rfl (some ⟨b2, i * n, none⟩) b2 (i * n) n (nn - i * n) (some ⟨b, i * E + n, none⟩) n (N - i * E - n) rfl rfl l ((S.m.drop (i * E + n)).take n) hJ.loc.has hrd n (Nat.min_self n) (fun _ => rfl) (by rw [hl]; exact HK.out) ?_; intro w6 h6 g6; rw [List.take_of_length_le (Nat.le_of_eq HCS.out), he] at h6; have hj6 := hJ.row h6 g6)))
        all_goals
          have RZ3 : Hid (Cells w6 (w.heap.size + 1) [.int .i64 0, .int .i64 0, .int .i64 0, .slice none 0 0]) := by
            refine Cells.grown ?_ g6 (fun k hk => by simp at hk; omega)
            with_reducible first | exact (RZ.out.ext ((Ext.refl _).drew.trans (h4.trans h5))) | exact (RZ.out.ext ((Ext.refl _).drew.trans (h5.trans h4)))
          have KK := Lib.hid hj6
          clear K K3 hj6 g6 h6 RZ hJ
          go_wp2
          exact ⟨⟨i + 1, by omega, by simp, KK, RZ3⟩, by simp [intOf]; omega⟩
      · obtain rfl : n = i := by omega
        have hfin : Has wr b2 (ivAt n S.m (n * n)) := K.out.loc.has
        rw [ivAt_full] at hfin
        have HF := Lib.hid hfin
        have HE9 := Lib.hid K.out.loc.ext
        have hb2l := K.out.loc.lt
        have lD := K.out.loc.box.1
        have p0 := K.out.loc.box.2 0 _ rfl
        have p1 := K.out.loc.box.2 1 _ rfl
        have p2 := K.out.loc.box.2 2 _ rfl
        have p3 := K.out.loc.box.2 3 _ rfl
        have r0 := RZ.out.2 0 _ rfl
        have r1 := RZ.out.2 1 _ rfl
        have r2 := RZ.out.2 2 _ rfl
        have r3 := RZ.out.2 3 _ rfl
        have tR := RZ.out.3
        have lR := RZ.out.1
        have hil : (invR n S.m).length = nn := by rw [invR_length]; exact HNN.out.symm
        have HIL := Lib.hid hil
        clear K RZ hfin hil
        go_wp2
        rw [HSS.out]
        refine bodyPost_ret (v := .tuple #[.agg #[.int .i64 P, .int .i64 n, .int .i64 n, .slice (some ⟨b2, 0, none⟩) nn nn], .bool true]) (by simp [results, Try.results79, go_sem, r0, r1, r2, r3]) rfl ⟨_, rfl, ⟨_, _, _, rfl, ?_, by omega⟩, ext4 HE9.out (by omega) _ _ _ _⟩
        refine Own.mono (own4 (HF.out.own (lo := w.heap.size + 1 + 1) (hi := wr.heap.size) (by omega) (by omega) HIL.out) (by omega) _ _ _ _) (by omega) (by simp)
end Go.Proofs.Ytkbpigpanookjaa
