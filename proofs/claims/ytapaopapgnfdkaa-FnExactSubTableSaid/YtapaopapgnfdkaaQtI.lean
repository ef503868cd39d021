/-
  Tables of quotients, in the program.
-/
import Derived.Test.YtapaopapgnfdkaaTbO
import Derived.Test.YtapaopapgnfdkaaSubA
import Derived.Test.YtapaopapgnfdkaaAlgE
import Derived.Test.YtapaopapgnfdkaaInto
namespace Go.Proofs.Ytapaopapgnfdkaa
open Go.ChangeShapes Go.WideShapes Go.ChangeAt Go.RowKit
set_option linter.unusedVariables false
set_option linter.unusedSimpArgs false

/-! Quotients: the table of the classes. -/
section
variable {P : Int} {D K : Nat} {l ss : List Int} {pv fr : List Nat}
/-- The basis elements that stand for classes, as rows. -/
def clsL (D K : Nat) (fr : List Nat) : List Int := transTo (tkL D K (unitTo D D) fr D) D K D
theorem clsL_length : (clsL D K fr).length = K * D := transTo_length _ _ _ _
theorem tkL_res {C R : Nat} {xs : List Int} (hP : 2 ≤ P) (hx : Res xs P) : Res (tkL C K xs fr R) P := fun q hq => by
  rw [tkL_length] at hq
  rw [tkL, gi_tkS hq, if_pos hq, tkV]
  exact at2_res hx (by omega) _ _
theorem clsL_res (hP : 2 ≤ P) : Res (clsL D K fr) P := transTo_res hP (tkL_res hP (unitTo_res2 P hP D D)) _
theorem at2_cls (hfr : ∀ j, j < K → fr.getD j 0 < D) {i q : Nat} (hi : i < K) (hq : q < D) : at2 D (clsL D K fr) i q = if q = fr.getD i 0 then 1 else 0 := by
  have h1 := at2_tkL (C := D) (K := K) (xs := unitTo D D) (cs := fr) (R := D) hq hi
  rw [at2_unitTo hq (hfr i hi), unitF] at h1
  rw [at2, clsL, gi_tr hi hq]
  exact h1
theorem rowL_cls (hfr : ∀ j, j < K → fr.getD j 0 < D) {i : Nat} (hi : i < K) : rowL D (clsL D K fr) i = basL D (fr.getD i 0) := by
  have hl : (rowL D (clsL D K fr) i).length = D := rowL_length clsL_length hi
  refine ext_gi (by rw [hl, basL_length]) (fun q hq => ?_)
  rw [hl] at hq
  rw [gi_rowL hq, at2_cls hfr hi hq, gi_basL (hfr i hi)]
/-- A number of the table. -/
def qtN (P : Int) (D : Nat) (l ss : List Int) (pv fr : List Nat) (i j k : Nat) : Int := rmN P D ss (rowT D l (fr.getD i 0) (fr.getD j 0)) pv 0 (fr.getD k 0) pv.length
def qtB (P : Int) (D : Nat) (l ss : List Int) (pv fr : List Nat) (K i : Nat) : List Int := tkL D K (rmL P K D ss (bRows P D l (rowL D (clsL D K fr) i) (clsL D K fr) K).flatten pv) fr K
def qtT (P : Int) (D : Nat) (l ss : List Int) (pv fr : List Nat) (K : Nat) : List Int := bk (qtB P D l ss pv fr K) K
theorem qtB_length (i : Nat) : (qtB P D l ss pv fr K i).length = K * K := tkL_length
theorem qtT_length : (qtT P D l ss pv fr K).length = K * (K * K) := bk_length (n := K) (fun i _ => qtB_length i) K (Nat.le_refl _)
theorem gi_qtB (hP : 2 ≤ P) (hl : Res l P) (hfr : ∀ j, j < K → fr.getD j 0 < D) (hpv : ∀ t, t < pv.length → pv.getD t 0 < D) {i j k : Nat} (hi : i < K) (hj : j < K) (hk : k < K) : gi (qtB P D l ss pv fr K i) (j * K + k) = qtN P D l ss pv fr i j k := by
  have key : ∀ c, c < D → at2 D (bRows P D l (rowL D (clsL D K fr) i) (clsL D K fr) K).flatten j c = at2 D (rowT D l (fr.getD i 0) (fr.getD j 0)) 0 c := fun c hc => by
    rw [at2, gi_bRows _ _ _ hj hc, rowL_cls hfr hi, rowL_cls hfr hj, gi_brL _ _ hc, brN_bas _ (hfr j hj), adN_bas (hfr i hi), at2, Nat.zero_mul, Nat.zero_add, gi_rowT hc]
    have h := res_gi _ _ hl (by omega) ((fr.getD i 0 * D + fr.getD j 0) * D + c)
    exact Int.emod_eq_of_lt h.1 h.2
  have h1 : gi (qtB P D l ss pv fr K i) (j * K + k) = at2 K (qtB P D l ss pv fr K i) j k := rfl
  rw [h1, qtB, at2_tkL hj hk, at2_rmL hj (hfr k hk), qtN, rmN, rmN, key _ (hfr k hk)]
  congr 2
  exact sumN_congr fun t ht => by rw [key _ (hpv t ht)]
theorem gi_qtT (hP : 2 ≤ P) (hl : Res l P) (hfr : ∀ j, j < K → fr.getD j 0 < D) (hpv : ∀ t, t < pv.length → pv.getD t 0 < D) {i j k : Nat} (hi : i < K) (hj : j < K) (hk : k < K) : gi (qtT P D l ss pv fr K) (i * (K * K) + (j * K + k)) = qtN P D l ss pv fr i j k := by
  have := row_lt (C := K) hj
  rw [qtT, gi_bk (n := K) (fun i _ => qtB_length i) K (Nat.le_refl _) hi (by omega), gi_qtB hP hl hfr hpv hi hj hk]
end
noncomputable def qtM (P D : Int) (l : List Int) (P1 R1 C1 : Int) (ss : List Int) : Alg × Bool :=
  if idlM P D l P1 R1 C1 ss then (⟨P, (freeTo (redM P R1.toNat D.toNat ss).pv D.toNat).length, qtT P D.toNat l ss (redM P R1.toNat D.toNat ss).pv (freeTo (redM P R1.toNat D.toNat ss).pv D.toNat) (freeTo (redM P R1.toNat D.toNat ss).pv D.toNat).length⟩, true) else (noAlg, false)

set_option maxRecDepth 100000 in
set_option maxHeartbeats 3200000 in
theorem next_Q (P : Int) (D r K n3 s0 so F0 F1 b cf : Nat) (af : Option Addr) (ss bs : List Int) (fr : List Nat) (w : World) (hF0 : Cells w F0 [.int .i64 P, .int .i64 (r : Nat), .int .i64 D, .slice (some ⟨s0, so, none⟩) n3 n3]) (hF1 : Cells w F1 [.slice af K cf]) (hS : Reads w (some ⟨s0, so, none⟩) n3 ss) (hsp : spaceM P r D ss = true) (hfr : Reads w af K (pvI fr)) (hlt : ∀ j, j < K → fr.getD j 0 < D) (hD : D ≤ 28) (hK : K ≤ 28) (hb : Has w b bs) (hbl : bs.length = K * D) (hbx : Res bs P) :
    Calls Try.prog 112 #[.agg #[.int .i64 P, .int .i64 (K : Nat), .int .i64 D, .slice (some ⟨b, 0, none⟩) (K * D) (K * D)], .pointer (some ⟨F0, 0, none⟩), .pointer (some ⟨F1, 0, none⟩)] w fun e w' => ∃ b', e = .returned (.agg #[.int .i64 P, .int .i64 (K : Nat), .int .i64 (K : Nat), .slice (some ⟨b', 0, none⟩) (K * K) (K * K)]) ∧ w.heap.size ≤ b' ∧ b' < w'.heap.size ∧ Has w' b' (tkL D K (rmL P K D ss bs (redM P r D ss).pv) fr K) ∧ Ext w w' := by
  have h27 : K * D ≤ 784 := Nat.mul_le_mul hK hD
  have HRM : Hid (∀ w1, Ext w w1 → Calls Try.prog 113 #[.agg #[.int .i64 P, .int .i64 (K : Nat), .int .i64 D, .slice (some ⟨b, 0, none⟩) (K * D) (K * D)], .agg #[.int .i64 P, .int .i64 (r : Nat), .int .i64 D, .slice (some ⟨s0, so, none⟩) n3 n3]] w1 fun e w' => ∃ b', e = .returned (.agg #[.int .i64 P, .int .i64 (K : Nat), .int .i64 D, .slice (some ⟨b', 0, none⟩) (K * D) (K * D)]) ∧ w1.heap.size ≤ b' ∧ b' < w'.heap.size ∧ Has w' b' (rmL P K D ss bs (redM P r D ss).pv) ∧ Ext w1 w') := fun w1 h =>
    remainders_impl P K D r (K * D) n3 (K * D) s0 so (some ⟨b, 0, none⟩) bs ss w1 ((hb.ext h).reads hbl) rfl (by omega) (by omega) (hS.ext h) hsp hbx
  have HTK : Hid (∀ w1 b3, Ext w w1 → Has w1 b3 (rmL P K D ss bs (redM P r D ss).pv) → Calls Try.prog 104 #[.agg #[.int .i64 P, .int .i64 (K : Nat), .int .i64 D, .slice (some ⟨b3, 0, none⟩) (K * D) (K * D)], .slice af K cf] w1 fun e w' => ∃ b', e = .returned (.agg #[.int .i64 P, .int .i64 (K : Nat), .int .i64 (K : Nat), .slice (some ⟨b', 0, none⟩) (K * K) (K * K)]) ∧ w1.heap.size ≤ b' ∧ b' < w'.heap.size ∧ Has w' b' (tkL D K (rmL P K D ss bs (redM P r D ss).pv) fr K) ∧ Ext w1 w') := fun w1 b3 h hh =>
    takeColumns_impl P K D K (K * D) b3 0 cf af _ fr w1 (hh.reads rmL_length) rfl (by omega) (by omega) (by omega) (hfr.ext h) hlt
  have HF0 := Lib.hid hF0
  have HF1 := Lib.hid hF1
  clear hF0 hF1 hS hsp hfr hlt hb hbl hbx
  generalize tkL D K (rmL P K D ss bs (redM P r D ss).pv) fr K = tl at *
  generalize rmL P K D ss bs (redM P r D ss).pv = rl at *
  generalize K * K = KK at *
  generalize K * D = KD at *
  go_enter Try.func112, Try.ntmps112
  have A0_1 := Lib.hid ((cells_new' w #[.int .i64 P, .int .i64 (K : Nat), .int .i64 D, .slice (some ⟨b, 0, none⟩) KD KD] 40 (w.heap.size) (by simp)).ext ((Ext.refl _).alloc (.cells #[.int .i64 0, .int .i64 0, .int .i64 0, .slice none 0 0] 40)))
  have R_2 := Lib.hid (cells_new' (w.alloc (.cells #[.int .i64 P, .int .i64 (K : Nat), .int .i64 D, .slice (some ⟨b, 0, none⟩) KD KD] 40)) #[.int .i64 0, .int .i64 0, .int .i64 0, .slice none 0 0] 40 (w.heap.size + 1) (by simp))
  have E_3 := Lib.hid (((Ext.refl w).alloc (.cells #[.int .i64 P, .int .i64 (K : Nat), .int .i64 D, .slice (some ⟨b, 0, none⟩) KD KD] 40)).alloc (.cells #[.int .i64 0, .int .i64 0, .int .i64 0, .slice none 0 0] 40))
  have F0_4 := Lib.hid (HF0.out.ext E_3.out)
  have F1_5 := Lib.hid (HF1.out.ext E_3.out)
  go_wp2_with fail
  generalize hWX : ((w.alloc (.cells #[.int .i64 P, .int .i64 (K : Nat), .int .i64 D, .slice (some ⟨b, 0, none⟩) KD KD] 40)).alloc (.cells #[.int .i64 0, .int .i64 0, .int .i64 0, .slice none 0 0] 40)) = WX at *
  have hws : WX.heap.size = w.heap.size + 1 + 1 := by rw [← hWX]; simp
  have HWS := Lib.hid hws
  clear hws hWX
  have lA0 := A0_1.out.1
  have qA00 := A0_1.out.2 0 _ rfl
  have qA01 := A0_1.out.2 1 _ rfl
  have qA02 := A0_1.out.2 2 _ rfl
  have qA03 := A0_1.out.2 3 _ rfl
  have lF0 := F0_4.out.1
  have qF00 := F0_4.out.2 0 _ rfl
  have qF01 := F0_4.out.2 1 _ rfl
  have qF02 := F0_4.out.2 2 _ rfl
  have qF03 := F0_4.out.2 3 _ rfl
  have lF1 := F1_5.out.1
  have qF10 := F1_5.out.2 0 _ rfl
  try simp only [World.size_alloc] at lA0 lF0 lF1
  have lR := R_2.out.1
  have qR0 := R_2.out.2 0 _ rfl
  have qR1 := R_2.out.2 1 _ rfl
  have qR2 := R_2.out.2 2 _ rfl
  have qR3 := R_2.out.2 3 _ rfl
  have tR := R_2.out.3
  try simp only [World.size_alloc] at lA0 lF0 lF1 lR
  have gB : w.heap.size ≤ w.heap.size + 1 := by omega
  have nF0 : F0 < w.heap.size + 1 := by have := HF0.out.1; omega
  have nF1 : F1 < w.heap.size + 1 := by have := HF1.out.1; omega
  go_region_held3 (fun w' => Ext w w' ∧ w.heap.size + 1 ≤ w'.heap.size ∧ ∀ b o, b < w.heap.size + 1 → w'.cell? ⟨b, o, none⟩ = WX.cell? ⟨b, o, none⟩) (first | (with_reducible exact KeptR.call ‹Ext w _ ∧ w.heap.size + 1 ≤ _ ∧ _› ‹Ext _ _›) | exact ⟨E_3.out, Nat.le_of_lt lR, fun _ _ _ => rfl⟩ | exact ⟨E_3.out.drew, Nat.le_of_lt lR, fun _ _ _ => rfl⟩ | assumption | (with_reducible exact KeptR.set4 ‹Ext w _ ∧ w.heap.size + 1 ≤ _ ∧ _› gB _ _ _ _)) (first
    | (go_at_call 113; (with_reducible refine (HRM.out _ (And.left ‹Ext w _ ∧ w.heap.size + 1 ≤ _ ∧ _›)).mono ?_); rintro e w3 ⟨b3, rfl, hu1, hu2, ku, h3⟩)
    | (go_at_call 104; (with_reducible refine (HTK.out _ b3 (And.left ‹Ext w _ ∧ w.heap.size + 1 ≤ _ ∧ _›) ku).mono ?_); rintro e w6 ⟨b2, rfl, hb1, hb2, hh2, h6⟩; have hall : Ext WX w6 := (Ext.trans (Ext.trans (Ext.drew (Ext.refl _)) h3) h6); have c0 := (hall.cells _ 0 lR).trans qR0; have c1 := (hall.cells _ 1 lR).trans qR1; have c2 := (hall.cells _ 2 lR).trans qR2; have c3 := (hall.cells _ 3 lR).trans qR3; have f1 : ∀ j, w6.frozen? ⟨w.heap.size + 1, j, none⟩ = false := fun j => (hall.frees _ j lR).trans (tR j)))
  have hx2 := (‹Ext w _ ∧ w.heap.size + 1 ≤ _ ∧ _› : Ext w _ ∧ w.heap.size + 1 ≤ _ ∧ _).1
  have b0' : WX.heap.size ≤ b2 := Nat.le_trans (Ext.trans (Ext.drew (Ext.refl WX)) h3).le hb1
  have hWs := HWS.out
  go_wp2
  refine bodyPost_ret (v := .agg #[.int .i64 P, .int .i64 (K : Nat), .int .i64 (K : Nat), .slice (some ⟨b2, 0, none⟩) KK KK]) (by simp [results, Try.results112, go_sem, c0, c1, c2, c3]) rfl ⟨b2, rfl, by omega, by simpa using hb2, ?_, hx2⟩
  repeat with_reducible (first | exact hh2 | refine Has.setOther ?_ (by simp <;> omega) _)

set_option maxRecDepth 100000 in
set_option maxHeartbeats 6400000 in
theorem quotientTable_impl {P D : Int} {a0 oa n : Nat} {l : List Int} {P1 R1 C1 : Int} {s0 so n1 : Nat} {ss : List Int} {w : World} {p d : Int} {xs : List Int} {ok : Bool} (hT : Reads w (some ⟨a0, oa, none⟩) n l) (hm0 : n ≤ 1048576) (hS : Reads w (some ⟨s0, so, none⟩) n1 ss) (hm1 : n1 ≤ 1048576) (hM : qtM P D l P1 R1 C1 ss = (⟨p, d, xs⟩, ok)) :
    Calls Try.prog 48 #[.agg #[.int .i64 P, .int .i64 D, .slice (some ⟨a0, oa, none⟩) n n], .agg #[.int .i64 P1, .int .i64 R1, .int .i64 C1, .slice (some ⟨s0, so, none⟩) n1 n1]] w fun e w' => ∃ v, e = .returned (.tuple #[v, .bool ok]) ∧ Ralg w w' v p d xs ∧ Ext w w' := by
  have HT := Lib.hid hT
  have HS := Lib.hid hS
  rcases h1 : idlM P D l P1 R1 C1 ss with _ | _
  · simp only [qtM, h1, noAlg, Bool.false_eq_true, if_false, Prod.mk.injEq, Alg.mk.injEq] at hM
    obtain ⟨⟨rfl, rfl, rfl⟩, rfl⟩ := hM
    have H1 := Lib.hid h1
    clear h1 hT hS
    go_enter Try.func48, Try.ntmps48
    have A0_1 := Lib.hid (((cells_new' w #[.int .i64 P, .int .i64 D, .slice (some ⟨a0, oa, none⟩) n n] 28 (w.heap.size) (by simp)).ext ((Ext.refl _).alloc (.cells #[.int .i64 P1, .int .i64 R1, .int .i64 C1, .slice (some ⟨s0, so, none⟩) n1 n1] 40))).ext ((Ext.refl _).alloc (.cells #[.int .i64 0, .int .i64 0, .slice none 0 0] 28)))
    have A1_2 := Lib.hid ((cells_new' (w.alloc (.cells #[.int .i64 P, .int .i64 D, .slice (some ⟨a0, oa, none⟩) n n] 28)) #[.int .i64 P1, .int .i64 R1, .int .i64 C1, .slice (some ⟨s0, so, none⟩) n1 n1] 40 (w.heap.size + 1) (by simp)).ext ((Ext.refl _).alloc (.cells #[.int .i64 0, .int .i64 0, .slice none 0 0] 28)))
    have R_3 := Lib.hid (cells_new' ((w.alloc (.cells #[.int .i64 P, .int .i64 D, .slice (some ⟨a0, oa, none⟩) n n] 28)).alloc (.cells #[.int .i64 P1, .int .i64 R1, .int .i64 C1, .slice (some ⟨s0, so, none⟩) n1 n1] 40)) #[.int .i64 0, .int .i64 0, .slice none 0 0] 28 (w.heap.size + 1 + 1) (by simp))
    have E_4 := Lib.hid ((((Ext.refl w).alloc (.cells #[.int .i64 P, .int .i64 D, .slice (some ⟨a0, oa, none⟩) n n] 28)).alloc (.cells #[.int .i64 P1, .int .i64 R1, .int .i64 C1, .slice (some ⟨s0, so, none⟩) n1 n1] 40)).alloc (.cells #[.int .i64 0, .int .i64 0, .slice none 0 0] 28))
    have lA0 := A0_1.out.1
    have qA00 := A0_1.out.2 0 _ rfl
    have qA01 := A0_1.out.2 1 _ rfl
    have qA02 := A0_1.out.2 2 _ rfl
    have lA1 := A1_2.out.1
    have qA10 := A1_2.out.2 0 _ rfl
    have qA11 := A1_2.out.2 1 _ rfl
    have qA12 := A1_2.out.2 2 _ rfl
    have qA13 := A1_2.out.2 3 _ rfl
    try simp only [World.size_alloc] at lA0 lA1
    go_wp2_with fail
    refine (isIdeal_impl (HT.out.ext E_4.out) hm0 (HS.out.ext E_4.out) hm1 H1.out).mono ?_
    rintro e w_5 ⟨rfl, h_5⟩
    clear lA0 qA00 qA01 qA02 lA1 qA10 qA11 qA12 qA13
    have A0_6 := Lib.hid (A0_1.out.ext h_5)
    clear A0_1
    have A1_7 := Lib.hid (A1_2.out.ext h_5)
    clear A1_2
    have R_8 := Lib.hid (R_3.out.ext h_5)
    clear R_3
    have E_9 := Lib.hid (E_4.out.trans h_5)
    clear E_4
    have lA0 := A0_6.out.1
    have qA00 := A0_6.out.2 0 _ rfl
    have qA01 := A0_6.out.2 1 _ rfl
    have qA02 := A0_6.out.2 2 _ rfl
    have lA1 := A1_7.out.1
    have qA10 := A1_7.out.2 0 _ rfl
    have qA11 := A1_7.out.2 1 _ rfl
    have qA12 := A1_7.out.2 2 _ rfl
    have qA13 := A1_7.out.2 3 _ rfl
    try simp only [World.size_alloc] at lA0 lA1
    have r0 := R_8.out.2 0 _ rfl
    have r1 := R_8.out.2 1 _ rfl
    have r2 := R_8.out.2 2 _ rfl
    have tR := R_8.out.3
    have lR := R_8.out.1
    go_wp2
    refine bodyPost_ret (v := .tuple #[.agg #[.int .i64 0, .int .i64 0, .slice none 0 0], .bool false]) (by simp [results, Try.results48, go_sem, r0, r1, r2]) rfl ⟨_, rfl, ⟨_, _, _, rfl, own_nil _ _ _, by omega⟩, ext3 E_9.out (by omega) _ _ _⟩
  have H1 := Lib.hid h1
  have hz0 : algB P D l = true := by simp only [idlM, Bool.and_eq_true] at h1; exact h1.1
  have hz1 : hsB P D P1 R1 C1 ss = true := by simp only [idlM, Bool.and_eq_true] at h1; exact h1.2.1
  simp only [qtM, h1, if_true, Prod.mk.injEq, Alg.mk.injEq] at hM
  obtain ⟨⟨rfl, rfl, rfl⟩, rfl⟩ := hM
  obtain ⟨D, rfl, hA⟩ := algB_parts hz0 hT.1
  obtain ⟨r, rfl, rfl, rfl, hrD, hn1, hx1⟩ := hsB_parts hz1 hS.1
  simp only [Int.toNat_natCast]
  have hsp := hsB_space hz1
  obtain ⟨hpr, hsS, _, hls, hk40, hC40⟩ := spaceM_parts hsp
  have hIP := isP_iff.1 hpr
  have hD := hA.dim
  have hp := isP_lo hA.pr
  have hp2 := isP_hi hA.pr
  have hrr := hsS.rref hIP hls hx1
  have hfl : (freeTo (redM P1 r D ss).pv D).length ≤ D := freeTo_le _ _
  have hfr : ∀ j, j < (freeTo (redM P1 r D ss).pv D).length → (freeTo (redM P1 r D ss).pv D).getD j 0 < D := fun j hj => (free_at hj).1
  have HPV : Hid (∀ w1, Ext w w1 → Calls Try.prog 101 #[.agg #[.int .i64 P1, .int .i64 (r : Nat), .int .i64 D, .slice (some ⟨s0, so, none⟩) n1 n1]] w1 fun e w' => ∃ a m c, e = .returned (.tuple #[.slice a m c, .bool true]) ∧ Reads w' a m (pvI (redM P1 r D ss).pv) ∧ m ≤ D ∧ Ext w1 w') := fun w1 h => by
    refine (pivotsOf_impl (hS.ext h) hm1).mono ?_
    rintro e w' ⟨a, m, c, he, ho, _, hE⟩
    rw [hsp] at he ho
    simp only [Int.toNat_natCast] at ho
    obtain ⟨ho1, hmr⟩ := ho (by trivial)
    rw [leads_pv hIP hls hx1 hsS] at ho1
    exact ⟨a, m, c, he, ho1.reads, by omega, hE⟩
  have HCW : Hid (∀ w1 a m c, Reads w1 a m (pvI (redM P1 r D ss).pv) → m ≤ D → Calls Try.prog 110 #[.slice a m c, .int .i64 D] w1 fun e w' => ∃ af cf, e = .returned (.slice af (freeTo (redM P1 r D ss).pv D).length cf) ∧ Reads w' af (freeTo (redM P1 r D ss).pv D).length (pvI (freeTo (redM P1 r D ss).pv D)) ∧ Ext w1 w') := fun w1 a m c h hm => by
    refine (columnsWithout_impl a m c D _ w1 h (by omega) hm).mono ?_
    rintro e w' ⟨af, cf, he, ho, hE⟩
    exact ⟨af, cf, he, ho.reads, hE⟩
  have HFRL := Lib.hid hfr
  obtain ⟨pv, hpv⟩ : ∃ pv, (redM P1 r D ss).pv = pv := ⟨_, rfl⟩
  rw [hpv] at HPV HCW hfl HFRL hfr ⊢
  obtain ⟨fr, hfre⟩ : ∃ fr, freeTo pv D = fr := ⟨_, rfl⟩
  rw [hfre] at HCW hfl HFRL hfr ⊢
  obtain ⟨K, hKe⟩ : ∃ K, fr.length = K := ⟨_, rfl⟩
  rw [hKe] at HCW hfl HFRL hfr ⊢
  have hK : K ≤ 28 := by omega
  have h26 : K * D ≤ 784 := Nat.mul_le_mul hK hD
  have h25 : D * K ≤ 784 := Nat.mul_le_mul hD hK
  have HTK : Hid (∀ w1 b af cf, Has w1 b (unitTo D D) → Reads w1 af K (pvI fr) → Calls Try.prog 104 #[.agg #[.int .i64 P1, .int .i64 D, .int .i64 D, .slice (some ⟨b, 0, none⟩) (D * D) (D * D)], .slice af K cf] w1 fun e w' => ∃ b', e = .returned (.agg #[.int .i64 P1, .int .i64 D, .int .i64 (K : Nat), .slice (some ⟨b', 0, none⟩) (D * K) (D * K)]) ∧ w1.heap.size ≤ b' ∧ b' < w'.heap.size ∧ Has w' b' (tkL D K (unitTo D D) fr D) ∧ Ext w1 w') := fun w1 b af cf hh hfr1 =>
    takeColumns_impl P1 D D K (D * D) b 0 cf af _ fr w1 (hh.reads (unitTo_length D D)) rfl (by omega) (by omega) (by omega) hfr1 hfr
  have HTP : Hid (∀ w1 b, Has w1 b (tkL D K (unitTo D D) fr D) → Calls Try.prog 111 #[.agg #[.int .i64 P1, .int .i64 D, .int .i64 (K : Nat), .slice (some ⟨b, 0, none⟩) (D * K) (D * K)]] w1 fun e w' => ∃ b', e = .returned (.agg #[.int .i64 P1, .int .i64 (K : Nat), .int .i64 D, .slice (some ⟨b', 0, none⟩) (K * D) (K * D)]) ∧ w1.heap.size ≤ b' ∧ b' < w'.heap.size ∧ Has w' b' (clsL D K fr) ∧ Ext w1 w') := fun w1 b hh =>
    transpose_impl P1 D K b 0 (D * K) (D * K) _ w1 (hh.reads tkL_length) rfl (by omega) (by omega) (by omega) (Nat.le_refl _) (by unfold maxLen; omega)
  have HTB : Hid (∀ w1 B F0 F1 b af cf, Ext w w1 → Cells w1 B [.int .i64 P1, .int .i64 D, .slice (some ⟨a0, oa, none⟩) n n] → Cells w1 F0 [.int .i64 P1, .int .i64 (r : Nat), .int .i64 D, .slice (some ⟨s0, so, none⟩) n1 n1] → Cells w1 F1 [.slice af K cf] → Reads w1 af K (pvI fr) → Has w1 b (clsL D K fr) → Calls Try.prog 102 #[.pointer (some ⟨B, 0, none⟩), .agg #[.int .i64 P1, .int .i64 (K : Nat), .int .i64 D, .slice (some ⟨b, 0, none⟩) (K * D) (K * D)], .func (.func 112) #[] #[.pointer (some ⟨F0, 0, none⟩), .pointer (some ⟨F1, 0, none⟩)]] w1 fun e w' => ∃ a m c, e = .returned (.agg #[.int .i64 P1, .int .i64 (K : Nat), .slice a m c]) ∧ Own w' w1.heap.size w'.heap.size a m (qtT P1 D l ss pv fr K) ∧ m = K * (K * K) ∧ Ext w1 w') := fun w1 B F0 F1 b af cf h hB hF0 hF1 hfr1 hh =>
    tableOf_Q P1 D K (K * D) B a0 oa n b 0 F0 F1 l (clsL D K fr) (qtB P1 D l ss pv fr K) w1 hB hD hK rfl hA.len (hT.ext h) (hh.reads clsL_length) hp hp2 hA.res (clsL_res hp) (fun i _ => qtB_length i)
      (fun i hi w2 b2 h2 hb2 => (next_Q P1 D r K n1 s0 so F0 F1 b2 cf af ss _ fr w2 (hF0.ext h2) (hF1.ext h2) (hS.ext (h.trans h2)) hsp (hfr1.ext h2) hfr hD hK hb2 (bRows_flen _ _ _) (bRows_res (by omega) _ _ _)).mono (fun e w' ⟨b', q1, q2, q3, q4, q5⟩ => ⟨b', _, _, _, _, q1, q2, q3, by rw [hpv] at q4; exact q4, q5⟩))
  have hmf : ∀ (fn : Fn) (first cap : Array Value) (w : World), (Instr.makeFunc fn first cap).run Try.prog w = .ok (.func fn first cap) w := fun _ _ _ _ => rfl
  have hK3 : K * (K * K) ≤ 21952 := by rw [← Nat.mul_assoc]; exact cube28 hK
  clear hT hS h1 hz0 hz1 hn1 hx1 hsp hpr hsS hls hk40 hC40 hIP hrr hA hpv hfre hKe hfr
  go_enter Try.func48, Try.ntmps48
  have A0_1 := Lib.hid (((cells_new' w #[.int .i64 P1, .int .i64 D, .slice (some ⟨a0, oa, none⟩) n n] 28 (w.heap.size) (by simp)).ext ((Ext.refl _).alloc (.cells #[.int .i64 P1, .int .i64 (r : Nat), .int .i64 D, .slice (some ⟨s0, so, none⟩) n1 n1] 40))).ext ((Ext.refl _).alloc (.cells #[.int .i64 0, .int .i64 0, .slice none 0 0] 28)))
  have A1_2 := Lib.hid ((cells_new' (w.alloc (.cells #[.int .i64 P1, .int .i64 D, .slice (some ⟨a0, oa, none⟩) n n] 28)) #[.int .i64 P1, .int .i64 (r : Nat), .int .i64 D, .slice (some ⟨s0, so, none⟩) n1 n1] 40 (w.heap.size + 1) (by simp)).ext ((Ext.refl _).alloc (.cells #[.int .i64 0, .int .i64 0, .slice none 0 0] 28)))
  have R_3 := Lib.hid (cells_new' ((w.alloc (.cells #[.int .i64 P1, .int .i64 D, .slice (some ⟨a0, oa, none⟩) n n] 28)).alloc (.cells #[.int .i64 P1, .int .i64 (r : Nat), .int .i64 D, .slice (some ⟨s0, so, none⟩) n1 n1] 40)) #[.int .i64 0, .int .i64 0, .slice none 0 0] 28 (w.heap.size + 1 + 1) (by simp))
  have E_4 := Lib.hid ((((Ext.refl w).alloc (.cells #[.int .i64 P1, .int .i64 D, .slice (some ⟨a0, oa, none⟩) n n] 28)).alloc (.cells #[.int .i64 P1, .int .i64 (r : Nat), .int .i64 D, .slice (some ⟨s0, so, none⟩) n1 n1] 40)).alloc (.cells #[.int .i64 0, .int .i64 0, .slice none 0 0] 28))
  have lA0 := A0_1.out.1
  have qA00 := A0_1.out.2 0 _ rfl
  have qA01 := A0_1.out.2 1 _ rfl
  have qA02 := A0_1.out.2 2 _ rfl
  have lA1 := A1_2.out.1
  have qA10 := A1_2.out.2 0 _ rfl
  have qA11 := A1_2.out.2 1 _ rfl
  have qA12 := A1_2.out.2 2 _ rfl
  have qA13 := A1_2.out.2 3 _ rfl
  try simp only [World.size_alloc] at lA0 lA1
  go_wp2_with fail
  refine (isIdeal_impl (HT.out.ext E_4.out) hm0 (HS.out.ext E_4.out) hm1 H1.out).mono ?_
  rintro e w_5 ⟨rfl, h_5⟩
  clear lA0 qA00 qA01 qA02 lA1 qA10 qA11 qA12 qA13
  have A0_6 := Lib.hid (A0_1.out.ext h_5)
  clear A0_1
  have A1_7 := Lib.hid (A1_2.out.ext h_5)
  clear A1_2
  have R_8 := Lib.hid (R_3.out.ext h_5)
  clear R_3
  have E_9 := Lib.hid (E_4.out.trans h_5)
  clear E_4
  have lA0 := A0_6.out.1
  have qA00 := A0_6.out.2 0 _ rfl
  have qA01 := A0_6.out.2 1 _ rfl
  have qA02 := A0_6.out.2 2 _ rfl
  try simp only [World.size_alloc] at lA0
  have P_10 := (Ext.refl w_5).alloc (.cells #[.int .i64 P1, .int .i64 D, .slice (some ⟨a0, oa, none⟩) n n] 71)
  have A0_11 := Lib.hid (A0_6.out.ext P_10)
  clear A0_6
  have A1_12 := Lib.hid (A1_7.out.ext P_10)
  clear A1_7
  have R_13 := Lib.hid (R_8.out.ext P_10)
  clear R_8
  have E_14 := Lib.hid (E_9.out.trans P_10)
  clear E_9
  clear P_10
  have B_15 := Lib.hid (cells_new w_5 #[.int .i64 P1, .int .i64 D, .slice (some ⟨a0, oa, none⟩) n n] 71)
  have lA1 := A1_12.out.1
  have qA10 := A1_12.out.2 0 _ rfl
  have qA11 := A1_12.out.2 1 _ rfl
  have qA12 := A1_12.out.2 2 _ rfl
  have qA13 := A1_12.out.2 3 _ rfl
  try simp only [World.size_alloc] at lA0 lA1
  go_wp2_with fail
  refine (HPV.out _ E_14.out).mono ?_
  rintro e w_16 ⟨ap, mp, cp, rfl, hpr1, hmp, h_16⟩
  clear lA0 qA00 qA01 qA02 lA1 qA10 qA11 qA12 qA13
  have HPR1 := Lib.hid hpr1
  clear hpr1
  have A0_17 := Lib.hid (A0_11.out.ext h_16)
  clear A0_11
  have A1_18 := Lib.hid (A1_12.out.ext h_16)
  clear A1_12
  have R_19 := Lib.hid (R_13.out.ext h_16)
  clear R_13
  have B_20 := Lib.hid (B_15.out.ext h_16)
  clear B_15
  have E_21 := Lib.hid (E_14.out.trans h_16)
  clear E_14
  have lB := B_20.out.1
  have qB0 := B_20.out.2 0 _ rfl
  have qB1 := B_20.out.2 1 _ rfl
  have qB2 := B_20.out.2 2 _ rfl
  try simp only [World.size_alloc] at lB
  go_wp2_with fail
  refine (HCW.out _ ap mp cp HPR1.out hmp).mono ?_
  rintro e w_22 ⟨af, cf, rfl, hfr1, h_22⟩
  clear lB qB0 qB1 qB2
  have A0_23 := Lib.hid (A0_17.out.ext h_22)
  clear A0_17
  have A1_24 := Lib.hid (A1_18.out.ext h_22)
  clear A1_18
  have R_25 := Lib.hid (R_19.out.ext h_22)
  clear R_19
  have B_26 := Lib.hid (B_20.out.ext h_22)
  clear B_20
  have E_27 := Lib.hid (E_21.out.trans h_22)
  clear E_21
  have HFR1 := Lib.hid (hfr1.ext ((Ext.refl _).alloc (.cells #[.slice af K cf] 22)))
  clear hfr1
  have P_28 := (Ext.refl w_22).alloc (.cells #[.slice af K cf] 22)
  have A0_29 := Lib.hid (A0_23.out.ext P_28)
  clear A0_23
  have A1_30 := Lib.hid (A1_24.out.ext P_28)
  clear A1_24
  have R_31 := Lib.hid (R_25.out.ext P_28)
  clear R_25
  have B_32 := Lib.hid (B_26.out.ext P_28)
  clear B_26
  have E_33 := Lib.hid (E_27.out.trans P_28)
  clear E_27
  clear P_28
  have S_34 := Lib.hid (cells_new w_22 #[.slice af K cf] 22)
  go_upto_region 6 with fail
  generalize hWX : (w_22.alloc (.cells #[.slice af K cf] 22)) = WX at *
  generalize hS9 : w_22.heap.size = S9 at *
  clear hWX hS9 A0_29
  have lB := B_32.out.1
  have b0' := B_32.out.2 0 _ rfl
  have b1' := B_32.out.2 1 _ rfl
  have b2' := B_32.out.2 2 _ rfl
  have lS := S_34.out.1
  have s0' := S_34.out.2 0 _ rfl
  go_cut [10] (fun s10 wx => ∃ XB b10 , s10 = .pointer (some ⟨XB, 0, none⟩) ∧ WX.heap.size ≤ XB ∧ WX.heap.size ≤ b10 ∧ Hid (Cells wx XB [.int .i64 P1, .int .i64 (K : Nat), .int .i64 D, .slice (some ⟨b10, 0, none⟩) (K * D) (K * D)]) ∧ Hid (Has wx b10 (clsL D K fr)) ∧ Hid (Ext WX wx))
  case first =>
    go_region_held3 (fun w' => Ext WX w' ∧ (∀ b o, b < WX.heap.size → w'.cell? ⟨b, o, none⟩ = WX.cell? ⟨b, o, none⟩)) (first | assumption | (with_reducible exact ext2 (Ext.trans (And.left ‹Ext WX _ ∧ _›) ‹Ext _ _›)) | (refine ext2 ?_; with_reducible repeat (first | exact Ext.refl _ | exact And.left ‹Ext WX _ ∧ _› | refine Ext.drew ?_ | refine Ext.drewN ?_ _ | exact Ext.alloc (And.left ‹Ext WX _ ∧ _›) _ | exact Ext.alloc ((Ext.refl _).drew) _ | exact Ext.alloc (((Ext.refl _).drew).trans h2) _ | exact Ext.alloc ((((Ext.refl _).drew).trans h2).trans h3) _ | exact Ext.alloc (((((Ext.refl _).drew).trans h2).trans h3).trans h4) _ | refine Ext.alloc ?_ _ | refine Ext.setCell ?_ (by have e0 : WX.drew.heap.size = WX.heap.size := rfl; simp <;> omega) _))) (first
      | (go_at_call 64; (with_reducible refine (all_impl P1 D w_5.heap.size _ _ (B_32.out.ext (And.left ‹Ext WX _ ∧ _›)) hD).mono ?_); rintro e w2 ⟨b1, rfl, hu1, hu2, ku, h2⟩; have c_2 := h2.cells; have f_2 := h2.frees; have y_2 := h2.le; have x_2 := fun k hk => Nat.lt_of_lt_of_le (n := k) hk h2.le; (try simp only [World.size_drew] at y_2 x_2); (try simp only [World.size_alloc] at y_2 x_2); (try simp only [Nat.add_one_le_iff] at y_2); (try have z_2_0 : WX.heap.size < w2.heap.size := by omega))
      | (go_at_call 104; (with_reducible refine (HTK.out _ b1 af cf (by with_reducible first | exact ku | exact Has.alloc ku _) (HFR1.out.ext (And.left ‹Ext WX _ ∧ _›))).mono ?_); rintro e w3 ⟨b3, rfl, hq1, hq2, k3, h3⟩; have c_3 := h3.cells; have f_3 := h3.frees; have y_3 := h3.le; have x_3 := fun k hk => Nat.lt_of_lt_of_le (n := k) hk h3.le; (try simp only [World.size_drew] at y_3 x_3); (try simp only [World.size_alloc] at y_3 x_3); (try simp only [Nat.add_one_le_iff] at y_3); (try have z_3_0 : WX.heap.size < w3.heap.size := by omega); (try have z_3_1 : w2.heap.size < w3.heap.size := by omega))
      | (go_at_call 111; (with_reducible refine (HTP.out _ b3 (by with_reducible first | exact k3 | exact Has.alloc k3 _)).mono ?_); rintro e w4 ⟨b10, rfl, hm1, hm2, kx, h4⟩; have c_4 := h4.cells; have f_4 := h4.frees; have y_4 := h4.le; have x_4 := fun k hk => Nat.lt_of_lt_of_le (n := k) hk h4.le; (try simp only [World.size_drew] at y_4 x_4); (try simp only [World.size_alloc] at y_4 x_4); (try simp only [Nat.add_one_le_iff] at y_4); (try have z_4_0 : WX.heap.size < w4.heap.size := by omega); (try have z_4_1 : w2.heap.size < w4.heap.size := by omega); (try have z_4_2 : w3.heap.size < w4.heap.size := by omega)))
    all_goals (go_wp2_with fail; go_meet; first
      | exact ⟨w4.heap.size, b10, rfl, (by (try simp only [World.size_alloc, World.size_drew] at hm1); omega), (by (try simp only [World.size_alloc, World.size_drew] at hm1); omega), cells_new _ _ _, Has.alloc (by with_reducible first | exact kx | exact kx.alloc _) _, And.left ‹Ext WX _ ∧ _›⟩
      | exact ⟨w3.heap.size, b10, rfl, (by (try simp only [World.size_alloc, World.size_drew] at hm1); omega), (by (try simp only [World.size_alloc, World.size_drew] at hm1); omega), early4 (lo := 0) ((cells_new w3 _ _).ext h4), (Has.setOther (Has.setOther (Has.setOther (Has.setOther (by with_reducible first | exact kx | exact kx.alloc _) (by (try simp only [World.size_alloc, World.size_drew] at hm1); simp <;> omega) _) (by (try simp only [World.size_alloc, World.size_drew] at hm1); simp <;> omega) _) (by (try simp only [World.size_alloc, World.size_drew] at hm1); simp <;> omega) _) (by (try simp only [World.size_alloc, World.size_drew] at hm1); simp <;> omega) _), And.left ‹Ext WX _ ∧ _›⟩
      | exact ⟨w2.heap.size, b10, rfl, (by (try simp only [World.size_alloc, World.size_drew] at hm1); omega), (by (try simp only [World.size_alloc, World.size_drew] at hm1); omega), early4 (lo := 0) (((cells_new w2 _ _).ext h3).ext h4), (Has.setOther (Has.setOther (Has.setOther (Has.setOther (by with_reducible first | exact kx | exact kx.alloc _) (by (try simp only [World.size_alloc, World.size_drew] at hm1); simp <;> omega) _) (by (try simp only [World.size_alloc, World.size_drew] at hm1); simp <;> omega) _) (by (try simp only [World.size_alloc, World.size_drew] at hm1); simp <;> omega) _) (by (try simp only [World.size_alloc, World.size_drew] at hm1); simp <;> omega) _), And.left ‹Ext WX _ ∧ _›⟩
      | exact ⟨WX.heap.size, b10, rfl, (by (try simp only [World.size_alloc, World.size_drew] at hm1); omega), (by (try simp only [World.size_alloc, World.size_drew] at hm1); omega), early4 (lo := 0) (((((cells_new WX _ _).ext (Ext.drew (Ext.refl _))).ext h2).ext h3).ext h4), (Has.setOther (Has.setOther (Has.setOther (Has.setOther (by with_reducible first | exact kx | exact kx.alloc _) (by (try simp only [World.size_alloc, World.size_drew] at hm1); simp <;> omega) _) (by (try simp only [World.size_alloc, World.size_drew] at hm1); simp <;> omega) _) (by (try simp only [World.size_alloc, World.size_drew] at hm1); simp <;> omega) _) (by (try simp only [World.size_alloc, World.size_drew] at hm1); simp <;> omega) _), And.left ‹Ext WX _ ∧ _›⟩)
  case rest =>
    obtain ⟨XB, b10, rfl, hxb, hb10, hXB, hXH, hXE⟩ := hcut
    obtain ⟨w5, hwk⟩ : ∃ wk : World, wk = wc := ⟨_, rfl⟩
    subst hwk
    have A5 := Lib.hid (A1_30.out.ext hXE.out)
    have R5 := Lib.hid (R_31.out.ext hXE.out)
    have B5 := Lib.hid (B_32.out.ext hXE.out)
    have S5 := Lib.hid (S_34.out.ext hXE.out)
    have E5 := Lib.hid (E_33.out.trans hXE.out)
    have F5 := Lib.hid (HFR1.out.ext hXE.out)
    have lRx := R_31.out.1
    have hEw := E_33.out.le
    clear lB b0' b1' b2' lS s0' A1_30 R_31 B_32 S_34 E_33 HFR1 hXE
    have lX := hXB.out.1
    have x0 := hXB.out.2 0 _ rfl
    have x1 := hXB.out.2 1 _ rfl
    have x2 := hXB.out.2 2 _ rfl
    have x3 := hXB.out.2 3 _ rfl
    go_wp2_with fail
    refine (HTB.out _ w_5.heap.size (w.heap.size + 1) S9 b10 af cf E5.out B5.out A5.out S5.out F5.out hXH.out).mono ?_
    rintro e w6 ⟨a, m, c, rfl, ho, hm, h6⟩
    have E6 := Lib.hid (E5.out.trans h6)
    have R6 := Lib.hid (R5.out.ext h6)
    have HO := Lib.hid ho
    have hmb : m ≤ 21952 := by omega
    clear hm
    have sz6 := h6.le
    have sz5 := E5.out.le
    have lR5 := R5.out.1
    clear ho h6 A5 R5 B5 S5 E5 F5 lX x0 x1 x2 x3 hXB hXH
    have r0 := R6.out.2 0 _ rfl
    have r1 := R6.out.2 1 _ rfl
    have r2 := R6.out.2 2 _ rfl
    have tR := R6.out.3
    have lR := R6.out.1
    go_wp2
    refine bodyPost_ret (v := .tuple #[.agg #[.int .i64 P1, .int .i64 (K : Nat), .slice a m c], .bool true]) (by simp [results, Try.results48, go_sem, r0, r1, r2]) rfl ⟨_, rfl, ⟨a, m, c, rfl, ?_, by omega⟩, ext3 E6.out (by omega) _ _ _⟩
    exact Own.mono (own3 HO.out (by omega) _ _ _) (by omega) (by simp)
end Go.Proofs.Ytapaopapgnfdkaa
