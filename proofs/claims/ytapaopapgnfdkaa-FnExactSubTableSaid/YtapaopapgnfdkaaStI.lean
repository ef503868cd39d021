/-
  Tables of subalgebras, in the program.
-/
import Derived.Test.YtapaopapgnfdkaaTbO
import Derived.Test.YtapaopapgnfdkaaSubA
import Derived.Test.YtapaopapgnfdkaaAlgE
namespace Go.Proofs.Ytapaopapgnfdkaa
open Go.ChangeShapes Go.WideShapes Go.ChangeAt Go.RowKit
set_option linter.unusedVariables false
set_option linter.unusedSimpArgs false

def stB (P : Int) (D : Nat) (l ss : List Int) (pv : List Nat) (r i : Nat) : List Int := tkL D r (bRows P D l (rowL D ss i) ss r).flatten pv r
def stT (P : Int) (D : Nat) (l ss : List Int) (pv : List Nat) (r : Nat) : List Int := bk (stB P D l ss pv r) r
theorem stB_length {P : Int} {D r : Nat} {l ss : List Int} {pv : List Nat} (i : Nat) : (stB P D l ss pv r i).length = r * r := tkL_length
theorem stT_length {P : Int} {D r : Nat} {l ss : List Int} {pv : List Nat} : (stT P D l ss pv r).length = r * (r * r) := bk_length (n := r) (fun i _ => stB_length i) r (Nat.le_refl _)
theorem gi_stT {P : Int} {D r : Nat} {l ss : List Int} {pv : List Nat} (hpv : ∀ t, t < r → pv.getD t 0 < D) {i j k : Nat} (hi : i < r) (hj : j < r) (hk : k < r) : gi (stT P D l ss pv r) (i * (r * r) + (j * r + k)) = gi (brL P D l (rowL D ss i) (rowL D ss j)) (pv.getD k 0) := by
  have := place_lt (R := r) (C := r) hj hk
  have h1 : gi (stB P D l ss pv r i) (j * r + k) = at2 r (stB P D l ss pv r i) j k := rfl
  rw [stT, gi_bk (n := r) (fun i _ => stB_length i) r (Nat.le_refl _) hi (by omega), h1, stB, at2_tkL hj hk, at2, gi_bRows _ _ _ hj (hpv k hk)]
noncomputable def stM (P D : Int) (l : List Int) (P1 R1 C1 : Int) (ss : List Int) : Alg × Bool :=
  if sbaM P D l P1 R1 C1 ss then (⟨P, R1, stT P D.toNat l ss (redM P R1.toNat D.toNat ss).pv R1.toNat⟩, true) else (noAlg, false)

set_option maxRecDepth 100000 in
set_option maxHeartbeats 3200000 in
theorem next_S (P : Int) (D r F0 b cp : Nat) (ap : Option Addr) (bs : List Int) (pv : List Nat) (w : World) (hF0 : Cells w F0 [.slice ap r cp]) (hfr : Reads w ap r (pvI pv)) (hlt : ∀ j, j < r → pv.getD j 0 < D) (hD : D ≤ 28) (hr : r ≤ 28) (hb : Has w b bs) (hbl : bs.length = r * D) :
    Calls Try.prog 103 #[.agg #[.int .i64 P, .int .i64 (r : Nat), .int .i64 D, .slice (some ⟨b, 0, none⟩) (r * D) (r * D)], .pointer (some ⟨F0, 0, none⟩)] w fun e w' => ∃ b', e = .returned (.agg #[.int .i64 P, .int .i64 (r : Nat), .int .i64 (r : Nat), .slice (some ⟨b', 0, none⟩) (r * r) (r * r)]) ∧ w.heap.size ≤ b' ∧ b' < w'.heap.size ∧ Has w' b' (tkL D r bs pv r) ∧ Ext w w' := by
  have HTK : Hid (∀ w1, Ext w w1 → Calls Try.prog 104 #[.agg #[.int .i64 P, .int .i64 (r : Nat), .int .i64 D, .slice (some ⟨b, 0, none⟩) (r * D) (r * D)], .slice ap r cp] w1 fun e w' => ∃ b', e = .returned (.agg #[.int .i64 P, .int .i64 (r : Nat), .int .i64 (r : Nat), .slice (some ⟨b', 0, none⟩) (r * r) (r * r)]) ∧ w1.heap.size ≤ b' ∧ b' < w'.heap.size ∧ Has w' b' (tkL D r bs pv r) ∧ Ext w1 w') := fun w1 h =>
    takeColumns_impl P r D r (r * D) b 0 cp ap _ pv w1 ((hb.ext h).reads hbl) rfl (by omega) (by omega) (by omega) (hfr.ext h) hlt
  have HF0 := Lib.hid hF0
  clear hF0 hfr hlt hb hbl
  generalize tkL D r bs pv r = tl at *
  generalize r * r = KK at *
  generalize r * D = KD at *
  go_enter Try.func103, Try.ntmps103
  have A0_1 := Lib.hid ((cells_new' w #[.int .i64 P, .int .i64 (r : Nat), .int .i64 D, .slice (some ⟨b, 0, none⟩) KD KD] 40 (w.heap.size) (by simp)).ext ((Ext.refl _).alloc (.cells #[.int .i64 0, .int .i64 0, .int .i64 0, .slice none 0 0] 40)))
  have R_2 := Lib.hid (cells_new' (w.alloc (.cells #[.int .i64 P, .int .i64 (r : Nat), .int .i64 D, .slice (some ⟨b, 0, none⟩) KD KD] 40)) #[.int .i64 0, .int .i64 0, .int .i64 0, .slice none 0 0] 40 (w.heap.size + 1) (by simp))
  have E_3 := Lib.hid (((Ext.refl w).alloc (.cells #[.int .i64 P, .int .i64 (r : Nat), .int .i64 D, .slice (some ⟨b, 0, none⟩) KD KD] 40)).alloc (.cells #[.int .i64 0, .int .i64 0, .int .i64 0, .slice none 0 0] 40))
  have F0_4 := Lib.hid (HF0.out.ext E_3.out)
  have lA0 := A0_1.out.1
  have qA00 := A0_1.out.2 0 _ rfl
  have qA01 := A0_1.out.2 1 _ rfl
  have qA02 := A0_1.out.2 2 _ rfl
  have qA03 := A0_1.out.2 3 _ rfl
  have lF0 := F0_4.out.1
  have qF00 := F0_4.out.2 0 _ rfl
  try simp only [World.size_alloc] at lA0 lF0
  go_wp2_with fail
  refine (HTK.out _ E_3.out).mono ?_
  rintro e w_5 ⟨b2, rfl, hb1, hb2, hh, h_5⟩
  clear lA0 qA00 qA01 qA02 qA03 lF0 qF00
  have HH := Lib.hid hh
  clear hh
  have A0_6 := Lib.hid (A0_1.out.ext h_5)
  clear A0_1
  have R_7 := Lib.hid (R_2.out.ext h_5)
  clear R_2
  have F0_8 := Lib.hid (F0_4.out.ext h_5)
  clear F0_4
  have E_9 := Lib.hid (E_3.out.trans h_5)
  clear E_3
  have c0 := R_7.out.2 0 _ rfl
  have c1 := R_7.out.2 1 _ rfl
  have c2 := R_7.out.2 2 _ rfl
  have c3 := R_7.out.2 3 _ rfl
  have tR := R_7.out.3
  have lR := R_7.out.1
  try simp only [World.size_alloc] at hb1
  go_wp2
  refine bodyPost_ret (v := .agg #[.int .i64 P, .int .i64 (r : Nat), .int .i64 (r : Nat), .slice (some ⟨b2, 0, none⟩) KK KK]) (by simp [results, Try.results103, go_sem, c0, c1, c2, c3]) rfl ⟨b2, rfl, by omega, by simpa using hb2, ?_, ext4 E_9.out (by omega) _ _ _ _⟩
  repeat with_reducible (first | exact HH.out | refine Has.setOther ?_ (by simp <;> omega) _)

set_option maxRecDepth 100000 in
set_option maxHeartbeats 6400000 in
theorem subTable_impl {P D : Int} {a0 oa n : Nat} {l : List Int} {P1 R1 C1 : Int} {s0 so n1 : Nat} {ss : List Int} {w : World} {p d : Int} {xs : List Int} {ok : Bool} (hT : Reads w (some ⟨a0, oa, none⟩) n l) (hm0 : n ≤ 1048576) (hS : Reads w (some ⟨s0, so, none⟩) n1 ss) (hm1 : n1 ≤ 1048576) (hM : stM P D l P1 R1 C1 ss = (⟨p, d, xs⟩, ok)) :
    Calls Try.prog 46 #[.agg #[.int .i64 P, .int .i64 D, .slice (some ⟨a0, oa, none⟩) n n], .agg #[.int .i64 P1, .int .i64 R1, .int .i64 C1, .slice (some ⟨s0, so, none⟩) n1 n1]] w fun e w' => ∃ v, e = .returned (.tuple #[v, .bool ok]) ∧ Ralg w w' v p d xs ∧ Ext w w' := by
  have HT := Lib.hid hT
  have HS := Lib.hid hS
  rcases h1 : sbaM P D l P1 R1 C1 ss with _ | _
  · simp only [stM, h1, noAlg, Bool.false_eq_true, if_false, Prod.mk.injEq, Alg.mk.injEq] at hM
    obtain ⟨⟨rfl, rfl, rfl⟩, rfl⟩ := hM
    have H1 := Lib.hid h1
    clear h1 hT hS
    go_enter Try.func46, Try.ntmps46
    have A0_1 := Lib.hid (((cells_new' w #[.int .i64 P, .int .i64 D, .slice (some ⟨a0, oa, none⟩) n n] 28 (w.heap.size) (by simp)).ext ((Ext.refl _).alloc (.cells #[.int .i64 P1, .int .i64 R1, .int .i64 C1, .slice (some ⟨s0, so, none⟩) n1 n1] 40))).ext ((Ext.refl _).alloc (.cells #[.int .i64 0, .int .i64 0, .slice none 0 0] 28)))
    have A1_2 := Lib.hid ((cells_new' (w.alloc (.cells #[.int .i64 P, .int .i64 D, .slice (some ⟨a0, oa, none⟩) n n] 28)) #[.int .i64 P1, .int .i64 R1, .int .i64 C1, .slice (some ⟨s0, so, none⟩) n1 n1] 40 (w.heap.size + 1) (by simp)).ext ((Ext.refl _).alloc (.cells #[.int .i64 0, .int .i64 0, .slice none 0 0] 28)))
    have R_3 := Lib.hid (cells_new' ((w.alloc (.cells #[.int .i64 P, .int .i64 D, .slice (some ⟨a0, oa, none⟩) n n] 28)).alloc (.cells #[.int .i64 P1, .int .i64 R1, .int .i64 C1, .slice (some ⟨s0, so, none⟩) n1 n1] 40)) #[.int .i64 0, .int .i64 0, .slice none 0 0] 28 (w.heap.size + 1 + 1) (by simp))
    have E_4 := Lib.hid ((((Ext.refl w).alloc (.cells #[.int .i64 P, .int .i64 D, .slice (some ⟨a0, oa, none⟩) n n] 28)).alloc (.cells #[.int .i64 P1, .int .i64 R1, .int .i64 C1, .slice (some ⟨s0, so, none⟩) n1 n1] 40)).alloc (.cells #[.int .i64 0, .int .i64 0, .slice none 0 0] 28))
    have lA0 := A0_1.out.1
    have qA00 := A0_1.out.2 0 _ rfl
    have qA01 := A0_1.out.2 1 _ rfl
    have qA02 := A0_1.out.2 2 _ rfl
    have lA1 := A1_2.out.1
    have qA10 := A1_2.out.2 0 _ rfl
    have qA11 := A1_2.out.2 1 _ rfl
    have qA12 := A1_2.out.2 2 _ rfl
    have qA13 := A1_2.out.2 3 _ rfl
    try simp only [World.size_alloc] at lA0 lA1
    go_wp2_with fail
    refine (isSubalgebra_impl (HT.out.ext E_4.out) hm0 (HS.out.ext E_4.out) hm1 H1.out).mono ?_
    rintro e w_5 ⟨rfl, h_5⟩
    clear lA0 qA00 qA01 qA02 lA1 qA10 qA11 qA12 qA13
    have A0_6 := Lib.hid (A0_1.out.ext h_5)
    clear A0_1
    have A1_7 := Lib.hid (A1_2.out.ext h_5)
    clear A1_2
    have R_8 := Lib.hid (R_3.out.ext h_5)
    clear R_3
    have E_9 := Lib.hid (E_4.out.trans h_5)
    clear E_4
    have lA0 := A0_6.out.1
    have qA00 := A0_6.out.2 0 _ rfl
    have qA01 := A0_6.out.2 1 _ rfl
    have qA02 := A0_6.out.2 2 _ rfl
    have lA1 := A1_7.out.1
    have qA10 := A1_7.out.2 0 _ rfl
    have qA11 := A1_7.out.2 1 _ rfl
    have qA12 := A1_7.out.2 2 _ rfl
    have qA13 := A1_7.out.2 3 _ rfl
    try simp only [World.size_alloc] at lA0 lA1
    have r0 := R_8.out.2 0 _ rfl
    have r1 := R_8.out.2 1 _ rfl
    have r2 := R_8.out.2 2 _ rfl
    have tR := R_8.out.3
    have lR := R_8.out.1
    go_wp2
    refine bodyPost_ret (v := .tuple #[.agg #[.int .i64 0, .int .i64 0, .slice none 0 0], .bool false]) (by simp [results, Try.results46, go_sem, r0, r1, r2]) rfl ⟨_, rfl, ⟨_, _, _, rfl, own_nil _ _ _, by omega⟩, ext3 E_9.out (by omega) _ _ _⟩
  have H1 := Lib.hid h1
  have hz0 : algB P D l = true := by simp only [sbaM, Bool.and_eq_true] at h1; exact h1.1
  have hz1 : hsB P D P1 R1 C1 ss = true := by simp only [sbaM, Bool.and_eq_true] at h1; exact h1.2.1
  simp only [stM, h1, if_true, Prod.mk.injEq, Alg.mk.injEq] at hM
  obtain ⟨⟨rfl, rfl, rfl⟩, rfl⟩ := hM
  obtain ⟨D, rfl, hA⟩ := algB_parts hz0 hT.1
  obtain ⟨r, rfl, rfl, rfl, hrD, hn1, hx1⟩ := hsB_parts hz1 hS.1
  simp only [Int.toNat_natCast]
  have hsp := hsB_space hz1
  obtain ⟨hpr, hsS, _, hls, hk40, hC40⟩ := spaceM_parts hsp
  have hIP := isP_iff.1 hpr
  have hD := hA.dim
  have hp := isP_lo hA.pr
  have hp2 := isP_hi hA.pr
  have hrr := hsS.rref hIP hls hx1
  have hpl : (redM P1 r D ss).pv.length = r := hsS.1
  have hpvl : ∀ t, t < r → (redM P1 r D ss).pv.getD t 0 < D := fun t ht => hrr.lt t (by rw [hpl]; exact ht)
  have HPV : Hid (∀ w1, Ext w w1 → Calls Try.prog 101 #[.agg #[.int .i64 P1, .int .i64 (r : Nat), .int .i64 D, .slice (some ⟨s0, so, none⟩) n1 n1]] w1 fun e w' => ∃ a c, e = .returned (.tuple #[.slice a r c, .bool true]) ∧ Reads w' a r (pvI (redM P1 r D ss).pv) ∧ Ext w1 w') := fun w1 h => by
    refine (pivotsOf_impl (hS.ext h) hm1).mono ?_
    rintro e w' ⟨a, m, c, he, ho, _, hE⟩
    rw [hsp] at he ho
    simp only [Int.toNat_natCast] at ho
    obtain ⟨ho1, hmr⟩ := ho (by trivial)
    rw [leads_pv hIP hls hx1 hsS] at ho1
    have hm : m = r := by have := ho1.len; rw [← this, pvI, List.length_map, hpl]
    subst hm
    exact ⟨a, c, he, ho1.reads, hE⟩
  obtain ⟨pv, hpv⟩ : ∃ pv, (redM P1 r D ss).pv = pv := ⟨_, rfl⟩
  rw [hpv] at HPV hpvl ⊢
  have hr28 : r ≤ 28 := by omega
  have HTB : Hid (∀ w1 B F0 ap cp, Ext w w1 → Cells w1 B [.int .i64 P1, .int .i64 D, .slice (some ⟨a0, oa, none⟩) n n] → Cells w1 F0 [.slice ap r cp] → Reads w1 ap r (pvI pv) → Calls Try.prog 102 #[.pointer (some ⟨B, 0, none⟩), .agg #[.int .i64 P1, .int .i64 (r : Nat), .int .i64 D, .slice (some ⟨s0, so, none⟩) n1 n1], .func (.func 103) #[] #[.pointer (some ⟨F0, 0, none⟩)]] w1 fun e w' => ∃ a m c, e = .returned (.agg #[.int .i64 P1, .int .i64 (r : Nat), .slice a m c]) ∧ Own w' w1.heap.size w'.heap.size a m (stT P1 D l ss pv r) ∧ m = r * (r * r) ∧ Ext w1 w') := fun w1 B F0 ap cp h hB hF0 hfr1 =>
    tableOf_S P1 D r n1 B a0 oa n s0 so F0 l ss (stB P1 D l ss pv r) w1 hB hD hr28 hn1 hA.len (hT.ext h) (hS.ext h) hp hp2 hA.res hx1 (fun i _ => stB_length i)
      (fun i hi w2 b2 h2 hb2 => (by
        rw [hn1]
        exact (next_S P1 D r F0 b2 cp ap _ pv w2 (hF0.ext h2) (hfr1.ext h2) hpvl hD hr28 hb2 (bRows_flen _ _ _)).mono (fun e w' ⟨b', q1, q2, q3, q4, q5⟩ => ⟨b', _, _, _, _, q1, q2, q3, q4, q5⟩)))
  have hmf : ∀ (fn : Fn) (first cap : Array Value) (w : World), (Instr.makeFunc fn first cap).run Try.prog w = .ok (.func fn first cap) w := fun _ _ _ _ => rfl
  have hK3 : r * (r * r) ≤ 21952 := by rw [← Nat.mul_assoc]; exact cube28 hr28
  clear hT hS h1 hz0 hz1 hn1 hx1 hsp hpr hsS hls hk40 hC40 hIP hrr hA hpv hpvl hpl
  go_enter Try.func46, Try.ntmps46
  have A0_1 := Lib.hid (((cells_new' w #[.int .i64 P1, .int .i64 D, .slice (some ⟨a0, oa, none⟩) n n] 28 (w.heap.size) (by simp)).ext ((Ext.refl _).alloc (.cells #[.int .i64 P1, .int .i64 (r : Nat), .int .i64 D, .slice (some ⟨s0, so, none⟩) n1 n1] 40))).ext ((Ext.refl _).alloc (.cells #[.int .i64 0, .int .i64 0, .slice none 0 0] 28)))
  have A1_2 := Lib.hid ((cells_new' (w.alloc (.cells #[.int .i64 P1, .int .i64 D, .slice (some ⟨a0, oa, none⟩) n n] 28)) #[.int .i64 P1, .int .i64 (r : Nat), .int .i64 D, .slice (some ⟨s0, so, none⟩) n1 n1] 40 (w.heap.size + 1) (by simp)).ext ((Ext.refl _).alloc (.cells #[.int .i64 0, .int .i64 0, .slice none 0 0] 28)))
  have R_3 := Lib.hid (cells_new' ((w.alloc (.cells #[.int .i64 P1, .int .i64 D, .slice (some ⟨a0, oa, none⟩) n n] 28)).alloc (.cells #[.int .i64 P1, .int .i64 (r : Nat), .int .i64 D, .slice (some ⟨s0, so, none⟩) n1 n1] 40)) #[.int .i64 0, .int .i64 0, .slice none 0 0] 28 (w.heap.size + 1 + 1) (by simp))
  have E_4 := Lib.hid ((((Ext.refl w).alloc (.cells #[.int .i64 P1, .int .i64 D, .slice (some ⟨a0, oa, none⟩) n n] 28)).alloc (.cells #[.int .i64 P1, .int .i64 (r : Nat), .int .i64 D, .slice (some ⟨s0, so, none⟩) n1 n1] 40)).alloc (.cells #[.int .i64 0, .int .i64 0, .slice none 0 0] 28))
  have lA0 := A0_1.out.1
  have qA00 := A0_1.out.2 0 _ rfl
  have qA01 := A0_1.out.2 1 _ rfl
  have qA02 := A0_1.out.2 2 _ rfl
  have lA1 := A1_2.out.1
  have qA10 := A1_2.out.2 0 _ rfl
  have qA11 := A1_2.out.2 1 _ rfl
  have qA12 := A1_2.out.2 2 _ rfl
  have qA13 := A1_2.out.2 3 _ rfl
  try simp only [World.size_alloc] at lA0 lA1
  go_wp2_with fail
  refine (isSubalgebra_impl (HT.out.ext E_4.out) hm0 (HS.out.ext E_4.out) hm1 H1.out).mono ?_
  rintro e w_5 ⟨rfl, h_5⟩
  clear lA0 qA00 qA01 qA02 lA1 qA10 qA11 qA12 qA13
  have A0_6 := Lib.hid (A0_1.out.ext h_5)
  clear A0_1
  have A1_7 := Lib.hid (A1_2.out.ext h_5)
  clear A1_2
  have R_8 := Lib.hid (R_3.out.ext h_5)
  clear R_3
  have E_9 := Lib.hid (E_4.out.trans h_5)
  clear E_4
  have lA1 := A1_7.out.1
  have qA10 := A1_7.out.2 0 _ rfl
  have qA11 := A1_7.out.2 1 _ rfl
  have qA12 := A1_7.out.2 2 _ rfl
  have qA13 := A1_7.out.2 3 _ rfl
  try simp only [World.size_alloc] at lA1
  go_wp2_with fail
  refine (HPV.out _ E_9.out).mono ?_
  rintro e w_10 ⟨ap, cp, rfl, hpr1, h_10⟩
  clear lA1 qA10 qA11 qA12 qA13
  have A0_11 := Lib.hid (A0_6.out.ext h_10)
  clear A0_6
  have A1_12 := Lib.hid (A1_7.out.ext h_10)
  clear A1_7
  have R_13 := Lib.hid (R_8.out.ext h_10)
  clear R_8
  have E_14 := Lib.hid (E_9.out.trans h_10)
  clear E_9
  have HPR1 := Lib.hid ((hpr1.ext ((Ext.refl _).alloc (.cells #[.slice ap r cp] 22))).ext ((Ext.refl _).alloc (.cells #[.int .i64 P1, .int .i64 D, .slice (some ⟨a0, oa, none⟩) n n] 71)))
  clear hpr1
  have P_15 := (Ext.refl w_10).alloc (.cells #[.slice ap r cp] 22)
  have A0_16 := Lib.hid (A0_11.out.ext P_15)
  clear A0_11
  have A1_17 := Lib.hid (A1_12.out.ext P_15)
  clear A1_12
  have R_18 := Lib.hid (R_13.out.ext P_15)
  clear R_13
  have E_19 := Lib.hid (E_14.out.trans P_15)
  clear E_14
  clear P_15
  have S_20 := Lib.hid (cells_new w_10 #[.slice ap r cp] 22)
  have lA0 := A0_16.out.1
  have qA00 := A0_16.out.2 0 _ rfl
  have qA01 := A0_16.out.2 1 _ rfl
  have qA02 := A0_16.out.2 2 _ rfl
  try simp only [World.size_alloc] at lA0
  have P_21 := (Ext.refl (w_10.alloc (.cells #[.slice ap r cp] 22))).alloc (.cells #[.int .i64 P1, .int .i64 D, .slice (some ⟨a0, oa, none⟩) n n] 71)
  have A0_22 := Lib.hid (A0_16.out.ext P_21)
  clear A0_16
  have A1_23 := Lib.hid (A1_17.out.ext P_21)
  clear A1_17
  have R_24 := Lib.hid (R_18.out.ext P_21)
  clear R_18
  have S_25 := Lib.hid (S_20.out.ext P_21)
  clear S_20
  have E_26 := Lib.hid (E_19.out.trans P_21)
  clear E_19
  clear P_21
  have B_27 := Lib.hid (cells_new (w_10.alloc (.cells #[.slice ap r cp] 22)) #[.int .i64 P1, .int .i64 D, .slice (some ⟨a0, oa, none⟩) n n] 71)
  have lA1 := A1_23.out.1
  have qA10 := A1_23.out.2 0 _ rfl
  have qA11 := A1_23.out.2 1 _ rfl
  have qA12 := A1_23.out.2 2 _ rfl
  have qA13 := A1_23.out.2 3 _ rfl
  have lS := S_25.out.1
  have qS0 := S_25.out.2 0 _ rfl
  have lB := B_27.out.1
  have qB0 := B_27.out.2 0 _ rfl
  have qB1 := B_27.out.2 1 _ rfl
  have qB2 := B_27.out.2 2 _ rfl
  try simp only [World.size_alloc] at lA0 lA1 lS lB
  go_wp2_with fail
  have HB9 := B_27.out
  simp only [World.size_alloc] at HB9
  with_reducible refine (HTB.out _ _ w_10.heap.size ap cp E_26.out HB9 S_25.out HPR1.out).mono ?_
  rintro e w_28 ⟨a, m, c, rfl, ho, hm, h_28⟩
  clear lA0 qA00 qA01 qA02 lA1 qA10 qA11 qA12 qA13 lS qS0 lB qB0 qB1 qB2
  have HO := Lib.hid ho
  have hmb : m ≤ 21952 := by omega
  have hEl := E_26.out.le
  have lRx := R_24.out.1
  clear ho hm HPR1 HB9
  have A0_29 := Lib.hid (A0_22.out.ext h_28)
  clear A0_22
  have A1_30 := Lib.hid (A1_23.out.ext h_28)
  clear A1_23
  have R_31 := Lib.hid (R_24.out.ext h_28)
  clear R_24
  have S_32 := Lib.hid (S_25.out.ext h_28)
  clear S_25
  have B_33 := Lib.hid (B_27.out.ext h_28)
  clear B_27
  have E_34 := Lib.hid (E_26.out.trans h_28)
  clear E_26
  have r0 := R_31.out.2 0 _ rfl
  have r1 := R_31.out.2 1 _ rfl
  have r2 := R_31.out.2 2 _ rfl
  have tR := R_31.out.3
  have lR := R_31.out.1
  go_wp2
  refine bodyPost_ret (v := .tuple #[.agg #[.int .i64 P1, .int .i64 (r : Nat), .slice a m c], .bool true]) (by simp [results, Try.results46, go_sem, r0, r1, r2]) rfl ⟨_, rfl, ⟨a, m, c, rfl, ?_, by omega⟩, ext3 E_34.out (by omega) _ _ _⟩
  exact Own.mono (own3 HO.out (by omega) _ _ _) (by omega) (by simp)
end Go.Proofs.Ytapaopapgnfdkaa
