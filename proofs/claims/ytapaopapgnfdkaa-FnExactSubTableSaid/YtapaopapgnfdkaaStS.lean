/-
  Tables of subalgebras, in the specification.
-/
import Derived.Test.YtapaopapgnfdkaaStI
import Derived.Test.YtapaopapgnfdkaaLtb
namespace Go.Proofs.Ytapaopapgnfdkaa
open Go.ChangeShapes Go.WideShapes Go.ChangeAt Go.RowKit
set_option linter.unusedVariables false
set_option linter.unusedSimpArgs false

theorem row_flat {D : Nat} (rs : List (List Int)) (h : ∀ x ∈ rs, x.length = D) (q : Nat) (hq : q < rs.length) : row rs q = rowL D rs.flatten q := by
  induction rs generalizing q with
  | nil => simp at hq
  | cons a rs ih =>
    have ha := h a (by simp)
    cases q with
    | zero => simp [row, rowL, List.take_append_of_le_length (Nat.le_of_eq ha.symm), List.take_of_length_le (Nat.le_of_eq ha)]
    | succ q =>
      have h1 := ih (fun x hx => h x (by simp [hx])) q (by simpa using hq)
      rw [rowL, List.flatten_cons, Nat.add_mul, Nat.one_mul, show q * D + D = a.length + q * D by omega, ← List.drop_drop, List.drop_left]
      rw [rowL] at h1
      rw [← h1]
      simp [row]
theorem pRows_mem {P : Int} {D : Nat} {l ss ts : List Int} {R2 : Nat} (i : Nat) : ∀ x ∈ pRows P D l ss ts R2 i, x.length = D ∧ (0 < P → Res x P) := by
  induction i with
  | zero => intro x hx; simp [pRows] at hx
  | succ i ih =>
    intro x hx
    rw [pRows, List.mem_append] at hx
    rcases hx with hx | hx
    · exact ih x hx
    · simp only [bRows, List.mem_map] at hx
      obtain ⟨j, _, rfl⟩ := hx
      exact ⟨brL_len, fun hp => brL_res hp⟩
theorem take_row (QT x : List Int) (r q : Nat) (hx : x.length = r) (hq : (q + 1) * r ≤ QT.length) (h : ∀ k, k < r → gi QT (q * r + k) = gi x k) : QT.take ((q + 1) * r) = QT.take (q * r) ++ x := by
  have hl : (rowL r QT q).length = r := by
    rw [Nat.add_mul, Nat.one_mul] at hq
    simp [rowL]; omega
  have e : rowL r QT q = x := ext_gi (by rw [hl, hx]) (fun k hk => by rw [hl] at hk; rw [gi_rowL hk, at2]; exact h k hk)
  rw [Nat.add_mul, Nat.one_mul, List.take_add, ← e]; rfl

set_option maxRecDepth 100000 in
set_option maxHeartbeats 6400000 in
theorem subTable_spec {P D : Int} {a0 oa n : Nat} {l : List Int} {P1 R1 C1 : Int} {s0 so n1 : Nat} {ss : List Int} {w : World} {p d : Int} {xs : List Int} {ok : Bool} (hT : Reads w (some ⟨a0, oa, none⟩) n l) (hm0 : n ≤ 1048576) (hS : Reads w (some ⟨s0, so, none⟩) n1 ss) (hm1 : n1 ≤ 1048576) (hM : stM P D l P1 R1 C1 ss = (⟨p, d, xs⟩, ok)) :
    Calls Try.prog 45 #[.agg #[.int .i64 P, .int .i64 D, .slice (some ⟨a0, oa, none⟩) n n], .agg #[.int .i64 P1, .int .i64 R1, .int .i64 C1, .slice (some ⟨s0, so, none⟩) n1 n1]] w fun e w' => ∃ v, e = .returned (.tuple #[v, .bool ok]) ∧ Ralg w w' v p d xs ∧ Ext w w' := by
  have HT := Lib.hid hT
  have HS := Lib.hid hS
  rcases h1 : sbaM P D l P1 R1 C1 ss with _ | _
  · simp only [stM, h1, noAlg, Bool.false_eq_true, if_false, Prod.mk.injEq, Alg.mk.injEq] at hM
    obtain ⟨⟨rfl, rfl, rfl⟩, rfl⟩ := hM
    have H1 := Lib.hid h1
    clear h1 hT hS
    go_enter Try.func45, Try.ntmps45
    have A0_1 := Lib.hid (((cells_new' w #[.int .i64 P, .int .i64 D, .slice (some ⟨a0, oa, none⟩) n n] 28 (w.heap.size) (by simp)).ext ((Ext.refl _).alloc (.cells #[.int .i64 P1, .int .i64 R1, .int .i64 C1, .slice (some ⟨s0, so, none⟩) n1 n1] 40))).ext ((Ext.refl _).alloc (.cells #[.int .i64 0, .int .i64 0, .slice none 0 0] 28)))
    have A1_2 := Lib.hid ((cells_new' (w.alloc (.cells #[.int .i64 P, .int .i64 D, .slice (some ⟨a0, oa, none⟩) n n] 28)) #[.int .i64 P1, .int .i64 R1, .int .i64 C1, .slice (some ⟨s0, so, none⟩) n1 n1] 40 (w.heap.size + 1) (by simp)).ext ((Ext.refl _).alloc (.cells #[.int .i64 0, .int .i64 0, .slice none 0 0] 28)))
    have R_3 := Lib.hid (cells_new' ((w.alloc (.cells #[.int .i64 P, .int .i64 D, .slice (some ⟨a0, oa, none⟩) n n] 28)).alloc (.cells #[.int .i64 P1, .int .i64 R1, .int .i64 C1, .slice (some ⟨s0, so, none⟩) n1 n1] 40)) #[.int .i64 0, .int .i64 0, .slice none 0 0] 28 (w.heap.size + 1 + 1) (by simp))
    have E_4 := Lib.hid ((((Ext.refl w).alloc (.cells #[.int .i64 P, .int .i64 D, .slice (some ⟨a0, oa, none⟩) n n] 28)).alloc (.cells #[.int .i64 P1, .int .i64 R1, .int .i64 C1, .slice (some ⟨s0, so, none⟩) n1 n1] 40)).alloc (.cells #[.int .i64 0, .int .i64 0, .slice none 0 0] 28))
    have lA0 := A0_1.out.1
    have qA00 := A0_1.out.2 0 _ rfl
    have qA01 := A0_1.out.2 1 _ rfl
    have qA02 := A0_1.out.2 2 _ rfl
    have lA1 := A1_2.out.1
    have qA10 := A1_2.out.2 0 _ rfl
    have qA11 := A1_2.out.2 1 _ rfl
    have qA12 := A1_2.out.2 2 _ rfl
    have qA13 := A1_2.out.2 3 _ rfl
    try simp only [World.size_alloc] at lA0 lA1
    go_wp2_with fail
    refine (isSubalgebra_spec (HT.out.ext E_4.out) hm0 (HS.out.ext E_4.out) hm1 H1.out).mono ?_
    rintro e w_5 ⟨rfl, h_5⟩
    clear lA0 qA00 qA01 qA02 lA1 qA10 qA11 qA12 qA13
    have A0_6 := Lib.hid (A0_1.out.ext h_5)
    clear A0_1
    have A1_7 := Lib.hid (A1_2.out.ext h_5)
    clear A1_2
    have R_8 := Lib.hid (R_3.out.ext h_5)
    clear R_3
    have E_9 := Lib.hid (E_4.out.trans h_5)
    clear E_4
    have lA0 := A0_6.out.1
    have qA00 := A0_6.out.2 0 _ rfl
    have qA01 := A0_6.out.2 1 _ rfl
    have qA02 := A0_6.out.2 2 _ rfl
    have lA1 := A1_7.out.1
    have qA10 := A1_7.out.2 0 _ rfl
    have qA11 := A1_7.out.2 1 _ rfl
    have qA12 := A1_7.out.2 2 _ rfl
    have qA13 := A1_7.out.2 3 _ rfl
    try simp only [World.size_alloc] at lA0 lA1
    have r0 := R_8.out.2 0 _ rfl
    have r1 := R_8.out.2 1 _ rfl
    have r2 := R_8.out.2 2 _ rfl
    have tR := R_8.out.3
    have lR := R_8.out.1
    go_wp2
    refine bodyPost_ret (v := .tuple #[.agg #[.int .i64 0, .int .i64 0, .slice none 0 0], .bool false]) (by simp [results, Try.results45, go_sem, r0, r1, r2]) rfl ⟨_, rfl, ⟨_, _, _, rfl, own_nil _ _ _, by omega⟩, ext3 E_9.out (by omega) _ _ _⟩
  have H1 := Lib.hid h1
  have hz0 : algB P D l = true := by simp only [sbaM, Bool.and_eq_true] at h1; exact h1.1
  have hz1 : hsB P D P1 R1 C1 ss = true := by simp only [sbaM, Bool.and_eq_true] at h1; exact h1.2.1
  have hz2 := (by simp only [sbaM, Bool.and_eq_true] at h1; exact h1.2.2 : inB2 P (R1.toNat * R1.toNat) R1.toNat D.toNat (pL P D.toNat l ss ss R1.toNat R1.toNat) ss = true)
  simp only [stM, h1, if_true, Prod.mk.injEq, Alg.mk.injEq] at hM
  obtain ⟨⟨rfl, rfl, rfl⟩, rfl⟩ := hM
  obtain ⟨D, rfl, hA⟩ := algB_parts hz0 hT.1
  obtain ⟨r, rfl, rfl, rfl, hrD, hn1, hx1⟩ := hsB_parts hz1 hS.1
  simp only [Int.toNat_natCast] at hz2 ⊢
  have hsp := hsB_space hz1
  obtain ⟨hpr, hsS, _, hls, hk40, hC40⟩ := spaceM_parts hsp
  have hIP := isP_iff.1 hpr
  have hD := hA.dim
  have hp := isP_lo hA.pr
  have hrr := hsS.rref hIP hls hx1
  have hpl : (redM P1 r D ss).pv.length = r := hsS.1
  have hpvl : ∀ t, t < r → (redM P1 r D ss).pv.getD t 0 < D := fun t ht => hrr.lt t (by rw [hpl]; exact ht)
  have hr28 : r ≤ 28 := by omega
  have hbn : (pRows P1 D l ss ss r r).length = r * r := pRows_length _ _ _ _
  have hrow : ∀ q, q < r * r → row (pRows P1 D l ss ss r r) q = rowL D (pL P1 D l ss ss r r) q := fun q hq => row_flat _ (fun x hx => (pRows_mem _ x hx).1) q (by rw [hbn]; exact hq)
  have hmem : ∀ q, q < r * r → row (pRows P1 D l ss ss r r) q ∈ (pRows P1 D l ss ss r r) := fun q hq => by
    rw [row, List.getD_eq_getElem?_getD, List.getElem?_eq_getElem (by rw [hbn]; exact hq)]; exact List.getElem_mem _
  have hbl : ∀ q, q < r * r → (row (pRows P1 D l ss ss r r) q).length = D := fun q hq => (pRows_mem _ _ (hmem q hq)).1
  have hbx : ∀ q, q < r * r → Res (row (pRows P1 D l ss ss r r) q) P1 := fun q hq => (pRows_mem _ _ (hmem q hq)).2 (by omega)
  have hok : ∀ q, q < r * r → solOk P1 D r (transTo ss r D r) (row (pRows P1 D l ss ss r r) q) = true := by
    rw [← with_in hIP (by rw [pL_length, Nat.mul_assoc]) hls (pL_res (by omega) _ _ _ _) hx1] at hz2
    have hw : WithP P1 (r * r) r D (pL P1 D l ss ss r r) ss := Classical.byContradiction (fun e => by rw [withB_false e] at hz2; exact absurd hz2 (by decide))
    intro q hq
    rw [hrow q hq]
    exact hw q hq
  have hco : ∀ q, q < r * r → solL P1 D r (transTo ss r D r) (row (pRows P1 D l ss ss r r) q) = coL (redM P1 r D ss).pv (row (pRows P1 D l ss ss r r) q) := fun q hq => (co_eq hIP hls hx1 hsS (hbx q hq) (hbl q hq)).2 (hok q hq)
  have hsl : ∀ q, q < r * r → (solL P1 D r (transTo ss r D r) (row (pRows P1 D l ss ss r r) q)).length = r := fun q hq => by rw [hco q hq, coL, List.length_map, hpl]
  have hQL : (stT P1 D l ss (redM P1 r D ss).pv r).length = r * r * r := by rw [stT_length, Nat.mul_assoc]
  have hQ : ∀ q, q < r * r → (stT P1 D l ss (redM P1 r D ss).pv r).take ((q + 1) * r) = (stT P1 D l ss (redM P1 r D ss).pv r).take (q * r) ++ solL P1 D r (transTo ss r D r) (row (pRows P1 D l ss ss r r) q) := fun q hq => by
    refine take_row _ _ r q (hsl q hq) (by rw [hQL]; exact Nat.mul_le_mul_right r hq) (fun k hk => ?_)
    have hr0 : 0 < r := by omega
    have hi : q / r < r := Nat.div_lt_of_lt_mul hq
    have hj : q % r < r := Nat.mod_lt _ hr0
    have e : q = q / r * r + q % r := by rw [Nat.mul_comm]; exact (Nat.div_add_mod q r).symm
    have e1 : q * r + k = q / r * (r * r) + (q % r * r + k) := by
      have : q * r = (q / r * r + q % r) * r := by rw [← e]
      rw [this, Nat.add_mul, Nat.mul_assoc]; omega
    have e2 : q * D + (redM P1 r D ss).pv.getD k 0 = q / r * (r * D) + (q % r * D + (redM P1 r D ss).pv.getD k 0) := by
      have : q * D = (q / r * r + q % r) * D := by rw [← e]
      rw [this, Nat.add_mul, Nat.mul_assoc]; omega
    rw [e1, gi_stT hpvl hi hj hk, hco q hq]
    have h9 : gi (coL (redM P1 r D ss).pv (row (pRows P1 D l ss ss r r) q)) k = gi (row (pRows P1 D l ss ss r r) q) ((redM P1 r D ss).pv.getD k 0) := by
      rw [coL, gi, List.getD_eq_getElem?_getD, List.getElem?_map, List.getElem?_eq_getElem (by rw [hpl]; exact hk)]
      simp [List.getD_eq_getElem?_getD, List.getElem?_eq_getElem (show k < (redM P1 r D ss).pv.length by rw [hpl]; exact hk)]
    rw [h9, hrow q hq, gi_rowL (hpvl k hk), at2, e2, gi_pL _ _ _ _ hi hj (hpvl k hk)]
  have HBK : Hid (∀ w1, Ext w w1 → Calls Try.prog 99 #[.agg #[.int .i64 P1, .int .i64 D, .slice (some ⟨a0, oa, none⟩) n n], .agg #[.int .i64 P1, .int .i64 (r : Nat), .int .i64 D, .slice (some ⟨s0, so, none⟩) n1 n1]] w1 fun e w' => ∃ ab cb, e = .returned (.slice ab (r * r) cb) ∧ RowsG w' (w1.heap.size + 1 + 1) (.slice ab (r * r) cb) (pRows P1 D l ss ss r r) ∧ Ext w1 w') := fun w1 h => by
    refine (l2Brackets_spec P1 D a0 oa n n r s0 so n1 n1 l ss w1 (hT.ext h) (hS.ext h) hD hr28 hA.len hn1 (Nat.le_refl _) hpr hA.res hx1).mono ?_
    rintro e w' ⟨v, rfl, hr, hE⟩
    obtain ⟨ab, cb, rfl, _⟩ := hr.shape
    rw [hbn] at hr ⊢
    exact ⟨ab, cb, rfl, hr, hE⟩
  have HTB : Hid (∀ w1 lo ab cb, Ext w w1 → RowsG w1 lo (.slice ab (r * r) cb) (pRows P1 D l ss ss r r) → Calls Try.prog 98 #[.agg #[.int .i64 P1, .int .i64 (r : Nat), .int .i64 D, .slice (some ⟨s0, so, none⟩) n1 n1], .slice ab (r * r) cb] w1 fun e w' => ∃ a c, e = .returned (.tuple #[.agg #[.int .i64 P1, .int .i64 (r : Nat), .slice a (r * r * r) c], .bool true]) ∧ Own w' w1.heap.size w'.heap.size a (r * r * r) (stT P1 D l ss (redM P1 r D ss).pv r) ∧ Ext w1 w') := fun w1 lo ab cb h hb =>
    l2Table_spec P1 r D n1 n1 s0 so lo cb ab ss _ _ w1 hpr (hS.ext h) hn1 hr28 (by omega) hx1 hb hbl hbx hok hsl hQ hQL
  have hK3 : r * r * r ≤ 21952 := cube28 hr28
  clear hT hS h1 hz0 hz1 hz2 hn1 hx1 hsp hpr hsS hls hk40 hC40 hIP hrr hA hpvl hpl hbn hrow hmem hbl hbx hok hco hsl hQL hQ
  generalize stT P1 D l ss (redM P1 r D ss).pv r = QT at *
  generalize (pRows P1 D l ss ss r r) = brs at *
  generalize hRR : r * r = RR at *
  generalize hR3 : RR * r = R3 at *
  clear hRR hR3
  go_enter Try.func45, Try.ntmps45
  have A0_1 := Lib.hid (((cells_new' w #[.int .i64 P1, .int .i64 D, .slice (some ⟨a0, oa, none⟩) n n] 28 (w.heap.size) (by simp)).ext ((Ext.refl _).alloc (.cells #[.int .i64 P1, .int .i64 (r : Nat), .int .i64 D, .slice (some ⟨s0, so, none⟩) n1 n1] 40))).ext ((Ext.refl _).alloc (.cells #[.int .i64 0, .int .i64 0, .slice none 0 0] 28)))
  have A1_2 := Lib.hid ((cells_new' (w.alloc (.cells #[.int .i64 P1, .int .i64 D, .slice (some ⟨a0, oa, none⟩) n n] 28)) #[.int .i64 P1, .int .i64 (r : Nat), .int .i64 D, .slice (some ⟨s0, so, none⟩) n1 n1] 40 (w.heap.size + 1) (by simp)).ext ((Ext.refl _).alloc (.cells #[.int .i64 0, .int .i64 0, .slice none 0 0] 28)))
  have R_3 := Lib.hid (cells_new' ((w.alloc (.cells #[.int .i64 P1, .int .i64 D, .slice (some ⟨a0, oa, none⟩) n n] 28)).alloc (.cells #[.int .i64 P1, .int .i64 (r : Nat), .int .i64 D, .slice (some ⟨s0, so, none⟩) n1 n1] 40)) #[.int .i64 0, .int .i64 0, .slice none 0 0] 28 (w.heap.size + 1 + 1) (by simp))
  have E_4 := Lib.hid ((((Ext.refl w).alloc (.cells #[.int .i64 P1, .int .i64 D, .slice (some ⟨a0, oa, none⟩) n n] 28)).alloc (.cells #[.int .i64 P1, .int .i64 (r : Nat), .int .i64 D, .slice (some ⟨s0, so, none⟩) n1 n1] 40)).alloc (.cells #[.int .i64 0, .int .i64 0, .slice none 0 0] 28))
  have lA0 := A0_1.out.1
  have qA00 := A0_1.out.2 0 _ rfl
  have qA01 := A0_1.out.2 1 _ rfl
  have qA02 := A0_1.out.2 2 _ rfl
  have lA1 := A1_2.out.1
  have qA10 := A1_2.out.2 0 _ rfl
  have qA11 := A1_2.out.2 1 _ rfl
  have qA12 := A1_2.out.2 2 _ rfl
  have qA13 := A1_2.out.2 3 _ rfl
  try simp only [World.size_alloc] at lA0 lA1
  go_wp2_with fail
  refine (isSubalgebra_spec (HT.out.ext E_4.out) hm0 (HS.out.ext E_4.out) hm1 H1.out).mono ?_
  rintro e w_5 ⟨rfl, h_5⟩
  clear lA0 qA00 qA01 qA02 lA1 qA10 qA11 qA12 qA13
  have A0_6 := Lib.hid (A0_1.out.ext h_5)
  clear A0_1
  have A1_7 := Lib.hid (A1_2.out.ext h_5)
  clear A1_2
  have R_8 := Lib.hid (R_3.out.ext h_5)
  clear R_3
  have E_9 := Lib.hid (E_4.out.trans h_5)
  clear E_4
  have lA0 := A0_6.out.1
  have qA00 := A0_6.out.2 0 _ rfl
  have qA01 := A0_6.out.2 1 _ rfl
  have qA02 := A0_6.out.2 2 _ rfl
  have lA1 := A1_7.out.1
  have qA10 := A1_7.out.2 0 _ rfl
  have qA11 := A1_7.out.2 1 _ rfl
  have qA12 := A1_7.out.2 2 _ rfl
  have qA13 := A1_7.out.2 3 _ rfl
  try simp only [World.size_alloc] at lA0 lA1
  have lR := R_8.out.1
  have qR0 := R_8.out.2 0 _ rfl
  have qR1 := R_8.out.2 1 _ rfl
  have qR2 := R_8.out.2 2 _ rfl
  have tR := R_8.out.3
  have gB : w.heap.size ≤ w.heap.size + 1 + 1 := by omega
  go_wp2_with fail
  go_region_held3 (fun w' => Ext w w' ∧ w.heap.size + 1 + 1 ≤ w'.heap.size ∧ ∀ b o, b < w.heap.size + 1 + 1 → w'.cell? ⟨b, o, none⟩ = w_5.cell? ⟨b, o, none⟩) (first | (with_reducible exact KeptR.call ‹Ext w _ ∧ w.heap.size + 1 + 1 ≤ _ ∧ _› ‹Ext _ _›) | exact ⟨E_9.out, Nat.le_of_lt lR, fun _ _ _ => rfl⟩ | exact ⟨E_9.out.drew, Nat.le_of_lt lR, fun _ _ _ => rfl⟩ | assumption | (with_reducible exact KeptR.set3' ‹Ext w _ ∧ w.heap.size + 1 + 1 ≤ _ ∧ _› gB _ _ _)) (first
    | (go_at_call 99; (with_reducible refine (HBK.out _ (And.left ‹Ext w _ ∧ w.heap.size + 1 + 1 ≤ _ ∧ _›)).mono ?_); rintro e w3 ⟨ab, cb, rfl, hrw, h3⟩)
    | (go_at_call 98; (with_reducible refine (HTB.out _ _ ab cb (And.left ‹Ext w _ ∧ w.heap.size + 1 + 1 ≤ _ ∧ _›) hrw).mono ?_); rintro e w6 ⟨av, cv, rfl, hov, h6⟩; have hall : Ext w_5 w6 := (Ext.trans (Ext.trans (Ext.drew (Ext.refl _)) h3) h6); have c0 := (hall.cells _ 0 lR).trans qR0; have c1 := (hall.cells _ 1 lR).trans qR1; have c2 := (hall.cells _ 2 lR).trans qR2; have f1 : ∀ j, w6.frozen? ⟨w.heap.size + 1 + 1, j, none⟩ = false := fun j => (hall.frees _ j lR).trans (tR j)))
  have hx2 := (‹Ext w _ ∧ w.heap.size + 1 + 1 ≤ _ ∧ _› : Ext w _ ∧ w.heap.size + 1 + 1 ≤ _ ∧ _).1
  have hb0 : w_5.heap.size ≤ w3.heap.size := (Ext.trans (Ext.drew (Ext.refl w_5)) h3).le
  go_wp2
  refine bodyPost_ret (v := .tuple #[.agg #[.int .i64 P1, .int .i64 (r : Nat), .slice av R3 cv], .bool true]) (by simp [results, Try.results45, go_sem, c0, c1, c2]) rfl ⟨_, rfl, ⟨av, R3, cv, rfl, ?_, by omega⟩, hx2⟩
  exact Own.mono (own3 hov (by omega) _ _ _) (by omega) (by simp)
end Go.Proofs.Ytapaopapgnfdkaa
