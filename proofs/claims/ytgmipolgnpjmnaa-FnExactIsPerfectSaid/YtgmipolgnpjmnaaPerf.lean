/-
  Whether an algebra is perfect: both texts.
-/
import Derived.Test.YtgmipolgnpjmnaaPrS
namespace Go.Proofs.Ytgmipolgnpjmnaa
open Go.ChangeShapes Go.WideShapes Go.ChangeAt Go.RowKit
set_option linter.unusedVariables false
set_option linter.unusedSimpArgs false

noncomputable def perfB (P D : Int) (l : List Int) : Bool := algB P D l && (((redM P (D.toNat * D.toNat) D.toNat l).pv.length : Int) == D)
set_option maxRecDepth 100000 in
theorem run_field1 (v0 v1 v2 v3 : Value) (w : World) : (Instr.field 36 (.agg #[v0, v1, v2, v3]) 1).run Try.prog w = .ok v1 w := by rfl

set_option maxRecDepth 100000 in
set_option maxHeartbeats 1600000 in
theorem bracketRows_impl (P : Int) (D B a0 oa n d : Nat) (w : World) (hc : Cells w B [.int .i64 P, .int .i64 D, .slice (some ⟨a0, oa, none⟩) n d]) (hD : D ≤ 28) :
    Calls Try.prog 65 #[.pointer (some ⟨B, 0, none⟩)] w fun e w' => e = .returned (.agg #[.int .i64 P, .int .i64 ((D * D : Nat) : Int), .int .i64 D, .slice (some ⟨a0, oa, none⟩) n d]) ∧ Ext w w' := by
  have h27 : D * D ≤ 784 := Nat.mul_le_mul hD hD
  have e1 : (D : Int) * (D : Int) = ((D * D : Nat) : Int) := by simp
  have E1 := Lib.hid e1
  have g1 : 0 ≤ (D : Int) * (D : Int) := by rw [e1]; omega
  have g2 : (D : Int) * (D : Int) ≤ 784 := by rw [e1]; omega
  have v1 : IntKind.i64.wrap ((D : Int) * (D : Int)) = (D : Int) * (D : Int) := IntWalk.i64_in _ ⟨by omega, by omega⟩
  have lB := hc.1
  have q0 := hc.2 0 _ rfl
  have q1 := hc.2 1 _ rfl
  have q2 := hc.2 2 _ rfl
  have HE0 := Lib.hid (Ext.refl w)
  clear e1 hc
  rw [← E1.out]
  go_enter Try.func65, Try.ntmps65
  go_wp2_with fail
  go_region_held3 (fun w' => Ext w w' ∧ (∀ b o, b < w.heap.size → w'.cell? ⟨b, o, none⟩ = w.cell? ⟨b, o, none⟩)) ((refine ext2 ?_; with_reducible repeat (first | exact Ext.refl _ | exact And.left ‹Ext w _ ∧ _› | refine Ext.drew ?_ | refine Ext.drewN ?_ _ | refine Ext.alloc ?_ _ | refine Ext.setCell ?_ (by simp <;> omega) _))) (fail)
  go_wp2_with fail
  refine bodyPost_ret (v := .agg #[.int .i64 P, .int .i64 ((D : Int) * (D : Int)), .int .i64 D, .slice (some ⟨a0, oa, none⟩) n d]) (by simp [results, Try.results65, go_sem]) rfl ⟨rfl, ?_⟩
  with_reducible repeat (first | exact Ext.refl _ | refine Ext.drew ?_ | refine Ext.drewN ?_ _ | refine Ext.alloc ?_ _ | refine Ext.setCell ?_ (by simp <;> omega) _)

set_option maxHeartbeats 800000 in
theorem l2All_spec (P : Int) (D a0 oa n d : Nat) (w : World) (hD : D ≤ 28) :
    Calls Try.prog 64 #[.agg #[.int .i64 P, .int .i64 D, .slice (some ⟨a0, oa, none⟩) n d]] w fun e w' => ∃ b, e = .returned (.agg #[.int .i64 P, .int .i64 D, .int .i64 D, .slice (some ⟨b, 0, none⟩) (D * D) (D * D)]) ∧ w.heap.size ≤ b ∧ b < w'.heap.size ∧ Has w' b (unitTo D D) ∧ Ext w w' := by
  have A0 := Lib.hid ((cells_new' w #[.int .i64 P, .int .i64 D, .slice (some ⟨a0, oa, none⟩) n d] 26 w.heap.size rfl).ext ((Ext.refl _).alloc (.cells #[.int .i64 0, .int .i64 0, .int .i64 0, .slice none 0 0] 36)))
  have R0 := Lib.hid (cells_new' (w.alloc (.cells #[.int .i64 P, .int .i64 D, .slice (some ⟨a0, oa, none⟩) n d] 26)) #[.int .i64 0, .int .i64 0, .int .i64 0, .slice none 0 0] 36 (w.heap.size + 1) (by simp))
  have E0 := Lib.hid (((Ext.refl w).alloc (.cells #[.int .i64 P, .int .i64 D, .slice (some ⟨a0, oa, none⟩) n d] 26)).alloc (.cells #[.int .i64 0, .int .i64 0, .int .i64 0, .slice none 0 0] 36))
  have lA := A0.out.1
  have q0 := A0.out.2 0 _ rfl
  have q1 := A0.out.2 1 _ rfl
  try simp only [World.size_alloc] at lA
  have hlr := R0.out.1
  go_enter Try.func64, Try.ntmps64
  go_wp2_with fail
  refine (l1Unit_spec P D _ (by omega)).mono ?_
  rintro e w1 ⟨b, rfl, hb1, hb2, hh, h1⟩
  have R1 := R0.out.ext h1
  have E1 := Lib.hid (E0.out.trans h1)
  have HH := Lib.hid hh
  simp only [World.size_alloc] at hb1
  clear hh lA q0 q1
  have r0 := R1.2 0 _ rfl
  have r1 := R1.2 1 _ rfl
  have r2 := R1.2 2 _ rfl
  have r3 := R1.2 3 _ rfl
  have tR := R1.3
  have lR := R1.1
  clear h1 R1
  go_wp2
  refine bodyPost_ret (v := .agg #[.int .i64 P, .int .i64 D, .int .i64 D, .slice (some ⟨b, 0, none⟩) (D * D) (D * D)]) (by simp [results, Try.results64, go_sem, r0, r1, r2, r3]) rfl ⟨b, rfl, by omega, ?_, ?_, ?_⟩
  · simpa using hb2
  · repeat with_reducible (first | exact HH.out | refine Has.setOther ?_ (by simp <;> omega) _)
  · exact ext4 E1.out (by omega) _ _ _ _

set_option maxRecDepth 100000 in
set_option maxHeartbeats 3200000 in
theorem isPerfect_spec {P D : Int} {a0 oa n : Nat} {l : List Int} {w : World} {i : Bool} (hT : Reads w (some ⟨a0, oa, none⟩) n l) (hm : n ≤ 1048576) (hM : perfB P D l = i) :
    Calls Try.prog 29 #[.agg #[.int .i64 P, .int .i64 D, .slice (some ⟨a0, oa, none⟩) n n]] w fun e w' => e = .returned (.bool i) ∧ Ext w w' := by
  subst hM
  have HT := Lib.hid hT
  have HA : Hid (perfB P D l = (algB P D l && (((redM P (D.toNat * D.toNat) D.toNat l).pv.length : Int) == D))) := rfl
  generalize perfB P D l = q at HA
  rcases h1 : algB P D l with _ | _
  · have HF : Hid (q = false) := by rw [Hid, HA.out, h1]; rfl
    have H1 := Lib.hid h1
    clear h1 hT HA
    go_enter Try.func29, Try.ntmps29
    have A0 := Lib.hid (cells_new' w #[.int .i64 P, .int .i64 D, .slice (some ⟨a0, oa, none⟩) n n] 26 w.heap.size rfl)
    have E0 := Lib.hid ((Ext.refl w).alloc (.cells #[.int .i64 P, .int .i64 D, .slice (some ⟨a0, oa, none⟩) n n] 26))
    have lA := A0.out.1
    have q0 := A0.out.2 0 _ rfl
    have q1 := A0.out.2 1 _ rfl
    have q2 := A0.out.2 2 _ rfl
    go_wp2_with fail
    generalize (w.alloc (.cells #[.int .i64 P, .int .i64 D, .slice (some ⟨a0, oa, none⟩) n n] 26)) = W1 at *
    refine wp_region_held_drew (S := (fun w' => Ext W1 w' ∧ (∀ b o, b < W1.heap.size → w'.cell? ⟨b, o, none⟩ = W1.cell? ⟨b, o, none⟩))) (by kernel_rfl) (ext2 (Ext.refl _).drew) (fun hHeld => ?_)
    refine wpAnyH_take (i := 0) (v := ?v1) rfl (by kernel_rfl) (by kernel_rfl) (by kernel_rfl) (fun _ _ _ h => h) (Or.inl ⟨by rfl, ?hy1⟩) hHeld ?rest1
    case hy1 => (intro wz hSw; (try dsimp only at hSw); go_simp; (try with_reducible rfl))
    (try simp only [Act.put, List.getElem_toArray, List.getElem_cons_succ, List.getElem_cons_zero]); (try simp only [List.setIfInBounds_toArray]); (try simp only [List.set_cons_succ]); (try simp only [List.set_cons_zero])
    refine wpAnyH_ready (rs := [1]) (by kernel_rfl) (by simp) ?_
    refine AllReadyH.cons rfl (fun K' hK => ?_) AllReadyH.nil
    go_simp
    refine (algebraOk_spec (HT.out.ext (E0.out.trans (Ext.refl _).drew)) hm H1.out).mono ?_
    rintro e w4 ⟨rfl, h4⟩
    dsimp only
    refine hK.out _ _ (ext2 ((Ext.drew (Ext.refl _)).trans h4)) (fun hHeld => ?_)
    clear hK
    refine wpAnyH_take (i := 2) (v := ?v2) rfl (by kernel_rfl) (by kernel_rfl) (by kernel_rfl) (fun _ _ _ h => h) (Or.inl ⟨by rfl, ?hy2⟩) hHeld ?rest2
    case hy2 => (intro wz hSw; (try dsimp only at hSw); go_simp; (try with_reducible rfl))
    (try simp only [Act.put, List.getElem_toArray, List.getElem_cons_succ, List.getElem_cons_zero]); (try simp only [List.setIfInBounds_toArray]); (try simp only [List.set_cons_succ]); (try simp only [List.set_cons_zero])
    refine wpAnyH_take (i := 3) (v := undef) rfl (by kernel_rfl) (by kernel_rfl) (by kernel_rfl) (fun _ _ _ h => h) (Or.inr ⟨by rfl, rfl⟩) hHeld ?rest3
    (try simp only [Act.put, List.getElem_toArray, List.getElem_cons_succ, List.getElem_cons_zero]); (try simp only [List.setIfInBounds_toArray]); (try simp only [List.set_cons_succ]); (try simp only [List.set_cons_zero])
    refine wpAnyH_take (i := 4) (v := undef) rfl (by kernel_rfl) (by kernel_rfl) (by kernel_rfl) (fun _ _ _ h => h) (Or.inr ⟨by rfl, rfl⟩) hHeld ?rest4
    (try simp only [Act.put, List.getElem_toArray, List.getElem_cons_succ, List.getElem_cons_zero]); (try simp only [List.setIfInBounds_toArray]); (try simp only [List.set_cons_succ]); (try simp only [List.set_cons_zero])
    refine wpAnyH_take (i := 5) (v := undef) rfl (by kernel_rfl) (by kernel_rfl) (by kernel_rfl) (fun _ _ _ h => h) (Or.inr ⟨by rfl, rfl⟩) hHeld ?rest5
    (try simp only [Act.put, List.getElem_toArray, List.getElem_cons_succ, List.getElem_cons_zero]); (try simp only [List.setIfInBounds_toArray]); (try simp only [List.set_cons_succ]); (try simp only [List.set_cons_zero])
    refine wpAnyH_take (i := 6) (v := undef) rfl (by kernel_rfl) (by kernel_rfl) (by kernel_rfl) (fun _ _ _ h => h) (Or.inr ⟨by rfl, rfl⟩) hHeld ?rest6
    (try simp only [Act.put, List.getElem_toArray, List.getElem_cons_succ, List.getElem_cons_zero]); (try simp only [List.setIfInBounds_toArray]); (try simp only [List.set_cons_succ]); (try simp only [List.set_cons_zero])
    refine wpAnyH_take (i := 7) (v := undef) rfl (by kernel_rfl) (by kernel_rfl) (by kernel_rfl) (fun _ _ _ h => h) (Or.inr ⟨by rfl, rfl⟩) hHeld ?rest7
    (try simp only [Act.put, List.getElem_toArray, List.getElem_cons_succ, List.getElem_cons_zero]); (try simp only [List.setIfInBounds_toArray]); (try simp only [List.set_cons_succ]); (try simp only [List.set_cons_zero])
    refine wpAnyH_take (i := 8) (v := undef) rfl (by kernel_rfl) (by kernel_rfl) (by kernel_rfl) (fun _ _ _ h => h) (Or.inr ⟨by rfl, rfl⟩) hHeld ?rest8
    (try simp only [Act.put, List.getElem_toArray, List.getElem_cons_succ, List.getElem_cons_zero]); (try simp only [List.setIfInBounds_toArray]); (try simp only [List.set_cons_succ]); (try simp only [List.set_cons_zero])
    refine wpAnyH_take (i := 9) (v := undef) rfl (by kernel_rfl) (by kernel_rfl) (by kernel_rfl) (fun _ _ _ h => h) (Or.inr ⟨by rfl, rfl⟩) hHeld ?rest9
    (try simp only [Act.put, List.getElem_toArray, List.getElem_cons_succ, List.getElem_cons_zero]); (try simp only [List.setIfInBounds_toArray]); (try simp only [List.set_cons_succ]); (try simp only [List.set_cons_zero])
    refine wpAnyH_take (i := 10) (v := undef) rfl (by kernel_rfl) (by kernel_rfl) (by kernel_rfl) (fun _ _ _ h => h) (Or.inr ⟨by rfl, rfl⟩) hHeld ?rest10
    (try simp only [Act.put, List.getElem_toArray, List.getElem_cons_succ, List.getElem_cons_zero]); (try simp only [List.setIfInBounds_toArray]); (try simp only [List.set_cons_succ]); (try simp only [List.set_cons_zero])
    refine wpAnyH_take (i := 11) (v := undef) rfl (by kernel_rfl) (by kernel_rfl) (by kernel_rfl) (fun _ _ _ h => h) (Or.inr ⟨by rfl, rfl⟩) hHeld ?rest11
    (try simp only [Act.put, List.getElem_toArray, List.getElem_cons_succ, List.getElem_cons_zero]); (try simp only [List.setIfInBounds_toArray]); (try simp only [List.set_cons_succ]); (try simp only [List.set_cons_zero])
    refine wpAnyH_take (i := 12) (v := undef) rfl (by kernel_rfl) (by kernel_rfl) (by kernel_rfl) (fun _ _ _ h => h) (Or.inr ⟨by rfl, rfl⟩) hHeld ?rest12
    (try simp only [Act.put, List.getElem_toArray, List.getElem_cons_succ, List.getElem_cons_zero]); (try simp only [List.setIfInBounds_toArray]); (try simp only [List.set_cons_succ]); (try simp only [List.set_cons_zero])
    refine wpAnyH_take (i := 13) (v := ?v13) rfl (by kernel_rfl) (by kernel_rfl) (by kernel_rfl) (fun _ _ _ h => h) (Or.inl ⟨by rfl, ?hy13⟩) hHeld ?rest13
    case hy13 => (intro wz hSw; (try dsimp only at hSw); go_simp; (try with_reducible rfl))
    (try simp only [Act.put, List.getElem_toArray, List.getElem_cons_succ, List.getElem_cons_zero]); (try simp only [List.setIfInBounds_toArray]); (try simp only [List.set_cons_succ]); (try simp only [List.set_cons_zero])
    refine wpAnyH_take (i := 14) (v := ?v14) rfl (by kernel_rfl) (by kernel_rfl) (by kernel_rfl) (fun _ _ _ h => h) (Or.inl ⟨by rfl, ?hy14⟩) hHeld ?rest14
    case hy14 => (intro wz hSw; (try dsimp only at hSw); go_simp; (try with_reducible rfl))
    (try simp only [Act.put, List.getElem_toArray, List.getElem_cons_succ, List.getElem_cons_zero]); (try simp only [List.setIfInBounds_toArray]); (try simp only [List.set_cons_succ]); (try simp only [List.set_cons_zero])
    refine wpAnyH_done (by kernel_rfl) ?_ _
    have E9 := Lib.hid (E0.out.trans ((Ext.drew (Ext.refl _)).trans h4))
    clear hHeld
    go_wp2
    go_ret
    exact ⟨ret_bool HF.out.symm, E9.out⟩
  obtain ⟨D, rfl, hA⟩ := algB_parts h1 hT.1
  have H1 := Lib.hid h1
  have HF : Hid (q = (((redM P (D * D) D l).pv.length : Int) == (D : Int))) := by rw [Hid, HA.out, h1, Int.toNat_natCast]; rfl
  have HPR := Lib.hid hA.pr
  have hp := isP_lo hA.pr
  have hD := hA.dim
  have HN := Lib.hid hA.len
  have HRL := Lib.hid hA.res
  have HLL : Hid (l.length = D * D * D) := by rw [Hid, hT.1, hA.len]
  have hpu := pL_units hA.res HLL.out
  have h27 : D * D ≤ 784 := Nat.mul_le_mul hD hD
  have HPRD : Hid (∀ w1 b1 b2, Ext w w1 → Has w1 b1 (unitTo D D) → Has w1 b2 (unitTo D D) → Calls Try.prog 60 #[.agg #[.int .i64 P, .int .i64 D, .slice (some ⟨a0, oa, none⟩) n n], .agg #[.int .i64 P, .int .i64 D, .int .i64 D, .slice (some ⟨b1, 0, none⟩) (D * D) (D * D)], .agg #[.int .i64 P, .int .i64 D, .int .i64 D, .slice (some ⟨b2, 0, none⟩) (D * D) (D * D)]] w1 fun e w' => ∃ v3, e = .returned (.agg #[.int .i64 P, .int .i64 ((redM P (D * D) D l).pv.length : Nat), .int .i64 D, v3]) ∧ Ext w1 w') := fun w1 b1 b2 hw1 k1 k2 => by
    refine (l2Product_spec P D a0 oa n n D D b1 0 (D * D) (D * D) b2 0 (D * D) (D * D) l (unitTo D D) (unitTo D D) w1 (hT.ext hw1) (k1.reads (unitTo_length D D)) (k2.reads (unitTo_length D D)) hD hD hD hA.len rfl rfl (Nat.le_refl _) (by unfold maxLen; omega) (Nat.le_refl _) (by unfold maxLen; omega) hA.pr hA.res (unitTo_res2 P hp D D) (unitTo_res2 P hp D D)).mono ?_
    rintro e w' ⟨b, c', rfl, _, _, _, h5, _⟩
    rw [hpu]
    exact ⟨_, rfl, h5⟩
  clear h1 hT HA hA hpu
  have hf1 := run_field1
  generalize (redM P (D * D) D l).pv.length = K at *
  go_enter Try.func29, Try.ntmps29
  have A0 := Lib.hid (cells_new' w #[.int .i64 P, .int .i64 D, .slice (some ⟨a0, oa, none⟩) n n] 26 w.heap.size rfl)
  have E0 := Lib.hid ((Ext.refl w).alloc (.cells #[.int .i64 P, .int .i64 D, .slice (some ⟨a0, oa, none⟩) n n] 26))
  have lA := A0.out.1
  have q0 := A0.out.2 0 _ rfl
  have q1 := A0.out.2 1 _ rfl
  have q2 := A0.out.2 2 _ rfl
  go_wp2_with fail
  generalize (w.alloc (.cells #[.int .i64 P, .int .i64 D, .slice (some ⟨a0, oa, none⟩) n n] 26)) = W1 at *
  go_region_held3 (fun w' => Ext W1 w' ∧ (∀ b o, b < W1.heap.size → w'.cell? ⟨b, o, none⟩ = W1.cell? ⟨b, o, none⟩)) (first | assumption | (with_reducible exact ext2 (Ext.trans (And.left ‹Ext W1 _ ∧ _›) ‹Ext _ _›)) | (refine ext2 ?_; with_reducible repeat (first | exact Ext.refl _ | exact And.left ‹Ext W1 _ ∧ _› | refine Ext.drew ?_ | refine Ext.drewN ?_ _))) (first
    | (go_at_call 50; (with_reducible refine (algebraOk_spec (HT.out.ext (E0.out.trans (And.left ‹Ext W1 _ ∧ _›))) hm H1.out).mono ?_); rintro e w4 ⟨rfl, h4⟩)
    | (have := kU; go_at_call 64; (with_reducible refine (l2All_spec P D a0 oa n n _ hD).mono ?_); rintro e wV ⟨bV, rfl, _, _, kV, hV⟩)
    | (go_at_call 64; (with_reducible refine (l2All_spec P D a0 oa n n _ hD).mono ?_); rintro e wU ⟨bU, rfl, _, _, kU, hU⟩)
    | (go_at_call 60; (with_reducible refine (HPRD.out _ _ _ (E0.out.trans (And.left ‹Ext W1 _ ∧ _›)) (by first | exact kU.ext hV | exact kV) (by first | exact kV | exact kU.ext hV)).mono ?_); rintro e w6 ⟨v3, rfl, h6⟩))
  all_goals
    have E9 := Lib.hid (E0.out.trans (And.left ‹Ext W1 w6 ∧ _›))
    go_wp2
    go_ret
    rw [HF.out]
    exact ⟨rfl, E9.out⟩

set_option maxRecDepth 100000 in
set_option maxHeartbeats 3200000 in
theorem isPerfect_impl {P D : Int} {a0 oa n : Nat} {l : List Int} {w : World} {i : Bool} (hT : Reads w (some ⟨a0, oa, none⟩) n l) (hm : n ≤ 1048576) (hM : perfB P D l = i) :
    Calls Try.prog 30 #[.agg #[.int .i64 P, .int .i64 D, .slice (some ⟨a0, oa, none⟩) n n]] w fun e w' => e = .returned (.bool i) ∧ Ext w w' := by
  subst hM
  have HT := Lib.hid hT
  have HA : Hid (perfB P D l = (algB P D l && (((redM P (D.toNat * D.toNat) D.toNat l).pv.length : Int) == D))) := rfl
  generalize perfB P D l = q at HA
  rcases h1 : algB P D l with _ | _
  · have HF : Hid (q = false) := by rw [Hid, HA.out, h1]; rfl
    have H1 := Lib.hid h1
    clear h1 hT HA
    go_enter Try.func30, Try.ntmps30
    have E0 := Lib.hid ((Ext.refl w).alloc (.cells #[.int .i64 P, .int .i64 D, .slice (some ⟨a0, oa, none⟩) n n] 26))
    go_wp2_with fail
    refine (wrap_impl P D a0 oa n n l _ (HT.out.ext E0.out) hm (Nat.le_refl _) (by unfold maxLen; omega)).mono ?_
    rintro e W1 ⟨B, rfl, hb, hlo, h1x⟩
    have E1 := Lib.hid (E0.out.trans h1x)
    clear hb h1x hlo
    rw [H1.out]
    go_wp2_with fail
    refine wp_region_held_drew (S := (fun w' => Ext W1 w' ∧ (∀ b o, b < W1.heap.size → w'.cell? ⟨b, o, none⟩ = W1.cell? ⟨b, o, none⟩))) (by kernel_rfl) (ext2 (Ext.refl _).drew) (fun hHeld => ?_)
    refine wpAnyH_take (i := 0) (v := ?v15) rfl (by kernel_rfl) (by kernel_rfl) (by kernel_rfl) (fun _ _ _ h => h) (Or.inl ⟨by rfl, ?hy15⟩) hHeld ?rest15
    case hy15 => (intro wz hSw; (try dsimp only at hSw); go_simp; (try with_reducible rfl))
    (try simp only [Act.put, List.getElem_toArray, List.getElem_cons_succ, List.getElem_cons_zero]); (try simp only [List.setIfInBounds_toArray]); (try simp only [List.set_cons_succ]); (try simp only [List.set_cons_zero])
    refine wpAnyH_take (i := 1) (v := ?v16) rfl (by kernel_rfl) (by kernel_rfl) (by kernel_rfl) (fun _ _ _ h => h) (Or.inl ⟨by rfl, ?hy16⟩) hHeld ?rest16
    case hy16 => (intro wz hSw; (try dsimp only at hSw); go_simp; (try with_reducible rfl))
    (try simp only [Act.put, List.getElem_toArray, List.getElem_cons_succ, List.getElem_cons_zero]); (try simp only [List.setIfInBounds_toArray]); (try simp only [List.set_cons_succ]); (try simp only [List.set_cons_zero])
    refine wpAnyH_take (i := 2) (v := undef) rfl (by kernel_rfl) (by kernel_rfl) (by kernel_rfl) (fun _ _ _ h => h) (Or.inr ⟨by rfl, rfl⟩) hHeld ?rest17
    (try simp only [Act.put, List.getElem_toArray, List.getElem_cons_succ, List.getElem_cons_zero]); (try simp only [List.setIfInBounds_toArray]); (try simp only [List.set_cons_succ]); (try simp only [List.set_cons_zero])
    refine wpAnyH_take (i := 3) (v := undef) rfl (by kernel_rfl) (by kernel_rfl) (by kernel_rfl) (fun _ _ _ h => h) (Or.inr ⟨by rfl, rfl⟩) hHeld ?rest18
    (try simp only [Act.put, List.getElem_toArray, List.getElem_cons_succ, List.getElem_cons_zero]); (try simp only [List.setIfInBounds_toArray]); (try simp only [List.set_cons_succ]); (try simp only [List.set_cons_zero])
    refine wpAnyH_take (i := 4) (v := undef) rfl (by kernel_rfl) (by kernel_rfl) (by kernel_rfl) (fun _ _ _ h => h) (Or.inr ⟨by rfl, rfl⟩) hHeld ?rest19
    (try simp only [Act.put, List.getElem_toArray, List.getElem_cons_succ, List.getElem_cons_zero]); (try simp only [List.setIfInBounds_toArray]); (try simp only [List.set_cons_succ]); (try simp only [List.set_cons_zero])
    refine wpAnyH_take (i := 5) (v := undef) rfl (by kernel_rfl) (by kernel_rfl) (by kernel_rfl) (fun _ _ _ h => h) (Or.inr ⟨by rfl, rfl⟩) hHeld ?rest20
    (try simp only [Act.put, List.getElem_toArray, List.getElem_cons_succ, List.getElem_cons_zero]); (try simp only [List.setIfInBounds_toArray]); (try simp only [List.set_cons_succ]); (try simp only [List.set_cons_zero])
    refine wpAnyH_take (i := 6) (v := undef) rfl (by kernel_rfl) (by kernel_rfl) (by kernel_rfl) (fun _ _ _ h => h) (Or.inr ⟨by rfl, rfl⟩) hHeld ?rest21
    (try simp only [Act.put, List.getElem_toArray, List.getElem_cons_succ, List.getElem_cons_zero]); (try simp only [List.setIfInBounds_toArray]); (try simp only [List.set_cons_succ]); (try simp only [List.set_cons_zero])
    refine wpAnyH_take (i := 7) (v := undef) rfl (by kernel_rfl) (by kernel_rfl) (by kernel_rfl) (fun _ _ _ h => h) (Or.inr ⟨by rfl, rfl⟩) hHeld ?rest22
    (try simp only [Act.put, List.getElem_toArray, List.getElem_cons_succ, List.getElem_cons_zero]); (try simp only [List.setIfInBounds_toArray]); (try simp only [List.set_cons_succ]); (try simp only [List.set_cons_zero])
    refine wpAnyH_take (i := 8) (v := undef) rfl (by kernel_rfl) (by kernel_rfl) (by kernel_rfl) (fun _ _ _ h => h) (Or.inr ⟨by rfl, rfl⟩) hHeld ?rest23
    (try simp only [Act.put, List.getElem_toArray, List.getElem_cons_succ, List.getElem_cons_zero]); (try simp only [List.setIfInBounds_toArray]); (try simp only [List.set_cons_succ]); (try simp only [List.set_cons_zero])
    refine wpAnyH_take (i := 9) (v := undef) rfl (by kernel_rfl) (by kernel_rfl) (by kernel_rfl) (fun _ _ _ h => h) (Or.inr ⟨by rfl, rfl⟩) hHeld ?rest24
    (try simp only [Act.put, List.getElem_toArray, List.getElem_cons_succ, List.getElem_cons_zero]); (try simp only [List.setIfInBounds_toArray]); (try simp only [List.set_cons_succ]); (try simp only [List.set_cons_zero])
    refine wpAnyH_take (i := 10) (v := undef) rfl (by kernel_rfl) (by kernel_rfl) (by kernel_rfl) (fun _ _ _ h => h) (Or.inr ⟨by rfl, rfl⟩) hHeld ?rest25
    (try simp only [Act.put, List.getElem_toArray, List.getElem_cons_succ, List.getElem_cons_zero]); (try simp only [List.setIfInBounds_toArray]); (try simp only [List.set_cons_succ]); (try simp only [List.set_cons_zero])
    refine wpAnyH_take (i := 11) (v := undef) rfl (by kernel_rfl) (by kernel_rfl) (by kernel_rfl) (fun _ _ _ h => h) (Or.inr ⟨by rfl, rfl⟩) hHeld ?rest26
    (try simp only [Act.put, List.getElem_toArray, List.getElem_cons_succ, List.getElem_cons_zero]); (try simp only [List.setIfInBounds_toArray]); (try simp only [List.set_cons_succ]); (try simp only [List.set_cons_zero])
    refine wpAnyH_take (i := 12) (v := ?v27) rfl (by kernel_rfl) (by kernel_rfl) (by kernel_rfl) (fun _ _ _ h => h) (Or.inl ⟨by rfl, ?hy27⟩) hHeld ?rest27
    case hy27 => (intro wz hSw; (try dsimp only at hSw); go_simp; (try with_reducible rfl))
    (try simp only [Act.put, List.getElem_toArray, List.getElem_cons_succ, List.getElem_cons_zero]); (try simp only [List.setIfInBounds_toArray]); (try simp only [List.set_cons_succ]); (try simp only [List.set_cons_zero])
    refine wpAnyH_take (i := 13) (v := ?v28) rfl (by kernel_rfl) (by kernel_rfl) (by kernel_rfl) (fun _ _ _ h => h) (Or.inl ⟨by rfl, ?hy28⟩) hHeld ?rest28
    case hy28 => (intro wz hSw; (try dsimp only at hSw); go_simp; (try with_reducible rfl))
    (try simp only [Act.put, List.getElem_toArray, List.getElem_cons_succ, List.getElem_cons_zero]); (try simp only [List.setIfInBounds_toArray]); (try simp only [List.set_cons_succ]); (try simp only [List.set_cons_zero])
    refine wpAnyH_done (by kernel_rfl) ?_ _
    have E9 := Lib.hid (E1.out.trans (Ext.drew (Ext.refl _)))
    clear hHeld
    go_wp2
    go_ret
    exact ⟨ret_bool HF.out.symm, E9.out⟩
  obtain ⟨D, rfl, hA⟩ := algB_parts h1 hT.1
  have H1 := Lib.hid h1
  have HF : Hid (q = (((redM P (D * D) D l).pv.length : Int) == (D : Int))) := by rw [Hid, HA.out, h1, Int.toNat_natCast]; rfl
  have hp := isP_lo hA.pr
  have hp2 := isP_hi hA.pr
  have hD := hA.dim
  have HN := Lib.hid hA.len
  have HRL := Lib.hid hA.res
  have h27 : D * D ≤ 784 := Nat.mul_le_mul hD hD
  have h28 := cube28 hD
  have hf1 := run_field1
  clear h1 hT HA hA
  go_enter Try.func30, Try.ntmps30
  have E0 := Lib.hid ((Ext.refl w).alloc (.cells #[.int .i64 P, .int .i64 D, .slice (some ⟨a0, oa, none⟩) n n] 26))
  go_wp2_with fail
  refine (wrap_impl P D a0 oa n n l _ (HT.out.ext E0.out) hm (Nat.le_refl _) (by unfold maxLen; omega)).mono ?_
  rintro e W1 ⟨B, rfl, hb, hlo, h1x⟩
  have E1 := Lib.hid (E0.out.trans h1x)
  have HB := Lib.hid hb
  clear hb h1x hlo E0
  rw [H1.out]
  have lB := HB.out.1
  have q0 := HB.out.2 0 _ rfl
  have q1 := HB.out.2 1 _ rfl
  have HSP : Hid (∀ w1, Ext W1 w1 → Calls Try.prog 62 #[.agg #[.int .i64 P, .int .i64 ((D : Int) * (D : Int)), .int .i64 D, .slice (some ⟨a0, oa, none⟩) n n]] w1 fun e w' => ∃ v3, e = .returned (.agg #[.int .i64 P, .int .i64 ((redM P (D * D) D l).pv.length : Nat), .int .i64 D, v3]) ∧ Ext w1 w') := fun w1 h => by
    rw [← Int.natCast_mul]
    refine (span_impl P (D * D) D n n (some ⟨a0, oa, none⟩) l w1 (HT.out.ext (E1.out.trans h)) HN.out hm (by omega) (by omega) hp hp2 HRL.out).mono ?_
    rintro e w' ⟨b, rfl, _, _, _, h5⟩
    exact ⟨_, rfl, h5⟩
  generalize (redM P (D * D) D l).pv.length = K at *
  go_wp2_with fail
  go_region_held3 (fun w' => Ext W1 w' ∧ (∀ b o, b < W1.heap.size → w'.cell? ⟨b, o, none⟩ = W1.cell? ⟨b, o, none⟩)) (first | assumption | (with_reducible exact ext2 (Ext.trans (And.left ‹Ext W1 _ ∧ _›) ‹Ext _ _›)) | (refine ext2 ?_; with_reducible repeat (first | exact Ext.refl _ | exact And.left ‹Ext W1 _ ∧ _› | refine Ext.drew ?_ | refine Ext.drewN ?_ _))) (first
    | (go_at_call 65; (with_reducible refine (bracketRows_impl P D B a0 oa n n _ (HB.out.ext (And.left ‹Ext W1 _ ∧ _›)) hD).mono ?_); rintro e w4 ⟨rfl, h4⟩)
    | (go_at_call 62; (with_reducible refine (HSP.out _ (And.left ‹Ext W1 _ ∧ _›)).mono ?_); rintro e w6 ⟨v3, rfl, h6⟩))
  all_goals
    have E9 := Lib.hid (E1.out.trans (And.left ‹Ext W1 w6 ∧ _›))
    go_wp2
    go_ret
    rw [HF.out]
    exact ⟨rfl, E9.out⟩
end Go.Proofs.Ytgmipolgnpjmnaa
