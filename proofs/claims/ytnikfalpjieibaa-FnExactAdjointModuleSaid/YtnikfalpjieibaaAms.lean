/-
  Lists of matrices: AdjointModule by the specification.
-/
import Derived.Test.YtnikfalpjieibaaAmi
import Derived.Test.YtnikfalpjieibaaApm
import Derived.Test.YtnikfalpjieibaaBr
namespace Go.Proofs.Ytnikfalpjieibaa
open Go.ChangeShapes Go.WideShapes Go.ChangeAt Go.RowKit
set_option linter.unusedVariables false
set_option linter.unusedSimpArgs false

theorem own_some {w : World} {lo hi : Nat} {a : Option Addr} {n : Nat} {xs : List Int} (h : Own w lo hi a n xs) (hn : 0 < n) : ∃ b, a = some ⟨b, 0, none⟩ := by
  rcases h.2 with ⟨_, h2⟩ | ⟨b, h2, _⟩
  · omega
  · exact ⟨b, h2⟩
theorem adF_spec {P : Int} {D : Nat} {l : List Int} (hp : 2 ≤ P) (hl : Res l P) (hn : l.length = D * (D * D)) {i : Nat} (hi : i < D) : adTo P D l (basL D i) D = adF D l i := by
  refine ext_gi (by rw [adTo_length, adF_length]) (fun q hq => ?_)
  rw [adTo_length] at hq
  have h1 : i * (D * D) + q < l.length := by
    rw [hn]
    have := Nat.mul_le_mul_right (D * D) (show i + 1 ≤ D by omega)
    rw [Nat.add_mul, Nat.one_mul] at this
    omega
  have h2 := hl _ h1
  rw [gi_adTo D hq, adF, gi_map _ _ hq, sumN_one (n := D) (k := i) (fun c => gi (basL D i) c * gi l (c * (D * D) + q)) hi (fun c hc hne => by
    show gi (basL D i) c * _ = 0
    rw [gi_basL hi, if_neg hne]; simp)]
  show (gi (basL D i) i * gi l (i * (D * D) + q)) % P = _
  rw [gi_basL hi, if_pos rfl, Int.one_mul, Int.emod_eq_of_lt h2.1 h2.2]
set_option maxRecDepth 100000 in
set_option maxHeartbeats 3200000 in
theorem adjointModule_spec {P D : Int} {a0 oa n : Nat} {l : List Int} {w : World} {d : List Mat} (hT : Reads w (some ⟨a0, oa, none⟩) n l) (hm0 : n ≤ 1048576) (hM : admM P D l = d) :
    Calls Try.prog 30 #[.agg #[.int .i64 P, .int .i64 D, .slice (some ⟨a0, oa, none⟩) n n]] w fun e w' => ∃ v, e = .returned v ∧ Rmats w w' v d ∧ Ext w w' := by
  have HT := Lib.hid hT
  have A0 := Lib.hid (cells_new w #[.int .i64 P, .int .i64 D, .slice (some ⟨a0, oa, none⟩) n n] 29)
  have E0 := Lib.hid ((Ext.refl w).alloc (.cells #[.int .i64 P, .int .i64 D, .slice (some ⟨a0, oa, none⟩) n n] 29))
  have lA := A0.out.1
  have q0 := A0.out.2 0 _ rfl
  have q1 := A0.out.2 1 _ rfl
  have q2 := A0.out.2 2 _ rfl
  clear hT
  rcases h0 : algB P D l with _ | _
  · simp only [admM, h0, Bool.false_eq_true, if_false] at hM
    subst hM
    have H0 := Lib.hid h0
    clear h0
    go_enter Try.func30, Try.ntmps30
    go_wp2_with fail
    refine (algebraOk_spec (HT.out.ext E0.out) hm0 H0.out).mono ?_
    rintro e w1 ⟨rfl, h1⟩
    clear lA q0 q1 q2
    go_wp2
    go_ret
    exact ⟨_, rfl, ⟨none, 0, 0, rfl, matsR_nil _ _ _ _, by omega⟩, E0.out.trans h1⟩
  have H0 := Lib.hid h0
  simp only [admM, h0, if_true] at hM
  obtain ⟨D, rfl, hA⟩ := algB_parts h0 HT.out.1
  have hD := hA.dim
  have hp := isP_lo hA.pr
  have hp2 := isP_hi hA.pr
  have HN := Lib.hid hA.len
  have HLR := Lib.hid hA.res
  have HLL : Hid (l.length = D * (D * D)) := by rw [Hid, HT.out.1, hA.len, Nat.mul_assoc]
  have HAD : Hid (∀ i, i < D → adTo P D l (basL D i) D = adF D l i) := fun i hi => adF_spec hp hA.res HLL.out hi
  have HFL : Hid (∀ i : Nat, (adF D l i).length = D * D) := adF_length
  simp only [Int.toNat_natCast] at hM
  subst hM
  clear h0 hA
  go_enter Try.func30, Try.ntmps30
  go_wp2_with fail
  refine (algebraOk_spec (HT.out.ext E0.out) hm0 H0.out).mono ?_
  rintro e w1 ⟨rfl, h1⟩
  have A1 := Lib.hid (A0.out.ext h1)
  have EE := Lib.hid (E0.out.trans h1)
  clear lA q0 q1 q2 h1
  go_wp2_with fail
  go_loopw [4, 3] (fun z v wr => ∃ (i cv T : Nat) (va : Option Addr), i ≤ D ∧ z = .int .i64 i ∧ v = .slice va i cv ∧ Hid (MatS wr w1.heap.size T (.slice va i cv) P D (sqF D (adF D l)) i) ∧ Hid (T ≤ wr.heap.size) ∧ Hid (Ext w1 wr)) (fun z _ _ => D - (intOf z).toNat)
  case atStart => exact ⟨0, 0, _, _, by omega, rfl, rfl, matS_nil _ w1.heap.size 0 (Nat.le_refl _) P D (sqF D (adF D l)), Nat.zero_le _, (Ext.refl _).alloc _⟩
  case round =>
    obtain ⟨i, cv, T, va, hi, rfl, rfl, hMS, hTw, hE⟩ := hrel
    have q0 := A1.out.2 0 _ rfl
    have q1 := A1.out.2 1 _ rfl
    have q2 := A1.out.2 2 _ rfl
    have lA := A1.out.1
    have r1 := (A1.out.ext hE.out).2 1 _ rfl
    have lR := (A1.out.ext hE.out).1
    by_cases hlt : i < D
    · have hltI : (i : Int) < (D : Int) := by omega
      go_wp2_with fail
      clear r1 lR
      refine wp_region_held_drew (S := (fun w' => Ext w1 w' ∧ (∀ b o, b < w1.heap.size → w'.cell? ⟨b, o, none⟩ = w1.cell? ⟨b, o, none⟩))) (by kernel_rfl) (ext2 hE.out.drew) (fun hHeld => ?_)
      refine wpAnyH_take (i := 0) (v := ?v8) rfl (by kernel_rfl) (by kernel_rfl) (by kernel_rfl) (fun _ _ _ h => h) (Or.inl ⟨by rfl, ?hy8⟩) hHeld ?rest8
      case hy8 => (intro wz hSw; (try dsimp only at hSw); go_simp; (try with_reducible rfl))
      (try simp only [Act.put, List.getElem_toArray, List.getElem_cons_succ, List.getElem_cons_zero]); (try simp only [List.setIfInBounds_toArray]); (try simp only [List.set_cons_succ]); (try simp only [List.set_cons_zero])
      refine wpAnyH_take (i := 1) (v := ?v9) rfl (by kernel_rfl) (by kernel_rfl) (by kernel_rfl) (fun _ _ _ h => h) (Or.inl ⟨by rfl, ?hy9⟩) hHeld ?rest9
      case hy9 => (intro wz hSw; (try dsimp only at hSw); go_simp; (try with_reducible rfl))
      (try simp only [Act.put, List.getElem_toArray, List.getElem_cons_succ, List.getElem_cons_zero]); (try simp only [List.setIfInBounds_toArray]); (try simp only [List.set_cons_succ]); (try simp only [List.set_cons_zero])
      refine wpAnyH_take (i := 2) (v := ?v10) rfl (by kernel_rfl) (by kernel_rfl) (by kernel_rfl) (fun _ _ _ h => h) (Or.inl ⟨by rfl, ?hy10⟩) hHeld ?rest10
      case hy10 => (intro wz hSw; (try dsimp only at hSw); go_simp; (try with_reducible rfl))
      (try simp only [Act.put, List.getElem_toArray, List.getElem_cons_succ, List.getElem_cons_zero]); (try simp only [List.setIfInBounds_toArray]); (try simp only [List.set_cons_succ]); (try simp only [List.set_cons_zero])
      refine wpAnyH_take (i := 3) (v := ?v11) rfl (by kernel_rfl) (by kernel_rfl) (by kernel_rfl) (fun _ _ _ h => h) (Or.inl ⟨by rfl, ?hy11⟩) hHeld ?rest11
      case hy11 => (intro wz hSw; (try dsimp only at hSw); go_simp; (try with_reducible rfl))
      (try simp only [Act.put, List.getElem_toArray, List.getElem_cons_succ, List.getElem_cons_zero]); (try simp only [List.setIfInBounds_toArray]); (try simp only [List.set_cons_succ]); (try simp only [List.set_cons_zero])
      refine wpAnyH_take (i := 4) (v := ?v12) rfl (by kernel_rfl) (by kernel_rfl) (by kernel_rfl) (fun _ _ _ h => h) (Or.inl ⟨by rfl, ?hy12⟩) hHeld ?rest12
      case hy12 => (intro wz hSw; (try dsimp only at hSw); go_simp; (try with_reducible rfl))
      (try simp only [Act.put, List.getElem_toArray, List.getElem_cons_succ, List.getElem_cons_zero]); (try simp only [List.setIfInBounds_toArray]); (try simp only [List.set_cons_succ]); (try simp only [List.set_cons_zero])
      refine wpAnyH_ready (rs := [5]) (by kernel_rfl) (by simp) ?_
      refine AllReadyH.cons rfl (fun K' hK => ?_) AllReadyH.nil
      go_simp
      refine (l2Basis_spec D i _ hD hlt).mono ?_
      rintro e w3 ⟨b3, rfl, kb, h3⟩
      have Y3 := (Ext.refl wr).drew.trans h3
      have X3 := hE.out.trans Y3
      dsimp only
      refine hK.out _ _ (ext2 X3) (fun hHeld => ?_)
      clear hK
      refine wpAnyH_ready (rs := [6]) (by kernel_rfl) (by simp) ?_
      refine AllReadyH.cons rfl (fun K' hK => ?_) AllReadyH.nil
      go_simp
      refine (l2Adjoint_spec P D a0 oa n n D _ l (basL D i) _ (HT.out.ext (EE.out.trans X3)) (kb.reads basL_length) hD HN.out hp hp2 HLR.out (basL_res hp)).mono ?_
      rintro e w4 ⟨a4, c4, rfl, kr, h4⟩
      obtain ⟨b4, rfl⟩ : ∃ b4, a4 = some ⟨b4, 0, none⟩ := own_some kr (Nat.mul_pos (show 0 < D by omega) (show 0 < D by omega))
      have Y4 := Y3.trans h4
      have X4 := X3.trans h4
      rw [HAD.out i hlt] at kr
      dsimp only
      refine hK.out _ _ (ext2 X4) (fun hHeld => ?_)
      clear hK
      refine wpAnyH_ready (rs := [7]) (by kernel_rfl) (by simp) ?_
      refine AllReadyH.cons rfl (fun K' hK => ?_) AllReadyH.nil
      go_simp
      refine hK.out _ _ (ext2 (X4.alloc _)) (fun hHeld => ?_)
      clear hK
      refine wpAnyH_ready (rs := [8]) (by kernel_rfl) (by simp) ?_
      refine AllReadyH.cons rfl (fun K' hK => ?_) AllReadyH.nil
      have hcl := cells_new w4 #[.int .i64 P, .int .i64 D, .int .i64 D, .slice (some ⟨b4, 0, none⟩) (D * D) c4] 37
      have HRow : Own (w4.alloc (.cells #[.int .i64 P, .int .i64 D, .int .i64 D, .slice (some ⟨b4, 0, none⟩) (D * D) c4] 37)) w1.heap.size (w4.alloc (.cells #[.int .i64 P, .int .i64 D, .int .i64 D, .slice (some ⟨b4, 0, none⟩) (D * D) c4] 37)).heap.size (some ⟨b4, 0, none⟩) (D * D) (adF D l i) := (kr.ext ((Ext.refl _).alloc _)).mono (by have := X3.le; omega) (by simp)
      have hTb : T ≤ b4 := by have := (kr.blk b4 rfl).1; have := Y3.le; have := hTw.out; omega
      refine step_appendMatS rfl (.tmp 15) (.tmp 22) rfl (base := w1.heap.size) (hi := T) (P := P) (D := D) (k := i) (sq := sqF D (adF D l)) (.slice va i cv) rfl (hMS.out.ext (Y4.alloc _)) w4.heap.size c4 1 b4 rfl (hcl.2 0 _ rfl) (hcl.2 1 _ rfl) (hcl.2 2 _ rfl) (hcl.2 3 _ rfl) HRow hTb (by omega) (by have := X4.le; simp; omega) ?_
      intro v5 w5 hM5 hg5
      have hvb := hMS.out.blk
      have E5 : Ext w1 w5 := Ext.grown (X4.alloc _) hg5 (fun z hz => (hvb z hz).1)
      obtain ⟨a5, c5, hv5, _⟩ := hM5.shape
      subst hv5
      refine hK.out _ _ (ext2 E5) (fun hHeld => ?_)
      clear hK
      refine wpAnyH_take (i := 9) (v := ?v13) rfl (by kernel_rfl) (by kernel_rfl) (by kernel_rfl) (fun _ _ _ h => h) (Or.inl ⟨by rfl, ?hy13⟩) hHeld ?rest13
      case hy13 => (intro wz hSw; (try dsimp only at hSw); go_simp; (try with_reducible rfl))
      (try simp only [Act.put, List.getElem_toArray, List.getElem_cons_succ, List.getElem_cons_zero]); (try simp only [List.setIfInBounds_toArray]); (try simp only [List.set_cons_succ]); (try simp only [List.set_cons_zero])
      refine wpAnyH_done (by kernel_rfl) ?_ _
      have HM5 := Lib.hid hM5
      have HE5 := Lib.hid E5
      have HT5 : Hid ((w4.alloc (.cells #[.int .i64 P, .int .i64 D, .int .i64 D, .slice (some ⟨b4, 0, none⟩) (D * D) c4] 37)).heap.size ≤ w5.heap.size) := hg5.size
      clear hHeld hM5 hg5 hvb hcl HRow hTb X3 X4 Y3 Y4 kr kb h3 h4 lA q0 q1 q2 hMS hTw hE
      go_wp2
      exact ⟨⟨i + 1, c5, _, a5, by omega, by simp, rfl, HM5, HT5, HE5⟩, by simp [intOf]; omega⟩
    · obtain rfl : i = D := by omega
      clear q0 q1 q2 lA
      go_wp2
      go_ret
      exact ⟨_, rfl, (hMS.out.toL (w0 := w) EE.out.le hTw.out (by omega) (by omega) HFL.out), EE.out.trans hE.out⟩
end Go.Proofs.Ytnikfalpjieibaa
