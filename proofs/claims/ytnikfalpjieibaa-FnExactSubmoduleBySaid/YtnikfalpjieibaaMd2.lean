/-
  Modules in the program: matrixOf.
-/
import Derived.Test.YtnikfalpjieibaaMod0
namespace Go.Proofs.Ytnikfalpjieibaa
open Go.ChangeShapes Go.WideShapes Go.ChangeAt Go.RowKit
set_option linter.unusedVariables false
set_option linter.unusedSimpArgs false

set_option maxRecDepth 100000 in
set_option maxHeartbeats 6400000 in
theorem matrixOf_impl (P : Int) (D S BM BL g k n d a0 oa bx ox cx : Nat) (xs : List Int) (ms : List Mat) (w : World) (hc : Cells w BM [.pointer (some ⟨BL, 0, none⟩), .slice (some ⟨g, 0, none⟩) k k, .int .i64 S]) (hb : Cells w BL [.int .i64 P, .int .i64 D, .slice (some ⟨a0, oa, none⟩) n d]) (hm : MatsI w g k ms) (hX : Reads w (some ⟨bx, ox, none⟩) D xs) (hk : k = D) (hD : D ≤ 28) (hS : S ≤ 30) (hl : ∀ i, i < D → (mt ms i).d.length = S * S) (hr : ∀ i, i < D → Res (mt ms i).d P) (hp : 2 ≤ P) (hp2 : P ≤ 10007) (hx : Res xs P) :
    Calls Try.prog 57 #[.pointer (some ⟨BM, 0, none⟩), .slice (some ⟨bx, ox, none⟩) D cx] w fun e w' => ∃ b, e = .returned (.agg #[.int .i64 P, .int .i64 S, .int .i64 S, .slice (some ⟨b, 0, none⟩) (S * S) (S * S)]) ∧ w.heap.size ≤ b ∧ b < w'.heap.size ∧ Has w' b (smK P (S * S) ms xs D) ∧ Ext w w' := by
  subst hk
  have HC := Lib.hid hc
  have HB := Lib.hid hb
  have HM := Lib.hid hm
  have HX := Lib.hid hX
  have HRX := Lib.hid hx
  have HL := Lib.hid hl
  have HRS := Lib.hid hr
  have e1 : (S : Int) * (S : Int) = ((S * S : Nat) : Int) := by simp
  have h27 : S * S ≤ 900 := Nat.mul_le_mul hS hS
  have g0 : 0 ≤ (S : Int) * (S : Int) := by rw [e1]; omega
  have g1 : (S : Int) * (S : Int) ≤ 1048576 := by rw [e1]; omega
  have E1 : Hid (((S : Int) * (S : Int)).toNat = S * S) := by rw [Hid, e1, Int.toNat_natCast]
  clear hc hb hm hX hx hl hr e1
  have M0 := Lib.hid (cells_new w #[.int .i64 0, .int .i64 0, .int .i64 0, .slice none 0 0] 37)
  have E0 := Lib.hid ((Ext.refl w).alloc (.cells #[.int .i64 0, .int .i64 0, .int .i64 0, .slice none 0 0] 37))
  have AW := HC.out.ext E0.out
  have lM := AW.1
  have q0 := AW.2 0 _ rfl
  have q2 := AW.2 2 _ rfl
  have AL := HB.out.ext E0.out
  have lB := AL.1
  have r0 := AL.2 0 _ rfl
  have hsz : (w.alloc (.cells #[.int .i64 0, .int .i64 0, .int .i64 0, .slice none 0 0] 37)).heap.size = w.heap.size + 1 := by simp
  have HSZ := Lib.hid hsz
  clear AW AL hsz
  go_enter Try.func57, Try.ntmps57
  go_upto_region 1 with fail
  generalize w.alloc (.cells #[.int .i64 0, .int .i64 0, .int .i64 0, .slice none 0 0] 37) = W0 at *
  go_cut [5] (fun s5 wx => ∃ ZB b, s5 = .pointer (some ⟨ZB, 0, none⟩) ∧ Hid (Loc W0 wx ZB b [.int .i64 P, .int .i64 S, .int .i64 S, .slice (some ⟨b, 0, none⟩) (S * S) (S * S)] (smK P (S * S) ms xs 0)) ∧ W0.heap.size ≤ ZB)
  case first =>
    go_region_held3 (fun w' => Ext W0 w' ∧ (∀ b o, b < W0.heap.size → w'.cell? ⟨b, o, none⟩ = W0.cell? ⟨b, o, none⟩)) ((first | (with_reducible exact ext2 (Ext.trans (And.left ‹Ext W0 _ ∧ _›) ‹Ext _ _›)) | (refine ext2 ?_; with_reducible repeat (first | exact Ext.refl _ | exact And.left ‹Ext W0 _ ∧ _› | exact Ext.trans (Ext.drew (Ext.refl _)) ‹Ext _ _› | exact Ext.trans (Ext.alloc (Ext.drew (Ext.refl _)) _) ‹Ext _ _› | exact Ext.trans (Ext.drew (Ext.alloc (Ext.refl _) _)) ‹Ext _ _› | refine Ext.drew ?_ | refine Ext.drewN ?_ _ | refine Ext.alloc ?_ _ | refine Ext.setCell ?_ (by simp <;> omega) _)))) ((go_at_call 69; refine (zeros_impl _ _ _ _ g0 g1).mono ?_; rintro e w1 ⟨b, rfl, hb1, hb2, hh, h1⟩; have c1 := h1.cells; have f1 := h1.frees; have y1 := h1.le; have x1 := fun k hk => Nat.lt_of_lt_of_le (n := k) hk h1.le; (try simp only [World.size_drew] at y1 x1 hb1); (try simp only [World.size_alloc] at y1 x1 hb1); (try simp only [World.size_drew] at y1 x1 hb1)))
    all_goals (go_wp2_with fail; go_meet; rw [E1.out] at hh ⊢; first
      | exact ⟨w1.heap.size, b, rfl, ⟨cells_new _ _ _, by rw [smK_zero]; exact hh.alloc _, And.left ‹Ext W0 _ ∧ _›, by omega, by simp; omega, by omega⟩, by omega⟩
      | exact ⟨W0.heap.size, b, rfl, ⟨early4 (lo := 0) ((((cells_new W0 _ _).ext (Ext.drew (Ext.refl _)))).ext h1), by rw [smK_zero]; repeat with_reducible (first | exact hh | refine Has.setOther ?_ (by simp <;> omega) _), And.left ‹Ext W0 _ ∧ _›, by omega, by simp; omega, by omega⟩, by omega⟩)
  case rest =>
    obtain ⟨ZB, b, rfl, L0, hZB⟩ := hcut
    have hW : w.heap.size + 1 ≤ ZB ∧ w.heap.size + 1 ≤ b := by have := HSZ.out; have := L0.out.lo; omega
    have HW := Lib.hid hW
    clear lM q0 q2 lB r0 hZB hW
    go_wp2_with fail
    go_loopw [27, 6, 7] (fun z _ _ wr => ∃ i : Nat, i ≤ k ∧ z = .int .i64 i ∧ Hid (Loc W0 wr ZB b [.int .i64 P, .int .i64 S, .int .i64 S, .slice (some ⟨b, 0, none⟩) (S * S) (S * S)] (smK P (S * S) ms xs i))) (fun z _ _ _ => k - (intOf z).toNat)
    case atStart => exact ⟨0, by omega, rfl, L0⟩
    case round =>
      clear L0
      obtain ⟨i, hi, rfl, L⟩ := hrel
      by_cases hlt : i < k
      · obtain ⟨hxb, x1⟩ := reads_at (HX.out.ext (E0.out.trans L.out.ext)) hlt
        obtain ⟨y0, y1⟩ := HRX.out i (by rw [HX.out.1]; exact hlt)
        have HMw := HM.out.ext (E0.out.trans L.out.ext)
        have lG := HMw.lt
        obtain ⟨bj, _, _, _, c3, hrd⟩ := HMw.get i hlt
        rw [HL.out i hlt] at c3 hrd
        have hbj : 0 < S * S → bj < w.heap.size := fun h0 => by
          obtain ⟨bj2, _, _, _, c32, hrd2⟩ := HM.out.get i hlt
          have e := (((E0.out.trans L.out.ext).cells g (i * 4 + 3) HM.out.lt).trans c32).symm.trans c3
          simp only [Option.some.injEq, Value.slice.injEq, Addr.mk.injEq, and_true, true_and] at e
          have := e.1
          subst this
          rw [HL.out i hlt] at hrd2
          exact (reads_at hrd2 h0).1
        have HRD := Lib.hid hrd
        have HBJ := Lib.hid hbj
        have hfd := run_fieldM
        have MM := HC.out.ext (E0.out.trans L.out.ext)
        have lM := MM.1
        have q0 := MM.2 0 _ rfl
        have q1 := MM.2 1 _ rfl
        have MB := HB.out.ext (E0.out.trans L.out.ext)
        have lB := MB.1
        have r0 := MB.2 0 _ rfl
        have lZ := L.out.box.1
        have p3 := L.out.box.2 3 _ rfl
        have nZ : ZB ≠ b := L.out.ne
        have nM : BM ≠ b := by have := HC.out.1; have := HW.out; omega
        have nB : BL ≠ b := by have := HB.out.1; have := HW.out; omega
        have nG : g ≠ b := by have := HM.out.lt; have := HW.out; omega
        have HS := Lib.hid (smK_succ (P := P) (N := S * S) (ms := ms) (xs := xs) i)
        have HRA := Lib.hid (smK_res (P := P) (N := S * S) (ms := ms) (xs := xs) (show 0 < P by omega) i)
        clear MM MB HMw hrd hbj
        go_wp2_with fail
        refine wp_region_held_drew (S := fun w' => wr.grownBy w' (some b) ∧ ∀ B o, B ≠ b → B < wr.heap.size → w'.cell? ⟨B, o, none⟩ = wr.cell? ⟨B, o, none⟩) (by kernel_rfl) keptB_drew (fun hHeld => ?_)
        refine wpAnyH_take (i := 0) (v := ?v81) rfl (by kernel_rfl) (by kernel_rfl) (by kernel_rfl) (fun _ _ _ h => h) (Or.inl ⟨by rfl, ?hy81⟩) hHeld ?rest81
        case hy81 => (intro wz hSw; (try dsimp only at hSw); go_simp; (try with_reducible rfl))
        (try simp only [Act.put, List.getElem_toArray, List.getElem_cons_succ, List.getElem_cons_zero]); (try simp only [List.setIfInBounds_toArray]); (try simp only [List.set_cons_succ]); (try simp only [List.set_cons_zero])
        refine wpAnyH_take (i := 1) (v := ?v82) rfl (by kernel_rfl) (by kernel_rfl) (by kernel_rfl) (fun _ _ _ h => h) (Or.inl ⟨by rfl, ?hy82⟩) hHeld ?rest82
        case hy82 => (intro wz hSw; (try dsimp only at hSw); go_simp; (try with_reducible rfl))
        (try simp only [Act.put, List.getElem_toArray, List.getElem_cons_succ, List.getElem_cons_zero]); (try simp only [List.setIfInBounds_toArray]); (try simp only [List.set_cons_succ]); (try simp only [List.set_cons_zero])
        refine wpAnyH_take (i := 2) (v := ?v83) rfl (by kernel_rfl) (by kernel_rfl) (by kernel_rfl) (fun _ _ _ h => h) (Or.inl ⟨by rfl, ?hy83⟩) hHeld ?rest83
        case hy83 => (intro wz hSw; (try dsimp only at hSw); go_simp; (try with_reducible rfl))
        (try simp only [Act.put, List.getElem_toArray, List.getElem_cons_succ, List.getElem_cons_zero]); (try simp only [List.setIfInBounds_toArray]); (try simp only [List.set_cons_succ]); (try simp only [List.set_cons_zero])
        refine wpAnyH_take (i := 3) (v := ?v84) rfl (by kernel_rfl) (by kernel_rfl) (by kernel_rfl) (fun _ _ _ h => h) (Or.inl ⟨by rfl, ?hy84⟩) hHeld ?rest84
        case hy84 => (intro wz hSw; (try dsimp only at hSw); go_simp; (try with_reducible rfl))
        (try simp only [Act.put, List.getElem_toArray, List.getElem_cons_succ, List.getElem_cons_zero]); (try simp only [List.setIfInBounds_toArray]); (try simp only [List.set_cons_succ]); (try simp only [List.set_cons_zero])
        refine wpAnyH_take (i := 4) (v := ?v85) rfl (by kernel_rfl) (by kernel_rfl) (by kernel_rfl) (fun _ _ _ h => h) (Or.inl ⟨by rfl, ?hy85⟩) hHeld ?rest85
        case hy85 => (intro wz hSw; (try dsimp only at hSw); go_simp; (try with_reducible rfl))
        (try simp only [Act.put, List.getElem_toArray, List.getElem_cons_succ, List.getElem_cons_zero]); (try simp only [List.setIfInBounds_toArray]); (try simp only [List.set_cons_succ]); (try simp only [List.set_cons_zero])
        refine wpAnyH_take (i := 5) (v := ?v86) rfl (by kernel_rfl) (by kernel_rfl) (by kernel_rfl) (fun _ _ _ h => h) (Or.inl ⟨by rfl, ?hy86⟩) hHeld ?rest86
        case hy86 => (intro wz hSw; (try dsimp only at hSw); go_simp; (try with_reducible rfl))
        (try simp only [Act.put, List.getElem_toArray, List.getElem_cons_succ, List.getElem_cons_zero]); (try simp only [List.setIfInBounds_toArray]); (try simp only [List.set_cons_succ]); (try simp only [List.set_cons_zero])
        refine wpAnyH_take (i := 6) (v := ?v87) rfl (by kernel_rfl) (by kernel_rfl) (by kernel_rfl) (fun _ _ _ h => h) (Or.inl ⟨by rfl, ?hy87⟩) hHeld ?rest87
        case hy87 => (intro wz hSw; (try dsimp only at hSw); go_simp; (try with_reducible rfl))
        (try simp only [Act.put, List.getElem_toArray, List.getElem_cons_succ, List.getElem_cons_zero]); (try simp only [List.setIfInBounds_toArray]); (try simp only [List.set_cons_succ]); (try simp only [List.set_cons_zero])
        refine wpAnyH_take (i := 7) (v := ?v88) rfl (by kernel_rfl) (by kernel_rfl) (by kernel_rfl) (fun _ _ _ h => h) (Or.inl ⟨by rfl, ?hy88⟩) hHeld ?rest88
        case hy88 => (intro wz hSw; (try dsimp only at hSw); go_simp; (try with_reducible rfl))
        (try simp only [Act.put, List.getElem_toArray, List.getElem_cons_succ, List.getElem_cons_zero]); (try simp only [List.setIfInBounds_toArray]); (try simp only [List.set_cons_succ]); (try simp only [List.set_cons_zero])
        refine wpAnyH_take (i := 8) (v := ?v89) rfl (by kernel_rfl) (by kernel_rfl) (by kernel_rfl) (fun _ _ _ h => h) (Or.inl ⟨by rfl, ?hy89⟩) hHeld ?rest89
        case hy89 => (intro wz hSw; (try dsimp only at hSw); go_simp; (try with_reducible rfl))
        (try simp only [Act.put, List.getElem_toArray, List.getElem_cons_succ, List.getElem_cons_zero]); (try simp only [List.setIfInBounds_toArray]); (try simp only [List.set_cons_succ]); (try simp only [List.set_cons_zero])
        refine wpAnyH_take (i := 9) (v := ?v90) rfl (by kernel_rfl) (by kernel_rfl) (by kernel_rfl) (fun _ _ _ h => h) (Or.inl ⟨by rfl, ?hy90⟩) hHeld ?rest90
        case hy90 => (intro wz hSw; (try dsimp only at hSw); go_simp; (try with_reducible rfl))
        (try simp only [Act.put, List.getElem_toArray, List.getElem_cons_succ, List.getElem_cons_zero]); (try simp only [List.setIfInBounds_toArray]); (try simp only [List.set_cons_succ]); (try simp only [List.set_cons_zero])
        refine wpAnyH_take (i := 10) (v := ?v91) rfl (by kernel_rfl) (by kernel_rfl) (by kernel_rfl) (fun _ _ _ h => h) (Or.inl ⟨by rfl, ?hy91⟩) hHeld ?rest91
        case hy91 => (intro wz hSw; (try dsimp only at hSw); go_simp; (try with_reducible rfl))
        (try simp only [Act.put, List.getElem_toArray, List.getElem_cons_succ, List.getElem_cons_zero]); (try simp only [List.setIfInBounds_toArray]); (try simp only [List.set_cons_succ]); (try simp only [List.set_cons_zero])
        refine wpAnyH_take (i := 11) (v := ?v92) rfl (by kernel_rfl) (by kernel_rfl) (by kernel_rfl) (fun _ _ _ h => h) (Or.inl ⟨by rfl, ?hy92⟩) hHeld ?rest92
        case hy92 => (intro wz hSw; (try dsimp only at hSw); go_simp; (try with_reducible rfl))
        (try simp only [Act.put, List.getElem_toArray, List.getElem_cons_succ, List.getElem_cons_zero]); (try simp only [List.setIfInBounds_toArray]); (try simp only [List.set_cons_succ]); (try simp only [List.set_cons_zero])
        refine wpAnyH_take (i := 12) (v := ?v93) rfl (by kernel_rfl) (by kernel_rfl) (by kernel_rfl) (fun _ _ _ h => h) (Or.inl ⟨by rfl, ?hy93⟩) hHeld ?rest93
        case hy93 => (intro wz hSw; (try dsimp only at hSw); go_simp; (try with_reducible rfl))
        (try simp only [Act.put, List.getElem_toArray, List.getElem_cons_succ, List.getElem_cons_zero]); (try simp only [List.setIfInBounds_toArray]); (try simp only [List.set_cons_succ]); (try simp only [List.set_cons_zero])
        refine wpAnyH_take (i := 13) (v := ?v94) rfl (by kernel_rfl) (by kernel_rfl) (by kernel_rfl) (fun _ _ _ h => h) (Or.inl ⟨by rfl, ?hy94⟩) hHeld ?rest94
        case hy94 => (intro wz hSw; (try dsimp only at hSw); go_simp; (try with_reducible rfl))
        (try simp only [Act.put, List.getElem_toArray, List.getElem_cons_succ, List.getElem_cons_zero]); (try simp only [List.setIfInBounds_toArray]); (try simp only [List.set_cons_succ]); (try simp only [List.set_cons_zero])
        refine wpAnyH_take (i := 14) (v := ?v95) rfl (by kernel_rfl) (by kernel_rfl) (by kernel_rfl) (fun _ _ _ h => h) (Or.inl ⟨by rfl, ?hy95⟩) hHeld ?rest95
        case hy95 => (intro wz hSw; (try dsimp only at hSw); go_simp; (try with_reducible rfl))
        (try simp only [Act.put, List.getElem_toArray, List.getElem_cons_succ, List.getElem_cons_zero]); (try simp only [List.setIfInBounds_toArray]); (try simp only [List.set_cons_succ]); (try simp only [List.set_cons_zero])
        refine wpAnyH_take (i := 15) (v := ?v96) rfl (by kernel_rfl) (by kernel_rfl) (by kernel_rfl) (fun _ _ _ h => h) (Or.inl ⟨by rfl, ?hy96⟩) hHeld ?rest96
        case hy96 => (intro wz hSw; (try dsimp only at hSw); go_simp; (try with_reducible rfl))
        (try simp only [Act.put, List.getElem_toArray, List.getElem_cons_succ, List.getElem_cons_zero]); (try simp only [List.setIfInBounds_toArray]); (try simp only [List.set_cons_succ]); (try simp only [List.set_cons_zero])
        refine wpAnyH_take (i := 16) (v := ?v97) rfl (by kernel_rfl) (by kernel_rfl) (by kernel_rfl) (fun _ _ _ h => h) (Or.inl ⟨by rfl, ?hy97⟩) hHeld ?rest97
        case hy97 => (intro wz hSw; (try dsimp only at hSw); go_simp; (try with_reducible rfl))
        (try simp only [Act.put, List.getElem_toArray, List.getElem_cons_succ, List.getElem_cons_zero]); (try simp only [List.setIfInBounds_toArray]); (try simp only [List.set_cons_succ]); (try simp only [List.set_cons_zero])
        refine wpAnyH_take (i := 17) (v := ?v98) rfl (by kernel_rfl) (by kernel_rfl) (by kernel_rfl) (fun _ _ _ h => h) (Or.inl ⟨by rfl, ?hy98⟩) hHeld ?rest98
        case hy98 => (intro wz hSw; (try dsimp only at hSw); go_simp; (try with_reducible rfl))
        (try simp only [Act.put, List.getElem_toArray, List.getElem_cons_succ, List.getElem_cons_zero]); (try simp only [List.setIfInBounds_toArray]); (try simp only [List.set_cons_succ]); (try simp only [List.set_cons_zero])
        refine wpAnyH_take (i := 18) (v := ?v99) rfl (by kernel_rfl) (by kernel_rfl) (by kernel_rfl) (fun _ _ _ h => h) (Or.inl ⟨by rfl, ?hy99⟩) hHeld ?rest99
        case hy99 => (intro wz hSw; (try dsimp only at hSw); go_simp; (try with_reducible rfl))
        (try simp only [Act.put, List.getElem_toArray, List.getElem_cons_succ, List.getElem_cons_zero]); (try simp only [List.setIfInBounds_toArray]); (try simp only [List.set_cons_succ]); (try simp only [List.set_cons_zero])
        refine wpAnyH_ready (rs := [19]) (by kernel_rfl) (by simp) ?_
        refine AllReadyH.cons rfl (fun K' hK => ?_) AllReadyH.nil
        go_simp
        refine (addToRow_impl b 0 (S * S) _ (gi xs i) bj 0 _ (mt ms i).d 0 P (smK P (S * S) ms xs i) _ (L.out.step (Ext.refl _).drew).has (by omega) (by rw [smK_length]; omega) (fun wz l' hg hz ho hll j hj => by
            have h9 := (reads_at (grown_reads (HRD.out.ext (Ext.refl _).drew) hg (by have := HBJ.out (by omega); have := HW.out; show bj ≠ b; omega)) hj).2
            simp only [Nat.zero_add] at h9 ⊢
            exact h9) hp hp2 y0 y1 (fun j hj => HRA.out _ (by rw [smK_length]; omega)) (fun j hj => HRS.out i hlt _ (by rw [HL.out i hlt]; omega))).mono ?_
        rintro e w4 ⟨rfl, hh4, hg4⟩
        rw [HS.out] at hh4
        have N : Hid (Loc W0 w4 ZB b [.int .i64 P, .int .i64 S, .int .i64 S, .slice (some ⟨b, 0, none⟩) (S * S) (S * S)] (smK P (S * S) ms xs (i + 1))) := (L.out.step (Ext.refl _).drew).row hh4 hg4
        dsimp only
        refine hK.out _ _ (keptB_grown hHeld hg4) (fun hHeld => ?_)
        clear hK
        refine wpAnyH_done (by kernel_rfl) ?_ _
        clear L hh4 hg4 lM q0 q1 lB r0 lZ p3 x1 hxb c3 lG hHeld
        go_wp2
        exact ⟨⟨i + 1, by omega, by simp, N⟩, by simp [intOf]; omega⟩
      · obtain rfl : i = k := by omega
        have M4 := M0.out.ext L.out.ext
        have f0 := M4.2 0 _ rfl
        have f1 := M4.2 1 _ rfl
        have f2 := M4.2 2 _ rfl
        have f3 := M4.2 3 _ rfl
        have t0 := M4.3
        have p0 := L.out.box.2 0 _ rfl
        have p1 := L.out.box.2 1 _ rfl
        have p2 := L.out.box.2 2 _ rfl
        have p3 := L.out.box.2 3 _ rfl
        have hle := L.out.ext.le
        have hsz := HSZ.out
        go_wp2
        refine bodyPost_ret (v := .agg #[.int .i64 P, .int .i64 S, .int .i64 S, .slice (some ⟨b, 0, none⟩) (S * S) (S * S)]) (by simp [results, Try.results57, go_sem, f0, f1, f2, f3]) rfl ⟨b, rfl, by have := HW.out; omega, ?_, ?_, ?_⟩
        · have := L.out.lt; simpa using this
        · have := HW.out
          repeat with_reducible (first | exact L.out.has | refine Has.setOther ?_ (by simp <;> omega) _)
        · exact ext4 (E0.out.trans L.out.ext) (Nat.le_refl _) _ _ _ _
end Go.Proofs.Ytnikfalpjieibaa
