/-
  Modules: the sum of matrices, by the specification.
-/
import Derived.Test.YtnikfalpjieibaaMd2
namespace Go.Proofs.Ytnikfalpjieibaa
open Go.ChangeShapes Go.WideShapes Go.ChangeAt Go.RowKit
open List (getElem_toArray getElem_cons_succ getElem_cons_zero setIfInBounds_toArray set_cons_succ set_cons_zero)
set_option linter.unusedVariables false
set_option linter.unusedSimpArgs false

theorem kb4 {w w1 : World} {b : Nat} (h : w.grownBy w1 (some b) ∧ ∀ B o, B ≠ b → B < w.heap.size → w1.cell? ⟨B, o, none⟩ = w.cell? ⟨B, o, none⟩) (v0 v1 v2 v3 : Value) :
    w.grownBy ((((w1.setCell ⟨b, 0, none⟩ v0).setCell ⟨b, 1, none⟩ v1).setCell ⟨b, 2, none⟩ v2).setCell ⟨b, 3, none⟩ v3) (some b) ∧ ∀ B o, B ≠ b → B < w.heap.size → ((((w1.setCell ⟨b, 0, none⟩ v0).setCell ⟨b, 1, none⟩ v1).setCell ⟨b, 2, none⟩ v2).setCell ⟨b, 3, none⟩ v3).cell? ⟨B, o, none⟩ = w.cell? ⟨B, o, none⟩ :=
  keptB_set (keptB_set (keptB_set (keptB_set h 0 v0) 1 v1) 2 v2) 3 v3
theorem cl4 {w : World} {B b : Nat} {vs : List Value} (h : Cells w B vs) (hne : B ≠ b) (v0 v1 v2 v3 : Value) : Cells ((((w.setCell ⟨b, 0, none⟩ v0).setCell ⟨b, 1, none⟩ v1).setCell ⟨b, 2, none⟩ v2).setCell ⟨b, 3, none⟩ v3) B vs := by
  have st : ∀ (u : World) (j : Nat) (v : Value), Cells u B vs → Cells (u.setCell ⟨b, j, none⟩ v) B vs := fun u j v hu => hu.grown (grownBy_set (p := ⟨b, j, none⟩) (grownBy_refl u (some b)) rfl v) (fun k hk => by simp at hk; omega)
  exact st _ _ _ (st _ _ _ (st _ _ _ (st _ _ _ h)))
theorem ha4 {w : World} {B b : Nat} {xs : List Int} (h : Has w B xs) (hne : B ≠ b) (v0 v1 v2 v3 : Value) : Has ((((w.setCell ⟨b, 0, none⟩ v0).setCell ⟨b, 1, none⟩ v1).setCell ⟨b, 2, none⟩ v2).setCell ⟨b, 3, none⟩ v3) B xs :=
  (((h.setOther (Ne.symm hne) v0).setOther (Ne.symm hne) v1).setOther (Ne.symm hne) v2).setOther (Ne.symm hne) v3
set_option maxHeartbeats 400000 in
theorem l10Size_spec (g k : Nat) (S : Int) (ms : List Mat) (w : World) (hm : MatsI w g k ms) (hk : 0 < k) (hS : (mt ms 0).r = S) :
    Calls Try.prog 75 #[.slice (some ⟨g, 0, none⟩) k k] w fun e w' => e = .returned (.int .i64 S) ∧ w = w' := by
  have hgl := hm.lt
  obtain ⟨b, _, c1, _⟩ := hm.get 0 hk
  simp only [Nat.zero_mul] at c1
  rw [hS] at c1
  have hkI : (0 : Int) < (k : Int) := by omega
  clear hm hS
  go_enter Try.func75, Try.ntmps75
  go_wp2
  go_ret
  exact ⟨rfl, rfl⟩

set_option maxRecDepth 100000 in
set_option maxHeartbeats 6400000 in
theorem l10Sum_spec (P : Int) (D S g k bx ox cx : Nat) (av : Value) (xs : List Int) (ms : List Mat) (w : World) (hm : MatsI w g k ms) (hX : Reads w (some ⟨bx, ox, none⟩) D xs) (hk : k = D) (h0 : 0 < D) (hD : D ≤ 28) (hS : S ≤ 30) (he : ∀ i, i < D → mt ms i = ⟨P, S, S, (mt ms i).d⟩) (hl : ∀ i, i < D → (mt ms i).d.length = S * S) (hr : ∀ i, i < D → Res (mt ms i).d P) (hp : 2 ≤ P) (hp2 : P ≤ 10007) (hx : Res xs P) :
    Calls Try.prog 51 #[.agg #[.int .i64 P, .int .i64 D, av], .slice (some ⟨g, 0, none⟩) k k, .slice (some ⟨bx, ox, none⟩) D cx] w fun e w' => ∃ b c, e = .returned (.agg #[.int .i64 P, .int .i64 S, .int .i64 S, .slice (some ⟨b, 0, none⟩) (S * S) c]) ∧ w.heap.size ≤ b ∧ b < w'.heap.size ∧ Has w' b (smK P (S * S) ms xs D) ∧ Ext w w' := by
  subst hk
  have HM := Lib.hid hm
  have HX := Lib.hid hX
  have HRX := Lib.hid hx
  have HL := Lib.hid hl
  have HE := Lib.hid he
  have HRS := Lib.hid hr
  have e1 : (S : Int) * (S : Int) = ((S * S : Nat) : Int) := by simp
  have h27 : S * S ≤ 900 := Nat.mul_le_mul hS hS
  have g0 : 0 ≤ (S : Int) * (S : Int) := by rw [e1]; omega
  have g1 : (S : Int) * (S : Int) ≤ 1048576 := by rw [e1]; omega
  have E1 : Hid (((S : Int) * (S : Int)).toNat = S * S) := by rw [Hid, e1, Int.toNat_natCast]
  have HS0 : Hid ((mt ms 0).r = S) := by rw [Hid, he 0 h0]
  have HZ : Hid (∀ w1, Ext w w1 → Calls Try.prog 75 #[.slice (some ⟨g, 0, none⟩) k k] w1 fun e w' => e = .returned (.int .i64 S) ∧ w1 = w') := fun w1 h => l10Size_spec g k S ms w1 (hm.ext h) h0 HS0.out
  clear hm hX hx hl hr e1 he HS0
  have A0 := Lib.hid ((cells_new w #[.int .i64 P, .int .i64 k, av] 29).ext ((Ext.refl _).alloc (.cells #[.int .i64 0, .int .i64 0, .int .i64 0, .slice none 0 0] 37)))
  have M0 := Lib.hid (cells_new' (w.alloc (.cells #[.int .i64 P, .int .i64 k, av] 29)) #[.int .i64 0, .int .i64 0, .int .i64 0, .slice none 0 0] 37 (w.heap.size + 1) (by simp))
  have E0 := Lib.hid (((Ext.refl w).alloc (.cells #[.int .i64 P, .int .i64 k, av] 29)).alloc (.cells #[.int .i64 0, .int .i64 0, .int .i64 0, .slice none 0 0] 37))
  have lA := A0.out.1
  have q0 := A0.out.2 0 _ rfl
  have hsz : ((w.alloc (.cells #[.int .i64 P, .int .i64 k, av] 29)).alloc (.cells #[.int .i64 0, .int .i64 0, .int .i64 0, .slice none 0 0] 37)).heap.size = w.heap.size + 1 + 1 := by simp
  have HSZ := Lib.hid hsz
  clear hsz
  go_enter Try.func51, Try.ntmps51
  go_upto_region 1 with fail
  generalize ((w.alloc (.cells #[.int .i64 P, .int .i64 k, av] 29)).alloc (.cells #[.int .i64 0, .int .i64 0, .int .i64 0, .slice none 0 0] 37)) = W0 at *
  go_cut [7] (fun s7 wx => ∃ ZB b c, s7 = .pointer (some ⟨ZB, 0, none⟩) ∧ W0.heap.size ≤ ZB ∧ W0.heap.size ≤ b ∧ b ≠ ZB ∧ Hid (Cells wx ZB [.int .i64 P, .int .i64 S, .int .i64 S, .slice (some ⟨b, 0, none⟩) (S * S) c]) ∧ Hid (Has wx b (smK P (S * S) ms xs 0)) ∧ Hid (Ext W0 wx))
  case first =>
    go_region_held3 (fun w' => Ext W0 w' ∧ (∀ b o, b < W0.heap.size → w'.cell? ⟨b, o, none⟩ = W0.cell? ⟨b, o, none⟩)) ((first | assumption | (with_reducible exact ext2 (Ext.trans (And.left ‹Ext W0 _ ∧ _›) ‹Ext _ _›)) | (refine ext2 ?_; with_reducible repeat (first | exact Ext.refl _ | exact And.left ‹Ext W0 _ ∧ _› | exact Ext.trans (Ext.drew (Ext.refl _)) ‹Ext _ _› | exact Ext.trans (Ext.alloc (Ext.drew (Ext.refl _)) _) ‹Ext _ _› | exact Ext.trans (Ext.drew (Ext.alloc (Ext.refl _) _)) ‹Ext _ _› | refine Ext.drew ?_ | refine Ext.drewN ?_ _ | refine Ext.alloc ?_ _ | refine Ext.setCell ?_ (by simp <;> omega) _)))) (first
      | (go_at_call 75; (with_reducible refine (HZ.out _ (E0.out.trans (And.left ‹Ext W0 _ ∧ _›))).mono ?_); rintro e _ ⟨rfl, rfl⟩)
      | (go_at_call 67; refine (l1Zero_spec _ _ _ _ g0 g1).mono ?_; rintro e w1 ⟨b, rfl, hb1, hb2, hh, h1⟩; have c1 := h1.cells; have f1 := h1.frees; have y1 := h1.le; have x1 := fun k hk => Nat.lt_of_lt_of_le (n := k) hk h1.le; (try simp only [World.size_drew] at y1 x1 hb1); (try simp only [World.size_alloc] at y1 x1 hb1); (try simp only [World.size_drew] at y1 x1 hb1)))
    all_goals (go_wp2_with fail; go_meet; rw [E1.out] at hh ⊢; first
      | exact ⟨w1.heap.size, b, _, rfl, by omega, by omega, by omega, cells_new _ _ _, by rw [smK_zero]; exact hh.alloc _, And.left ‹Ext W0 _ ∧ _›⟩
      | exact ⟨W0.heap.size, b, _, rfl, by omega, by omega, by omega, early4 (lo := 0) ((((cells_new W0 _ _).ext (Ext.drew (Ext.refl _)))).ext h1), Lib.hid (by rw [smK_zero]; repeat with_reducible (first | exact hh | refine Has.setOther ?_ (by simp <;> omega) _)), And.left ‹Ext W0 _ ∧ _›⟩)
  case rest =>
    obtain ⟨ZB, b, c, rfl, hZ1, hZ2, hZ3, L1, L2, L3⟩ := hcut
    have HZB : Hid (w.heap.size + 1 + 1 ≤ ZB ∧ w.heap.size + 1 + 1 ≤ b ∧ b ≠ ZB) := by have := HSZ.out; exact ⟨by omega, by omega, hZ3⟩
    clear lA q0 hZ1 hZ2 hZ3
    go_wp2_with fail
    go_loopw [8] (fun z wr => ∃ (i b c : Nat), i ≤ k ∧ z = .int .i64 i ∧ Hid (Cells wr ZB [.int .i64 P, .int .i64 S, .int .i64 S, .slice (some ⟨b, 0, none⟩) (S * S) c]) ∧ Hid (Has wr b (smK P (S * S) ms xs i)) ∧ Hid (W0.heap.size ≤ b ∧ b ≠ ZB) ∧ Hid (Ext W0 wr)) (fun z _ => k - (intOf z).toNat)
    case atStart => exact ⟨0, b, c, by omega, rfl, L1, L2, by have := HZB.out; have := HSZ.out; exact ⟨by omega, by omega⟩, L3⟩
    case round =>
      clear L1 L2 L3
      obtain ⟨i, b, c, hi, rfl, L1, L2, L4, L3⟩ := hrel
      have AW := A0.out.ext L3.out
      have lA := AW.1
      have q1 := AW.2 1 _ rfl
      by_cases hlt : i < k
      · obtain ⟨hxb, x1⟩ := reads_at (HX.out.ext (E0.out.trans L3.out)) hlt
        obtain ⟨y0, y1⟩ := HRX.out i (by rw [HX.out.1]; exact hlt)
        by_cases hz : gi xs i = 0
        · have HSK := Lib.hid (smK_skip (P := P) (N := S * S) (ms := ms) (xs := xs) hz)
          rw [hz] at x1
          clear hz y0 y1
          go_wp2
          exact ⟨⟨i + 1, b, c, by omega, by simp, L1, by rw [HSK.out]; exact L2, L4, L3⟩, by simp [intOf]; omega⟩
        · have hzn : (gi xs i != 0) = true := by simpa using hz
          have HMw := HM.out.ext (E0.out.trans L3.out)
          have lG := HMw.lt
          obtain ⟨bj, c0, c1, c2, c3, hrd⟩ := HMw.get i hlt
          rw [HL.out i hlt] at c3 hrd
          rw [HE.out i hlt] at c0 c1 c2
          dsimp only at c0 c1 c2
          have HRD := Lib.hid hrd
          have HSA := Lib.hid (smK_add (P := P) (N := S * S) (ms := ms) (xs := xs) i (HL.out i hlt) y0 y1)
          have HRA := Lib.hid (smK_res (P := P) (N := S * S) (ms := ms) (xs := xs) (show 0 < P by omega) i)
          have lZ := L1.out.1
          have p0 := L1.out.2 0 _ rfl
          have p1 := L1.out.2 1 _ rfl
          have p2 := L1.out.2 2 _ rfl
          have p3 := L1.out.2 3 _ rfl
          have nG : g ≠ ZB := by have := HM.out.lt; have := HZB.out; omega
          have nX : bx ≠ ZB := by
            have := (reads_at HX.out hlt).1; have := HZB.out; omega
          clear HMw hrd hz
          generalize gi xs i = x at *
          go_wp2_with fail
          refine wp_region_held_drew (S := fun w' => wr.grownBy w' (some ZB) ∧ ∀ B o, B ≠ ZB → B < wr.heap.size → w'.cell? ⟨B, o, none⟩ = wr.cell? ⟨B, o, none⟩) (by kernel_rfl) keptB_drew (fun hHeld => ?_)
          refine wpAnyH_take (i := 1) (v := ?v1) rfl (by kernel_rfl) (by kernel_rfl) (by kernel_rfl) (fun _ _ _ h => h) (Or.inl ⟨by rfl, ?hy1⟩) hHeld ?rest1
          case hy1 => (intro wz hSw; (try dsimp only at hSw); go_simp; (try with_reducible rfl))
          (try simp only [Act.put, getElem_toArray, getElem_cons_succ, getElem_cons_zero]); (try simp only [setIfInBounds_toArray, set_cons_succ, set_cons_zero])
          refine wpAnyH_take (i := 2) (v := ?v2) rfl (by kernel_rfl) (by kernel_rfl) (by kernel_rfl) (fun _ _ _ h => h) (Or.inl ⟨by rfl, ?hy2⟩) hHeld ?rest2
          case hy2 => (intro wz hSw; (try dsimp only at hSw); go_simp; (try with_reducible rfl))
          (try simp only [Act.put, getElem_toArray, getElem_cons_succ, getElem_cons_zero]); (try simp only [setIfInBounds_toArray, set_cons_succ, set_cons_zero])
          refine wpAnyH_take (i := 3) (v := ?v3) rfl (by kernel_rfl) (by kernel_rfl) (by kernel_rfl) (fun _ _ _ h => h) (Or.inl ⟨by rfl, ?hy3⟩) hHeld ?rest3
          case hy3 => (intro wz hSw; (try dsimp only at hSw); go_simp; (try with_reducible rfl))
          (try simp only [Act.put, getElem_toArray, getElem_cons_succ, getElem_cons_zero]); (try simp only [setIfInBounds_toArray, set_cons_succ, set_cons_zero])
          refine wpAnyH_take (i := 4) (v := ?v4) rfl (by kernel_rfl) (by kernel_rfl) (by kernel_rfl) (fun _ _ _ h => h) (Or.inl ⟨by rfl, ?hy4⟩) hHeld ?rest4
          case hy4 => (intro wz hSw; (try dsimp only at hSw); go_simp; (try with_reducible rfl))
          (try simp only [Act.put, getElem_toArray, getElem_cons_succ, getElem_cons_zero]); (try simp only [setIfInBounds_toArray, set_cons_succ, set_cons_zero])
          refine wpAnyH_take (i := 5) (v := ?v5) rfl (by kernel_rfl) (by kernel_rfl) (by kernel_rfl) (fun _ _ _ h => h) (Or.inl ⟨by rfl, ?hy5⟩) hHeld ?rest5
          case hy5 => (intro wz hSw; (try dsimp only at hSw); go_simp; (try with_reducible rfl))
          (try simp only [Act.put, getElem_toArray, getElem_cons_succ, getElem_cons_zero]); (try simp only [setIfInBounds_toArray, set_cons_succ, set_cons_zero])
          refine wpAnyH_take (i := 6) (v := ?v6) rfl (by kernel_rfl) (by kernel_rfl) (by kernel_rfl) (fun _ _ _ h => h) (Or.inl ⟨by rfl, ?hy6⟩) hHeld ?rest6
          case hy6 => (intro wz hSw; (try dsimp only at hSw); go_simp; (try with_reducible rfl))
          (try simp only [Act.put, getElem_toArray, getElem_cons_succ, getElem_cons_zero]); (try simp only [setIfInBounds_toArray, set_cons_succ, set_cons_zero])
          refine wpAnyH_take (i := 7) (v := ?v7) rfl (by kernel_rfl) (by kernel_rfl) (by kernel_rfl) (fun _ _ _ h => h) (Or.inl ⟨by rfl, ?hy7⟩) hHeld ?rest7
          case hy7 => (intro wz hSw; (try dsimp only at hSw); go_simp; (try with_reducible rfl))
          (try simp only [Act.put, getElem_toArray, getElem_cons_succ, getElem_cons_zero]); (try simp only [setIfInBounds_toArray, set_cons_succ, set_cons_zero])
          refine wpAnyH_take (i := 8) (v := ?v8) rfl (by kernel_rfl) (by kernel_rfl) (by kernel_rfl) (fun _ _ _ h => h) (Or.inl ⟨by rfl, ?hy8⟩) hHeld ?rest8
          case hy8 => (intro wz hSw; (try dsimp only at hSw); go_simp; (try with_reducible rfl))
          (try simp only [Act.put, getElem_toArray, getElem_cons_succ, getElem_cons_zero]); (try simp only [setIfInBounds_toArray, set_cons_succ, set_cons_zero])
          refine wpAnyH_ready (rs := [0, 9]) (by kernel_rfl) (by simp) ?_
          refine AllReadyH.cons rfl (fun K' hK => ?_) (AllReadyH.cons rfl (fun K' hK => ?_) AllReadyH.nil)
          · skip
            go_simp
            refine hK.out _ _ hHeld (fun hHeld => ?_)
            clear hK
            refine wpAnyH_ready (rs := [9]) (by kernel_rfl) (by simp) ?_
            refine AllReadyH.cons rfl (fun K' hK => ?_) AllReadyH.nil
            go_simp
            refine (l1Scale_spec P S S _ ⟨bj, 0, none⟩ (S * S) (S * S) (mt ms i).d _ (HRD.out.ext (Ext.refl _).drew) (by omega) hp hp2 (HRS.out i hlt)).mono ?_
            rintro e w7 ⟨b7, c7, rfl, hb7, hb7', k7, h7⟩
            have X7 := (Ext.refl wr).drew.trans h7
            have z7 := X7.le
            have M7 := L1.out.ext X7
            have lY := M7.1
            have s0 := M7.2 0 _ rfl
            have s1 := M7.2 1 _ rfl
            have s2 := M7.2 2 _ rfl
            have s3 := M7.2 3 _ rfl
            clear M7
            dsimp only
            refine hK.out _ _ (keptB_call hHeld h7) (fun hHeld => ?_)
            clear hK
            refine wpAnyH_ready (rs := [10]) (by kernel_rfl) (by simp) ?_
            refine AllReadyH.cons rfl (fun K' hK => ?_) AllReadyH.nil
            go_simp
            refine (l1Add_spec P S S P S S ⟨b, 0, none⟩ (S * S) c (smK P (S * S) ms xs i) (some ⟨b7, 0, none⟩) c7 (scaleL P (x % P) (mt ms i).d) _ ((L2.out.ext X7).reads (smK_length i)) (k7.reads (by rw [scaleL_length, HL.out i hlt])) (by omega) hp hp2 HRA.out (scaleL_res _ _ (by omega) _)).mono ?_
            rintro e w8 ⟨b8, c8, rfl, hb8, hb8', k8, h8⟩
            have X8 := X7.trans h8
            have z8 := X8.le
            have M8 := L1.out.ext X8
            have lW := M8.1
            have t0 := M8.2 0 _ rfl
            have t1 := M8.2 1 _ rfl
            have t2 := M8.2 2 _ rfl
            have t3 := M8.2 3 _ rfl
            have tf := M8.3
            clear M8
            dsimp only
            refine hK.out _ _ (keptB_call hHeld h8) (fun hHeld => ?_)
            clear hK
            refine wpAnyH_ready (rs := [11]) (by kernel_rfl) (by simp) ?_
            refine AllReadyH.cons rfl (fun K' hK => ?_) AllReadyH.nil
            go_simp
            refine hK.out _ _ (kb4 hHeld _ _ _ _) (fun hHeld => ?_)
            clear hK
            refine wpAnyH_done (by kernel_rfl) ?_ _
            have hne : b8 ≠ ZB := by omega
            rw [HSA.out] at k8
            have N1 := Lib.hid (early4 (lo := 0) (v0 := .int .i64 P) (v1 := .int .i64 S) (v2 := .int .i64 S) (v3 := .slice (some ⟨b8, 0, none⟩) (S * S) c8) (L1.out.ext X8))
            have N2 := Lib.hid (ha4 k8 hne (.int .i64 P) (.int .i64 S) (.int .i64 S) (.slice (some ⟨b8, 0, none⟩) (S * S) c8))
            have N3 := Lib.hid (ext4 (L3.out.trans X8) (show W0.heap.size ≤ ZB by have := HZB.out; have := HSZ.out; omega) (.int .i64 P) (.int .i64 S) (.int .i64 S) (.slice (some ⟨b8, 0, none⟩) (S * S) c8))
            have N4 : Hid (W0.heap.size ≤ b8 ∧ b8 ≠ ZB) := ⟨by have := L3.out.le; omega, hne⟩
            clear hHeld L1 L2 L3 L4 X7 X8 k7 k8 h7 h8 lA q1 lZ p0 p1 p2 p3 lG c0 c1 c2 c3 t0 t1 t2 t3 tf lW lY s0 s1 s2 s3 hxb x1
            go_wp2
            exact ⟨⟨i + 1, b8, c8, by omega, by simp, N1, N2, N4, N3⟩, by simp [intOf]; omega⟩
          · skip
            go_simp
            refine (l1Scale_spec P S S _ ⟨bj, 0, none⟩ (S * S) (S * S) (mt ms i).d _ (HRD.out.ext (Ext.refl _).drew) (by omega) hp hp2 (HRS.out i hlt)).mono ?_
            rintro e w7 ⟨b7, c7, rfl, hb7, hb7', k7, h7⟩
            have X7 := (Ext.refl wr).drew.trans h7
            have z7 := X7.le
            have M7 := L1.out.ext X7
            have lY := M7.1
            have s0 := M7.2 0 _ rfl
            have s1 := M7.2 1 _ rfl
            have s2 := M7.2 2 _ rfl
            have s3 := M7.2 3 _ rfl
            clear M7
            dsimp only
            refine hK.out _ _ (keptB_call hHeld h7) (fun hHeld => ?_)
            clear hK
            refine wpAnyH_ready (rs := [0]) (by kernel_rfl) (by simp) ?_
            refine AllReadyH.cons rfl (fun K' hK => ?_) AllReadyH.nil
            go_simp
            refine hK.out _ _ hHeld (fun hHeld => ?_)
            clear hK
            refine wpAnyH_ready (rs := [10]) (by kernel_rfl) (by simp) ?_
            refine AllReadyH.cons rfl (fun K' hK => ?_) AllReadyH.nil
            go_simp
            refine (l1Add_spec P S S P S S ⟨b, 0, none⟩ (S * S) c (smK P (S * S) ms xs i) (some ⟨b7, 0, none⟩) c7 (scaleL P (x % P) (mt ms i).d) _ ((L2.out.ext X7).reads (smK_length i)) (k7.reads (by rw [scaleL_length, HL.out i hlt])) (by omega) hp hp2 HRA.out (scaleL_res _ _ (by omega) _)).mono ?_
            rintro e w8 ⟨b8, c8, rfl, hb8, hb8', k8, h8⟩
            have X8 := X7.trans h8
            have z8 := X8.le
            have M8 := L1.out.ext X8
            have lW := M8.1
            have t0 := M8.2 0 _ rfl
            have t1 := M8.2 1 _ rfl
            have t2 := M8.2 2 _ rfl
            have t3 := M8.2 3 _ rfl
            have tf := M8.3
            clear M8
            dsimp only
            refine hK.out _ _ (keptB_call hHeld h8) (fun hHeld => ?_)
            clear hK
            refine wpAnyH_ready (rs := [11]) (by kernel_rfl) (by simp) ?_
            refine AllReadyH.cons rfl (fun K' hK => ?_) AllReadyH.nil
            go_simp
            refine hK.out _ _ (kb4 hHeld _ _ _ _) (fun hHeld => ?_)
            clear hK
            refine wpAnyH_done (by kernel_rfl) ?_ _
            have hne : b8 ≠ ZB := by omega
            rw [HSA.out] at k8
            have N1 := Lib.hid (early4 (lo := 0) (v0 := .int .i64 P) (v1 := .int .i64 S) (v2 := .int .i64 S) (v3 := .slice (some ⟨b8, 0, none⟩) (S * S) c8) (L1.out.ext X8))
            have N2 := Lib.hid (ha4 k8 hne (.int .i64 P) (.int .i64 S) (.int .i64 S) (.slice (some ⟨b8, 0, none⟩) (S * S) c8))
            have N3 := Lib.hid (ext4 (L3.out.trans X8) (show W0.heap.size ≤ ZB by have := HZB.out; have := HSZ.out; omega) (.int .i64 P) (.int .i64 S) (.int .i64 S) (.slice (some ⟨b8, 0, none⟩) (S * S) c8))
            have N4 : Hid (W0.heap.size ≤ b8 ∧ b8 ≠ ZB) := ⟨by have := L3.out.le; omega, hne⟩
            clear hHeld L1 L2 L3 L4 X7 X8 k7 k8 h7 h8 lA q1 lZ p0 p1 p2 p3 lG c0 c1 c2 c3 t0 t1 t2 t3 tf lW lY s0 s1 s2 s3 hxb x1
            go_wp2
            exact ⟨⟨i + 1, b8, c8, by omega, by simp, N1, N2, N4, N3⟩, by simp [intOf]; omega⟩
      · obtain rfl : i = k := by omega
        have M4 := M0.out.ext L3.out
        have f0 := M4.2 0 _ rfl
        have f1 := M4.2 1 _ rfl
        have f2 := M4.2 2 _ rfl
        have f3 := M4.2 3 _ rfl
        have t0 := M4.3
        have lZ := L1.out.1
        have p0 := L1.out.2 0 _ rfl
        have p1 := L1.out.2 1 _ rfl
        have p2 := L1.out.2 2 _ rfl
        have p3 := L1.out.2 3 _ rfl
        have hle := L3.out.le
        have hsz := HSZ.out
        have hbl := L2.out.lt
        have h41 := L4.out.1
        go_wp2
        refine bodyPost_ret (v := .agg #[.int .i64 P, .int .i64 S, .int .i64 S, .slice (some ⟨b, 0, none⟩) (S * S) c]) (by simp [results, Try.results51, go_sem, f0, f1, f2, f3]) rfl ⟨b, c, rfl, by omega, ?_, ?_, ?_⟩
        · simpa using hbl
        · exact ha4 L2.out (by omega) _ _ _ _
        · exact ext4 (E0.out.trans L3.out) (by omega) _ _ _ _
end Go.Proofs.Ytnikfalpjieibaa
