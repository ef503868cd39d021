/-
  Submodules: SubmoduleBy of the program.
-/
import Derived.Test.YtnikfalpjieibaaSbi
import Derived.Test.YtnikfalpjieibaaHsm
import Derived.Laws.EntriesVeiled
import Derived.RegionTactic
namespace Go.Proofs.Ytnikfalpjieibaa
open Go.ChangeShapes Go.WideShapes Go.ChangeAt Go.RowKit
open List (getElem_toArray getElem_cons_succ getElem_cons_zero setIfInBounds_toArray set_cons_succ set_cons_zero)
set_option linter.unusedVariables false
set_option linter.unusedSimpArgs false
theorem Cells.setOth {w : World} {B : Nat} {vs : List Value} (h : Cells w B vs) {p : Addr} (hp : p.block ≠ B) (v : Value) : Cells (w.setCell p v) B vs :=
  h.grown (grownBy_set (p := p) (grownBy_refl w (some p.block)) rfl v) (fun k hk => by simp at hk; omega)
def rowsAt : Option Value → Nat | some (.int _ z) => z.toNat | _ => 0

set_option maxRecDepth 100000 in
set_option maxHeartbeats 6400000 in
theorem grow_C (P : Int) (D R m0 mo n1 N F0 : Nat) (xs : List Int) (s q : Nat → Nat × List Int) (w : World) (hD : D ≤ 30) (hp : 2 ≤ P) (hp2 : P ≤ 10007) (hX : Reads w (some ⟨m0, mo, none⟩) n1 xs) (hn1 : n1 = R * D) (hR : R ≤ 40) (hx : Res xs P) (h0 : s 0 = spnS P R D xs) (hs : ∀ i, s (i + 1) = apS P D (s i) (q i).1 (q i).2) (hle : ∀ i, (s i).1 ≤ D) (hlen : ∀ i, (s i).2.length = (s i).1 * D) (hres : ∀ i, Res (s i).2 P) (hql : ∀ i, (q i).2.length = (q i).1 * D) (hqr : ∀ i, Res (q i).2 P) (hqn : ∀ i, (q i).1 ≤ 840) (hup : ∀ i, i < N → (s i).1 < (s (i + 1)).1) (hend : (s (N + 1)).1 = (s N).1)
    (hnx : ∀ i, i ≤ N → ∀ w1 b, Ext w w1 → Has w1 b (s i).2 → Calls Try.prog 88 #[.pointer (some ⟨F0, 0, none⟩), .agg #[.int .i64 P, .int .i64 ((s i).1 : Nat), .int .i64 D, .slice (some ⟨b, 0, none⟩) ((s i).1 * D) ((s i).1 * D)]] w1 fun e w' => ∃ b', e = .returned (.agg #[.int .i64 P, .int .i64 ((q i).1 : Nat), .int .i64 D, .slice (some ⟨b', 0, none⟩) ((q i).1 * D) ((q i).1 * D)]) ∧ w1.heap.size ≤ b' ∧ b' < w'.heap.size ∧ Has w' b' (q i).2 ∧ Ext w1 w') :
    Calls Try.prog 87 #[.agg #[.int .i64 P, .int .i64 (R : Nat), .int .i64 D, .slice (some ⟨m0, mo, none⟩) n1 n1], .func (.func 88) #[.pointer (some ⟨F0, 0, none⟩)] #[]] w fun e w' => ∃ b, e = .returned (.agg #[.int .i64 P, .int .i64 ((s N).1 : Nat), .int .i64 D, .slice (some ⟨b, 0, none⟩) ((s N).1 * D) ((s N).1 * D)]) ∧ w.heap.size ≤ b ∧ b < w'.heap.size ∧ Has w' b (s N).2 ∧ Ext w w' := by
  have HX := Lib.hid hX
  have HNX := Lib.hid hnx
  have HEN := Lib.hid hend
  have HUP := Lib.hid hup
  have HLE := Lib.hid hle
  have hRD : R * D ≤ 1200 := Nat.mul_le_mul hR hD
  have HS0 : Hid (∀ w1, Ext w w1 → Calls Try.prog 116 #[.agg #[.int .i64 P, .int .i64 (R : Nat), .int .i64 D, .slice (some ⟨m0, mo, none⟩) n1 n1]] w1 fun e w' => ∃ b, e = .returned (.agg #[.int .i64 P, .int .i64 ((s 0).1 : Nat), .int .i64 D, .slice (some ⟨b, 0, none⟩) ((s 0).1 * D) ((s 0).1 * D)]) ∧ w1.heap.size ≤ b ∧ b < w'.heap.size ∧ Has w' b (s 0).2 ∧ Ext w1 w') := fun w1 h => by
    rw [h0]
    exact span_impl P R D n1 n1 (some ⟨m0, mo, none⟩) xs w1 (hX.ext h) hn1 (by omega) (by omega) (by omega) hp hp2 hx
  have HJN : Hid (∀ i w1 b b2, Has w1 b (s i).2 → Has w1 b2 (q i).2 → Calls Try.prog 113 #[.agg #[.int .i64 P, .int .i64 ((s i).1 : Nat), .int .i64 D, .slice (some ⟨b, 0, none⟩) ((s i).1 * D) ((s i).1 * D)], .agg #[.int .i64 P, .int .i64 ((q i).1 : Nat), .int .i64 D, .slice (some ⟨b2, 0, none⟩) ((q i).1 * D) ((q i).1 * D)]] w1 fun e w' => ∃ b3, e = .returned (.agg #[.int .i64 P, .int .i64 (((s i).1 : Int) + ((q i).1 : Int)), .int .i64 D, .slice (some ⟨b3, 0, none⟩) ((s i).1 * D + (q i).1 * D) ((s i).1 * D + (q i).1 * D)]) ∧ w1.heap.size ≤ b3 ∧ b3 < w'.heap.size ∧ Has w' b3 ((s i).2 ++ (q i).2) ∧ Ext w1 w') := fun i w1 b b2 h1 h2 => by
    have e1 : (s i).1 * D ≤ 900 := Nat.mul_le_mul (Nat.le_trans (hle i) hD) hD
    have e2 : (q i).1 * D ≤ 25200 := Nat.mul_le_mul (hqn i) hD
    have := hqn i
    have := hle i
    exact joinRows_impl P P D (s i).1 (q i).1 D ((s i).1 * D) ((q i).1 * D) _ _ _ _ (s i).2 (q i).2 w1 (h1.reads (hlen i)) (h2.reads (hql i)) rfl rfl (by omega) (by omega) (by omega)
  have HSP : Hid (∀ i w1 b3, Has w1 b3 ((s i).2 ++ (q i).2) → Calls Try.prog 116 #[.agg #[.int .i64 P, .int .i64 (((s i).1 : Int) + ((q i).1 : Int)), .int .i64 D, .slice (some ⟨b3, 0, none⟩) ((s i).1 * D + (q i).1 * D) ((s i).1 * D + (q i).1 * D)]] w1 fun e w' => ∃ b, e = .returned (.agg #[.int .i64 P, .int .i64 ((s (i + 1)).1 : Nat), .int .i64 D, .slice (some ⟨b, 0, none⟩) ((s (i + 1)).1 * D) ((s (i + 1)).1 * D)]) ∧ w1.heap.size ≤ b ∧ b < w'.heap.size ∧ Has w' b (s (i + 1)).2 ∧ Ext w1 w') := fun i w1 b3 h => by
    have e1 : (s i).1 * D ≤ 900 := Nat.mul_le_mul (Nat.le_trans (hle i) hD) hD
    have e2 : (q i).1 * D ≤ 25200 := Nat.mul_le_mul (hqn i) hD
    have := hqn i
    have := hle i
    have h9 := span_impl P ((s i).1 + (q i).1) D ((s i).1 * D + (q i).1 * D) ((s i).1 * D + (q i).1 * D) (some ⟨b3, 0, none⟩) ((s i).2 ++ (q i).2) w1 (h.reads (by rw [List.length_append, hlen, hql])) (by rw [Nat.add_mul]) (by omega) (by omega) (by omega) hp hp2 (res_append (hres i) (hqr i))
    rw [hs i]
    rw [Int.natCast_add] at h9
    exact h9
  have HL0 := hle 0
  clear hX hnx hend hup hle h0 hs hlen hres hql hqr hqn hx hn1 hRD hR
  go_enter Try.func87, Try.ntmps87
  have A0_1 := Lib.hid ((cells_new' w #[.int .i64 P, .int .i64 (R : Nat), .int .i64 D, .slice (some ⟨m0, mo, none⟩) n1 n1] 37 (w.heap.size) (by simp)).ext ((Ext.refl _).alloc (.cells #[.int .i64 0, .int .i64 0, .int .i64 0, .slice none 0 0] 37)))
  have R_2 := Lib.hid (cells_new' (w.alloc (.cells #[.int .i64 P, .int .i64 (R : Nat), .int .i64 D, .slice (some ⟨m0, mo, none⟩) n1 n1] 37)) #[.int .i64 0, .int .i64 0, .int .i64 0, .slice none 0 0] 37 (w.heap.size + 1) (by simp))
  have E_3 := Lib.hid (((Ext.refl w).alloc (.cells #[.int .i64 P, .int .i64 (R : Nat), .int .i64 D, .slice (some ⟨m0, mo, none⟩) n1 n1] 37)).alloc (.cells #[.int .i64 0, .int .i64 0, .int .i64 0, .slice none 0 0] 37))
  have lA0 := A0_1.out.1
  have qA00 := A0_1.out.2 0 _ rfl
  have qA01 := A0_1.out.2 1 _ rfl
  have qA02 := A0_1.out.2 2 _ rfl
  have qA03 := A0_1.out.2 3 _ rfl
  try simp only [World.size_alloc] at lA0
  go_wp2_with fail
  refine (HS0.out _ E_3.out).mono ?_
  rintro e w_4 ⟨b0, rfl, hb1, hb2, hh, h_4⟩
  clear lA0 qA00 qA01 qA02 qA03
  have A0_5 := Lib.hid (A0_1.out.ext h_4)
  clear A0_1
  have R_6 := Lib.hid (R_2.out.ext h_4)
  clear R_2
  have E_7 := Lib.hid (E_3.out.trans h_4)
  clear E_3
  have H0 := Lib.hid hh
  try simp only [World.size_alloc] at hb1
  clear hh
  have hRl := R_6.out.1
  have hE0 := E_7.out.le
  have P_8 := (Ext.refl w_4).alloc (.cells #[.int .i64 P, .int .i64 ((s 0).1 : Nat), .int .i64 D, .slice (some ⟨b0, 0, none⟩) ((s 0).1 * D) ((s 0).1 * D)] 37)
  have A0_9 := Lib.hid (A0_5.out.ext P_8)
  clear A0_5
  have R_10 := Lib.hid (R_6.out.ext P_8)
  clear R_6
  have E_11 := Lib.hid (E_7.out.trans P_8)
  clear E_7
  clear P_8
  have L_12 := Lib.hid (cells_new w_4 #[.int .i64 P, .int .i64 ((s 0).1 : Nat), .int .i64 D, .slice (some ⟨b0, 0, none⟩) ((s 0).1 * D) ((s 0).1 * D)] 37)
  have H1 := Lib.hid (H0.out.alloc (.cells #[.int .i64 P, .int .i64 ((s 0).1 : Nat), .int .i64 D, .slice (some ⟨b0, 0, none⟩) ((s 0).1 * D) ((s 0).1 * D)] 37))
  have hLBs : w.heap.size + 1 < w_4.heap.size := by omega
  clear H0 A0_9
  go_wp2_with fail
  generalize hW1 : (w_4.alloc (.cells #[.int .i64 P, .int .i64 ((s 0).1 : Nat), .int .i64 D, .slice (some ⟨b0, 0, none⟩) ((s 0).1 * D) ((s 0).1 * D)] 37)) = W1 at *
  generalize hLB : w_4.heap.size = LB at *
  clear hW1
  clear hLB
  go_loopw [6] (fun _ wr => ∃ i b, i ≤ N ∧ w.heap.size + 2 ≤ b ∧ Hid (Cells wr LB [.int .i64 P, .int .i64 ((s i).1 : Nat), .int .i64 D, .slice (some ⟨b, 0, none⟩) ((s i).1 * D) ((s i).1 * D)]) ∧ Hid (Has wr b (s i).2) ∧ Hid (Cells wr (w.heap.size + 1) [.int .i64 0, .int .i64 0, .int .i64 0, .slice none 0 0]) ∧ Hid (Ext w wr)) (fun _ wr => D - rowsAt (wr.cell? ⟨LB, 1, none⟩))
  case atStart => exact ⟨0, b0, by omega, by omega, L_12, H1, R_10, E_11⟩
  case round =>
    clear L_12 H1 R_10 E_11
    obtain ⟨i, b, hi, hbw, hL, hH, hR0, hE⟩ := hrel
    have HX1 := Lib.hid (HNX.out i hi)
    have HJ1 := Lib.hid (HJN.out i)
    have HS1 := Lib.hid (HSP.out i)
    have hle1 := HLE.out (i + 1)
    have lL := hL.out.1
    have q0 := hL.out.2 0 _ rfl
    have q1 := hL.out.2 1 _ rfl
    have q2 := hL.out.2 2 _ rfl
    have q3 := hL.out.2 3 _ rfl
    have HQ1 := Lib.hid q1
    go_upto_region 2 with fail
    go_cut [6] (fun s6 wx => ∃ XB b4 , s6 = .pointer (some ⟨XB, 0, none⟩) ∧ wr.heap.size ≤ XB ∧ wr.heap.size ≤ b4 ∧ Hid (Cells wx XB [.int .i64 P, .int .i64 ((s (i + 1)).1 : Nat), .int .i64 D, .slice (some ⟨b4, 0, none⟩) ((s (i + 1)).1 * D) ((s (i + 1)).1 * D)]) ∧ Hid (Has wx b4 (s (i + 1)).2) ∧ Hid (Ext wr wx))
    case first =>
      go_region_held3 (fun w' => Ext wr w' ∧ (∀ b o, b < wr.heap.size → w'.cell? ⟨b, o, none⟩ = wr.cell? ⟨b, o, none⟩)) (first | assumption | (with_reducible exact ext2 (Ext.trans (And.left ‹Ext wr _ ∧ _›) ‹Ext _ _›)) | (refine ext2 ?_; with_reducible repeat (first | exact Ext.refl _ | exact And.left ‹Ext wr _ ∧ _› | refine Ext.drew ?_ | refine Ext.drewN ?_ _ | exact Ext.alloc (And.left ‹Ext wr _ ∧ _›) _ | exact Ext.alloc ((Ext.refl _).drew) _ | exact Ext.alloc (((Ext.refl _).drew).trans h2) _ | exact Ext.alloc ((((Ext.refl _).drew).trans h2).trans h3) _ | exact Ext.alloc (((((Ext.refl _).drew).trans h2).trans h3).trans h4) _ | refine Ext.alloc ?_ _ | refine Ext.setCell ?_ (by have e0 : wr.drew.heap.size = wr.heap.size := rfl; simp <;> omega) _))) (first
        | (go_at_call 88; (with_reducible refine (HX1.out _ b (hE.out.trans (And.left ‹Ext wr _ ∧ _›)) (hH.out.ext (And.left ‹Ext wr _ ∧ _›))).mono ?_); rintro e w2 ⟨b2, rfl, hq1, hq2, kh2, h2⟩; have c_2 := h2.cells; have f_2 := h2.frees; have y_2 := h2.le; have x_2 := fun k hk => Nat.lt_of_lt_of_le (n := k) hk h2.le; (try simp only [World.size_drew] at y_2 x_2); (try simp only [World.size_alloc] at y_2 x_2); (try simp only [Nat.add_one_le_iff] at y_2); (try have z_2_0 : wr.heap.size < w2.heap.size := by omega))
        | (go_at_call 113; (with_reducible refine (HJ1.out _ b b2 (hH.out.ext (And.left ‹Ext wr _ ∧ _›)) (by with_reducible first | exact kh2 | exact Has.alloc kh2 _)).mono ?_); rintro e w3 ⟨b3, rfl, hr1, hr2, kh3, h3⟩; have c_3 := h3.cells; have f_3 := h3.frees; have y_3 := h3.le; have x_3 := fun k hk => Nat.lt_of_lt_of_le (n := k) hk h3.le; (try simp only [World.size_drew] at y_3 x_3); (try simp only [World.size_alloc] at y_3 x_3); (try simp only [Nat.add_one_le_iff] at y_3); (try have z_3_0 : wr.heap.size < w3.heap.size := by omega); (try have z_3_1 : w2.heap.size < w3.heap.size := by omega))
        | (go_at_call 116; (with_reducible refine (HS1.out _ b3 (by with_reducible first | exact kh3 | exact Has.alloc kh3 _)).mono ?_); rintro e w4 ⟨b4, rfl, hm1, hm2, kx, h4⟩; have c_4 := h4.cells; have f_4 := h4.frees; have y_4 := h4.le; have x_4 := fun k hk => Nat.lt_of_lt_of_le (n := k) hk h4.le; (try simp only [World.size_drew] at y_4 x_4); (try simp only [World.size_alloc] at y_4 x_4); (try simp only [Nat.add_one_le_iff] at y_4); (try have z_4_0 : wr.heap.size < w4.heap.size := by omega); (try have z_4_1 : w2.heap.size < w4.heap.size := by omega); (try have z_4_2 : w3.heap.size < w4.heap.size := by omega)))
      all_goals (go_wp2_with fail; go_meet; first
        | exact ⟨w4.heap.size, b4, rfl, (by (try simp only [World.size_alloc, World.size_drew] at hm1); omega), (by (try simp only [World.size_alloc, World.size_drew] at hm1); omega), cells_new _ _ _, Has.alloc (by with_reducible first | exact kx | exact kx.alloc _) _, And.left ‹Ext wr _ ∧ _›⟩
        | exact ⟨w3.heap.size, b4, rfl, (by (try simp only [World.size_alloc, World.size_drew] at hm1); omega), (by (try simp only [World.size_alloc, World.size_drew] at hm1); omega), early4 (lo := 0) ((cells_new w3 _ _).ext h4), (Has.setOther (Has.setOther (Has.setOther (Has.setOther (by with_reducible first | exact kx | exact kx.alloc _) (by (try simp only [World.size_alloc, World.size_drew] at hm1); simp <;> omega) _) (by (try simp only [World.size_alloc, World.size_drew] at hm1); simp <;> omega) _) (by (try simp only [World.size_alloc, World.size_drew] at hm1); simp <;> omega) _) (by (try simp only [World.size_alloc, World.size_drew] at hm1); simp <;> omega) _), And.left ‹Ext wr _ ∧ _›⟩
        | exact ⟨w2.heap.size, b4, rfl, (by (try simp only [World.size_alloc, World.size_drew] at hm1); omega), (by (try simp only [World.size_alloc, World.size_drew] at hm1); omega), early4 (lo := 0) (((cells_new w2 _ _).ext h3).ext h4), (Has.setOther (Has.setOther (Has.setOther (Has.setOther (by with_reducible first | exact kx | exact kx.alloc _) (by (try simp only [World.size_alloc, World.size_drew] at hm1); simp <;> omega) _) (by (try simp only [World.size_alloc, World.size_drew] at hm1); simp <;> omega) _) (by (try simp only [World.size_alloc, World.size_drew] at hm1); simp <;> omega) _) (by (try simp only [World.size_alloc, World.size_drew] at hm1); simp <;> omega) _), And.left ‹Ext wr _ ∧ _›⟩
        | exact ⟨wr.heap.size, b4, rfl, (by (try simp only [World.size_alloc, World.size_drew] at hm1); omega), (by (try simp only [World.size_alloc, World.size_drew] at hm1); omega), early4 (lo := 0) (((((cells_new wr _ _).ext (Ext.drew (Ext.refl _))).ext h2).ext h3).ext h4), (Has.setOther (Has.setOther (Has.setOther (Has.setOther (by with_reducible first | exact kx | exact kx.alloc _) (by (try simp only [World.size_alloc, World.size_drew] at hm1); simp <;> omega) _) (by (try simp only [World.size_alloc, World.size_drew] at hm1); simp <;> omega) _) (by (try simp only [World.size_alloc, World.size_drew] at hm1); simp <;> omega) _) (by (try simp only [World.size_alloc, World.size_drew] at hm1); simp <;> omega) _), And.left ‹Ext wr _ ∧ _›⟩)
    case rest =>
      obtain ⟨XB, b4, rfl, hxb, hb4, hXB, h4H, h4E⟩ := hcut
      obtain ⟨w5, hwk⟩ : ∃ wk : World, wk = wc := ⟨_, rfl⟩
      subst hwk
      clear lL q0 q1 q2 q3
      have hL2 := Lib.hid (hL.out.ext h4E.out)
      have hH2 := Lib.hid (hH.out.ext h4E.out)
      have hR2 := Lib.hid (hR0.out.ext h4E.out)
      have hE2 := Lib.hid (hE.out.trans h4E.out)
      have hLBw := hL.out.1
      have hsz := hE.out.le
      clear hL hH hR0 hE h4E HX1 HJ1 HS1
      have lX := hXB.out.1
      have x0 := hXB.out.2 0 _ rfl
      have x1 := hXB.out.2 1 _ rfl
      have x2 := hXB.out.2 2 _ rfl
      have x3 := hXB.out.2 3 _ rfl
      have lL := hL2.out.1
      have q0 := hL2.out.2 0 _ rfl
      have q1 := hL2.out.2 1 _ rfl
      have q2 := hL2.out.2 2 _ rfl
      have q3 := hL2.out.2 3 _ rfl
      by_cases e : i = N
      · subst e
        have he : (s (i + 1)).1 = (s i).1 := HEN.out
        have heq : (((s (i + 1)).1 : Int) == ((s i).1 : Int)) = true := by rw [he]; simp
        clear he
        have r0 := hR2.out.2 0 _ rfl
        have r1 := hR2.out.2 1 _ rfl
        have r2 := hR2.out.2 2 _ rfl
        have r3 := hR2.out.2 3 _ rfl
        have tR := hR2.out.3
        have lR := hR2.out.1
        have hlt := hH2.out.lt
        go_wp2
        refine bodyPost_ret (v := .agg #[.int .i64 P, .int .i64 ((s i).1 : Nat), .int .i64 D, .slice (some ⟨b, 0, none⟩) ((s i).1 * D) ((s i).1 * D)]) (by simp [results, Try.results87, go_sem, r0, r1, r2, r3]) rfl ⟨b, rfl, by omega, by simp; omega, ?_, ext4 hE2.out (by omega) _ _ _ _⟩
        repeat with_reducible (first | exact hH2.out | refine Has.setOther ?_ (by simp <;> omega) _)
      · have hlt := HUP.out i (by omega)
        have hne3 : (((s (i + 1)).1 : Int) == ((s i).1 : Int)) = false := by simp only [beq_eq_false_iff_ne, ne_eq]; omega
        have tL := hL2.out.3
        have nH : LB ≠ b4 := by omega
        have nR : LB ≠ w.heap.size + 1 := by omega
        have C' := Lib.hid (early4 (lo := 0) (v0 := .int .i64 P) (v1 := .int .i64 ((s (i + 1)).1 : Nat)) (v2 := .int .i64 D) (v3 := .slice (some ⟨b4, 0, none⟩) ((s (i + 1)).1 * D) ((s (i + 1)).1 * D)) hL2.out)
        have H' := Lib.hid ((((h4H.out.setOther (p := ⟨LB, 0, none⟩) nH (.int .i64 P)).setOther (p := ⟨LB, 1, none⟩) nH (.int .i64 ((s (i + 1)).1 : Nat))).setOther (p := ⟨LB, 2, none⟩) nH (.int .i64 D)).setOther (p := ⟨LB, 3, none⟩) nH (.slice (some ⟨b4, 0, none⟩) ((s (i + 1)).1 * D) ((s (i + 1)).1 * D)))
        have R' := Lib.hid ((((hR2.out.setOth (p := ⟨LB, 0, none⟩) nR (.int .i64 P)).setOth (p := ⟨LB, 1, none⟩) nR (.int .i64 ((s (i + 1)).1 : Nat))).setOth (p := ⟨LB, 2, none⟩) nR (.int .i64 D)).setOth (p := ⟨LB, 3, none⟩) nR (.slice (some ⟨b4, 0, none⟩) ((s (i + 1)).1 * D) ((s (i + 1)).1 * D)))
        have E' := Lib.hid (ext4 (B := LB) hE2.out (by omega) (.int .i64 P) (.int .i64 ((s (i + 1)).1 : Nat)) (.int .i64 D) (.slice (some ⟨b4, 0, none⟩) ((s (i + 1)).1 * D) ((s (i + 1)).1 * D)))
        go_wp2
        refine ⟨⟨i + 1, b4, by omega, by omega, C', H', R', E'⟩, ?_⟩
        rw [C'.out.2 1 _ rfl, HQ1.out]
        simp only [rowsAt, Int.toNat_natCast]
        omega

noncomputable def hvB (P : Int) (ms : List Mat) (P2 R C : Int) (xs : List Int) : Bool := mok P2 R C xs && ((P2 == P) && (C == (szM ms : Int)))
/-- The model. -/
noncomputable def smbM (P D : Int) (l : List Int) (ms : List Mat) (P2 R C : Int) (xs : List Int) : Mat × Bool := if modB P D l ms && hvB P ms P2 R C xs then (⟨P, (sbS P (szM ms) D.toNat ms R.toNat xs (sbN P (szM ms) D.toNat ms R.toNat xs)).1, szM ms, (sbS P (szM ms) D.toNat ms R.toNat xs (sbN P (szM ms) D.toNat ms R.toNat xs)).2⟩, true) else (noMat, false)

set_option maxRecDepth 100000 in
set_option maxHeartbeats 6400000 in
theorem submoduleBy_impl {P D P2 R C : Int} {a0 oa n g k s0 so n1 : Nat} {l : List Int} {ms : List Mat} {xs : List Int} {w : World} {p r' q : Int} {d : List Int} {ok : Bool} (hT : Reads w (some ⟨a0, oa, none⟩) n l) (hm0 : n ≤ 1048576) (hm : MatsI w g k ms) (hk : k ≤ 1048576) (hX : Reads w (some ⟨s0, so, none⟩) n1 xs) (hx : n1 ≤ 1048576) (hM : smbM P D l ms P2 R C xs = (⟨p, r', q, d⟩, ok)) :
    Calls Try.prog 44 #[.agg #[.int .i64 P, .int .i64 D, .slice (some ⟨a0, oa, none⟩) n n], .slice (some ⟨g, 0, none⟩) k k, .agg #[.int .i64 P2, .int .i64 R, .int .i64 C, .slice (some ⟨s0, so, none⟩) n1 n1]] w fun e w' => ∃ v, e = .returned (.tuple #[v, .bool ok]) ∧ Rmat w w' v p r' q d ∧ Ext w w' := by
  have HT := Lib.hid hT
  have HMM := Lib.hid hm
  have HX := Lib.hid hX
  clear hT hm hX
  rcases h0 : modB P D l ms with _ | _
  · have H0 := Lib.hid h0
    simp only [smbM, h0, noMat, Bool.false_and, Bool.and_false, Bool.false_eq_true, if_false, Prod.mk.injEq, Mat.mk.injEq] at hM
    obtain ⟨⟨rfl, rfl, rfl, rfl⟩, rfl⟩ := hM
    clear h0
    go_enter Try.func44, Try.ntmps44
    have A0_1 := Lib.hid (((cells_new' w #[.int .i64 P, .int .i64 D, .slice (some ⟨a0, oa, none⟩) n n] 29 (w.heap.size) (by simp)).ext ((Ext.refl _).alloc (.cells #[.int .i64 P2, .int .i64 R, .int .i64 C, .slice (some ⟨s0, so, none⟩) n1 n1] 37))).ext ((Ext.refl _).alloc (.cells #[.int .i64 0, .int .i64 0, .int .i64 0, .slice none 0 0] 37)))
    have A1_2 := Lib.hid ((cells_new' (w.alloc (.cells #[.int .i64 P, .int .i64 D, .slice (some ⟨a0, oa, none⟩) n n] 29)) #[.int .i64 P2, .int .i64 R, .int .i64 C, .slice (some ⟨s0, so, none⟩) n1 n1] 37 (w.heap.size + 1) (by simp)).ext ((Ext.refl _).alloc (.cells #[.int .i64 0, .int .i64 0, .int .i64 0, .slice none 0 0] 37)))
    have R_3 := Lib.hid (cells_new' ((w.alloc (.cells #[.int .i64 P, .int .i64 D, .slice (some ⟨a0, oa, none⟩) n n] 29)).alloc (.cells #[.int .i64 P2, .int .i64 R, .int .i64 C, .slice (some ⟨s0, so, none⟩) n1 n1] 37)) #[.int .i64 0, .int .i64 0, .int .i64 0, .slice none 0 0] 37 (w.heap.size + 1 + 1) (by simp))
    have E_4 := Lib.hid ((((Ext.refl w).alloc (.cells #[.int .i64 P, .int .i64 D, .slice (some ⟨a0, oa, none⟩) n n] 29)).alloc (.cells #[.int .i64 P2, .int .i64 R, .int .i64 C, .slice (some ⟨s0, so, none⟩) n1 n1] 37)).alloc (.cells #[.int .i64 0, .int .i64 0, .int .i64 0, .slice none 0 0] 37))
    have lA0 := A0_1.out.1
    have qA00 := A0_1.out.2 0 _ rfl
    have qA01 := A0_1.out.2 1 _ rfl
    have qA02 := A0_1.out.2 2 _ rfl
    have lA1 := A1_2.out.1
    have qA10 := A1_2.out.2 0 _ rfl
    have qA11 := A1_2.out.2 1 _ rfl
    have qA12 := A1_2.out.2 2 _ rfl
    have qA13 := A1_2.out.2 3 _ rfl
    try simp only [World.size_alloc] at lA0 lA1
    go_wp2_with fail
    refine (wrapModule_impl P _ a0 oa n g k l ms _ (HT.out.ext E_4.out) hm0 (HMM.out.ext E_4.out) hk).mono ?_
    rintro e w_5 (⟨hf, ⟨v, rfl⟩, h_5⟩ | ⟨hf, h_5⟩)
    clear lA0 qA00 qA01 qA02 lA1 qA10 qA11 qA12 qA13
    case inr => exact absurd (H0.out.symm.trans hf) (by simp)
    clear hf
    have A0_6 := Lib.hid (A0_1.out.ext h_5)
    clear A0_1
    have A1_7 := Lib.hid (A1_2.out.ext h_5)
    clear A1_2
    have R_8 := Lib.hid (R_3.out.ext h_5)
    clear R_3
    have E_9 := Lib.hid (E_4.out.trans h_5)
    clear E_4
    have lR := R_8.out.1
    have qR0 := R_8.out.2 0 _ rfl
    have qR1 := R_8.out.2 1 _ rfl
    have qR2 := R_8.out.2 2 _ rfl
    have qR3 := R_8.out.2 3 _ rfl
    have tR := R_8.out.3
    try simp only [World.size_alloc] at lR
    go_wp2
    refine bodyPost_ret (v := .tuple #[.agg #[.int .i64 0, .int .i64 0, .int .i64 0, .slice none 0 0], .bool false]) (by simp [results, Try.results44, go_sem, qR0, qR1, qR2, qR3]) rfl ⟨_, rfl, ⟨_, _, _, rfl, own_nil _ _ _, by omega⟩, ext4 E_9.out (by omega) _ _ _ _⟩
  obtain ⟨d', S, rfl, _, hP⟩ := mod_parts h0 HT.out.1
  obtain rfl : k = d' := by rw [← hm_len HMM.out, hP.cnt]
  have H0 := Lib.hid h0
  rcases hv : hvB P ms P2 R C xs with _ | _
  · have HV : Hid ((mok P2 R C xs && ((P2 == P) && (C == (S : Int)))) = false) := by rw [Hid, ← hv, hvB, hP.szM]
    simp only [smbM, h0, hv, noMat, Bool.false_and, Bool.and_false, Bool.false_eq_true, if_false, Prod.mk.injEq, Mat.mk.injEq] at hM
    obtain ⟨⟨rfl, rfl, rfl, rfl⟩, rfl⟩ := hM
    have HP := Lib.hid hP
    clear h0 hv hP
    go_enter Try.func44, Try.ntmps44
    have A0_1 := Lib.hid (((cells_new' w #[.int .i64 P, .int .i64 k, .slice (some ⟨a0, oa, none⟩) n n] 29 (w.heap.size) (by simp)).ext ((Ext.refl _).alloc (.cells #[.int .i64 P2, .int .i64 R, .int .i64 C, .slice (some ⟨s0, so, none⟩) n1 n1] 37))).ext ((Ext.refl _).alloc (.cells #[.int .i64 0, .int .i64 0, .int .i64 0, .slice none 0 0] 37)))
    have A1_2 := Lib.hid ((cells_new' (w.alloc (.cells #[.int .i64 P, .int .i64 k, .slice (some ⟨a0, oa, none⟩) n n] 29)) #[.int .i64 P2, .int .i64 R, .int .i64 C, .slice (some ⟨s0, so, none⟩) n1 n1] 37 (w.heap.size + 1) (by simp)).ext ((Ext.refl _).alloc (.cells #[.int .i64 0, .int .i64 0, .int .i64 0, .slice none 0 0] 37)))
    have R_3 := Lib.hid (cells_new' ((w.alloc (.cells #[.int .i64 P, .int .i64 k, .slice (some ⟨a0, oa, none⟩) n n] 29)).alloc (.cells #[.int .i64 P2, .int .i64 R, .int .i64 C, .slice (some ⟨s0, so, none⟩) n1 n1] 37)) #[.int .i64 0, .int .i64 0, .int .i64 0, .slice none 0 0] 37 (w.heap.size + 1 + 1) (by simp))
    have E_4 := Lib.hid ((((Ext.refl w).alloc (.cells #[.int .i64 P, .int .i64 k, .slice (some ⟨a0, oa, none⟩) n n] 29)).alloc (.cells #[.int .i64 P2, .int .i64 R, .int .i64 C, .slice (some ⟨s0, so, none⟩) n1 n1] 37)).alloc (.cells #[.int .i64 0, .int .i64 0, .int .i64 0, .slice none 0 0] 37))
    have lA0 := A0_1.out.1
    have qA00 := A0_1.out.2 0 _ rfl
    have qA01 := A0_1.out.2 1 _ rfl
    have qA02 := A0_1.out.2 2 _ rfl
    have lA1 := A1_2.out.1
    have qA10 := A1_2.out.2 0 _ rfl
    have qA11 := A1_2.out.2 1 _ rfl
    have qA12 := A1_2.out.2 2 _ rfl
    have qA13 := A1_2.out.2 3 _ rfl
    try simp only [World.size_alloc] at lA0 lA1
    go_wp2_with fail
    refine (wrapModule_impl P _ a0 oa n g k l ms _ (HT.out.ext E_4.out) hm0 (HMM.out.ext E_4.out) hk).mono ?_
    rintro e w_5 (⟨hf, _⟩ | ⟨hf, d9, S9, BM, BL, e9, hP9, rfl, hb, hbl, hlo, h_5⟩)
    clear lA0 qA00 qA01 qA02 lA1 qA10 qA11 qA12 qA13
    case inl => exact absurd (H0.out.symm.trans hf) (by simp)
    obtain ⟨rfl, rfl⟩ : k = d9 ∧ S = S9 := ⟨by omega, HP.out.szM.symm.trans hP9.szM⟩
    clear hf hP9 e9 hlo
    have A0_6 := Lib.hid (A0_1.out.ext h_5)
    clear A0_1
    have A1_7 := Lib.hid (A1_2.out.ext h_5)
    clear A1_2
    have R_8 := Lib.hid (R_3.out.ext h_5)
    clear R_3
    have E_9 := Lib.hid (E_4.out.trans h_5)
    clear E_4
    have M_10 := Lib.hid hb
    have L_11 := Lib.hid hbl
    clear hb hbl
    have lA1 := A1_7.out.1
    have qA10 := A1_7.out.2 0 _ rfl
    have qA11 := A1_7.out.2 1 _ rfl
    have qA12 := A1_7.out.2 2 _ rfl
    have qA13 := A1_7.out.2 3 _ rfl
    try simp only [World.size_alloc] at lA1
    go_wp2_with fail
    refine (hasVectors_impl P P2 R C k S k g BM BL n1 n1 _ (some ⟨s0, so, none⟩) ms xs _ (HP.out.toW M_10.out L_11.out (HMM.out.ext E_9.out)) (HX.out.ext E_9.out) hx).mono ?_
    rintro e w_12 ⟨rfl, h_12⟩
    clear lA1 qA10 qA11 qA12 qA13
    have A0_13 := Lib.hid (A0_6.out.ext h_12)
    clear A0_6
    have A1_14 := Lib.hid (A1_7.out.ext h_12)
    clear A1_7
    have R_15 := Lib.hid (R_8.out.ext h_12)
    clear R_8
    have M_16 := Lib.hid (M_10.out.ext h_12)
    clear M_10
    have L_17 := Lib.hid (L_11.out.ext h_12)
    clear L_11
    have E_18 := Lib.hid (E_9.out.trans h_12)
    clear E_9
    rw [HV.out]
    have lR := R_15.out.1
    have qR0 := R_15.out.2 0 _ rfl
    have qR1 := R_15.out.2 1 _ rfl
    have qR2 := R_15.out.2 2 _ rfl
    have qR3 := R_15.out.2 3 _ rfl
    have tR := R_15.out.3
    try simp only [World.size_alloc] at lR
    go_wp2
    refine bodyPost_ret (v := .tuple #[.agg #[.int .i64 0, .int .i64 0, .int .i64 0, .slice none 0 0], .bool false]) (by simp [results, Try.results44, go_sem, qR0, qR1, qR2, qR3]) rfl ⟨_, rfl, ⟨_, _, _, rfl, own_nil _ _ _, by omega⟩, ext4 E_18.out (by omega) _ _ _ _⟩
  simp only [smbM, h0, hv, Bool.and_self, if_true, hP.szM, Prod.mk.injEq, Mat.mk.injEq] at hM
  obtain ⟨⟨rfl, rfl, rfl, rfl⟩, rfl⟩ := hM
  have hv2 : (mok P2 R C xs && ((P2 == P) && (C == (S : Int)))) = true := by rw [← hv, hvB, hP.szM]
  obtain ⟨hPP, rfl, r, rfl, hr40, hmo, hxl, hxr⟩ := hsm_parts hv2
  obtain rfl : P = P2 := hPP.symm
  simp only [Int.toNat_natCast]
  have HP := Lib.hid hP
  have HV := Lib.hid hv2
  have hS := hP.sz
  have hD := hP.alg.dim
  have hIP := isP_iff.1 hP.alg.pr
  have hp := isP_lo hP.alg.pr
  have hp2 := isP_hi hP.alg.pr
  have hn1 : n1 = r * S := by rw [← HX.out.1, hxl]
  have HNS := Lib.hid (sbN_spec (P := P) (S := S) (D := k) (ms := ms) hIP hxl hxr)
  have HSP : Hid (∀ i, Spc P S (sbS P S k ms r xs i)) := fun i => sbS_spc hIP hxl hxr i
  have HGR : Hid (∀ w1 BM BL v, Ext w w1 → ModW w1 P k S k g BM BL v ms → Calls Try.prog 87 #[.agg #[.int .i64 P, .int .i64 r, .int .i64 S, .slice (some ⟨s0, so, none⟩) n1 n1], .func (.func 88) #[.pointer (some ⟨BM, 0, none⟩)] #[]] w1 fun e w' => ∃ b, e = .returned (.agg #[.int .i64 P, .int .i64 (((sbS P S k ms r xs) (sbN P S k ms r xs)).1 : Nat), .int .i64 S, .slice (some ⟨b, 0, none⟩) (((sbS P S k ms r xs) (sbN P S k ms r xs)).1 * S) (((sbS P S k ms r xs) (sbN P S k ms r xs)).1 * S)]) ∧ w1.heap.size ≤ b ∧ b < w'.heap.size ∧ Has w' b ((sbS P S k ms r xs) (sbN P S k ms r xs)).2 ∧ Ext w1 w') := fun w1 BM BL v h hmw =>
    grow_C P S r s0 so n1 (sbN P S k ms r xs) BM xs (sbS P S k ms r xs) (fun i => (k * ((sbS P S k ms r xs) i).1, imA P S ms ((sbS P S k ms r xs) i) k)) w1 hS hp hp2 (HX.out.ext h) hn1 hr40 hxr rfl (fun _ => rfl) (fun i => (HSP.out i).le) (fun i => (HSP.out i).len) (fun i => (HSP.out i).res) (fun i => imA_length _ _) (fun i => imA_res (by omega) _ _) (fun i => Nat.mul_le_mul hD (Nat.le_trans (HSP.out i).le hS)) (fun i hi => sbN_up hIP hxl hxr i hi) HNS.out.2.2
      (fun i hi w2 b2 h2 hb2 => images_impl P k S k g BM BL ((sbS P S k ms r xs) i).1 b2 0 (((sbS P S k ms r xs) i).1 * S) v ms ((sbS P S k ms r xs) i).2 w2 (hmw.ext h2) (hb2.reads (HSP.out i).len) rfl (Nat.le_trans (HSP.out i).le (by omega)) (HSP.out i).res)
  have HLN : Hid (((sbS P S k ms r xs) (sbN P S k ms r xs)).2.length = ((sbS P S k ms r xs) (sbN P S k ms r xs)).1 * S) := (HSP.out _).len
  have HLB : Hid (((sbS P S k ms r xs) (sbN P S k ms r xs)).1 * S ≤ 900) := Nat.mul_le_mul (Nat.le_trans (HSP.out _).le hS) hS
  clear h0 hv hv2 hP hxl hxr hmo HNS HSP hIP hn1
  generalize (sbS P S k ms r xs) (sbN P S k ms r xs) = u at *
  obtain ⟨ur, ud⟩ := u
  dsimp only at *
  have hmf : ∀ (fn : Fn) (first cap : Array Value) (w : World), (Instr.makeFunc fn first cap).run Try.prog w = .ok (.func fn first cap) w := fun _ _ _ _ => rfl
  go_enter Try.func44, Try.ntmps44
  have A0_1 := Lib.hid (((cells_new' w #[.int .i64 P, .int .i64 k, .slice (some ⟨a0, oa, none⟩) n n] 29 (w.heap.size) (by simp)).ext ((Ext.refl _).alloc (.cells #[.int .i64 P, .int .i64 r, .int .i64 S, .slice (some ⟨s0, so, none⟩) n1 n1] 37))).ext ((Ext.refl _).alloc (.cells #[.int .i64 0, .int .i64 0, .int .i64 0, .slice none 0 0] 37)))
  have A1_2 := Lib.hid ((cells_new' (w.alloc (.cells #[.int .i64 P, .int .i64 k, .slice (some ⟨a0, oa, none⟩) n n] 29)) #[.int .i64 P, .int .i64 r, .int .i64 S, .slice (some ⟨s0, so, none⟩) n1 n1] 37 (w.heap.size + 1) (by simp)).ext ((Ext.refl _).alloc (.cells #[.int .i64 0, .int .i64 0, .int .i64 0, .slice none 0 0] 37)))
  have R_3 := Lib.hid (cells_new' ((w.alloc (.cells #[.int .i64 P, .int .i64 k, .slice (some ⟨a0, oa, none⟩) n n] 29)).alloc (.cells #[.int .i64 P, .int .i64 r, .int .i64 S, .slice (some ⟨s0, so, none⟩) n1 n1] 37)) #[.int .i64 0, .int .i64 0, .int .i64 0, .slice none 0 0] 37 (w.heap.size + 1 + 1) (by simp))
  have E_4 := Lib.hid ((((Ext.refl w).alloc (.cells #[.int .i64 P, .int .i64 k, .slice (some ⟨a0, oa, none⟩) n n] 29)).alloc (.cells #[.int .i64 P, .int .i64 r, .int .i64 S, .slice (some ⟨s0, so, none⟩) n1 n1] 37)).alloc (.cells #[.int .i64 0, .int .i64 0, .int .i64 0, .slice none 0 0] 37))
  have lA0 := A0_1.out.1
  have qA00 := A0_1.out.2 0 _ rfl
  have qA01 := A0_1.out.2 1 _ rfl
  have qA02 := A0_1.out.2 2 _ rfl
  have lA1 := A1_2.out.1
  have qA10 := A1_2.out.2 0 _ rfl
  have qA11 := A1_2.out.2 1 _ rfl
  have qA12 := A1_2.out.2 2 _ rfl
  have qA13 := A1_2.out.2 3 _ rfl
  try simp only [World.size_alloc] at lA0 lA1
  go_wp2_with fail
  refine (wrapModule_impl P _ a0 oa n g k l ms _ (HT.out.ext E_4.out) hm0 (HMM.out.ext E_4.out) hk).mono ?_
  rintro e w_5 (⟨hf, _⟩ | ⟨hf, d9, S9, BM, BL, e9, hP9, rfl, hb, hbl, hlo, h_5⟩)
  clear lA0 qA00 qA01 qA02 lA1 qA10 qA11 qA12 qA13
  case inl => exact absurd (H0.out.symm.trans hf) (by simp)
  obtain ⟨rfl, rfl⟩ : k = d9 ∧ S = S9 := ⟨by omega, HP.out.szM.symm.trans hP9.szM⟩
  clear hf hP9 e9 hlo
  have A0_6 := Lib.hid (A0_1.out.ext h_5)
  clear A0_1
  have A1_7 := Lib.hid (A1_2.out.ext h_5)
  clear A1_2
  have R_8 := Lib.hid (R_3.out.ext h_5)
  clear R_3
  have E_9 := Lib.hid (E_4.out.trans h_5)
  clear E_4
  have M_10 := Lib.hid hb
  have L_11 := Lib.hid hbl
  clear hb hbl
  have lA1 := A1_7.out.1
  have qA10 := A1_7.out.2 0 _ rfl
  have qA11 := A1_7.out.2 1 _ rfl
  have qA12 := A1_7.out.2 2 _ rfl
  have qA13 := A1_7.out.2 3 _ rfl
  try simp only [World.size_alloc] at lA1
  go_wp2_with fail
  refine (hasVectors_impl P P r S k S k g BM BL n1 n1 _ (some ⟨s0, so, none⟩) ms xs _ (HP.out.toW M_10.out L_11.out (HMM.out.ext E_9.out)) (HX.out.ext E_9.out) hx).mono ?_
  rintro e w_12 ⟨rfl, h_12⟩
  clear lA1 qA10 qA11 qA12 qA13
  have A0_13 := Lib.hid (A0_6.out.ext h_12)
  clear A0_6
  have A1_14 := Lib.hid (A1_7.out.ext h_12)
  clear A1_7
  have R_15 := Lib.hid (R_8.out.ext h_12)
  clear R_8
  have M_16 := Lib.hid (M_10.out.ext h_12)
  clear M_10
  have L_17 := Lib.hid (L_11.out.ext h_12)
  clear L_11
  have E_18 := Lib.hid (E_9.out.trans h_12)
  clear E_9
  rw [HV.out]
  have hwr := R_15.out.1
  have lA1 := A1_14.out.1
  have qA10 := A1_14.out.2 0 _ rfl
  have qA11 := A1_14.out.2 1 _ rfl
  have qA12 := A1_14.out.2 2 _ rfl
  have qA13 := A1_14.out.2 3 _ rfl
  try simp only [World.size_alloc] at lA1
  go_wp2_with fail
  refine (HGR.out _ BM BL _ E_18.out (HP.out.toW M_16.out L_17.out (HMM.out.ext E_18.out))).mono ?_
  rintro e w_19 ⟨b, rfl, hb1, hb2, hh, h_19⟩
  clear lA1 qA10 qA11 qA12 qA13
  have A0_20 := Lib.hid (A0_13.out.ext h_19)
  clear A0_13
  have A1_21 := Lib.hid (A1_14.out.ext h_19)
  clear A1_14
  have R_22 := Lib.hid (R_15.out.ext h_19)
  clear R_15
  have M_23 := Lib.hid (M_16.out.ext h_19)
  clear M_16
  have L_24 := Lib.hid (L_17.out.ext h_19)
  clear L_17
  have E_25 := Lib.hid (E_18.out.trans h_19)
  clear E_18
  have HH := Lib.hid hh
  clear hh
  have lR := R_22.out.1
  have qR0 := R_22.out.2 0 _ rfl
  have qR1 := R_22.out.2 1 _ rfl
  have qR2 := R_22.out.2 2 _ rfl
  have qR3 := R_22.out.2 3 _ rfl
  have tR := R_22.out.3
  try simp only [World.size_alloc] at lR
  go_wp2
  refine bodyPost_ret (v := .tuple #[.agg #[.int .i64 P, .int .i64 ur, .int .i64 S, .slice (some ⟨b, 0, none⟩) (ur * S) (ur * S)], .bool true]) (by simp [results, Try.results44, go_sem, qR0, qR1, qR2, qR3]) rfl ⟨_, rfl, ⟨_, _, _, rfl, ?_, by have := HLB.out; omega⟩, ext4 E_25.out (by omega) _ _ _ _⟩
  exact Own.mono (own4 (HH.out.own (lo := w.heap.size + 1 + 1 + 1) (hi := w_19.heap.size) (by omega) hb2 HLN.out) (by omega) _ _ _ _) (by omega) (by simp)
end Go.Proofs.Ytnikfalpjieibaa
