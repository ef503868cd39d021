/-
  Spaces that grow, in the program.
-/
import Derived.Test.YtapaopapgnfdkaaGw0
import Derived.Test.YtapaopapgnfdkaaBr
import Derived.Test.YtapaopapgnfdkaaPrI0
import Derived.Test.YtapaopapgnfdkaaCs
import Derived.Test.YtapaopapgnfdkaaOrth
import Derived.Laws.EntriesVeiled
import Derived.RegionTactic
namespace Go.Proofs.Ytapaopapgnfdkaa
open Go.ChangeShapes Go.WideShapes Go.ChangeAt Go.RowKit
set_option linter.unusedVariables false
set_option linter.unusedSimpArgs false

theorem Cells.setOth {w : World} {B : Nat} {vs : List Value} (h : Cells w B vs) {p : Addr} (hp : p.block ≠ B) (v : Value) : Cells (w.setCell p v) B vs :=
  h.grown (grownBy_set (p := p) (grownBy_refl w (some p.block)) rfl v) (fun k hk => by simp at hk; omega)
def rowsAt : Option Value → Nat | some (.int _ z) => z.toNat | _ => 0

set_option maxRecDepth 100000 in
set_option maxHeartbeats 6400000 in
theorem grow_A (P : Int) (D R m0 mo n1 N F0 : Nat) (xs : List Int) (s q : Nat → Nat × List Int) (w : World) (hD : D ≤ 28) (hp : 2 ≤ P) (hp2 : P ≤ 10007) (hX : Reads w (some ⟨m0, mo, none⟩) n1 xs) (hn1 : n1 = R * D) (hR : R ≤ 40) (hx : Res xs P) (h0 : s 0 = spnS P R D xs) (hs : ∀ i, s (i + 1) = apS P D (s i) (q i).1 (q i).2) (hle : ∀ i, (s i).1 ≤ D) (hlen : ∀ i, (s i).2.length = (s i).1 * D) (hres : ∀ i, Res (s i).2 P) (hql : ∀ i, (q i).2.length = (q i).1 * D) (hqr : ∀ i, Res (q i).2 P) (hqn : ∀ i, (q i).1 ≤ 784) (hup : ∀ i, i < N → (s i).1 < (s (i + 1)).1) (hend : (s (N + 1)).1 = (s N).1)
    (hnx : ∀ i, i ≤ N → ∀ w1 b, Ext w w1 → Has w1 b (s i).2 → Calls Try.prog 87 #[.agg #[.int .i64 P, .int .i64 ((s i).1 : Nat), .int .i64 D, .slice (some ⟨b, 0, none⟩) ((s i).1 * D) ((s i).1 * D)], .pointer (some ⟨F0, 0, none⟩)] w1 fun e w' => ∃ b', e = .returned (.agg #[.int .i64 P, .int .i64 ((q i).1 : Nat), .int .i64 D, .slice (some ⟨b', 0, none⟩) ((q i).1 * D) ((q i).1 * D)]) ∧ w1.heap.size ≤ b' ∧ b' < w'.heap.size ∧ Has w' b' (q i).2 ∧ Ext w1 w') :
    Calls Try.prog 86 #[.agg #[.int .i64 P, .int .i64 (R : Nat), .int .i64 D, .slice (some ⟨m0, mo, none⟩) n1 n1], .func (.func 87) #[] #[.pointer (some ⟨F0, 0, none⟩)]] w fun e w' => ∃ b, e = .returned (.agg #[.int .i64 P, .int .i64 ((s N).1 : Nat), .int .i64 D, .slice (some ⟨b, 0, none⟩) ((s N).1 * D) ((s N).1 * D)]) ∧ w.heap.size ≤ b ∧ b < w'.heap.size ∧ Has w' b (s N).2 ∧ Ext w w' := by
  have HX := Lib.hid hX
  have HNX := Lib.hid hnx
  have HEN := Lib.hid hend
  have HUP := Lib.hid hup
  have HLE := Lib.hid hle
  have hRD : R * D ≤ 1120 := Nat.mul_le_mul hR hD
  have HS0 : Hid (∀ w1, Ext w w1 → Calls Try.prog 161 #[.agg #[.int .i64 P, .int .i64 (R : Nat), .int .i64 D, .slice (some ⟨m0, mo, none⟩) n1 n1]] w1 fun e w' => ∃ b, e = .returned (.agg #[.int .i64 P, .int .i64 ((s 0).1 : Nat), .int .i64 D, .slice (some ⟨b, 0, none⟩) ((s 0).1 * D) ((s 0).1 * D)]) ∧ w1.heap.size ≤ b ∧ b < w'.heap.size ∧ Has w' b (s 0).2 ∧ Ext w1 w') := fun w1 h => by
    rw [h0]
    exact span_impl P R D n1 n1 (some ⟨m0, mo, none⟩) xs w1 (hX.ext h) hn1 (by omega) (by omega) (by omega) hp hp2 hx
  have HJN : Hid (∀ i w1 b b2, Has w1 b (s i).2 → Has w1 b2 (q i).2 → Calls Try.prog 162 #[.agg #[.int .i64 P, .int .i64 ((s i).1 : Nat), .int .i64 D, .slice (some ⟨b, 0, none⟩) ((s i).1 * D) ((s i).1 * D)], .agg #[.int .i64 P, .int .i64 ((q i).1 : Nat), .int .i64 D, .slice (some ⟨b2, 0, none⟩) ((q i).1 * D) ((q i).1 * D)]] w1 fun e w' => ∃ b3, e = .returned (.agg #[.int .i64 P, .int .i64 (((s i).1 : Int) + ((q i).1 : Int)), .int .i64 D, .slice (some ⟨b3, 0, none⟩) ((s i).1 * D + (q i).1 * D) ((s i).1 * D + (q i).1 * D)]) ∧ w1.heap.size ≤ b3 ∧ b3 < w'.heap.size ∧ Has w' b3 ((s i).2 ++ (q i).2) ∧ Ext w1 w') := fun i w1 b b2 h1 h2 => by
    have e1 : (s i).1 * D ≤ 784 := Nat.mul_le_mul (Nat.le_trans (hle i) hD) hD
    have e2 : (q i).1 * D ≤ 21952 := Nat.mul_le_mul (hqn i) hD
    have := hqn i
    have := hle i
    exact joinRows_impl P P D (s i).1 (q i).1 D ((s i).1 * D) ((q i).1 * D) _ _ _ _ (s i).2 (q i).2 w1 (h1.reads (hlen i)) (h2.reads (hql i)) rfl rfl (by omega) (by omega) (by omega)
  have HSP : Hid (∀ i w1 b3, Has w1 b3 ((s i).2 ++ (q i).2) → Calls Try.prog 161 #[.agg #[.int .i64 P, .int .i64 (((s i).1 : Int) + ((q i).1 : Int)), .int .i64 D, .slice (some ⟨b3, 0, none⟩) ((s i).1 * D + (q i).1 * D) ((s i).1 * D + (q i).1 * D)]] w1 fun e w' => ∃ b, e = .returned (.agg #[.int .i64 P, .int .i64 ((s (i + 1)).1 : Nat), .int .i64 D, .slice (some ⟨b, 0, none⟩) ((s (i + 1)).1 * D) ((s (i + 1)).1 * D)]) ∧ w1.heap.size ≤ b ∧ b < w'.heap.size ∧ Has w' b (s (i + 1)).2 ∧ Ext w1 w') := fun i w1 b3 h => by
    have e1 : (s i).1 * D ≤ 784 := Nat.mul_le_mul (Nat.le_trans (hle i) hD) hD
    have e2 : (q i).1 * D ≤ 21952 := Nat.mul_le_mul (hqn i) hD
    have := hqn i
    have := hle i
    have h9 := span_impl P ((s i).1 + (q i).1) D ((s i).1 * D + (q i).1 * D) ((s i).1 * D + (q i).1 * D) (some ⟨b3, 0, none⟩) ((s i).2 ++ (q i).2) w1 (h.reads (by rw [List.length_append, hlen, hql])) (by rw [Nat.add_mul]) (by omega) (by omega) (by omega) hp hp2 (res_append (hres i) (hqr i))
    rw [hs i]
    rw [Int.natCast_add] at h9
    exact h9
  have HL0 := hle 0
  clear hX hnx hend hup hle h0 hs hlen hres hql hqr hqn hx hn1 hRD hR
  go_enter Try.func86, Try.ntmps86
  have A0_1 := Lib.hid ((cells_new' w #[.int .i64 P, .int .i64 (R : Nat), .int .i64 D, .slice (some ⟨m0, mo, none⟩) n1 n1] 40 (w.heap.size) (by simp)).ext ((Ext.refl _).alloc (.cells #[.int .i64 0, .int .i64 0, .int .i64 0, .slice none 0 0] 40)))
  have R_2 := Lib.hid (cells_new' (w.alloc (.cells #[.int .i64 P, .int .i64 (R : Nat), .int .i64 D, .slice (some ⟨m0, mo, none⟩) n1 n1] 40)) #[.int .i64 0, .int .i64 0, .int .i64 0, .slice none 0 0] 40 (w.heap.size + 1) (by simp))
  have E_3 := Lib.hid (((Ext.refl w).alloc (.cells #[.int .i64 P, .int .i64 (R : Nat), .int .i64 D, .slice (some ⟨m0, mo, none⟩) n1 n1] 40)).alloc (.cells #[.int .i64 0, .int .i64 0, .int .i64 0, .slice none 0 0] 40))
  have lA0 := A0_1.out.1
  have qA00 := A0_1.out.2 0 _ rfl
  have qA01 := A0_1.out.2 1 _ rfl
  have qA02 := A0_1.out.2 2 _ rfl
  have qA03 := A0_1.out.2 3 _ rfl
  try simp only [World.size_alloc] at lA0
  go_wp2_with fail
  refine (HS0.out _ E_3.out).mono ?_
  rintro e w_4 ⟨b0, rfl, hb1, hb2, hh, h_4⟩
  clear lA0 qA00 qA01 qA02 qA03
  have A0_5 := Lib.hid (A0_1.out.ext h_4)
  clear A0_1
  have R_6 := Lib.hid (R_2.out.ext h_4)
  clear R_2
  have E_7 := Lib.hid (E_3.out.trans h_4)
  clear E_3
  have H0 := Lib.hid hh
  try simp only [World.size_alloc] at hb1
  clear hh
  have hRl := R_6.out.1
  have hE0 := E_7.out.le
  have P_8 := (Ext.refl w_4).alloc (.cells #[.int .i64 P, .int .i64 ((s 0).1 : Nat), .int .i64 D, .slice (some ⟨b0, 0, none⟩) ((s 0).1 * D) ((s 0).1 * D)] 40)
  have A0_9 := Lib.hid (A0_5.out.ext P_8)
  clear A0_5
  have R_10 := Lib.hid (R_6.out.ext P_8)
  clear R_6
  have E_11 := Lib.hid (E_7.out.trans P_8)
  clear E_7
  clear P_8
  have L_12 := Lib.hid (cells_new w_4 #[.int .i64 P, .int .i64 ((s 0).1 : Nat), .int .i64 D, .slice (some ⟨b0, 0, none⟩) ((s 0).1 * D) ((s 0).1 * D)] 40)
  have H1 := Lib.hid (H0.out.alloc (.cells #[.int .i64 P, .int .i64 ((s 0).1 : Nat), .int .i64 D, .slice (some ⟨b0, 0, none⟩) ((s 0).1 * D) ((s 0).1 * D)] 40))
  have hLBs : w.heap.size + 1 < w_4.heap.size := by omega
  clear H0 A0_9
  go_wp2_with fail
  generalize hW1 : (w_4.alloc (.cells #[.int .i64 P, .int .i64 ((s 0).1 : Nat), .int .i64 D, .slice (some ⟨b0, 0, none⟩) ((s 0).1 * D) ((s 0).1 * D)] 40)) = W1 at *
  generalize hLB : w_4.heap.size = LB at *
  clear hW1
  clear hLB
  go_loopw [6] (fun _ wr => ∃ i b, i ≤ N ∧ w.heap.size + 2 ≤ b ∧ Hid (Cells wr LB [.int .i64 P, .int .i64 ((s i).1 : Nat), .int .i64 D, .slice (some ⟨b, 0, none⟩) ((s i).1 * D) ((s i).1 * D)]) ∧ Hid (Has wr b (s i).2) ∧ Hid (Cells wr (w.heap.size + 1) [.int .i64 0, .int .i64 0, .int .i64 0, .slice none 0 0]) ∧ Hid (Ext w wr)) (fun _ wr => D - rowsAt (wr.cell? ⟨LB, 1, none⟩))
  case atStart => exact ⟨0, b0, by omega, by omega, L_12, H1, R_10, E_11⟩
  case round =>
    clear L_12 H1 R_10 E_11
    obtain ⟨i, b, hi, hbw, hL, hH, hR0, hE⟩ := hrel
    have HX1 := Lib.hid (HNX.out i hi)
    have HJ1 := Lib.hid (HJN.out i)
    have HS1 := Lib.hid (HSP.out i)
    have hle1 := HLE.out (i + 1)
    have lL := hL.out.1
    have q0 := hL.out.2 0 _ rfl
    have q1 := hL.out.2 1 _ rfl
    have q2 := hL.out.2 2 _ rfl
    have q3 := hL.out.2 3 _ rfl
    have HQ1 := Lib.hid q1
    go_upto_region 2 with fail
    go_cut [6] (fun s6 wx => ∃ XB b4 , s6 = .pointer (some ⟨XB, 0, none⟩) ∧ wr.heap.size ≤ XB ∧ wr.heap.size ≤ b4 ∧ Hid (Cells wx XB [.int .i64 P, .int .i64 ((s (i + 1)).1 : Nat), .int .i64 D, .slice (some ⟨b4, 0, none⟩) ((s (i + 1)).1 * D) ((s (i + 1)).1 * D)]) ∧ Hid (Has wx b4 (s (i + 1)).2) ∧ Hid (Ext wr wx))
    case first =>
      go_region_held3 (fun w' => Ext wr w' ∧ (∀ b o, b < wr.heap.size → w'.cell? ⟨b, o, none⟩ = wr.cell? ⟨b, o, none⟩)) (first | assumption | (with_reducible exact ext2 (Ext.trans (And.left ‹Ext wr _ ∧ _›) ‹Ext _ _›)) | (refine ext2 ?_; with_reducible repeat (first | exact Ext.refl _ | exact And.left ‹Ext wr _ ∧ _› | refine Ext.drew ?_ | refine Ext.drewN ?_ _ | exact Ext.alloc (And.left ‹Ext wr _ ∧ _›) _ | exact Ext.alloc ((Ext.refl _).drew) _ | exact Ext.alloc (((Ext.refl _).drew).trans h2) _ | exact Ext.alloc ((((Ext.refl _).drew).trans h2).trans h3) _ | exact Ext.alloc (((((Ext.refl _).drew).trans h2).trans h3).trans h4) _ | refine Ext.alloc ?_ _ | refine Ext.setCell ?_ (by have e0 : wr.drew.heap.size = wr.heap.size := rfl; simp <;> omega) _))) (first
        | (go_at_call 87; (with_reducible refine (HX1.out _ b (hE.out.trans (And.left ‹Ext wr _ ∧ _›)) (hH.out.ext (And.left ‹Ext wr _ ∧ _›))).mono ?_); rintro e w2 ⟨b2, rfl, hq1, hq2, kh2, h2⟩; have c_2 := h2.cells; have f_2 := h2.frees; have y_2 := h2.le; have x_2 := fun k hk => Nat.lt_of_lt_of_le (n := k) hk h2.le; (try simp only [World.size_drew] at y_2 x_2); (try simp only [World.size_alloc] at y_2 x_2); (try simp only [Nat.add_one_le_iff] at y_2); (try have z_2_0 : wr.heap.size < w2.heap.size := by omega))
        | (go_at_call 162; (with_reducible refine (HJ1.out _ b b2 (hH.out.ext (And.left ‹Ext wr _ ∧ _›)) (by with_reducible first | exact kh2 | exact Has.alloc kh2 _)).mono ?_); rintro e w3 ⟨b3, rfl, hr1, hr2, kh3, h3⟩; have c_3 := h3.cells; have f_3 := h3.frees; have y_3 := h3.le; have x_3 := fun k hk => Nat.lt_of_lt_of_le (n := k) hk h3.le; (try simp only [World.size_drew] at y_3 x_3); (try simp only [World.size_alloc] at y_3 x_3); (try simp only [Nat.add_one_le_iff] at y_3); (try have z_3_0 : wr.heap.size < w3.heap.size := by omega); (try have z_3_1 : w2.heap.size < w3.heap.size := by omega))
        | (go_at_call 161; (with_reducible refine (HS1.out _ b3 (by with_reducible first | exact kh3 | exact Has.alloc kh3 _)).mono ?_); rintro e w4 ⟨b4, rfl, hm1, hm2, kx, h4⟩; have c_4 := h4.cells; have f_4 := h4.frees; have y_4 := h4.le; have x_4 := fun k hk => Nat.lt_of_lt_of_le (n := k) hk h4.le; (try simp only [World.size_drew] at y_4 x_4); (try simp only [World.size_alloc] at y_4 x_4); (try simp only [Nat.add_one_le_iff] at y_4); (try have z_4_0 : wr.heap.size < w4.heap.size := by omega); (try have z_4_1 : w2.heap.size < w4.heap.size := by omega); (try have z_4_2 : w3.heap.size < w4.heap.size := by omega)))
      all_goals (go_wp2_with fail; go_meet; first
        | exact ⟨w4.heap.size, b4, rfl, (by (try simp only [World.size_alloc, World.size_drew] at hm1); omega), (by (try simp only [World.size_alloc, World.size_drew] at hm1); omega), cells_new _ _ _, Has.alloc (by with_reducible first | exact kx | exact kx.alloc _) _, And.left ‹Ext wr _ ∧ _›⟩
        | exact ⟨w3.heap.size, b4, rfl, (by (try simp only [World.size_alloc, World.size_drew] at hm1); omega), (by (try simp only [World.size_alloc, World.size_drew] at hm1); omega), early4 (lo := 0) ((cells_new w3 _ _).ext h4), (Has.setOther (Has.setOther (Has.setOther (Has.setOther (by with_reducible first | exact kx | exact kx.alloc _) (by (try simp only [World.size_alloc, World.size_drew] at hm1); simp <;> omega) _) (by (try simp only [World.size_alloc, World.size_drew] at hm1); simp <;> omega) _) (by (try simp only [World.size_alloc, World.size_drew] at hm1); simp <;> omega) _) (by (try simp only [World.size_alloc, World.size_drew] at hm1); simp <;> omega) _), And.left ‹Ext wr _ ∧ _›⟩
        | exact ⟨w2.heap.size, b4, rfl, (by (try simp only [World.size_alloc, World.size_drew] at hm1); omega), (by (try simp only [World.size_alloc, World.size_drew] at hm1); omega), early4 (lo := 0) (((cells_new w2 _ _).ext h3).ext h4), (Has.setOther (Has.setOther (Has.setOther (Has.setOther (by with_reducible first | exact kx | exact kx.alloc _) (by (try simp only [World.size_alloc, World.size_drew] at hm1); simp <;> omega) _) (by (try simp only [World.size_alloc, World.size_drew] at hm1); simp <;> omega) _) (by (try simp only [World.size_alloc, World.size_drew] at hm1); simp <;> omega) _) (by (try simp only [World.size_alloc, World.size_drew] at hm1); simp <;> omega) _), And.left ‹Ext wr _ ∧ _›⟩
        | exact ⟨wr.heap.size, b4, rfl, (by (try simp only [World.size_alloc, World.size_drew] at hm1); omega), (by (try simp only [World.size_alloc, World.size_drew] at hm1); omega), early4 (lo := 0) (((((cells_new wr _ _).ext (Ext.drew (Ext.refl _))).ext h2).ext h3).ext h4), (Has.setOther (Has.setOther (Has.setOther (Has.setOther (by with_reducible first | exact kx | exact kx.alloc _) (by (try simp only [World.size_alloc, World.size_drew] at hm1); simp <;> omega) _) (by (try simp only [World.size_alloc, World.size_drew] at hm1); simp <;> omega) _) (by (try simp only [World.size_alloc, World.size_drew] at hm1); simp <;> omega) _) (by (try simp only [World.size_alloc, World.size_drew] at hm1); simp <;> omega) _), And.left ‹Ext wr _ ∧ _›⟩)
    case rest =>
      obtain ⟨XB, b4, rfl, hxb, hb4, hXB, h4H, h4E⟩ := hcut
      obtain ⟨w5, hwk⟩ : ∃ wk : World, wk = wc := ⟨_, rfl⟩
      subst hwk
      clear lL q0 q1 q2 q3
      have hL2 := Lib.hid (hL.out.ext h4E.out)
      have hH2 := Lib.hid (hH.out.ext h4E.out)
      have hR2 := Lib.hid (hR0.out.ext h4E.out)
      have hE2 := Lib.hid (hE.out.trans h4E.out)
      have hLBw := hL.out.1
      have hsz := hE.out.le
      clear hL hH hR0 hE h4E HX1 HJ1 HS1
      have lX := hXB.out.1
      have x0 := hXB.out.2 0 _ rfl
      have x1 := hXB.out.2 1 _ rfl
      have x2 := hXB.out.2 2 _ rfl
      have x3 := hXB.out.2 3 _ rfl
      have lL := hL2.out.1
      have q0 := hL2.out.2 0 _ rfl
      have q1 := hL2.out.2 1 _ rfl
      have q2 := hL2.out.2 2 _ rfl
      have q3 := hL2.out.2 3 _ rfl
      by_cases e : i = N
      · subst e
        have he : (s (i + 1)).1 = (s i).1 := HEN.out
        have heq : (((s (i + 1)).1 : Int) == ((s i).1 : Int)) = true := by rw [he]; simp
        clear he
        have r0 := hR2.out.2 0 _ rfl
        have r1 := hR2.out.2 1 _ rfl
        have r2 := hR2.out.2 2 _ rfl
        have r3 := hR2.out.2 3 _ rfl
        have tR := hR2.out.3
        have lR := hR2.out.1
        have hlt := hH2.out.lt
        go_wp2
        refine bodyPost_ret (v := .agg #[.int .i64 P, .int .i64 ((s i).1 : Nat), .int .i64 D, .slice (some ⟨b, 0, none⟩) ((s i).1 * D) ((s i).1 * D)]) (by simp [results, Try.results86, go_sem, r0, r1, r2, r3]) rfl ⟨b, rfl, by omega, by simp; omega, ?_, ext4 hE2.out (by omega) _ _ _ _⟩
        repeat with_reducible (first | exact hH2.out | refine Has.setOther ?_ (by simp <;> omega) _)
      · have hlt := HUP.out i (by omega)
        have hne3 : (((s (i + 1)).1 : Int) == ((s i).1 : Int)) = false := by simp only [beq_eq_false_iff_ne, ne_eq]; omega
        have tL := hL2.out.3
        have nH : LB ≠ b4 := by omega
        have nR : LB ≠ w.heap.size + 1 := by omega
        have C' := Lib.hid (early4 (lo := 0) (v0 := .int .i64 P) (v1 := .int .i64 ((s (i + 1)).1 : Nat)) (v2 := .int .i64 D) (v3 := .slice (some ⟨b4, 0, none⟩) ((s (i + 1)).1 * D) ((s (i + 1)).1 * D)) hL2.out)
        have H' := Lib.hid ((((h4H.out.setOther (p := ⟨LB, 0, none⟩) nH (.int .i64 P)).setOther (p := ⟨LB, 1, none⟩) nH (.int .i64 ((s (i + 1)).1 : Nat))).setOther (p := ⟨LB, 2, none⟩) nH (.int .i64 D)).setOther (p := ⟨LB, 3, none⟩) nH (.slice (some ⟨b4, 0, none⟩) ((s (i + 1)).1 * D) ((s (i + 1)).1 * D)))
        have R' := Lib.hid ((((hR2.out.setOth (p := ⟨LB, 0, none⟩) nR (.int .i64 P)).setOth (p := ⟨LB, 1, none⟩) nR (.int .i64 ((s (i + 1)).1 : Nat))).setOth (p := ⟨LB, 2, none⟩) nR (.int .i64 D)).setOth (p := ⟨LB, 3, none⟩) nR (.slice (some ⟨b4, 0, none⟩) ((s (i + 1)).1 * D) ((s (i + 1)).1 * D)))
        have E' := Lib.hid (ext4 (B := LB) hE2.out (by omega) (.int .i64 P) (.int .i64 ((s (i + 1)).1 : Nat)) (.int .i64 D) (.slice (some ⟨b4, 0, none⟩) ((s (i + 1)).1 * D) ((s (i + 1)).1 * D)))
        go_wp2
        refine ⟨⟨i + 1, b4, by omega, by omega, C', H', R', E'⟩, ?_⟩
        rw [C'.out.2 1 _ rfl, HQ1.out]
        simp only [rowsAt, Int.toNat_natCast]
        omega

set_option maxRecDepth 100000 in
set_option maxHeartbeats 6400000 in
theorem grow_B (P : Int) (D R m0 mo n1 N F0 F1 : Nat) (xs : List Int) (s q : Nat → Nat × List Int) (w : World) (hD : D ≤ 28) (hp : 2 ≤ P) (hp2 : P ≤ 10007) (hX : Reads w (some ⟨m0, mo, none⟩) n1 xs) (hn1 : n1 = R * D) (hR : R ≤ 40) (hx : Res xs P) (h0 : s 0 = spnS P R D xs) (hs : ∀ i, s (i + 1) = apS P D (s i) (q i).1 (q i).2) (hle : ∀ i, (s i).1 ≤ D) (hlen : ∀ i, (s i).2.length = (s i).1 * D) (hres : ∀ i, Res (s i).2 P) (hql : ∀ i, (q i).2.length = (q i).1 * D) (hqr : ∀ i, Res (q i).2 P) (hqn : ∀ i, (q i).1 ≤ 784) (hup : ∀ i, i < N → (s i).1 < (s (i + 1)).1) (hend : (s (N + 1)).1 = (s N).1)
    (hnx : ∀ i, i ≤ N → ∀ w1 b, Ext w w1 → Has w1 b (s i).2 → Calls Try.prog 89 #[.agg #[.int .i64 P, .int .i64 ((s i).1 : Nat), .int .i64 D, .slice (some ⟨b, 0, none⟩) ((s i).1 * D) ((s i).1 * D)], .pointer (some ⟨F0, 0, none⟩), .pointer (some ⟨F1, 0, none⟩)] w1 fun e w' => ∃ b', e = .returned (.agg #[.int .i64 P, .int .i64 ((q i).1 : Nat), .int .i64 D, .slice (some ⟨b', 0, none⟩) ((q i).1 * D) ((q i).1 * D)]) ∧ w1.heap.size ≤ b' ∧ b' < w'.heap.size ∧ Has w' b' (q i).2 ∧ Ext w1 w') :
    Calls Try.prog 86 #[.agg #[.int .i64 P, .int .i64 (R : Nat), .int .i64 D, .slice (some ⟨m0, mo, none⟩) n1 n1], .func (.func 89) #[] #[.pointer (some ⟨F0, 0, none⟩), .pointer (some ⟨F1, 0, none⟩)]] w fun e w' => ∃ b, e = .returned (.agg #[.int .i64 P, .int .i64 ((s N).1 : Nat), .int .i64 D, .slice (some ⟨b, 0, none⟩) ((s N).1 * D) ((s N).1 * D)]) ∧ w.heap.size ≤ b ∧ b < w'.heap.size ∧ Has w' b (s N).2 ∧ Ext w w' := by
  have HX := Lib.hid hX
  have HNX := Lib.hid hnx
  have HEN := Lib.hid hend
  have HUP := Lib.hid hup
  have HLE := Lib.hid hle
  have hRD : R * D ≤ 1120 := Nat.mul_le_mul hR hD
  have HS0 : Hid (∀ w1, Ext w w1 → Calls Try.prog 161 #[.agg #[.int .i64 P, .int .i64 (R : Nat), .int .i64 D, .slice (some ⟨m0, mo, none⟩) n1 n1]] w1 fun e w' => ∃ b, e = .returned (.agg #[.int .i64 P, .int .i64 ((s 0).1 : Nat), .int .i64 D, .slice (some ⟨b, 0, none⟩) ((s 0).1 * D) ((s 0).1 * D)]) ∧ w1.heap.size ≤ b ∧ b < w'.heap.size ∧ Has w' b (s 0).2 ∧ Ext w1 w') := fun w1 h => by
    rw [h0]
    exact span_impl P R D n1 n1 (some ⟨m0, mo, none⟩) xs w1 (hX.ext h) hn1 (by omega) (by omega) (by omega) hp hp2 hx
  have HJN : Hid (∀ i w1 b b2, Has w1 b (s i).2 → Has w1 b2 (q i).2 → Calls Try.prog 162 #[.agg #[.int .i64 P, .int .i64 ((s i).1 : Nat), .int .i64 D, .slice (some ⟨b, 0, none⟩) ((s i).1 * D) ((s i).1 * D)], .agg #[.int .i64 P, .int .i64 ((q i).1 : Nat), .int .i64 D, .slice (some ⟨b2, 0, none⟩) ((q i).1 * D) ((q i).1 * D)]] w1 fun e w' => ∃ b3, e = .returned (.agg #[.int .i64 P, .int .i64 (((s i).1 : Int) + ((q i).1 : Int)), .int .i64 D, .slice (some ⟨b3, 0, none⟩) ((s i).1 * D + (q i).1 * D) ((s i).1 * D + (q i).1 * D)]) ∧ w1.heap.size ≤ b3 ∧ b3 < w'.heap.size ∧ Has w' b3 ((s i).2 ++ (q i).2) ∧ Ext w1 w') := fun i w1 b b2 h1 h2 => by
    have e1 : (s i).1 * D ≤ 784 := Nat.mul_le_mul (Nat.le_trans (hle i) hD) hD
    have e2 : (q i).1 * D ≤ 21952 := Nat.mul_le_mul (hqn i) hD
    have := hqn i
    have := hle i
    exact joinRows_impl P P D (s i).1 (q i).1 D ((s i).1 * D) ((q i).1 * D) _ _ _ _ (s i).2 (q i).2 w1 (h1.reads (hlen i)) (h2.reads (hql i)) rfl rfl (by omega) (by omega) (by omega)
  have HSP : Hid (∀ i w1 b3, Has w1 b3 ((s i).2 ++ (q i).2) → Calls Try.prog 161 #[.agg #[.int .i64 P, .int .i64 (((s i).1 : Int) + ((q i).1 : Int)), .int .i64 D, .slice (some ⟨b3, 0, none⟩) ((s i).1 * D + (q i).1 * D) ((s i).1 * D + (q i).1 * D)]] w1 fun e w' => ∃ b, e = .returned (.agg #[.int .i64 P, .int .i64 ((s (i + 1)).1 : Nat), .int .i64 D, .slice (some ⟨b, 0, none⟩) ((s (i + 1)).1 * D) ((s (i + 1)).1 * D)]) ∧ w1.heap.size ≤ b ∧ b < w'.heap.size ∧ Has w' b (s (i + 1)).2 ∧ Ext w1 w') := fun i w1 b3 h => by
    have e1 : (s i).1 * D ≤ 784 := Nat.mul_le_mul (Nat.le_trans (hle i) hD) hD
    have e2 : (q i).1 * D ≤ 21952 := Nat.mul_le_mul (hqn i) hD
    have := hqn i
    have := hle i
    have h9 := span_impl P ((s i).1 + (q i).1) D ((s i).1 * D + (q i).1 * D) ((s i).1 * D + (q i).1 * D) (some ⟨b3, 0, none⟩) ((s i).2 ++ (q i).2) w1 (h.reads (by rw [List.length_append, hlen, hql])) (by rw [Nat.add_mul]) (by omega) (by omega) (by omega) hp hp2 (res_append (hres i) (hqr i))
    rw [hs i]
    rw [Int.natCast_add] at h9
    exact h9
  have HL0 := hle 0
  clear hX hnx hend hup hle h0 hs hlen hres hql hqr hqn hx hn1 hRD hR
  go_enter Try.func86, Try.ntmps86
  have A0_1 := Lib.hid ((cells_new' w #[.int .i64 P, .int .i64 (R : Nat), .int .i64 D, .slice (some ⟨m0, mo, none⟩) n1 n1] 40 (w.heap.size) (by simp)).ext ((Ext.refl _).alloc (.cells #[.int .i64 0, .int .i64 0, .int .i64 0, .slice none 0 0] 40)))
  have R_2 := Lib.hid (cells_new' (w.alloc (.cells #[.int .i64 P, .int .i64 (R : Nat), .int .i64 D, .slice (some ⟨m0, mo, none⟩) n1 n1] 40)) #[.int .i64 0, .int .i64 0, .int .i64 0, .slice none 0 0] 40 (w.heap.size + 1) (by simp))
  have E_3 := Lib.hid (((Ext.refl w).alloc (.cells #[.int .i64 P, .int .i64 (R : Nat), .int .i64 D, .slice (some ⟨m0, mo, none⟩) n1 n1] 40)).alloc (.cells #[.int .i64 0, .int .i64 0, .int .i64 0, .slice none 0 0] 40))
  have lA0 := A0_1.out.1
  have qA00 := A0_1.out.2 0 _ rfl
  have qA01 := A0_1.out.2 1 _ rfl
  have qA02 := A0_1.out.2 2 _ rfl
  have qA03 := A0_1.out.2 3 _ rfl
  try simp only [World.size_alloc] at lA0
  go_wp2_with fail
  refine (HS0.out _ E_3.out).mono ?_
  rintro e w_4 ⟨b0, rfl, hb1, hb2, hh, h_4⟩
  clear lA0 qA00 qA01 qA02 qA03
  have A0_5 := Lib.hid (A0_1.out.ext h_4)
  clear A0_1
  have R_6 := Lib.hid (R_2.out.ext h_4)
  clear R_2
  have E_7 := Lib.hid (E_3.out.trans h_4)
  clear E_3
  have H0 := Lib.hid hh
  try simp only [World.size_alloc] at hb1
  clear hh
  have hRl := R_6.out.1
  have hE0 := E_7.out.le
  have P_8 := (Ext.refl w_4).alloc (.cells #[.int .i64 P, .int .i64 ((s 0).1 : Nat), .int .i64 D, .slice (some ⟨b0, 0, none⟩) ((s 0).1 * D) ((s 0).1 * D)] 40)
  have A0_9 := Lib.hid (A0_5.out.ext P_8)
  clear A0_5
  have R_10 := Lib.hid (R_6.out.ext P_8)
  clear R_6
  have E_11 := Lib.hid (E_7.out.trans P_8)
  clear E_7
  clear P_8
  have L_12 := Lib.hid (cells_new w_4 #[.int .i64 P, .int .i64 ((s 0).1 : Nat), .int .i64 D, .slice (some ⟨b0, 0, none⟩) ((s 0).1 * D) ((s 0).1 * D)] 40)
  have H1 := Lib.hid (H0.out.alloc (.cells #[.int .i64 P, .int .i64 ((s 0).1 : Nat), .int .i64 D, .slice (some ⟨b0, 0, none⟩) ((s 0).1 * D) ((s 0).1 * D)] 40))
  have hLBs : w.heap.size + 1 < w_4.heap.size := by omega
  clear H0 A0_9
  go_wp2_with fail
  generalize hW1 : (w_4.alloc (.cells #[.int .i64 P, .int .i64 ((s 0).1 : Nat), .int .i64 D, .slice (some ⟨b0, 0, none⟩) ((s 0).1 * D) ((s 0).1 * D)] 40)) = W1 at *
  generalize hLB : w_4.heap.size = LB at *
  clear hW1
  clear hLB
  go_loopw [6] (fun _ wr => ∃ i b, i ≤ N ∧ w.heap.size + 2 ≤ b ∧ Hid (Cells wr LB [.int .i64 P, .int .i64 ((s i).1 : Nat), .int .i64 D, .slice (some ⟨b, 0, none⟩) ((s i).1 * D) ((s i).1 * D)]) ∧ Hid (Has wr b (s i).2) ∧ Hid (Cells wr (w.heap.size + 1) [.int .i64 0, .int .i64 0, .int .i64 0, .slice none 0 0]) ∧ Hid (Ext w wr)) (fun _ wr => D - rowsAt (wr.cell? ⟨LB, 1, none⟩))
  case atStart => exact ⟨0, b0, by omega, by omega, L_12, H1, R_10, E_11⟩
  case round =>
    clear L_12 H1 R_10 E_11
    obtain ⟨i, b, hi, hbw, hL, hH, hR0, hE⟩ := hrel
    have HX1 := Lib.hid (HNX.out i hi)
    have HJ1 := Lib.hid (HJN.out i)
    have HS1 := Lib.hid (HSP.out i)
    have hle1 := HLE.out (i + 1)
    have lL := hL.out.1
    have q0 := hL.out.2 0 _ rfl
    have q1 := hL.out.2 1 _ rfl
    have q2 := hL.out.2 2 _ rfl
    have q3 := hL.out.2 3 _ rfl
    have HQ1 := Lib.hid q1
    go_upto_region 2 with fail
    go_cut [6] (fun s6 wx => ∃ XB b4 , s6 = .pointer (some ⟨XB, 0, none⟩) ∧ wr.heap.size ≤ XB ∧ wr.heap.size ≤ b4 ∧ Hid (Cells wx XB [.int .i64 P, .int .i64 ((s (i + 1)).1 : Nat), .int .i64 D, .slice (some ⟨b4, 0, none⟩) ((s (i + 1)).1 * D) ((s (i + 1)).1 * D)]) ∧ Hid (Has wx b4 (s (i + 1)).2) ∧ Hid (Ext wr wx))
    case first =>
      go_region_held3 (fun w' => Ext wr w' ∧ (∀ b o, b < wr.heap.size → w'.cell? ⟨b, o, none⟩ = wr.cell? ⟨b, o, none⟩)) (first | assumption | (with_reducible exact ext2 (Ext.trans (And.left ‹Ext wr _ ∧ _›) ‹Ext _ _›)) | (refine ext2 ?_; with_reducible repeat (first | exact Ext.refl _ | exact And.left ‹Ext wr _ ∧ _› | refine Ext.drew ?_ | refine Ext.drewN ?_ _ | exact Ext.alloc (And.left ‹Ext wr _ ∧ _›) _ | exact Ext.alloc ((Ext.refl _).drew) _ | exact Ext.alloc (((Ext.refl _).drew).trans h2) _ | exact Ext.alloc ((((Ext.refl _).drew).trans h2).trans h3) _ | exact Ext.alloc (((((Ext.refl _).drew).trans h2).trans h3).trans h4) _ | refine Ext.alloc ?_ _ | refine Ext.setCell ?_ (by have e0 : wr.drew.heap.size = wr.heap.size := rfl; simp <;> omega) _))) (first
        | (go_at_call 89; (with_reducible refine (HX1.out _ b (hE.out.trans (And.left ‹Ext wr _ ∧ _›)) (hH.out.ext (And.left ‹Ext wr _ ∧ _›))).mono ?_); rintro e w2 ⟨b2, rfl, hq1, hq2, kh2, h2⟩; have c_2 := h2.cells; have f_2 := h2.frees; have y_2 := h2.le; have x_2 := fun k hk => Nat.lt_of_lt_of_le (n := k) hk h2.le; (try simp only [World.size_drew] at y_2 x_2); (try simp only [World.size_alloc] at y_2 x_2); (try simp only [Nat.add_one_le_iff] at y_2); (try have z_2_0 : wr.heap.size < w2.heap.size := by omega))
        | (go_at_call 162; (with_reducible refine (HJ1.out _ b b2 (hH.out.ext (And.left ‹Ext wr _ ∧ _›)) (by with_reducible first | exact kh2 | exact Has.alloc kh2 _)).mono ?_); rintro e w3 ⟨b3, rfl, hr1, hr2, kh3, h3⟩; have c_3 := h3.cells; have f_3 := h3.frees; have y_3 := h3.le; have x_3 := fun k hk => Nat.lt_of_lt_of_le (n := k) hk h3.le; (try simp only [World.size_drew] at y_3 x_3); (try simp only [World.size_alloc] at y_3 x_3); (try simp only [Nat.add_one_le_iff] at y_3); (try have z_3_0 : wr.heap.size < w3.heap.size := by omega); (try have z_3_1 : w2.heap.size < w3.heap.size := by omega))
        | (go_at_call 161; (with_reducible refine (HS1.out _ b3 (by with_reducible first | exact kh3 | exact Has.alloc kh3 _)).mono ?_); rintro e w4 ⟨b4, rfl, hm1, hm2, kx, h4⟩; have c_4 := h4.cells; have f_4 := h4.frees; have y_4 := h4.le; have x_4 := fun k hk => Nat.lt_of_lt_of_le (n := k) hk h4.le; (try simp only [World.size_drew] at y_4 x_4); (try simp only [World.size_alloc] at y_4 x_4); (try simp only [Nat.add_one_le_iff] at y_4); (try have z_4_0 : wr.heap.size < w4.heap.size := by omega); (try have z_4_1 : w2.heap.size < w4.heap.size := by omega); (try have z_4_2 : w3.heap.size < w4.heap.size := by omega)))
      all_goals (go_wp2_with fail; go_meet; first
        | exact ⟨w4.heap.size, b4, rfl, (by (try simp only [World.size_alloc, World.size_drew] at hm1); omega), (by (try simp only [World.size_alloc, World.size_drew] at hm1); omega), cells_new _ _ _, Has.alloc (by with_reducible first | exact kx | exact kx.alloc _) _, And.left ‹Ext wr _ ∧ _›⟩
        | exact ⟨w3.heap.size, b4, rfl, (by (try simp only [World.size_alloc, World.size_drew] at hm1); omega), (by (try simp only [World.size_alloc, World.size_drew] at hm1); omega), early4 (lo := 0) ((cells_new w3 _ _).ext h4), (Has.setOther (Has.setOther (Has.setOther (Has.setOther (by with_reducible first | exact kx | exact kx.alloc _) (by (try simp only [World.size_alloc, World.size_drew] at hm1); simp <;> omega) _) (by (try simp only [World.size_alloc, World.size_drew] at hm1); simp <;> omega) _) (by (try simp only [World.size_alloc, World.size_drew] at hm1); simp <;> omega) _) (by (try simp only [World.size_alloc, World.size_drew] at hm1); simp <;> omega) _), And.left ‹Ext wr _ ∧ _›⟩
        | exact ⟨w2.heap.size, b4, rfl, (by (try simp only [World.size_alloc, World.size_drew] at hm1); omega), (by (try simp only [World.size_alloc, World.size_drew] at hm1); omega), early4 (lo := 0) (((cells_new w2 _ _).ext h3).ext h4), (Has.setOther (Has.setOther (Has.setOther (Has.setOther (by with_reducible first | exact kx | exact kx.alloc _) (by (try simp only [World.size_alloc, World.size_drew] at hm1); simp <;> omega) _) (by (try simp only [World.size_alloc, World.size_drew] at hm1); simp <;> omega) _) (by (try simp only [World.size_alloc, World.size_drew] at hm1); simp <;> omega) _) (by (try simp only [World.size_alloc, World.size_drew] at hm1); simp <;> omega) _), And.left ‹Ext wr _ ∧ _›⟩
        | exact ⟨wr.heap.size, b4, rfl, (by (try simp only [World.size_alloc, World.size_drew] at hm1); omega), (by (try simp only [World.size_alloc, World.size_drew] at hm1); omega), early4 (lo := 0) (((((cells_new wr _ _).ext (Ext.drew (Ext.refl _))).ext h2).ext h3).ext h4), (Has.setOther (Has.setOther (Has.setOther (Has.setOther (by with_reducible first | exact kx | exact kx.alloc _) (by (try simp only [World.size_alloc, World.size_drew] at hm1); simp <;> omega) _) (by (try simp only [World.size_alloc, World.size_drew] at hm1); simp <;> omega) _) (by (try simp only [World.size_alloc, World.size_drew] at hm1); simp <;> omega) _) (by (try simp only [World.size_alloc, World.size_drew] at hm1); simp <;> omega) _), And.left ‹Ext wr _ ∧ _›⟩)
    case rest =>
      obtain ⟨XB, b4, rfl, hxb, hb4, hXB, h4H, h4E⟩ := hcut
      obtain ⟨w5, hwk⟩ : ∃ wk : World, wk = wc := ⟨_, rfl⟩
      subst hwk
      clear lL q0 q1 q2 q3
      have hL2 := Lib.hid (hL.out.ext h4E.out)
      have hH2 := Lib.hid (hH.out.ext h4E.out)
      have hR2 := Lib.hid (hR0.out.ext h4E.out)
      have hE2 := Lib.hid (hE.out.trans h4E.out)
      have hLBw := hL.out.1
      have hsz := hE.out.le
      clear hL hH hR0 hE h4E HX1 HJ1 HS1
      have lX := hXB.out.1
      have x0 := hXB.out.2 0 _ rfl
      have x1 := hXB.out.2 1 _ rfl
      have x2 := hXB.out.2 2 _ rfl
      have x3 := hXB.out.2 3 _ rfl
      have lL := hL2.out.1
      have q0 := hL2.out.2 0 _ rfl
      have q1 := hL2.out.2 1 _ rfl
      have q2 := hL2.out.2 2 _ rfl
      have q3 := hL2.out.2 3 _ rfl
      by_cases e : i = N
      · subst e
        have he : (s (i + 1)).1 = (s i).1 := HEN.out
        have heq : (((s (i + 1)).1 : Int) == ((s i).1 : Int)) = true := by rw [he]; simp
        clear he
        have r0 := hR2.out.2 0 _ rfl
        have r1 := hR2.out.2 1 _ rfl
        have r2 := hR2.out.2 2 _ rfl
        have r3 := hR2.out.2 3 _ rfl
        have tR := hR2.out.3
        have lR := hR2.out.1
        have hlt := hH2.out.lt
        go_wp2
        refine bodyPost_ret (v := .agg #[.int .i64 P, .int .i64 ((s i).1 : Nat), .int .i64 D, .slice (some ⟨b, 0, none⟩) ((s i).1 * D) ((s i).1 * D)]) (by simp [results, Try.results86, go_sem, r0, r1, r2, r3]) rfl ⟨b, rfl, by omega, by simp; omega, ?_, ext4 hE2.out (by omega) _ _ _ _⟩
        repeat with_reducible (first | exact hH2.out | refine Has.setOther ?_ (by simp <;> omega) _)
      · have hlt := HUP.out i (by omega)
        have hne3 : (((s (i + 1)).1 : Int) == ((s i).1 : Int)) = false := by simp only [beq_eq_false_iff_ne, ne_eq]; omega
        have tL := hL2.out.3
        have nH : LB ≠ b4 := by omega
        have nR : LB ≠ w.heap.size + 1 := by omega
        have C' := Lib.hid (early4 (lo := 0) (v0 := .int .i64 P) (v1 := .int .i64 ((s (i + 1)).1 : Nat)) (v2 := .int .i64 D) (v3 := .slice (some ⟨b4, 0, none⟩) ((s (i + 1)).1 * D) ((s (i + 1)).1 * D)) hL2.out)
        have H' := Lib.hid ((((h4H.out.setOther (p := ⟨LB, 0, none⟩) nH (.int .i64 P)).setOther (p := ⟨LB, 1, none⟩) nH (.int .i64 ((s (i + 1)).1 : Nat))).setOther (p := ⟨LB, 2, none⟩) nH (.int .i64 D)).setOther (p := ⟨LB, 3, none⟩) nH (.slice (some ⟨b4, 0, none⟩) ((s (i + 1)).1 * D) ((s (i + 1)).1 * D)))
        have R' := Lib.hid ((((hR2.out.setOth (p := ⟨LB, 0, none⟩) nR (.int .i64 P)).setOth (p := ⟨LB, 1, none⟩) nR (.int .i64 ((s (i + 1)).1 : Nat))).setOth (p := ⟨LB, 2, none⟩) nR (.int .i64 D)).setOth (p := ⟨LB, 3, none⟩) nR (.slice (some ⟨b4, 0, none⟩) ((s (i + 1)).1 * D) ((s (i + 1)).1 * D)))
        have E' := Lib.hid (ext4 (B := LB) hE2.out (by omega) (.int .i64 P) (.int .i64 ((s (i + 1)).1 : Nat)) (.int .i64 D) (.slice (some ⟨b4, 0, none⟩) ((s (i + 1)).1 * D) ((s (i + 1)).1 * D)))
        go_wp2
        refine ⟨⟨i + 1, b4, by omega, by omega, C', H', R', E'⟩, ?_⟩
        rw [C'.out.2 1 _ rfl, HQ1.out]
        simp only [rowsAt, Int.toNat_natCast]
        omega

set_option maxRecDepth 100000 in
set_option maxHeartbeats 3200000 in
theorem gnext_A (P : Int) (D B F0 a0 oa n b : Nat) (l : List Int) (t : Nat × List Int) (w : World) (hF0 : Cells w F0 [.pointer (some ⟨B, 0, none⟩)]) (hc : Cells w B [.int .i64 P, .int .i64 D, .slice (some ⟨a0, oa, none⟩) n n]) (hT : Reads w (some ⟨a0, oa, none⟩) n l) (hA : AlgP P D n l) (ht : Spc P D t) (hb : Has w b t.2) :
    Calls Try.prog 87 #[.agg #[.int .i64 P, .int .i64 (t.1 : Nat), .int .i64 D, .slice (some ⟨b, 0, none⟩) (t.1 * D) (t.1 * D)], .pointer (some ⟨F0, 0, none⟩)] w fun e w' => ∃ b', e = .returned (.agg #[.int .i64 P, .int .i64 ((t.1 * t.1 : Nat) : Int), .int .i64 D, .slice (some ⟨b', 0, none⟩) (t.1 * t.1 * D) (t.1 * t.1 * D)]) ∧ w.heap.size ≤ b' ∧ b' < w'.heap.size ∧ Has w' b' (pL P D l t.2 t.2 t.1 t.1) ∧ Ext w w' := by
  have hp := isP_lo hA.pr
  have hp2 := isP_hi hA.pr
  have hD := hA.dim
  have h27 : D * D ≤ 784 := Nat.mul_le_mul hD hD
  have h28 := cube28 hD
  have hle := ht.le
  have htD : t.1 * D ≤ 784 := Nat.mul_le_mul (Nat.le_trans hle hD) hD
  have HPI : Hid (∀ w1, Ext w w1 → Calls Try.prog 88 #[.pointer (some ⟨B, 0, none⟩), .agg #[.int .i64 P, .int .i64 (t.1 : Nat), .int .i64 D, .slice (some ⟨b, 0, none⟩) (t.1 * D) (t.1 * D)], .agg #[.int .i64 P, .int .i64 (t.1 : Nat), .int .i64 D, .slice (some ⟨b, 0, none⟩) (t.1 * D) (t.1 * D)]] w1 fun e w' => ∃ b', e = .returned (.agg #[.int .i64 P, .int .i64 ((t.1 * t.1 : Nat) : Int), .int .i64 D, .slice (some ⟨b', 0, none⟩) (t.1 * t.1 * D) (t.1 * t.1 * D)]) ∧ w1.heap.size ≤ b' ∧ b' < w'.heap.size ∧ Has w' b' (pL P D l t.2 t.2 t.1 t.1) ∧ Ext w1 w') := fun w1 h => by
    have h9 := products_impl P D t.1 t.1 (t.1 * D) (t.1 * D) (t.1 * (t.1 * D)) B a0 oa n n b 0 b 0 l t.2 t.2 w1 (hc.ext h) hD (by omega) (by omega) hA.len rfl rfl rfl (Nat.le_refl _) (by unfold maxLen; have := hA.len; omega) (hT.ext h) ((hb.ext h).reads ht.len) ((hb.ext h).reads ht.len) hp hp2 hA.res ht.res ht.res
    rw [← Nat.mul_assoc, ← Int.natCast_mul] at h9
    exact h9
  have HF0 := Lib.hid hF0
  clear hF0 hc hT hA ht hb hle
  generalize pL P D l t.2 t.2 t.1 t.1 = ul at *
  generalize t.1 * t.1 * D = un at *
  generalize ((t.1 * t.1 : Nat) : Int) = ur at *
  obtain ⟨tr, td⟩ := t
  dsimp only at *
  go_enter Try.func87, Try.ntmps87
  have A0_1 := Lib.hid ((cells_new' w #[.int .i64 P, .int .i64 (tr : Nat), .int .i64 D, .slice (some ⟨b, 0, none⟩) (tr * D) (tr * D)] 40 (w.heap.size) (by simp)).ext ((Ext.refl _).alloc (.cells #[.int .i64 0, .int .i64 0, .int .i64 0, .slice none 0 0] 40)))
  have R_2 := Lib.hid (cells_new' (w.alloc (.cells #[.int .i64 P, .int .i64 (tr : Nat), .int .i64 D, .slice (some ⟨b, 0, none⟩) (tr * D) (tr * D)] 40)) #[.int .i64 0, .int .i64 0, .int .i64 0, .slice none 0 0] 40 (w.heap.size + 1) (by simp))
  have E_3 := Lib.hid (((Ext.refl w).alloc (.cells #[.int .i64 P, .int .i64 (tr : Nat), .int .i64 D, .slice (some ⟨b, 0, none⟩) (tr * D) (tr * D)] 40)).alloc (.cells #[.int .i64 0, .int .i64 0, .int .i64 0, .slice none 0 0] 40))
  have F0_4 := Lib.hid (HF0.out.ext E_3.out)
  have lR0 := Lib.hid R_2.out.1
  have lA0 := A0_1.out.1
  have qA00 := A0_1.out.2 0 _ rfl
  have qA01 := A0_1.out.2 1 _ rfl
  have qA02 := A0_1.out.2 2 _ rfl
  have qA03 := A0_1.out.2 3 _ rfl
  have lF0 := F0_4.out.1
  have qF00 := F0_4.out.2 0 _ rfl
  try simp only [World.size_alloc] at lA0 lF0
  go_wp2_with fail
  refine (HPI.out _ E_3.out).mono ?_
  rintro e w_5 ⟨b2, rfl, hq3, hq4, hh2, h_5⟩
  clear lA0 qA00 qA01 qA02 qA03 lF0 qF00
  have A0_6 := Lib.hid (A0_1.out.ext h_5)
  clear A0_1
  have R_7 := Lib.hid (R_2.out.ext h_5)
  clear R_2
  have F0_8 := Lib.hid (F0_4.out.ext h_5)
  clear F0_4
  have E_9 := Lib.hid (E_3.out.trans h_5)
  clear E_3
  have lR1 := lR0.out
  try simp only [World.size_alloc] at hq3
  have r0 := R_7.out.2 0 _ rfl
  have r1 := R_7.out.2 1 _ rfl
  have r2 := R_7.out.2 2 _ rfl
  have r3 := R_7.out.2 3 _ rfl
  have tR := R_7.out.3
  have lR := R_7.out.1
  go_wp2
  refine bodyPost_ret (v := .agg #[.int .i64 P, .int .i64 ur, .int .i64 D, .slice (some ⟨b2, 0, none⟩) un un]) (by simp [results, Try.results87, go_sem, r0, r1, r2, r3]) rfl ⟨b2, rfl, by omega, by simp; omega, ?_, ext4 E_9.out (by omega) _ _ _ _⟩
  repeat with_reducible (first | exact hh2 | refine Has.setOther ?_ (by simp <;> omega) _)

set_option maxRecDepth 100000 in
set_option maxHeartbeats 3200000 in
theorem gnext_B (P : Int) (D B F0 F1 a0 oa n b bu : Nat) (l : List Int) (t : Nat × List Int) (w : World) (hF0 : Cells w F0 [.pointer (some ⟨B, 0, none⟩)]) (hF1 : Cells w F1 [.int .i64 P, .int .i64 D, .int .i64 D, .slice (some ⟨bu, 0, none⟩) (D * D) (D * D)]) (hU : Has w bu (unitTo D D)) (hc : Cells w B [.int .i64 P, .int .i64 D, .slice (some ⟨a0, oa, none⟩) n n]) (hT : Reads w (some ⟨a0, oa, none⟩) n l) (hA : AlgP P D n l) (ht : Spc P D t) (hb : Has w b t.2) :
    Calls Try.prog 89 #[.agg #[.int .i64 P, .int .i64 (t.1 : Nat), .int .i64 D, .slice (some ⟨b, 0, none⟩) (t.1 * D) (t.1 * D)], .pointer (some ⟨F0, 0, none⟩), .pointer (some ⟨F1, 0, none⟩)] w fun e w' => ∃ b', e = .returned (.agg #[.int .i64 P, .int .i64 ((D * t.1 : Nat) : Int), .int .i64 D, .slice (some ⟨b', 0, none⟩) (D * t.1 * D) (D * t.1 * D)]) ∧ w.heap.size ≤ b' ∧ b' < w'.heap.size ∧ Has w' b' (pL P D l (unitTo D D) t.2 t.1 D) ∧ Ext w w' := by
  have hp := isP_lo hA.pr
  have hp2 := isP_hi hA.pr
  have hD := hA.dim
  have h27 : D * D ≤ 784 := Nat.mul_le_mul hD hD
  have h28 := cube28 hD
  have hle := ht.le
  have htD : t.1 * D ≤ 784 := Nat.mul_le_mul (Nat.le_trans hle hD) hD
  have HPI : Hid (∀ w1, Ext w w1 → Calls Try.prog 88 #[.pointer (some ⟨B, 0, none⟩), .agg #[.int .i64 P, .int .i64 D, .int .i64 D, .slice (some ⟨bu, 0, none⟩) (D * D) (D * D)], .agg #[.int .i64 P, .int .i64 (t.1 : Nat), .int .i64 D, .slice (some ⟨b, 0, none⟩) (t.1 * D) (t.1 * D)]] w1 fun e w' => ∃ b', e = .returned (.agg #[.int .i64 P, .int .i64 ((D * t.1 : Nat) : Int), .int .i64 D, .slice (some ⟨b', 0, none⟩) (D * t.1 * D) (D * t.1 * D)]) ∧ w1.heap.size ≤ b' ∧ b' < w'.heap.size ∧ Has w' b' (pL P D l (unitTo D D) t.2 t.1 D) ∧ Ext w1 w') := fun w1 h => by
    have h9 := products_impl P D D t.1 (D * D) (t.1 * D) (D * (t.1 * D)) B a0 oa n n bu 0 b 0 l (unitTo D D) t.2 w1 (hc.ext h) hD (by omega) (by omega) hA.len rfl rfl rfl (Nat.le_refl _) (by unfold maxLen; have := hA.len; omega) (hT.ext h) ((hU.ext h).reads (unitTo_length D D)) ((hb.ext h).reads ht.len) hp hp2 hA.res (unitTo_res2 P hp D D) ht.res
    rw [← Nat.mul_assoc, ← Int.natCast_mul] at h9
    exact h9
  have HF0 := Lib.hid hF0
  have HF1 := Lib.hid hF1
  clear hF0 hc hT hA ht hb hle hF1 hU
  generalize pL P D l (unitTo D D) t.2 t.1 D = ul at *
  generalize D * t.1 * D = un at *
  generalize ((D * t.1 : Nat) : Int) = ur at *
  obtain ⟨tr, td⟩ := t
  dsimp only at *
  go_enter Try.func89, Try.ntmps89
  have A0_1 := Lib.hid ((cells_new' w #[.int .i64 P, .int .i64 (tr : Nat), .int .i64 D, .slice (some ⟨b, 0, none⟩) (tr * D) (tr * D)] 40 (w.heap.size) (by simp)).ext ((Ext.refl _).alloc (.cells #[.int .i64 0, .int .i64 0, .int .i64 0, .slice none 0 0] 40)))
  have R_2 := Lib.hid (cells_new' (w.alloc (.cells #[.int .i64 P, .int .i64 (tr : Nat), .int .i64 D, .slice (some ⟨b, 0, none⟩) (tr * D) (tr * D)] 40)) #[.int .i64 0, .int .i64 0, .int .i64 0, .slice none 0 0] 40 (w.heap.size + 1) (by simp))
  have E_3 := Lib.hid (((Ext.refl w).alloc (.cells #[.int .i64 P, .int .i64 (tr : Nat), .int .i64 D, .slice (some ⟨b, 0, none⟩) (tr * D) (tr * D)] 40)).alloc (.cells #[.int .i64 0, .int .i64 0, .int .i64 0, .slice none 0 0] 40))
  have F0_4 := Lib.hid (HF0.out.ext E_3.out)
  have F1_5 := Lib.hid (HF1.out.ext E_3.out)
  have lR0 := Lib.hid R_2.out.1
  have lA0 := A0_1.out.1
  have qA00 := A0_1.out.2 0 _ rfl
  have qA01 := A0_1.out.2 1 _ rfl
  have qA02 := A0_1.out.2 2 _ rfl
  have qA03 := A0_1.out.2 3 _ rfl
  have lF0 := F0_4.out.1
  have qF00 := F0_4.out.2 0 _ rfl
  have lF1 := F1_5.out.1
  have qF10 := F1_5.out.2 0 _ rfl
  have qF11 := F1_5.out.2 1 _ rfl
  have qF12 := F1_5.out.2 2 _ rfl
  have qF13 := F1_5.out.2 3 _ rfl
  try simp only [World.size_alloc] at lA0 lF0 lF1
  go_wp2_with fail
  refine (HPI.out _ E_3.out).mono ?_
  rintro e w_6 ⟨b2, rfl, hq3, hq4, hh2, h_6⟩
  clear lA0 qA00 qA01 qA02 qA03 lF0 qF00 lF1 qF10 qF11 qF12 qF13
  have A0_7 := Lib.hid (A0_1.out.ext h_6)
  clear A0_1
  have R_8 := Lib.hid (R_2.out.ext h_6)
  clear R_2
  have F0_9 := Lib.hid (F0_4.out.ext h_6)
  clear F0_4
  have F1_10 := Lib.hid (F1_5.out.ext h_6)
  clear F1_5
  have E_11 := Lib.hid (E_3.out.trans h_6)
  clear E_3
  have lR1 := lR0.out
  try simp only [World.size_alloc] at hq3
  have r0 := R_8.out.2 0 _ rfl
  have r1 := R_8.out.2 1 _ rfl
  have r2 := R_8.out.2 2 _ rfl
  have r3 := R_8.out.2 3 _ rfl
  have tR := R_8.out.3
  have lR := R_8.out.1
  go_wp2
  refine bodyPost_ret (v := .agg #[.int .i64 P, .int .i64 ur, .int .i64 D, .slice (some ⟨b2, 0, none⟩) un un]) (by simp [results, Try.results89, go_sem, r0, r1, r2, r3]) rfl ⟨b2, rfl, by omega, by simp; omega, ?_, ext4 E_11.out (by omega) _ _ _ _⟩
  repeat with_reducible (first | exact hh2 | refine Has.setOther ?_ (by simp <;> omega) _)
end Go.Proofs.Ytapaopapgnfdkaa
