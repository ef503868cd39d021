/-
  Spaces that grow, in the specification.
-/
import Derived.Test.YtapaopapgnfdkaaGw0
import Derived.Test.YtapaopapgnfdkaaBr
import Derived.Test.YtapaopapgnfdkaaPrQ
import Derived.Test.YtapaopapgnfdkaaJnW
import Derived.Test.YtapaopapgnfdkaaGwI
namespace Go.Proofs.Ytapaopapgnfdkaa
open Go.ChangeShapes Go.WideShapes Go.ChangeAt Go.RowKit
set_option linter.unusedVariables false
set_option linter.unusedSimpArgs false

set_option maxRecDepth 100000 in
set_option maxHeartbeats 6400000 in
theorem l2Closed_0 (P : Int) (D a0 oa n b0 c0 N : Nat) (s q : Nat → Nat × List Int) (w : World) (hD : D ≤ 28) (hpr : isP P = true) (hs : ∀ i, s (i + 1) = apS P D (s i) (q i).1 (q i).2) (hle : ∀ i, (s i).1 ≤ D) (hlen : ∀ i, (s i).2.length = (s i).1 * D) (hres : ∀ i, Res (s i).2 P) (hql : ∀ i, (q i).2.length = (q i).1 * D) (hqr : ∀ i, Res (q i).2 P) (hqn : ∀ i, (q i).1 ≤ 28) (hup : ∀ i, i < N → (s i).1 < (s (i + 1)).1) (hend : (s (N + 1)).1 = (s N).1) (hb : Has w b0 (s 0).2) (hc0 : (s 0).1 * D ≤ c0)
    (hnx : ∀ i, i ≤ N → ∀ w1 b c, Ext w w1 → Has w1 b (s i).2 → (s i).1 * D ≤ c → Calls Try.prog 137 #[.agg #[.int .i64 P, .int .i64 D, .slice (some ⟨a0, oa, none⟩) n n], .agg #[.int .i64 P, .int .i64 ((s i).1 : Nat), .int .i64 D, .slice (some ⟨b, 0, none⟩) ((s i).1 * D) c], .agg #[.int .i64 P, .int .i64 ((s i).1 : Nat), .int .i64 D, .slice (some ⟨b, 0, none⟩) ((s i).1 * D) c]] w1 fun e w' => ∃ b' c', e = .returned (.agg #[.int .i64 P, .int .i64 ((q i).1 : Nat), .int .i64 D, .slice (some ⟨b', 0, none⟩) ((q i).1 * D) c']) ∧ w1.heap.size ≤ b' ∧ b' < w'.heap.size ∧ Has w' b' (q i).2 ∧ Ext w1 w') :
    Calls Try.prog 83 #[.agg #[.int .i64 P, .int .i64 D, .slice (some ⟨a0, oa, none⟩) n n], .agg #[.int .i64 P, .int .i64 ((s 0).1 : Nat), .int .i64 D, .slice (some ⟨b0, 0, none⟩) ((s 0).1 * D) c0], .bool false] w fun e w' => ∃ b c, e = .returned (.agg #[.int .i64 P, .int .i64 ((s (N + 1)).1 : Nat), .int .i64 D, .slice (some ⟨b, 0, none⟩) ((s (N + 1)).1 * D) c]) ∧ w.heap.size ≤ b ∧ b < w'.heap.size ∧ Has w' b (s (N + 1)).2 ∧ Ext w w' := by
  have HNX := Lib.hid hnx
  have HEN := Lib.hid hend
  have HUP := Lib.hid hup
  have HLE := Lib.hid hle
  have HB := Lib.hid hb
  have HJN : Hid (∀ i w1 b c b2 c2, Has w1 b (s i).2 → Has w1 b2 (q i).2 → Calls Try.prog 159 #[.agg #[.int .i64 P, .int .i64 ((s i).1 : Nat), .int .i64 D, .slice (some ⟨b, 0, none⟩) ((s i).1 * D) c], .agg #[.int .i64 P, .int .i64 ((q i).1 : Nat), .int .i64 D, .slice (some ⟨b2, 0, none⟩) ((q i).1 * D) c2]] w1 fun e w' => ∃ b4 c4, e = .returned (.agg #[.int .i64 P, .int .i64 ((s (i + 1)).1 : Nat), .int .i64 D, .slice (some ⟨b4, 0, none⟩) ((s (i + 1)).1 * D) c4]) ∧ w1.heap.size ≤ b4 ∧ b4 < w'.heap.size ∧ Has w' b4 (s (i + 1)).2 ∧ Ext w1 w' ∧ (s (i + 1)).1 * D ≤ c4) := fun i w1 b c b2 c2 h1 h2 => by
    have e1 : (s i).1 * D ≤ 784 := Nat.mul_le_mul (Nat.le_trans (hle i) hD) hD
    have e2 : (q i).1 * D ≤ 784 := Nat.mul_le_mul (hqn i) hD
    have := hqn i
    have := hle i
    rw [hs i]
    exact l1Join_wide P P D (s i).1 (q i).1 D ((s i).1 * D) ((q i).1 * D) c c2 _ _ (s i).2 (q i).2 w1 (h1.reads (hlen i)) (h2.reads (hql i)) rfl rfl (by omega) (by omega) (by omega) hpr (hres i) (hqr i)
  clear hnx hend hup hle hs hlen hres hql hqr hqn hb hpr
  go_enter Try.func83, Try.ntmps83
  have A0_1 := Lib.hid (((cells_new' w #[.int .i64 P, .int .i64 D, .slice (some ⟨a0, oa, none⟩) n n] 28 (w.heap.size) (by simp)).ext ((Ext.refl _).alloc (.cells #[.int .i64 P, .int .i64 ((s 0).1 : Nat), .int .i64 D, .slice (some ⟨b0, 0, none⟩) ((s 0).1 * D) c0] 40))).ext ((Ext.refl _).alloc (.cells #[.int .i64 0, .int .i64 0, .int .i64 0, .slice none 0 0] 40)))
  have A1_2 := Lib.hid ((cells_new' (w.alloc (.cells #[.int .i64 P, .int .i64 D, .slice (some ⟨a0, oa, none⟩) n n] 28)) #[.int .i64 P, .int .i64 ((s 0).1 : Nat), .int .i64 D, .slice (some ⟨b0, 0, none⟩) ((s 0).1 * D) c0] 40 (w.heap.size + 1) (by simp)).ext ((Ext.refl _).alloc (.cells #[.int .i64 0, .int .i64 0, .int .i64 0, .slice none 0 0] 40)))
  have R_3 := Lib.hid (cells_new' ((w.alloc (.cells #[.int .i64 P, .int .i64 D, .slice (some ⟨a0, oa, none⟩) n n] 28)).alloc (.cells #[.int .i64 P, .int .i64 ((s 0).1 : Nat), .int .i64 D, .slice (some ⟨b0, 0, none⟩) ((s 0).1 * D) c0] 40)) #[.int .i64 0, .int .i64 0, .int .i64 0, .slice none 0 0] 40 (w.heap.size + 1 + 1) (by simp))
  have E_4 := Lib.hid ((((Ext.refl w).alloc (.cells #[.int .i64 P, .int .i64 D, .slice (some ⟨a0, oa, none⟩) n n] 28)).alloc (.cells #[.int .i64 P, .int .i64 ((s 0).1 : Nat), .int .i64 D, .slice (some ⟨b0, 0, none⟩) ((s 0).1 * D) c0] 40)).alloc (.cells #[.int .i64 0, .int .i64 0, .int .i64 0, .slice none 0 0] 40))
  have HB0 := Lib.hid (HB.out.ext E_4.out)
  go_wp2_with fail
  generalize hW1 : (((w.alloc (.cells #[.int .i64 P, .int .i64 D, .slice (some ⟨a0, oa, none⟩) n n] 28)).alloc (.cells #[.int .i64 P, .int .i64 ((s 0).1 : Nat), .int .i64 D, .slice (some ⟨b0, 0, none⟩) ((s 0).1 * D) c0] 40)).alloc (.cells #[.int .i64 0, .int .i64 0, .int .i64 0, .slice none 0 0] 40)) = W1 at *
  clear hW1
  go_loopw [7, 8] (fun _ _ wr => ∃ i b c, i ≤ N ∧ Hid (Cells wr w.heap.size [.int .i64 P, .int .i64 D, .slice (some ⟨a0, oa, none⟩) n n]) ∧ Hid (Cells wr (w.heap.size + 1) [.int .i64 P, .int .i64 ((s i).1 : Nat), .int .i64 D, .slice (some ⟨b, 0, none⟩) ((s i).1 * D) c]) ∧ Hid (Has wr b (s i).2 ∧ (s i).1 * D ≤ c) ∧ Hid (Cells wr (w.heap.size + 1 + 1) [.int .i64 0, .int .i64 0, .int .i64 0, .slice none 0 0]) ∧ Hid (Ext w wr)) (fun _ _ wr => D - rowsAt (wr.cell? ⟨w.heap.size + 1, 1, none⟩))
  case atStart => exact ⟨0, b0, c0, by omega, A0_1, A1_2, ⟨HB0.out, hc0⟩, R_3, E_4⟩
  case round =>
    clear A0_1 A1_2 R_3 E_4 HB0
    obtain ⟨i, b, c, hi, hA, hS, hH, hR0, hE⟩ := hrel
    have HX1 := Lib.hid (HNX.out i hi)
    have HJ1 := Lib.hid (HJN.out i)
    have hle1 := HLE.out (i + 1)
    have HCB := Lib.hid hH.out.2
    have HQ1 := Lib.hid (hS.out.2 1 _ rfl)
    have hX1 := (Ext.refl wr).alloc (.cells #[.int .i64 P, .int .i64 ((s i).1 : Nat), .int .i64 D, .slice (some ⟨b, 0, none⟩) ((s i).1 * D) c] 40)
    have T1 : Hid (Cells (wr.alloc (.cells #[.int .i64 P, .int .i64 ((s i).1 : Nat), .int .i64 D, .slice (some ⟨b, 0, none⟩) ((s i).1 * D) c] 40)) wr.heap.size [.int .i64 P, .int .i64 ((s i).1 : Nat), .int .i64 D, .slice (some ⟨b, 0, none⟩) ((s i).1 * D) c]) := cells_new wr #[.int .i64 P, .int .i64 ((s i).1 : Nat), .int .i64 D, .slice (some ⟨b, 0, none⟩) ((s i).1 * D) c] 40
    have hA1 := Lib.hid (hA.out.ext hX1)
    have hS1 := Lib.hid (hS.out.ext hX1)
    have hH1 := Lib.hid (hH.out.1.ext hX1)
    have hR1 := Lib.hid (hR0.out.ext hX1)
    have hE1 := Lib.hid (hE.out.trans hX1)
    have hwr : w.heap.size + 1 + 1 < wr.heap.size := hR0.out.1
    have HWR := Lib.hid hwr
    have lS := hS.out.1
    have q0 := hS.out.2 0 _ rfl
    have q1 := hS.out.2 1 _ rfl
    have q2 := hS.out.2 2 _ rfl
    have q3 := hS.out.2 3 _ rfl
    have lA := hA1.out.1
    have a0' := hA1.out.2 0 _ rfl
    have a1' := hA1.out.2 1 _ rfl
    have a2' := hA1.out.2 2 _ rfl
    clear hX1 hA hS hH hR0 hE
    go_wp2_with fail
    generalize (wr.alloc (.cells #[.int .i64 P, .int .i64 ((s i).1 : Nat), .int .i64 D, .slice (some ⟨b, 0, none⟩) ((s i).1 * D) c] 40)) = WX at *
    generalize wr.heap.size = TB at *
    (try clear lS q0 q1 q2 q3 lA a0' a1' a2')
    have lA := hA1.out.1
    have a0' := hA1.out.2 0 _ rfl
    have a1' := hA1.out.2 1 _ rfl
    have a2' := hA1.out.2 2 _ rfl
    have lS := hS1.out.1
    have q0 := hS1.out.2 0 _ rfl
    have q1 := hS1.out.2 1 _ rfl
    have q2 := hS1.out.2 2 _ rfl
    have q3 := hS1.out.2 3 _ rfl
    have lT := T1.out.1
    have y0 := T1.out.2 0 _ rfl
    have y1 := T1.out.2 1 _ rfl
    have y2 := T1.out.2 2 _ rfl
    have y3 := T1.out.2 3 _ rfl
    go_cut [8] (fun s8 wx => ∃ XB b4 c4, s8 = .pointer (some ⟨XB, 0, none⟩) ∧ WX.heap.size ≤ XB ∧ WX.heap.size ≤ b4 ∧ Hid (Cells wx XB [.int .i64 P, .int .i64 ((s (i + 1)).1 : Nat), .int .i64 D, .slice (some ⟨b4, 0, none⟩) ((s (i + 1)).1 * D) c4]) ∧ Hid (Has wx b4 (s (i + 1)).2) ∧ Hid (Ext WX wx) ∧ (s (i + 1)).1 * D ≤ c4)
    case first =>
      go_region_held3 (fun w' => Ext WX w' ∧ (∀ b o, b < WX.heap.size → w'.cell? ⟨b, o, none⟩ = WX.cell? ⟨b, o, none⟩)) (first | assumption | (with_reducible exact ext2 (Ext.trans (And.left ‹Ext WX _ ∧ _›) ‹Ext _ _›)) | (refine ext2 ?_; with_reducible repeat (first | exact Ext.refl _ | exact And.left ‹Ext WX _ ∧ _› | refine Ext.drew ?_ | refine Ext.drewN ?_ _ | exact Ext.alloc (And.left ‹Ext WX _ ∧ _›) _ | exact Ext.alloc ((Ext.refl _).drew) _ | exact Ext.alloc (((Ext.refl _).drew).trans h2) _ | exact Ext.alloc ((((Ext.refl _).drew).trans h2).trans h4) _ | refine Ext.alloc ?_ _ | refine Ext.setCell ?_ (by have e0 : WX.drew.heap.size = WX.heap.size := rfl; simp <;> omega) _))) (first
        | (go_at_call 137; (with_reducible refine (HX1.out _ b c (hE1.out.trans (And.left ‹Ext WX _ ∧ _›)) (hH1.out.ext (And.left ‹Ext WX _ ∧ _›)) HCB.out).mono ?_); rintro e w2 ⟨b2, c2, rfl, hq1, hq2, kh2, h2⟩; have c_2 := h2.cells; have f_2 := h2.frees; have y_2 := h2.le; have x_2 := fun k hk => Nat.lt_of_lt_of_le (n := k) hk h2.le; (try simp only [World.size_drew] at y_2 x_2); (try simp only [World.size_alloc] at y_2 x_2); (try simp only [Nat.add_one_le_iff] at y_2); (try have z_2_0 : WX.heap.size < w2.heap.size := by omega))
        | (go_at_call 159; (with_reducible refine (HJ1.out _ b c b2 c2 (hH1.out.ext (And.left ‹Ext WX _ ∧ _›)) (by with_reducible first | exact kh2 | exact Has.alloc kh2 _)).mono ?_); rintro e w4 ⟨b4, c4, rfl, hm1, hm2, kx, h4, hcc⟩; have c_4 := h4.cells; have f_4 := h4.frees; have y_4 := h4.le; have x_4 := fun k hk => Nat.lt_of_lt_of_le (n := k) hk h4.le; (try simp only [World.size_drew] at y_4 x_4); (try simp only [World.size_alloc] at y_4 x_4); (try simp only [Nat.add_one_le_iff] at y_4); (try have z_4_0 : WX.heap.size < w4.heap.size := by omega); (try have z_4_1 : w2.heap.size < w4.heap.size := by omega)))
      all_goals (go_wp2_with fail; go_meet; first
        | exact ⟨w4.heap.size, b4, c4, rfl, (by (try simp only [World.size_alloc, World.size_drew] at hm1); omega), (by (try simp only [World.size_alloc, World.size_drew] at hm1); omega), cells_new _ _ _, Has.alloc (by with_reducible first | exact kx | exact kx.alloc _) _, And.left ‹Ext WX _ ∧ _›, hcc⟩
        | exact ⟨w2.heap.size, b4, c4, rfl, (by (try simp only [World.size_alloc, World.size_drew] at hm1); omega), (by (try simp only [World.size_alloc, World.size_drew] at hm1); omega), early4 (lo := 0) ((cells_new w2 _ _).ext h4), (Has.setOther (Has.setOther (Has.setOther (Has.setOther (by with_reducible first | exact kx | exact kx.alloc _) (by (try simp only [World.size_alloc, World.size_drew] at hm1); simp <;> omega) _) (by (try simp only [World.size_alloc, World.size_drew] at hm1); simp <;> omega) _) (by (try simp only [World.size_alloc, World.size_drew] at hm1); simp <;> omega) _) (by (try simp only [World.size_alloc, World.size_drew] at hm1); simp <;> omega) _), And.left ‹Ext WX _ ∧ _›, hcc⟩
        | exact ⟨WX.heap.size, b4, c4, rfl, (by (try simp only [World.size_alloc, World.size_drew] at hm1); omega), (by (try simp only [World.size_alloc, World.size_drew] at hm1); omega), early4 (lo := 0) ((((cells_new WX _ _).ext (Ext.drew (Ext.refl _))).ext h2).ext h4), (Has.setOther (Has.setOther (Has.setOther (Has.setOther (by with_reducible first | exact kx | exact kx.alloc _) (by (try simp only [World.size_alloc, World.size_drew] at hm1); simp <;> omega) _) (by (try simp only [World.size_alloc, World.size_drew] at hm1); simp <;> omega) _) (by (try simp only [World.size_alloc, World.size_drew] at hm1); simp <;> omega) _) (by (try simp only [World.size_alloc, World.size_drew] at hm1); simp <;> omega) _), And.left ‹Ext WX _ ∧ _›, hcc⟩)
    case rest =>
      obtain ⟨XB, b4, c4, rfl, hxb, hb4, hXB, h4H, h4E, hcc⟩ := hcut
      obtain ⟨w5, hwk⟩ : ∃ wk : World, wk = wc := ⟨_, rfl⟩
      subst hwk
      clear lA a0' a1' a2' lS q0 q1 q2 q3 lT y0 y1 y2 y3
      have A5 := Lib.hid (hA1.out.ext h4E.out)
      have S5 := Lib.hid (hS1.out.ext h4E.out)
      have R5 := Lib.hid (hR1.out.ext h4E.out)
      have E5 := Lib.hid (hE1.out.trans h4E.out)
      have hRw : w.heap.size + 1 + 1 < WX.heap.size := hR1.out.1
      clear hA1 hS1 hH1 hR1 hE1 T1 h4E HX1 HJ1
      have lX := hXB.out.1
      have x0 := hXB.out.2 0 _ rfl
      have x1 := hXB.out.2 1 _ rfl
      have x2 := hXB.out.2 2 _ rfl
      have x3 := hXB.out.2 3 _ rfl
      have lS := S5.out.1
      have q1 := S5.out.2 1 _ rfl
      have tS := S5.out.3
      by_cases e : i = N
      · subst e
        have he : (s (i + 1)).1 = (s i).1 := HEN.out
        have heq : (((s (i + 1)).1 : Int) == ((s i).1 : Int)) = true := by rw [he]; simp
        clear he
        have r0 := R5.out.2 0 _ rfl
        have r1 := R5.out.2 1 _ rfl
        have r2 := R5.out.2 2 _ rfl
        have r3 := R5.out.2 3 _ rfl
        have tR := R5.out.3
        have lR := R5.out.1
        have hlt := h4H.out.lt
        go_wp2
        refine bodyPost_ret (v := .agg #[.int .i64 P, .int .i64 ((s (i + 1)).1 : Nat), .int .i64 D, .slice (some ⟨b4, 0, none⟩) ((s (i + 1)).1 * D) c4]) (by simp [results, Try.results83, go_sem, r0, r1, r2, r3]) rfl ⟨b4, c4, rfl, by omega, by simp; omega, ?_, ext4 E5.out (by omega) _ _ _ _⟩
        repeat with_reducible (first | exact h4H.out | refine Has.setOther ?_ (by simp <;> omega) _)
      · have hlt := HUP.out i (by omega)
        have hne3 : (((s (i + 1)).1 : Int) == ((s i).1 : Int)) = false := by simp only [beq_eq_false_iff_ne, ne_eq]; omega
        have q0 := S5.out.2 0 _ rfl
        have q2 := S5.out.2 2 _ rfl
        have q3 := S5.out.2 3 _ rfl
        have nH : w.heap.size + 1 ≠ b4 := by omega
        have nA : w.heap.size + 1 ≠ w.heap.size := by omega
        have nR : w.heap.size + 1 ≠ w.heap.size + 1 + 1 := by omega
        have S6 := Lib.hid (early4 (lo := 0) (v0 := .int .i64 P) (v1 := .int .i64 ((s (i + 1)).1 : Nat)) (v2 := .int .i64 D) (v3 := .slice (some ⟨b4, 0, none⟩) ((s (i + 1)).1 * D) c4) S5.out)
        have A6 := Lib.hid (((((A5.out.setOth (p := ⟨w.heap.size + 1, 0, none⟩) nA (.int .i64 P))).setOth (p := ⟨w.heap.size + 1, 1, none⟩) nA (.int .i64 ((s (i + 1)).1 : Nat))).setOth (p := ⟨w.heap.size + 1, 2, none⟩) nA (.int .i64 D)).setOth (p := ⟨w.heap.size + 1, 3, none⟩) nA (.slice (some ⟨b4, 0, none⟩) ((s (i + 1)).1 * D) c4))
        have R6 := Lib.hid (((((R5.out.setOth (p := ⟨w.heap.size + 1, 0, none⟩) nR (.int .i64 P))).setOth (p := ⟨w.heap.size + 1, 1, none⟩) nR (.int .i64 ((s (i + 1)).1 : Nat))).setOth (p := ⟨w.heap.size + 1, 2, none⟩) nR (.int .i64 D)).setOth (p := ⟨w.heap.size + 1, 3, none⟩) nR (.slice (some ⟨b4, 0, none⟩) ((s (i + 1)).1 * D) c4))
        have H6 := (((((h4H.out.setOther (p := ⟨w.heap.size + 1, 0, none⟩) nH (.int .i64 P))).setOther (p := ⟨w.heap.size + 1, 1, none⟩) nH (.int .i64 ((s (i + 1)).1 : Nat))).setOther (p := ⟨w.heap.size + 1, 2, none⟩) nH (.int .i64 D)).setOther (p := ⟨w.heap.size + 1, 3, none⟩) nH (.slice (some ⟨b4, 0, none⟩) ((s (i + 1)).1 * D) c4))
        have HH6 := Lib.hid (And.intro H6 hcc)
        clear H6
        have E6 := Lib.hid (ext4 (B := w.heap.size + 1) E5.out (by omega) (.int .i64 P) (.int .i64 ((s (i + 1)).1 : Nat)) (.int .i64 D) (.slice (some ⟨b4, 0, none⟩) ((s (i + 1)).1 * D) c4))
        go_wp2
        refine ⟨⟨i + 1, b4, c4, by omega, A6, S6, HH6, R6, E6⟩, ?_⟩
        rw [S6.out.2 1 _ rfl, HQ1.out]
        simp only [rowsAt, Int.toNat_natCast]
        omega

set_option maxRecDepth 100000 in
set_option maxHeartbeats 6400000 in
theorem l2Closed_1 (P : Int) (D a0 oa n b0 c0 N : Nat) (s q : Nat → Nat × List Int) (w : World) (hD : D ≤ 28) (hpr : isP P = true) (hs : ∀ i, s (i + 1) = apS P D (s i) (q i).1 (q i).2) (hle : ∀ i, (s i).1 ≤ D) (hlen : ∀ i, (s i).2.length = (s i).1 * D) (hres : ∀ i, Res (s i).2 P) (hql : ∀ i, (q i).2.length = (q i).1 * D) (hqr : ∀ i, Res (q i).2 P) (hqn : ∀ i, (q i).1 ≤ 28) (hup : ∀ i, i < N → (s i).1 < (s (i + 1)).1) (hend : (s (N + 1)).1 = (s N).1) (hb : Has w b0 (s 0).2) (hc0 : (s 0).1 * D ≤ c0)
    (hnx : ∀ i, i ≤ N → ∀ w1 b c bu, Ext w w1 → Has w1 bu (unitTo D D) → Has w1 b (s i).2 → (s i).1 * D ≤ c → Calls Try.prog 137 #[.agg #[.int .i64 P, .int .i64 D, .slice (some ⟨a0, oa, none⟩) n n], .agg #[.int .i64 P, .int .i64 D, .int .i64 D, .slice (some ⟨bu, 0, none⟩) (D * D) (D * D)], .agg #[.int .i64 P, .int .i64 ((s i).1 : Nat), .int .i64 D, .slice (some ⟨b, 0, none⟩) ((s i).1 * D) c]] w1 fun e w' => ∃ b' c', e = .returned (.agg #[.int .i64 P, .int .i64 ((q i).1 : Nat), .int .i64 D, .slice (some ⟨b', 0, none⟩) ((q i).1 * D) c']) ∧ w1.heap.size ≤ b' ∧ b' < w'.heap.size ∧ Has w' b' (q i).2 ∧ Ext w1 w') :
    Calls Try.prog 83 #[.agg #[.int .i64 P, .int .i64 D, .slice (some ⟨a0, oa, none⟩) n n], .agg #[.int .i64 P, .int .i64 ((s 0).1 : Nat), .int .i64 D, .slice (some ⟨b0, 0, none⟩) ((s 0).1 * D) c0], .bool true] w fun e w' => ∃ b c, e = .returned (.agg #[.int .i64 P, .int .i64 ((s (N + 1)).1 : Nat), .int .i64 D, .slice (some ⟨b, 0, none⟩) ((s (N + 1)).1 * D) c]) ∧ w.heap.size ≤ b ∧ b < w'.heap.size ∧ Has w' b (s (N + 1)).2 ∧ Ext w w' := by
  have HNX := Lib.hid hnx
  have HEN := Lib.hid hend
  have HUP := Lib.hid hup
  have HLE := Lib.hid hle
  have HB := Lib.hid hb
  have HJN : Hid (∀ i w1 b c b2 c2, Has w1 b (s i).2 → Has w1 b2 (q i).2 → Calls Try.prog 159 #[.agg #[.int .i64 P, .int .i64 ((s i).1 : Nat), .int .i64 D, .slice (some ⟨b, 0, none⟩) ((s i).1 * D) c], .agg #[.int .i64 P, .int .i64 ((q i).1 : Nat), .int .i64 D, .slice (some ⟨b2, 0, none⟩) ((q i).1 * D) c2]] w1 fun e w' => ∃ b4 c4, e = .returned (.agg #[.int .i64 P, .int .i64 ((s (i + 1)).1 : Nat), .int .i64 D, .slice (some ⟨b4, 0, none⟩) ((s (i + 1)).1 * D) c4]) ∧ w1.heap.size ≤ b4 ∧ b4 < w'.heap.size ∧ Has w' b4 (s (i + 1)).2 ∧ Ext w1 w' ∧ (s (i + 1)).1 * D ≤ c4) := fun i w1 b c b2 c2 h1 h2 => by
    have e1 : (s i).1 * D ≤ 784 := Nat.mul_le_mul (Nat.le_trans (hle i) hD) hD
    have e2 : (q i).1 * D ≤ 784 := Nat.mul_le_mul (hqn i) hD
    have := hqn i
    have := hle i
    rw [hs i]
    exact l1Join_wide P P D (s i).1 (q i).1 D ((s i).1 * D) ((q i).1 * D) c c2 _ _ (s i).2 (q i).2 w1 (h1.reads (hlen i)) (h2.reads (hql i)) rfl rfl (by omega) (by omega) (by omega) hpr (hres i) (hqr i)
  clear hnx hend hup hle hs hlen hres hql hqr hqn hb hpr
  go_enter Try.func83, Try.ntmps83
  have A0_1 := Lib.hid (((cells_new' w #[.int .i64 P, .int .i64 D, .slice (some ⟨a0, oa, none⟩) n n] 28 (w.heap.size) (by simp)).ext ((Ext.refl _).alloc (.cells #[.int .i64 P, .int .i64 ((s 0).1 : Nat), .int .i64 D, .slice (some ⟨b0, 0, none⟩) ((s 0).1 * D) c0] 40))).ext ((Ext.refl _).alloc (.cells #[.int .i64 0, .int .i64 0, .int .i64 0, .slice none 0 0] 40)))
  have A1_2 := Lib.hid ((cells_new' (w.alloc (.cells #[.int .i64 P, .int .i64 D, .slice (some ⟨a0, oa, none⟩) n n] 28)) #[.int .i64 P, .int .i64 ((s 0).1 : Nat), .int .i64 D, .slice (some ⟨b0, 0, none⟩) ((s 0).1 * D) c0] 40 (w.heap.size + 1) (by simp)).ext ((Ext.refl _).alloc (.cells #[.int .i64 0, .int .i64 0, .int .i64 0, .slice none 0 0] 40)))
  have R_3 := Lib.hid (cells_new' ((w.alloc (.cells #[.int .i64 P, .int .i64 D, .slice (some ⟨a0, oa, none⟩) n n] 28)).alloc (.cells #[.int .i64 P, .int .i64 ((s 0).1 : Nat), .int .i64 D, .slice (some ⟨b0, 0, none⟩) ((s 0).1 * D) c0] 40)) #[.int .i64 0, .int .i64 0, .int .i64 0, .slice none 0 0] 40 (w.heap.size + 1 + 1) (by simp))
  have E_4 := Lib.hid ((((Ext.refl w).alloc (.cells #[.int .i64 P, .int .i64 D, .slice (some ⟨a0, oa, none⟩) n n] 28)).alloc (.cells #[.int .i64 P, .int .i64 ((s 0).1 : Nat), .int .i64 D, .slice (some ⟨b0, 0, none⟩) ((s 0).1 * D) c0] 40)).alloc (.cells #[.int .i64 0, .int .i64 0, .int .i64 0, .slice none 0 0] 40))
  have HB0 := Lib.hid (HB.out.ext E_4.out)
  go_wp2_with fail
  generalize hW1 : (((w.alloc (.cells #[.int .i64 P, .int .i64 D, .slice (some ⟨a0, oa, none⟩) n n] 28)).alloc (.cells #[.int .i64 P, .int .i64 ((s 0).1 : Nat), .int .i64 D, .slice (some ⟨b0, 0, none⟩) ((s 0).1 * D) c0] 40)).alloc (.cells #[.int .i64 0, .int .i64 0, .int .i64 0, .slice none 0 0] 40)) = W1 at *
  clear hW1
  go_loopw [7, 8] (fun _ _ wr => ∃ i b c, i ≤ N ∧ Hid (Cells wr w.heap.size [.int .i64 P, .int .i64 D, .slice (some ⟨a0, oa, none⟩) n n]) ∧ Hid (Cells wr (w.heap.size + 1) [.int .i64 P, .int .i64 ((s i).1 : Nat), .int .i64 D, .slice (some ⟨b, 0, none⟩) ((s i).1 * D) c]) ∧ Hid (Has wr b (s i).2 ∧ (s i).1 * D ≤ c) ∧ Hid (Cells wr (w.heap.size + 1 + 1) [.int .i64 0, .int .i64 0, .int .i64 0, .slice none 0 0]) ∧ Hid (Ext w wr)) (fun _ _ wr => D - rowsAt (wr.cell? ⟨w.heap.size + 1, 1, none⟩))
  case atStart => exact ⟨0, b0, c0, by omega, A0_1, A1_2, ⟨HB0.out, hc0⟩, R_3, E_4⟩
  case round =>
    clear A0_1 A1_2 R_3 E_4 HB0
    obtain ⟨i, b, c, hi, hA, hS, hH, hR0, hE⟩ := hrel
    have HX1 := Lib.hid (HNX.out i hi)
    have HJ1 := Lib.hid (HJN.out i)
    have hle1 := HLE.out (i + 1)
    have HCB := Lib.hid hH.out.2
    have HQ1 := Lib.hid (hS.out.2 1 _ rfl)
    have hX1 := (Ext.refl wr).alloc (.cells #[.int .i64 P, .int .i64 ((s i).1 : Nat), .int .i64 D, .slice (some ⟨b, 0, none⟩) ((s i).1 * D) c] 40)
    have T1 : Hid (Cells (wr.alloc (.cells #[.int .i64 P, .int .i64 ((s i).1 : Nat), .int .i64 D, .slice (some ⟨b, 0, none⟩) ((s i).1 * D) c] 40)) wr.heap.size [.int .i64 P, .int .i64 ((s i).1 : Nat), .int .i64 D, .slice (some ⟨b, 0, none⟩) ((s i).1 * D) c]) := cells_new wr #[.int .i64 P, .int .i64 ((s i).1 : Nat), .int .i64 D, .slice (some ⟨b, 0, none⟩) ((s i).1 * D) c] 40
    have hA1 := Lib.hid (hA.out.ext hX1)
    have hS1 := Lib.hid (hS.out.ext hX1)
    have hH1 := Lib.hid (hH.out.1.ext hX1)
    have hR1 := Lib.hid (hR0.out.ext hX1)
    have hE1 := Lib.hid (hE.out.trans hX1)
    have hwr : w.heap.size + 1 + 1 < wr.heap.size := hR0.out.1
    have HWR := Lib.hid hwr
    have lS := hS.out.1
    have q0 := hS.out.2 0 _ rfl
    have q1 := hS.out.2 1 _ rfl
    have q2 := hS.out.2 2 _ rfl
    have q3 := hS.out.2 3 _ rfl
    have lA := hA1.out.1
    have a0' := hA1.out.2 0 _ rfl
    have a1' := hA1.out.2 1 _ rfl
    have a2' := hA1.out.2 2 _ rfl
    have HHB := Lib.hid hH.out.1.lt
    clear hX1 hA hS hH hR0 hE
    go_wp2_with fail
    refine (l2All_spec P D a0 oa n n _ hD).mono ?_
    rintro e w3 ⟨bu, rfl, hu1, hu2, ku, h3⟩
    have hA2 := Lib.hid (hA1.out.ext h3)
    have hS2 := Lib.hid (hS1.out.ext h3)
    have hH2 := Lib.hid (hH1.out.ext h3)
    have hR2 := Lib.hid (hR1.out.ext h3)
    have hE2 := Lib.hid (hE1.out.trans h3)
    have T2 := Lib.hid (T1.out.ext h3)
    try simp only [World.size_alloc] at hu1
    have sz3 := h3.le
    try simp only [World.size_alloc] at sz3
    clear hA1 hS1 hH1 hR1 hE1 T1 h3 lS q0 q1 q2 q3 lA a0' a1' a2'
    have lT := T2.out.1
    have tf := T2.out.3
    have y0 := T2.out.2 0 _ rfl
    have y1 := T2.out.2 1 _ rfl
    have y2 := T2.out.2 2 _ rfl
    have y3 := T2.out.2 3 _ rfl
    have nS : wr.heap.size ≠ w.heap.size + 1 := by omega
    have nA : wr.heap.size ≠ w.heap.size := by omega
    have nR : wr.heap.size ≠ w.heap.size + 1 + 1 := by omega
    have nU : wr.heap.size ≠ bu := by omega
    have nW : w.heap.size ≤ wr.heap.size := by omega
    have hbl := hH2.out.lt
    have nB : wr.heap.size ≠ b := fun e9 => by have := HHB.out; omega
    have T3 := Lib.hid (early4 (lo := 0) (v0 := .int .i64 P) (v1 := .int .i64 D) (v2 := .int .i64 D) (v3 := .slice (some ⟨bu, 0, none⟩) (D * D) (D * D)) T2.out)
    have hA3 := Lib.hid (((((hA2.out.setOth (p := ⟨wr.heap.size, 0, none⟩) nA (.int .i64 P))).setOth (p := ⟨wr.heap.size, 1, none⟩) nA (.int .i64 D)).setOth (p := ⟨wr.heap.size, 2, none⟩) nA (.int .i64 D)).setOth (p := ⟨wr.heap.size, 3, none⟩) nA (.slice (some ⟨bu, 0, none⟩) (D * D) (D * D)))
    have hS3 := Lib.hid (((((hS2.out.setOth (p := ⟨wr.heap.size, 0, none⟩) nS (.int .i64 P))).setOth (p := ⟨wr.heap.size, 1, none⟩) nS (.int .i64 D)).setOth (p := ⟨wr.heap.size, 2, none⟩) nS (.int .i64 D)).setOth (p := ⟨wr.heap.size, 3, none⟩) nS (.slice (some ⟨bu, 0, none⟩) (D * D) (D * D)))
    have hR3 := Lib.hid (((((hR2.out.setOth (p := ⟨wr.heap.size, 0, none⟩) nR (.int .i64 P))).setOth (p := ⟨wr.heap.size, 1, none⟩) nR (.int .i64 D)).setOth (p := ⟨wr.heap.size, 2, none⟩) nR (.int .i64 D)).setOth (p := ⟨wr.heap.size, 3, none⟩) nR (.slice (some ⟨bu, 0, none⟩) (D * D) (D * D)))
    have hH3 := Lib.hid (((((hH2.out.setOther (p := ⟨wr.heap.size, 0, none⟩) nB (.int .i64 P))).setOther (p := ⟨wr.heap.size, 1, none⟩) nB (.int .i64 D)).setOther (p := ⟨wr.heap.size, 2, none⟩) nB (.int .i64 D)).setOther (p := ⟨wr.heap.size, 3, none⟩) nB (.slice (some ⟨bu, 0, none⟩) (D * D) (D * D)))
    have hU3 := Lib.hid (((((ku.setOther (p := ⟨wr.heap.size, 0, none⟩) nU (.int .i64 P))).setOther (p := ⟨wr.heap.size, 1, none⟩) nU (.int .i64 D)).setOther (p := ⟨wr.heap.size, 2, none⟩) nU (.int .i64 D)).setOther (p := ⟨wr.heap.size, 3, none⟩) nU (.slice (some ⟨bu, 0, none⟩) (D * D) (D * D)))
    have hE3 := Lib.hid (ext4 (B := wr.heap.size) hE2.out nW (.int .i64 P) (.int .i64 D) (.int .i64 D) (.slice (some ⟨bu, 0, none⟩) (D * D) (D * D)))
    clear hA2 hS2 hH2 hR2 hE2 T2 ku
    go_upto_region 4 with fail
    clear lT tf y0 y1 y2 y3
    generalize ((((w3.setCell ⟨wr.heap.size, 0, none⟩ (.int .i64 P)).setCell ⟨wr.heap.size, 1, none⟩ (.int .i64 D)).setCell ⟨wr.heap.size, 2, none⟩ (.int .i64 D)).setCell ⟨wr.heap.size, 3, none⟩ (.slice (some ⟨bu, 0, none⟩) (D * D) (D * D))) = WX at *
    generalize wr.heap.size = TB at *
    (try clear lS q0 q1 q2 q3 lA a0' a1' a2')
    have lA := hA3.out.1
    have a0' := hA3.out.2 0 _ rfl
    have a1' := hA3.out.2 1 _ rfl
    have a2' := hA3.out.2 2 _ rfl
    have lS := hS3.out.1
    have q0 := hS3.out.2 0 _ rfl
    have q1 := hS3.out.2 1 _ rfl
    have q2 := hS3.out.2 2 _ rfl
    have q3 := hS3.out.2 3 _ rfl
    have lT := T3.out.1
    have y0 := T3.out.2 0 _ rfl
    have y1 := T3.out.2 1 _ rfl
    have y2 := T3.out.2 2 _ rfl
    have y3 := T3.out.2 3 _ rfl
    go_cut [8] (fun s8 wx => ∃ XB b4 c4, s8 = .pointer (some ⟨XB, 0, none⟩) ∧ WX.heap.size ≤ XB ∧ WX.heap.size ≤ b4 ∧ Hid (Cells wx XB [.int .i64 P, .int .i64 ((s (i + 1)).1 : Nat), .int .i64 D, .slice (some ⟨b4, 0, none⟩) ((s (i + 1)).1 * D) c4]) ∧ Hid (Has wx b4 (s (i + 1)).2) ∧ Hid (Ext WX wx) ∧ (s (i + 1)).1 * D ≤ c4)
    case first =>
      go_region_held3 (fun w' => Ext WX w' ∧ (∀ b o, b < WX.heap.size → w'.cell? ⟨b, o, none⟩ = WX.cell? ⟨b, o, none⟩)) (first | assumption | (with_reducible exact ext2 (Ext.trans (And.left ‹Ext WX _ ∧ _›) ‹Ext _ _›)) | (refine ext2 ?_; with_reducible repeat (first | exact Ext.refl _ | exact And.left ‹Ext WX _ ∧ _› | refine Ext.drew ?_ | refine Ext.drewN ?_ _ | exact Ext.alloc (And.left ‹Ext WX _ ∧ _›) _ | exact Ext.alloc ((Ext.refl _).drew) _ | exact Ext.alloc (((Ext.refl _).drew).trans h2) _ | exact Ext.alloc ((((Ext.refl _).drew).trans h2).trans h4) _ | refine Ext.alloc ?_ _ | refine Ext.setCell ?_ (by have e0 : WX.drew.heap.size = WX.heap.size := rfl; simp <;> omega) _))) (first
        | (go_at_call 137; (with_reducible refine (HX1.out _ b c bu (hE3.out.trans (And.left ‹Ext WX _ ∧ _›)) (hU3.out.ext (And.left ‹Ext WX _ ∧ _›)) (hH3.out.ext (And.left ‹Ext WX _ ∧ _›)) HCB.out).mono ?_); rintro e w2 ⟨b2, c2, rfl, hq1, hq2, kh2, h2⟩; have c_2 := h2.cells; have f_2 := h2.frees; have y_2 := h2.le; have x_2 := fun k hk => Nat.lt_of_lt_of_le (n := k) hk h2.le; (try simp only [World.size_drew] at y_2 x_2); (try simp only [World.size_alloc] at y_2 x_2); (try simp only [Nat.add_one_le_iff] at y_2); (try have z_2_0 : WX.heap.size < w2.heap.size := by omega))
        | (go_at_call 159; (with_reducible refine (HJ1.out _ b c b2 c2 (hH3.out.ext (And.left ‹Ext WX _ ∧ _›)) (by with_reducible first | exact kh2 | exact Has.alloc kh2 _)).mono ?_); rintro e w4 ⟨b4, c4, rfl, hm1, hm2, kx, h4, hcc⟩; have c_4 := h4.cells; have f_4 := h4.frees; have y_4 := h4.le; have x_4 := fun k hk => Nat.lt_of_lt_of_le (n := k) hk h4.le; (try simp only [World.size_drew] at y_4 x_4); (try simp only [World.size_alloc] at y_4 x_4); (try simp only [Nat.add_one_le_iff] at y_4); (try have z_4_0 : WX.heap.size < w4.heap.size := by omega); (try have z_4_1 : w2.heap.size < w4.heap.size := by omega)))
      all_goals (go_wp2_with fail; go_meet; first
        | exact ⟨w4.heap.size, b4, c4, rfl, (by (try simp only [World.size_alloc, World.size_drew] at hm1); omega), (by (try simp only [World.size_alloc, World.size_drew] at hm1); omega), cells_new _ _ _, Has.alloc (by with_reducible first | exact kx | exact kx.alloc _) _, And.left ‹Ext WX _ ∧ _›, hcc⟩
        | exact ⟨w2.heap.size, b4, c4, rfl, (by (try simp only [World.size_alloc, World.size_drew] at hm1); omega), (by (try simp only [World.size_alloc, World.size_drew] at hm1); omega), early4 (lo := 0) ((cells_new w2 _ _).ext h4), (Has.setOther (Has.setOther (Has.setOther (Has.setOther (by with_reducible first | exact kx | exact kx.alloc _) (by (try simp only [World.size_alloc, World.size_drew] at hm1); simp <;> omega) _) (by (try simp only [World.size_alloc, World.size_drew] at hm1); simp <;> omega) _) (by (try simp only [World.size_alloc, World.size_drew] at hm1); simp <;> omega) _) (by (try simp only [World.size_alloc, World.size_drew] at hm1); simp <;> omega) _), And.left ‹Ext WX _ ∧ _›, hcc⟩
        | exact ⟨WX.heap.size, b4, c4, rfl, (by (try simp only [World.size_alloc, World.size_drew] at hm1); omega), (by (try simp only [World.size_alloc, World.size_drew] at hm1); omega), early4 (lo := 0) ((((cells_new WX _ _).ext (Ext.drew (Ext.refl _))).ext h2).ext h4), (Has.setOther (Has.setOther (Has.setOther (Has.setOther (by with_reducible first | exact kx | exact kx.alloc _) (by (try simp only [World.size_alloc, World.size_drew] at hm1); simp <;> omega) _) (by (try simp only [World.size_alloc, World.size_drew] at hm1); simp <;> omega) _) (by (try simp only [World.size_alloc, World.size_drew] at hm1); simp <;> omega) _) (by (try simp only [World.size_alloc, World.size_drew] at hm1); simp <;> omega) _), And.left ‹Ext WX _ ∧ _›, hcc⟩)
    case rest =>
      obtain ⟨XB, b4, c4, rfl, hxb, hb4, hXB, h4H, h4E, hcc⟩ := hcut
      obtain ⟨w5, hwk⟩ : ∃ wk : World, wk = wc := ⟨_, rfl⟩
      subst hwk
      clear lA a0' a1' a2' lS q0 q1 q2 q3 lT y0 y1 y2 y3
      have A5 := Lib.hid (hA3.out.ext h4E.out)
      have S5 := Lib.hid (hS3.out.ext h4E.out)
      have R5 := Lib.hid (hR3.out.ext h4E.out)
      have E5 := Lib.hid (hE3.out.trans h4E.out)
      have hRw : w.heap.size + 1 + 1 < WX.heap.size := hR3.out.1
      clear hA3 hS3 hH3 hR3 hE3 T3 h4E HX1 HJ1
      have lX := hXB.out.1
      have x0 := hXB.out.2 0 _ rfl
      have x1 := hXB.out.2 1 _ rfl
      have x2 := hXB.out.2 2 _ rfl
      have x3 := hXB.out.2 3 _ rfl
      have lS := S5.out.1
      have q1 := S5.out.2 1 _ rfl
      have tS := S5.out.3
      by_cases e : i = N
      · subst e
        have he : (s (i + 1)).1 = (s i).1 := HEN.out
        have heq : (((s (i + 1)).1 : Int) == ((s i).1 : Int)) = true := by rw [he]; simp
        clear he
        have r0 := R5.out.2 0 _ rfl
        have r1 := R5.out.2 1 _ rfl
        have r2 := R5.out.2 2 _ rfl
        have r3 := R5.out.2 3 _ rfl
        have tR := R5.out.3
        have lR := R5.out.1
        have hlt := h4H.out.lt
        go_wp2
        refine bodyPost_ret (v := .agg #[.int .i64 P, .int .i64 ((s (i + 1)).1 : Nat), .int .i64 D, .slice (some ⟨b4, 0, none⟩) ((s (i + 1)).1 * D) c4]) (by simp [results, Try.results83, go_sem, r0, r1, r2, r3]) rfl ⟨b4, c4, rfl, by omega, by simp; omega, ?_, ext4 E5.out (by omega) _ _ _ _⟩
        repeat with_reducible (first | exact h4H.out | refine Has.setOther ?_ (by simp <;> omega) _)
      · have hlt := HUP.out i (by omega)
        have hne3 : (((s (i + 1)).1 : Int) == ((s i).1 : Int)) = false := by simp only [beq_eq_false_iff_ne, ne_eq]; omega
        have q0 := S5.out.2 0 _ rfl
        have q2 := S5.out.2 2 _ rfl
        have q3 := S5.out.2 3 _ rfl
        have nH : w.heap.size + 1 ≠ b4 := by omega
        have nA : w.heap.size + 1 ≠ w.heap.size := by omega
        have nR : w.heap.size + 1 ≠ w.heap.size + 1 + 1 := by omega
        have S6 := Lib.hid (early4 (lo := 0) (v0 := .int .i64 P) (v1 := .int .i64 ((s (i + 1)).1 : Nat)) (v2 := .int .i64 D) (v3 := .slice (some ⟨b4, 0, none⟩) ((s (i + 1)).1 * D) c4) S5.out)
        have A6 := Lib.hid (((((A5.out.setOth (p := ⟨w.heap.size + 1, 0, none⟩) nA (.int .i64 P))).setOth (p := ⟨w.heap.size + 1, 1, none⟩) nA (.int .i64 ((s (i + 1)).1 : Nat))).setOth (p := ⟨w.heap.size + 1, 2, none⟩) nA (.int .i64 D)).setOth (p := ⟨w.heap.size + 1, 3, none⟩) nA (.slice (some ⟨b4, 0, none⟩) ((s (i + 1)).1 * D) c4))
        have R6 := Lib.hid (((((R5.out.setOth (p := ⟨w.heap.size + 1, 0, none⟩) nR (.int .i64 P))).setOth (p := ⟨w.heap.size + 1, 1, none⟩) nR (.int .i64 ((s (i + 1)).1 : Nat))).setOth (p := ⟨w.heap.size + 1, 2, none⟩) nR (.int .i64 D)).setOth (p := ⟨w.heap.size + 1, 3, none⟩) nR (.slice (some ⟨b4, 0, none⟩) ((s (i + 1)).1 * D) c4))
        have H6 := (((((h4H.out.setOther (p := ⟨w.heap.size + 1, 0, none⟩) nH (.int .i64 P))).setOther (p := ⟨w.heap.size + 1, 1, none⟩) nH (.int .i64 ((s (i + 1)).1 : Nat))).setOther (p := ⟨w.heap.size + 1, 2, none⟩) nH (.int .i64 D)).setOther (p := ⟨w.heap.size + 1, 3, none⟩) nH (.slice (some ⟨b4, 0, none⟩) ((s (i + 1)).1 * D) c4))
        have HH6 := Lib.hid (And.intro H6 hcc)
        clear H6
        have E6 := Lib.hid (ext4 (B := w.heap.size + 1) E5.out (by omega) (.int .i64 P) (.int .i64 ((s (i + 1)).1 : Nat)) (.int .i64 D) (.slice (some ⟨b4, 0, none⟩) ((s (i + 1)).1 * D) c4))
        go_wp2
        refine ⟨⟨i + 1, b4, c4, by omega, A6, S6, HH6, R6, E6⟩, ?_⟩
        rw [S6.out.2 1 _ rfl, HQ1.out]
        simp only [rowsAt, Int.toNat_natCast]
        omega
end Go.Proofs.Ytapaopapgnfdkaa
