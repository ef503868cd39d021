/-
  What is taken into a space, in the program.
-/
import Derived.Test.YtapaopapgnfdkaaInto
import Derived.Test.YtapaopapgnfdkaaTk
import Derived.Test.YtapaopapgnfdkaaAdj
namespace Go.Proofs.Ytapaopapgnfdkaa
open Go.ChangeShapes Go.WideShapes Go.ChangeAt Go.RowKit
set_option linter.unusedVariables false
set_option linter.unusedSimpArgs false

set_option maxRecDepth 100000 in
set_option maxHeartbeats 12800000 in
theorem takenInto_impl (P : Int) (D R k n1 n3 B a0 oa n d s0 so u0 uo : Nat) (l ss us : List Int) (w : World) (hc : Cells w B [.int .i64 P, .int .i64 D, .slice (some ⟨a0, oa, none⟩) n d]) (hD : D ≤ 28) (hR : R ≤ 28) (hn : n = D * D * D) (hn1 : n1 = R * D) (hd : n ≤ d) (hd2 : d ≤ maxLen)
    (hT : Reads w (some ⟨a0, oa, none⟩) n l) (hSr : Reads w (some ⟨s0, so, none⟩) n1 ss) (hU : Reads w (some ⟨u0, uo, none⟩) n3 us) (hsp : spaceM P k D us = true) (hl : Res l P) (hs : Res ss P) :
    Calls Try.prog 68 #[.pointer (some ⟨B, 0, none⟩), .agg #[.int .i64 P, .int .i64 R, .int .i64 D, .slice (some ⟨s0, so, none⟩) n1 n1], .agg #[.int .i64 P, .int .i64 k, .int .i64 D, .slice (some ⟨u0, uo, none⟩) n3 n3]] w fun e w' => ∃ b, e = .returned (.agg #[.int .i64 P, .int .i64 (kerN P (R * D) D (eqI P D l ss us (redM P k D us).pv R) : Nat), .int .i64 D, .slice (some ⟨b, 0, none⟩) (kerN P (R * D) D (eqI P D l ss us (redM P k D us).pv R) * D) (kerN P (R * D) D (eqI P D l ss us (redM P k D us).pv R) * D)]) ∧ w.heap.size ≤ b ∧ b < w'.heap.size ∧ Has w' b (kerS P (R * D) D (eqI P D l ss us (redM P k D us).pv R)) ∧ Ext w w' := by
  obtain ⟨hpr, hss, hxs, hls, hk, hC⟩ := spaceM_parts hsp
  have hp := isP_lo hpr
  have hp2 := isP_hi hpr
  obtain ⟨pv, hpv⟩ : ∃ pv, (redM P k D us).pv = pv := ⟨_, rfl⟩
  rw [hpv]
  have HPV := Lib.hid hpv
  clear hpv
  have hk1 : R * D ≤ 784 := Nat.mul_le_mul hR hD
  have hk2 : R * D * D ≤ 21952 := Nat.mul_le_mul hk1 hD
  have hsq : D * D ≤ 784 := Nat.mul_le_mul hD hD
  obtain ⟨N, hN⟩ : ∃ N, N = R * D * D := ⟨_, rfl⟩
  obtain ⟨m, hm⟩ : ∃ m, m = D * D := ⟨_, rfl⟩
  have hNm : N = R * m := by rw [hN, hm, Nat.mul_assoc]
  have HKE : Hid (∀ wx b, Has wx b (eqI P D l ss us pv R) → Calls Try.prog 146 #[.agg #[.int .i64 P, .int .i64 ((R : Int) * (D : Int)), .int .i64 D, .slice (some ⟨b, 0, none⟩) N N]] wx fun e w' => ∃ b', e = .returned (.agg #[.int .i64 P, .int .i64 (kerN P (R * D) D (eqI P D l ss us pv R) : Nat), .int .i64 D, .slice (some ⟨b', 0, none⟩) (kerN P (R * D) D (eqI P D l ss us pv R) * D) (kerN P (R * D) D (eqI P D l ss us pv R) * D)]) ∧ wx.heap.size ≤ b' ∧ b' < w'.heap.size ∧ Has w' b' (kerS P (R * D) D (eqI P D l ss us pv R)) ∧ Ext wx w') := fun wx b h => by
    rw [← Int.natCast_mul]
    exact kernel_impl P (R * D) D N N (some ⟨b, 0, none⟩) (eqI P D l ss us pv R) wx (h.reads (by rw [eqI_length, hN])) hN (by omega) (by omega) (by omega) hp hp2 (eqI_res hp)
  have HFE : Hid (eqI P D l ss us pv R = bkAt (eqB P D l ss us pv) R m R) := by rw [Hid, bkAt_end]; rfl
  generalize eqI P D l ss us pv R = EI at *
  generalize kerN P (R * D) D EI = KN at *
  generalize kerS P (R * D) D EI = KS at *
  have hbl : ∀ i, (eqB P D l ss us pv i).length = m := fun i => by rw [eqB_length, hm]
  have HF0 : Hid (List.replicate N (0 : Int) = bkAt (eqB P D l ss us pv) R m 0) := by rw [Hid, bkAt_zero, hNm]
  have HFL : Hid (∀ i, i ≤ R → (bkAt (eqB P D l ss us pv) R m i).length = N) := fun i hi => by rw [bkAt_length (fun i _ => hbl i) i hi, hNm]
  have HFS : Hid (∀ i, i < R → spl (bkAt (eqB P D l ss us pv) R m i) (i * m) (eqB P D l ss us pv i) = bkAt (eqB P D l ss us pv) R m (i + 1)) := fun i hi => bkAt_step (fun i _ => hbl i) hi
  generalize bkAt (eqB P D l ss us pv) R m = F at *
  have HBL := Lib.hid hbl
  have HADJ : Hid (∀ i, i < R → ∀ wx c', Ext w wx → Calls Try.prog 145 #[.pointer (some ⟨B, 0, none⟩), .slice (some ⟨s0, so + i * D, none⟩) D c'] wx fun e w' => ∃ b, e = .returned (.agg #[.int .i64 P, .int .i64 D, .int .i64 D, .slice (some ⟨b, 0, none⟩) m m]) ∧ wx.heap.size ≤ b ∧ b < w'.heap.size ∧ Has w' b (adTo P D l (rowL D ss i) D) ∧ Ext wx w') := fun i hi wx c' h => by
    have hrx : Res (rowL D ss i) P := fun j hj => by
      rw [rowL_length (by rw [hSr.1, hn1]) hi] at hj
      rw [gi_rowL2 _ _ hj]
      exact hs _ (by rw [hSr.1, hn1]; exact place_lt hi hj)
    have := adjoint_impl P D B a0 oa n d s0 (so + i * D) c' l (rowL D ss i) wx (hc.ext h) hD hn hd hd2 (hT.ext h) (reads_row (hSr.ext h) hn1 hi) hp hp2 hl hrx
    rw [← hm] at this
    exact this
  have HREM : Hid (∀ i wx b, Ext w wx → Has wx b (adTo P D l (rowL D ss i) D) → Calls Try.prog 113 #[.agg #[.int .i64 P, .int .i64 D, .int .i64 D, .slice (some ⟨b, 0, none⟩) m m], .agg #[.int .i64 P, .int .i64 k, .int .i64 D, .slice (some ⟨u0, uo, none⟩) n3 n3]] wx fun e w' => ∃ b', e = .returned (.agg #[.int .i64 P, .int .i64 D, .int .i64 D, .slice (some ⟨b', 0, none⟩) m m]) ∧ wx.heap.size ≤ b' ∧ b' < w'.heap.size ∧ Has w' b' (rmL P D D us (adTo P D l (rowL D ss i) D) pv) ∧ Ext wx w') := fun i wx b h hk => by
    have := remainders_impl P D D k m n3 m u0 uo (some ⟨b, 0, none⟩) (adTo P D l (rowL D ss i) D) us wx (hk.reads (by rw [adTo_length, hm])) hm (by omega) (by omega) (hU.ext h) hsp (adTo_res (by omega) D)
    rw [HPV.out] at this
    exact this
  have HTR : Hid (∀ i wx b, Has wx b (rmL P D D us (adTo P D l (rowL D ss i) D) pv) → Calls Try.prog 111 #[.agg #[.int .i64 P, .int .i64 D, .int .i64 D, .slice (some ⟨b, 0, none⟩) m m]] wx fun e w' => ∃ b', e = .returned (.agg #[.int .i64 P, .int .i64 D, .int .i64 D, .slice (some ⟨b', 0, none⟩) m m]) ∧ wx.heap.size ≤ b' ∧ b' < w'.heap.size ∧ Has w' b' (eqB P D l ss us pv i) ∧ Ext wx w') := fun i wx b hk => by
    have := transpose_impl P D D b 0 m m (rmL P D D us (adTo P D l (rowL D ss i) D) pv) wx (hk.reads (by rw [rmL_length, hm])) hm (by omega) (by omega) (by omega) (Nat.le_refl _) (by unfold maxLen; omega)
    rw [← hm] at this
    exact this
  generalize eqB P D l ss us pv = f at *
  have HC := Lib.hid hc
  have HNM := Lib.hid hNm
  have HN1 := Lib.hid hn1
  have HMM := Lib.hid hm
  have hNb : N ≤ 21952 := by omega
  have hmb : m ≤ 784 := by omega
  have e2 : (R : Int) * (D : Int) * (D : Int) = (N : Int) := by rw [hN]; simp
  have e3 : (R : Int) * (D : Int) = ((R * D : Nat) : Int) := by simp
  have hn1b : n1 ≤ 784 := by omega
  have v1 : IntKind.i64.wrap ((R : Int) * (D : Int)) = (R : Int) * (D : Int) := IntWalk.i64_in _ ⟨by omega, by omega⟩
  have g0 : 0 ≤ (R : Int) * (D : Int) * (D : Int) := by omega
  have g1 : (R : Int) * (D : Int) * (D : Int) ≤ 1048576 := by omega
  have E1 : Hid (((R : Int) * (D : Int) * (D : Int)).toNat = N) := by rw [Hid, e2, Int.toNat_natCast]
  have HZ : Hid (∀ w1, Calls Try.prog 66 #[.int .i64 P, .int .i64 ((R : Int) * (D : Int)), .int .i64 D] w1 fun e w' => ∃ b, e = .returned (.agg #[.int .i64 P, .int .i64 ((R : Int) * (D : Int)), .int .i64 D, .slice (some ⟨b, 0, none⟩) N N]) ∧ w1.heap.size ≤ b ∧ b < w'.heap.size ∧ Has w' b (List.replicate N 0) ∧ Ext w1 w') := fun w1 => by
    have := zeros_impl P ((R : Int) * (D : Int)) D w1 g0 g1
    rw [E1.out] at this
    exact this
  clear hc hT hSr hU hn hn1 hN hm hNm hl hs e2 e3 hd hd2 hsp hss hxs hls hbl hk1 hk2 hsq hpr hC hk
  have M0 := Lib.hid (cells_new' ((w.alloc (.cells #[.int .i64 P, .int .i64 R, .int .i64 D, .slice (some ⟨s0, so, none⟩) n1 n1] 40)).alloc (.cells #[.int .i64 P, .int .i64 k, .int .i64 D, .slice (some ⟨u0, uo, none⟩) n3 n3] 40)) #[.int .i64 0, .int .i64 0, .int .i64 0, .slice none 0 0] 40 (w.heap.size + 1 + 1) (by simp))
  have S0 := Lib.hid (((cells_new' w #[.int .i64 P, .int .i64 R, .int .i64 D, .slice (some ⟨s0, so, none⟩) n1 n1] 40 w.heap.size rfl).ext ((Ext.refl _).alloc (.cells #[.int .i64 P, .int .i64 k, .int .i64 D, .slice (some ⟨u0, uo, none⟩) n3 n3] 40))).ext ((Ext.refl _).alloc (.cells #[.int .i64 0, .int .i64 0, .int .i64 0, .slice none 0 0] 40)))
  have T0 := Lib.hid ((cells_new' (w.alloc (.cells #[.int .i64 P, .int .i64 R, .int .i64 D, .slice (some ⟨s0, so, none⟩) n1 n1] 40)) #[.int .i64 P, .int .i64 k, .int .i64 D, .slice (some ⟨u0, uo, none⟩) n3 n3] 40 (w.heap.size + 1) (by simp)).ext ((Ext.refl _).alloc (.cells #[.int .i64 0, .int .i64 0, .int .i64 0, .slice none 0 0] 40)))
  have E0 := Lib.hid ((((Ext.refl w).alloc (.cells #[.int .i64 P, .int .i64 R, .int .i64 D, .slice (some ⟨s0, so, none⟩) n1 n1] 40)).alloc (.cells #[.int .i64 P, .int .i64 k, .int .i64 D, .slice (some ⟨u0, uo, none⟩) n3 n3] 40)).alloc (.cells #[.int .i64 0, .int .i64 0, .int .i64 0, .slice none 0 0] 40))
  have B0 := Lib.hid (HC.out.ext E0.out)
  have hsz : (((w.alloc (.cells #[.int .i64 P, .int .i64 R, .int .i64 D, .slice (some ⟨s0, so, none⟩) n1 n1] 40)).alloc (.cells #[.int .i64 P, .int .i64 k, .int .i64 D, .slice (some ⟨u0, uo, none⟩) n3 n3] 40)).alloc (.cells #[.int .i64 0, .int .i64 0, .int .i64 0, .slice none 0 0] 40)).heap.size = w.heap.size + 1 + 1 + 1 := by simp
  have HSZ := Lib.hid hsz
  go_enter Try.func68, Try.ntmps68
  go_upto_region 1 with fail
  clear hsz
  generalize (((w.alloc (.cells #[.int .i64 P, .int .i64 R, .int .i64 D, .slice (some ⟨s0, so, none⟩) n1 n1] 40)).alloc (.cells #[.int .i64 P, .int .i64 k, .int .i64 D, .slice (some ⟨u0, uo, none⟩) n3 n3] 40)).alloc (.cells #[.int .i64 0, .int .i64 0, .int .i64 0, .slice none 0 0] 40)) = W0 at *
  have lB := B0.out.1
  have q0 := B0.out.2 0 _ rfl
  have q1 := B0.out.2 1 _ rfl
  have lS := S0.out.1
  have s1 := S0.out.2 1 _ rfl
  go_cut [7] (fun s7 wx => ∃ MB b, s7 = .pointer (some ⟨MB, 0, none⟩) ∧ Hid (Loc W0 wx MB b [.int .i64 P, .int .i64 ((R : Int) * (D : Int)), .int .i64 D, .slice (some ⟨b, 0, none⟩) N N] (F 0)) ∧ W0.heap.size ≤ MB)
  case first =>
    go_region_held3 (fun w' => Ext W0 w' ∧ (∀ b o, b < W0.heap.size → w'.cell? ⟨b, o, none⟩ = W0.cell? ⟨b, o, none⟩)) (first | (with_reducible exact ext2 (Ext.trans (And.left ‹Ext W0 _ ∧ _›) ‹Ext _ _›)) | (refine ext2 ?_; with_reducible repeat (first | exact Ext.refl _ | exact And.left ‹Ext W0 _ ∧ _› | exact Ext.trans (Ext.drew (Ext.refl _)) ‹Ext _ _› | exact Ext.trans (Ext.alloc (Ext.drew (Ext.refl _)) _) ‹Ext _ _› | exact Ext.trans (Ext.drew (Ext.alloc (Ext.refl _) _)) ‹Ext _ _› | refine Ext.drew ?_ | refine Ext.drewN ?_ _ | refine Ext.alloc ?_ _ | refine Ext.setCell ?_ (by have e0 : W0.drew.heap.size = W0.heap.size := rfl; simp <;> omega) _))) ((go_at_call 66; (with_reducible refine (HZ.out _).mono ?_); rintro e w1 ⟨b, rfl, hb1, hb2, hh, h1⟩; have c1 := h1.cells; have f1 := h1.frees; have y1 := h1.le; have x1 := fun k hk => Nat.lt_of_lt_of_le (n := k) hk h1.le; (try simp only [World.size_drew] at y1 x1 hb1); (try simp only [World.size_alloc] at y1 x1 hb1); (try simp only [World.size_drew] at y1 x1 hb1)))
    all_goals (go_wp2_with fail; go_meet; first
      | exact ⟨w1.heap.size, b, rfl, ⟨cells_new _ _ _, by rw [← HF0.out]; exact hh.alloc _, And.left ‹Ext W0 _ ∧ _›, by omega, by simp; omega, by omega⟩, by omega⟩
      | exact ⟨W0.heap.size, b, rfl, ⟨early4 (lo := 0) ((((cells_new W0 _ _).ext (Ext.drew (Ext.refl _)))).ext h1), by rw [← HF0.out]; repeat with_reducible (first | exact hh | refine Has.setOther ?_ (by simp <;> omega) _), And.left ‹Ext W0 _ ∧ _›, by omega, by simp; omega, by omega⟩, by omega⟩)
  case rest =>
    obtain ⟨MB, b, rfl, L0, hMB⟩ := hcut
    have hW : w.heap.size + 1 + 1 + 1 ≤ MB ∧ w.heap.size + 1 + 1 + 1 ≤ b := by have := HSZ.out; have := L0.out.lo; omega
    have HW := Lib.hid hW
    have HMB := Lib.hid hMB
    have SL := S0.out.ext L0.out.ext
    clear lB q0 q1 lS s1 hMB hW v1 g0 g1
    have lS := SL.1
    have s1 := SL.2 1 _ rfl
    obtain ⟨wl, hwl⟩ : ∃ wl : World, wl = wc := ⟨_, rfl⟩
    subst hwl
    clear SL
    go_wp2_with fail
    clear lS s1
    go_loopw [31, 8, 9] (fun z _ _ wr => ∃ i : Nat, i ≤ R ∧ z = .int .i64 i ∧ Hid (Loc W0 wr MB b [.int .i64 P, .int .i64 ((R : Int) * (D : Int)), .int .i64 D, .slice (some ⟨b, 0, none⟩) N N] (F i))) (fun z _ _ _ => R - (intOf z).toNat)
    case atStart => exact ⟨0, by omega, rfl, L0⟩
    case round =>
      clear L0
      obtain ⟨i, hi, rfl, K⟩ := hrel
      by_cases hlt : i < R
      · have r1 : (i + 1) * D ≤ n1 := by rw [HN1.out]; exact Nat.mul_le_mul_right D hlt
        have hc1 : ∀ wx, Calls Try.prog 78 #[.agg #[.int .i64 P, .int .i64 R, .int .i64 D, .slice (some ⟨s0, so, none⟩) n1 n1], .int .i64 i] wx fun e w' => e = .returned (.slice (some ⟨s0, so + i * D, none⟩) D (n1 - i * D)) ∧ Ext wx w' := fun wx => rowOf_impl P R D i s0 so n1 wx r1 (by omega) (by omega)
        have HC1 := Lib.hid hc1
        have HAD := Lib.hid (HADJ.out i hlt)
        have BL := B0.out.ext K.out.ext
        have SL := S0.out.ext K.out.ext
        have TL := T0.out.ext K.out.ext
        have lB := BL.1
        have lS := SL.1
        have s0' := SL.2 0 _ rfl
        have s1' := SL.2 1 _ rfl
        have s2' := SL.2 2 _ rfl
        have s3' := SL.2 3 _ rfl
        have lT := TL.1
        have t0' := TL.2 0 _ rfl
        have t1' := TL.2 1 _ rfl
        have t2' := TL.2 2 _ rfl
        have t3' := TL.2 3 _ rfl
        have EW := Lib.hid (E0.out.trans K.out.ext)
        clear hc1 r1 BL SL TL
        go_wp2_with fail
        go_cut [9] (fun s9 wx => ∃ RB rb, s9 = .pointer (some ⟨RB, 0, none⟩) ∧ Hid (Cells wx RB [.int .i64 P, .int .i64 D, .int .i64 D, .slice (some ⟨rb, 0, none⟩) m m]) ∧ Hid (Has wx rb (rmL P D D us (adTo P D l (rowL D ss i) D) pv)) ∧ Hid (Ext wr wx) ∧ Hid (wr.heap.size ≤ RB ∧ wr.heap.size ≤ rb))
        case first =>
          go_region_held3 (fun w' => Ext wr w' ∧ (∀ b o, b < wr.heap.size → w'.cell? ⟨b, o, none⟩ = wr.cell? ⟨b, o, none⟩)) (first | (with_reducible exact ext2 (Ext.trans (And.left ‹Ext wr _ ∧ _›) ‹Ext _ _›)) | (refine ext2 ?_; with_reducible repeat (first | exact Ext.refl _ | exact And.left ‹Ext wr _ ∧ _› | exact (((Ext.refl _).drew.trans h3).trans h4).trans h5 | refine Ext.drew ?_ | refine Ext.drewN ?_ _ | refine Ext.alloc ?_ _ | refine Ext.setCell ?_ (by have e0 : wr.drew.heap.size = wr.heap.size := rfl; simp <;> omega) _))) (first
            | (go_at_call 78; (with_reducible refine (HC1.out _).mono ?_); rintro e w3 ⟨rfl, h3⟩; have c_3 := h3.cells; have f_3 := h3.frees; have y_3 := h3.le; have x_3 := fun k hk => Nat.lt_of_lt_of_le (n := k) hk h3.le; (try simp only [World.size_drew] at y_3 x_3); (try simp only [World.size_alloc] at y_3 x_3); (try simp only [World.size_drew] at hb3); (try simp only [World.size_alloc] at hb3); (try simp only [World.size_drew] at hb3); (try simp only [Nat.add_one_le_iff] at y_3))
            | (go_at_call 145; (with_reducible refine (HAD.out _ _ (EW.out.trans (And.left ‹Ext wr _ ∧ _›))).mono ?_); rintro e w4 ⟨b4, rfl, hb4, hb4', k4, h4⟩; have c_4 := h4.cells; have f_4 := h4.frees; have y_4 := h4.le; have x_4 := fun k hk => Nat.lt_of_lt_of_le (n := k) hk h4.le; (try simp only [World.size_drew] at y_4 x_4); (try simp only [World.size_alloc] at y_4 x_4); (try simp only [World.size_drew] at hb4); (try simp only [World.size_alloc] at hb4); (try simp only [World.size_drew] at hb4); (try simp only [Nat.add_one_le_iff] at y_4))
            | (go_at_call 113; (with_reducible refine (HREM.out i _ _ (EW.out.trans (And.left ‹Ext wr _ ∧ _›)) (by with_reducible first | exact k4 | exact Has.alloc k4 _)).mono ?_); rintro e w5 ⟨rb, rfl, hb5, hb5', k5, h5⟩; have c_5 := h5.cells; have f_5 := h5.frees; have y_5 := h5.le; have x_5 := fun k hk => Nat.lt_of_lt_of_le (n := k) hk h5.le; (try simp only [World.size_drew] at y_5 x_5); (try simp only [World.size_alloc] at y_5 x_5); (try simp only [World.size_drew] at hb5); (try simp only [World.size_alloc] at hb5); (try simp only [World.size_drew] at hb5); (try simp only [Nat.add_one_le_iff] at y_5)))
          all_goals (go_wp2_with fail; go_meet; first
            | exact ⟨w5.heap.size, rb, rfl, cells_new _ _ _, k5.alloc _, And.left ‹Ext wr _ ∧ _›, by omega, by omega⟩
            | exact ⟨w4.heap.size, rb, rfl, early4 (lo := 0) ((cells_new w4 _ _).ext h5), Lib.hid (by repeat with_reducible (first | exact k5 | refine Has.setOther ?_ (by simp <;> omega) _)), And.left ‹Ext wr _ ∧ _›, by omega, by omega⟩
            | exact ⟨w3.heap.size, rb, rfl, early4 (lo := 0) (((cells_new w3 _ _).ext h4).ext h5), Lib.hid (by repeat with_reducible (first | exact k5 | refine Has.setOther ?_ (by simp <;> omega) _)), And.left ‹Ext wr _ ∧ _›, by omega, by omega⟩
            | exact ⟨wr.heap.size, rb, rfl, early4 (lo := 0) (((((cells_new wr _ _).ext (Ext.drew (Ext.refl _))).ext h3).ext h4).ext h5), Lib.hid (by repeat with_reducible (first | exact k5 | refine Has.setOther ?_ (by simp <;> omega) _)), And.left ‹Ext wr _ ∧ _›, by omega, by omega⟩)
        case rest =>
          obtain ⟨RB, rb, rfl, CR, HRB, EX, HLE⟩ := hcut
          have K2 := Lib.hid (K.out.step EX.out)
          clear lB lS s0' s1' s2' s3' lT t0' t1' t2' t3' HC1 HAD EW
          have HRW := Lib.hid (HFS.out i hlt)
          have HIV := Lib.hid (HFL.out i hi)
          have r0 : i * m + m ≤ N := by rw [HNM.out]; exact row_le hlt
          have HK := Lib.hid r0
          have e5 : (i : Int) * (m : Int) = ((i * m : Nat) : Int) := by simp
          have v4 : IntKind.i64.wrap ((i : Int) * (m : Int)) = (i : Int) * (m : Int) := IntWalk.i64_in _ ⟨by omega, by omega⟩
          have g3 : 0 ≤ (i : Int) * (m : Int) := by omega
          have g4 : (i : Int) * (m : Int) ≤ (N : Int) := by omega
          have t2 : ((i : Int) * (m : Int)).toNat = i * m := by omega
          have lM := K2.out.box.1
          have m3 := K2.out.box.2 3 _ rfl
          have lC := CR.out.1
          have c0 := CR.out.2 0 _ rfl
          have c1 := CR.out.2 1 _ rfl
          have c2 := CR.out.2 2 _ rfl
          have c3 := CR.out.2 3 _ rfl
          have nM : MB ≠ b := K2.out.ne
          have nC : RB ≠ b := by have := HLE.out; have := K.out.lt; omega
          have hfd := run_fieldM
          have hz : m = 0 ∨ 0 < m := by omega
          obtain ⟨wk, hwk⟩ : ∃ wk : World, wk = wc := ⟨_, rfl⟩
          subst hwk
          clear K EX e5 r0 CR HLE
          rcases hz with hz0 | hz0
          · have HZ0 := Lib.hid hz0
            have hq0 : N = i * m := by have := HNM.out; rw [hz0] at this ⊢; simpa using this
            have hq : (N = i * m) = True := eq_true hq0
            have hq2 : (i * m = N) = True := eq_true hq0.symm
            clear hq0 hz0
            go_wp2_with fail
            refine wp_region_held_drew (S := (fun w' => wk.grownBy w' (some b) ∧ ∀ B o, B ≠ b → B < wk.heap.size → w'.cell? ⟨B, o, none⟩ = wk.cell? ⟨B, o, none⟩)) (by kernel_rfl) keptB_drew (fun hHeld => ?_)
            refine wpAnyH_take (i := 0) (v := ?v1) rfl (by kernel_rfl) (by kernel_rfl) (by kernel_rfl) (fun _ _ _ h => h) (Or.inl ⟨by rfl, ?hy1⟩) hHeld ?rest1
            case hy1 => (intro wz hSw; (try dsimp only at hSw); go_simp; (try with_reducible rfl))
            (try simp only [Act.put, List.getElem_toArray, List.getElem_cons_succ, List.getElem_cons_zero]); (try simp only [List.setIfInBounds_toArray]); (try simp only [List.set_cons_succ]); (try simp only [List.set_cons_zero])
            refine wpAnyH_take (i := 1) (v := ?v2) rfl (by kernel_rfl) (by kernel_rfl) (by kernel_rfl) (fun _ _ _ h => h) (Or.inl ⟨by rfl, ?hy2⟩) hHeld ?rest2
            case hy2 => (intro wz hSw; (try dsimp only at hSw); go_simp; (try with_reducible rfl))
            (try simp only [Act.put, List.getElem_toArray, List.getElem_cons_succ, List.getElem_cons_zero]); (try simp only [List.setIfInBounds_toArray]); (try simp only [List.set_cons_succ]); (try simp only [List.set_cons_zero])
            refine wpAnyH_take (i := 2) (v := ?v3) rfl (by kernel_rfl) (by kernel_rfl) (by kernel_rfl) (fun _ _ _ h => h) (Or.inl ⟨by rfl, ?hy3⟩) hHeld ?rest3
            case hy3 => (intro wz hSw; (try dsimp only at hSw); go_simp; (try with_reducible rfl))
            (try simp only [Act.put, List.getElem_toArray, List.getElem_cons_succ, List.getElem_cons_zero]); (try simp only [List.setIfInBounds_toArray]); (try simp only [List.set_cons_succ]); (try simp only [List.set_cons_zero])
            refine wpAnyH_take (i := 3) (v := ?v4) rfl (by kernel_rfl) (by kernel_rfl) (by kernel_rfl) (fun _ _ _ h => h) (Or.inl ⟨by rfl, ?hy4⟩) hHeld ?rest4
            case hy4 => (intro wz hSw; (try dsimp only at hSw); go_simp; (try with_reducible rfl))
            (try simp only [Act.put, List.getElem_toArray, List.getElem_cons_succ, List.getElem_cons_zero]); (try simp only [List.setIfInBounds_toArray]); (try simp only [List.set_cons_succ]); (try simp only [List.set_cons_zero])
            refine wpAnyH_take (i := 4) (v := ?v5) rfl (by kernel_rfl) (by kernel_rfl) (by kernel_rfl) (fun _ _ _ h => h) (Or.inl ⟨by rfl, ?hy5⟩) hHeld ?rest5
            case hy5 => (intro wz hSw; (try dsimp only at hSw); go_simp; (try with_reducible rfl))
            (try simp only [Act.put, List.getElem_toArray, List.getElem_cons_succ, List.getElem_cons_zero]); (try simp only [List.setIfInBounds_toArray]); (try simp only [List.set_cons_succ]); (try simp only [List.set_cons_zero])
            refine wpAnyH_take (i := 5) (v := ?v6) rfl (by kernel_rfl) (by kernel_rfl) (by kernel_rfl) (fun _ _ _ h => h) (Or.inl ⟨by rfl, ?hy6⟩) hHeld ?rest6
            case hy6 => (intro wz hSw; (try dsimp only at hSw); go_simp; (try with_reducible rfl))
            (try simp only [Act.put, List.getElem_toArray, List.getElem_cons_succ, List.getElem_cons_zero]); (try simp only [List.setIfInBounds_toArray]); (try simp only [List.set_cons_succ]); (try simp only [List.set_cons_zero])
            refine wpAnyH_take (i := 6) (v := ?v7) rfl (by kernel_rfl) (by kernel_rfl) (by kernel_rfl) (fun _ _ _ h => h) (Or.inl ⟨by rfl, ?hy7⟩) hHeld ?rest7
            case hy7 => (intro wz hSw; (try dsimp only at hSw); go_simp; (try with_reducible rfl))
            (try simp only [Act.put, List.getElem_toArray, List.getElem_cons_succ, List.getElem_cons_zero]); (try simp only [List.setIfInBounds_toArray]); (try simp only [List.set_cons_succ]); (try simp only [List.set_cons_zero])
            refine wpAnyH_take (i := 7) (v := ?v8) rfl (by kernel_rfl) (by kernel_rfl) (by kernel_rfl) (fun _ _ _ h => h) (Or.inl ⟨by rfl, ?hy8⟩) hHeld ?rest8
            case hy8 => (intro wz hSw; (try dsimp only at hSw); go_simp; (try with_reducible rfl))
            (try simp only [Act.put, List.getElem_toArray, List.getElem_cons_succ, List.getElem_cons_zero]); (try simp only [List.setIfInBounds_toArray]); (try simp only [List.set_cons_succ]); (try simp only [List.set_cons_zero])
            refine wpAnyH_take (i := 8) (v := ?v9) rfl (by kernel_rfl) (by kernel_rfl) (by kernel_rfl) (fun _ _ _ h => h) (Or.inl ⟨by rfl, ?hy9⟩) hHeld ?rest9
            case hy9 => (intro wz hSw; (try dsimp only at hSw); go_simp; (try with_reducible rfl))
            (try simp only [Act.put, List.getElem_toArray, List.getElem_cons_succ, List.getElem_cons_zero]); (try simp only [List.setIfInBounds_toArray]); (try simp only [List.set_cons_succ]); (try simp only [List.set_cons_zero])
            refine wpAnyH_ready (rs := [9]) (by kernel_rfl) (by simp) ?_
            refine AllReadyH.cons rfl (fun K' hK => ?_) AllReadyH.nil
            go_simp
            refine (HTR.out i _ _ (HRB.out.ext (Ext.refl _).drew)).mono ?_
            rintro e w5 ⟨b5, rfl, hb5, hb6, k5, h5⟩
            dsimp only
            refine hK.out _ _ (keptB_call hHeld h5) (fun hHeld => ?_)
            clear hK
            refine wpAnyH_take (i := 10) (v := ?v10) rfl (by kernel_rfl) (by kernel_rfl) (by kernel_rfl) (fun _ _ _ h => h) (Or.inl ⟨by rfl, ?hy10⟩) hHeld ?rest10
            case hy10 => (intro wz hSw; (try dsimp only at hSw); go_simp; (try with_reducible rfl))
            (try simp only [Act.put, List.getElem_toArray, List.getElem_cons_succ, List.getElem_cons_zero]); (try simp only [List.setIfInBounds_toArray]); (try simp only [List.set_cons_succ]); (try simp only [List.set_cons_zero])
            refine wpAnyH_ready (rs := [11]) (by kernel_rfl) (by simp) ?_
            refine AllReadyH.cons rfl (fun K' hK => ?_) AllReadyH.nil
            have hJ := K2.out.step ((Ext.refl _).drew.trans h5)
            have hrd := k5.reads (HBL.out i)
            refine step_copyM rfl (.tmp 48) (.tmp 51) rfl _ b (i * m) (N - i * m) (N - i * m) (some ⟨b5, 0, none⟩) m m rfl rfl (F i) _ hJ.has hrd m (Nat.min_eq_left (by have := HK.out; omega)) (fun h => absurd h (by have := HZ0.out; omega)) (by rw [HIV.out]; exact HK.out) ?_
            intro w6 h6 g6
            rw [List.take_of_length_le (Nat.le_of_eq (HBL.out i)), HRW.out] at h6
            have KK := Lib.hid (hJ.row h6 g6)
            (try dsimp only)
            refine hK.out _ _ (keptB_grown hHeld g6) (fun hHeld => ?_)
            clear hK
            refine wpAnyH_done (by kernel_rfl) ?_ _
            clear hHeld K2 hJ h6 g6 hrd k5 h5
            go_wp2
            exact ⟨⟨i + 1, by omega, by simp, KK⟩, by simp [intOf]; omega⟩
          · have hne : ¬ N = i * m := by have := HK.out; omega
            have hne2 : ¬ i * m = N := by omega
            go_wp2_with fail
            refine wp_region_held_drew (S := (fun w' => wk.grownBy w' (some b) ∧ ∀ B o, B ≠ b → B < wk.heap.size → w'.cell? ⟨B, o, none⟩ = wk.cell? ⟨B, o, none⟩)) (by kernel_rfl) keptB_drew (fun hHeld => ?_)
            refine wpAnyH_take (i := 0) (v := ?v11) rfl (by kernel_rfl) (by kernel_rfl) (by kernel_rfl) (fun _ _ _ h => h) (Or.inl ⟨by rfl, ?hy11⟩) hHeld ?rest11
            case hy11 => (intro wz hSw; (try dsimp only at hSw); go_simp; (try with_reducible rfl))
            (try simp only [Act.put, List.getElem_toArray, List.getElem_cons_succ, List.getElem_cons_zero]); (try simp only [List.setIfInBounds_toArray]); (try simp only [List.set_cons_succ]); (try simp only [List.set_cons_zero])
            refine wpAnyH_take (i := 1) (v := ?v12) rfl (by kernel_rfl) (by kernel_rfl) (by kernel_rfl) (fun _ _ _ h => h) (Or.inl ⟨by rfl, ?hy12⟩) hHeld ?rest12
            case hy12 => (intro wz hSw; (try dsimp only at hSw); go_simp; (try with_reducible rfl))
            (try simp only [Act.put, List.getElem_toArray, List.getElem_cons_succ, List.getElem_cons_zero]); (try simp only [List.setIfInBounds_toArray]); (try simp only [List.set_cons_succ]); (try simp only [List.set_cons_zero])
            refine wpAnyH_take (i := 2) (v := ?v13) rfl (by kernel_rfl) (by kernel_rfl) (by kernel_rfl) (fun _ _ _ h => h) (Or.inl ⟨by rfl, ?hy13⟩) hHeld ?rest13
            case hy13 => (intro wz hSw; (try dsimp only at hSw); go_simp; (try with_reducible rfl))
            (try simp only [Act.put, List.getElem_toArray, List.getElem_cons_succ, List.getElem_cons_zero]); (try simp only [List.setIfInBounds_toArray]); (try simp only [List.set_cons_succ]); (try simp only [List.set_cons_zero])
            refine wpAnyH_take (i := 3) (v := ?v14) rfl (by kernel_rfl) (by kernel_rfl) (by kernel_rfl) (fun _ _ _ h => h) (Or.inl ⟨by rfl, ?hy14⟩) hHeld ?rest14
            case hy14 => (intro wz hSw; (try dsimp only at hSw); go_simp; (try with_reducible rfl))
            (try simp only [Act.put, List.getElem_toArray, List.getElem_cons_succ, List.getElem_cons_zero]); (try simp only [List.setIfInBounds_toArray]); (try simp only [List.set_cons_succ]); (try simp only [List.set_cons_zero])
            refine wpAnyH_take (i := 4) (v := ?v15) rfl (by kernel_rfl) (by kernel_rfl) (by kernel_rfl) (fun _ _ _ h => h) (Or.inl ⟨by rfl, ?hy15⟩) hHeld ?rest15
            case hy15 => (intro wz hSw; (try dsimp only at hSw); go_simp; (try with_reducible rfl))
            (try simp only [Act.put, List.getElem_toArray, List.getElem_cons_succ, List.getElem_cons_zero]); (try simp only [List.setIfInBounds_toArray]); (try simp only [List.set_cons_succ]); (try simp only [List.set_cons_zero])
            refine wpAnyH_take (i := 5) (v := ?v16) rfl (by kernel_rfl) (by kernel_rfl) (by kernel_rfl) (fun _ _ _ h => h) (Or.inl ⟨by rfl, ?hy16⟩) hHeld ?rest16
            case hy16 => (intro wz hSw; (try dsimp only at hSw); go_simp; (try with_reducible rfl))
            (try simp only [Act.put, List.getElem_toArray, List.getElem_cons_succ, List.getElem_cons_zero]); (try simp only [List.setIfInBounds_toArray]); (try simp only [List.set_cons_succ]); (try simp only [List.set_cons_zero])
            refine wpAnyH_take (i := 6) (v := ?v17) rfl (by kernel_rfl) (by kernel_rfl) (by kernel_rfl) (fun _ _ _ h => h) (Or.inl ⟨by rfl, ?hy17⟩) hHeld ?rest17
            case hy17 => (intro wz hSw; (try dsimp only at hSw); go_simp; (try with_reducible rfl))
            (try simp only [Act.put, List.getElem_toArray, List.getElem_cons_succ, List.getElem_cons_zero]); (try simp only [List.setIfInBounds_toArray]); (try simp only [List.set_cons_succ]); (try simp only [List.set_cons_zero])
            refine wpAnyH_take (i := 7) (v := ?v18) rfl (by kernel_rfl) (by kernel_rfl) (by kernel_rfl) (fun _ _ _ h => h) (Or.inl ⟨by rfl, ?hy18⟩) hHeld ?rest18
            case hy18 => (intro wz hSw; (try dsimp only at hSw); go_simp; (try with_reducible rfl))
            (try simp only [Act.put, List.getElem_toArray, List.getElem_cons_succ, List.getElem_cons_zero]); (try simp only [List.setIfInBounds_toArray]); (try simp only [List.set_cons_succ]); (try simp only [List.set_cons_zero])
            refine wpAnyH_take (i := 8) (v := ?v19) rfl (by kernel_rfl) (by kernel_rfl) (by kernel_rfl) (fun _ _ _ h => h) (Or.inl ⟨by rfl, ?hy19⟩) hHeld ?rest19
            case hy19 => (intro wz hSw; (try dsimp only at hSw); go_simp; (try with_reducible rfl))
            (try simp only [Act.put, List.getElem_toArray, List.getElem_cons_succ, List.getElem_cons_zero]); (try simp only [List.setIfInBounds_toArray]); (try simp only [List.set_cons_succ]); (try simp only [List.set_cons_zero])
            refine wpAnyH_ready (rs := [9]) (by kernel_rfl) (by simp) ?_
            refine AllReadyH.cons rfl (fun K' hK => ?_) AllReadyH.nil
            go_simp
            refine (HTR.out i _ _ (HRB.out.ext (Ext.refl _).drew)).mono ?_
            rintro e w5 ⟨b5, rfl, hb5, hb6, k5, h5⟩
            dsimp only
            refine hK.out _ _ (keptB_call hHeld h5) (fun hHeld => ?_)
            clear hK
            refine wpAnyH_take (i := 10) (v := ?v20) rfl (by kernel_rfl) (by kernel_rfl) (by kernel_rfl) (fun _ _ _ h => h) (Or.inl ⟨by rfl, ?hy20⟩) hHeld ?rest20
            case hy20 => (intro wz hSw; (try dsimp only at hSw); go_simp; (try with_reducible rfl))
            (try simp only [Act.put, List.getElem_toArray, List.getElem_cons_succ, List.getElem_cons_zero]); (try simp only [List.setIfInBounds_toArray]); (try simp only [List.set_cons_succ]); (try simp only [List.set_cons_zero])
            refine wpAnyH_ready (rs := [11]) (by kernel_rfl) (by simp) ?_
            refine AllReadyH.cons rfl (fun K' hK => ?_) AllReadyH.nil
            have hJ := K2.out.step ((Ext.refl _).drew.trans h5)
            have hrd := k5.reads (HBL.out i)
            refine step_copyM rfl (.tmp 48) (.tmp 51) rfl _ b (i * m) (N - i * m) (N - i * m) (some ⟨b5, 0, none⟩) m m rfl rfl (F i) _ hJ.has hrd m (Nat.min_eq_left (by have := HK.out; omega)) (fun _ => rfl) (by rw [HIV.out]; exact HK.out) ?_
            intro w6 h6 g6
            rw [List.take_of_length_le (Nat.le_of_eq (HBL.out i)), HRW.out] at h6
            have KK := Lib.hid (hJ.row h6 g6)
            (try dsimp only)
            refine hK.out _ _ (keptB_grown hHeld g6) (fun hHeld => ?_)
            clear hK
            refine wpAnyH_done (by kernel_rfl) ?_ _
            clear hHeld K2 hJ h6 g6 hrd k5 h5
            go_wp2
            exact ⟨⟨i + 1, by omega, by simp, KK⟩, by simp [intOf]; omega⟩
      · obtain rfl : R = i := by omega
        have hfin := K.out.has
        rw [← HFE.out] at hfin
        have HF := Lib.hid hfin
        have HE9 := Lib.hid (E0.out.trans K.out.ext)
        have RZ := Lib.hid (M0.out.ext K.out.ext)
        have hW := HW.out
        have hle := K.out.ext.le
        have hs9 := HSZ.out
        have lD := K.out.box.1
        have p0 := K.out.box.2 0 _ rfl
        have p1 := K.out.box.2 1 _ rfl
        have p2 := K.out.box.2 2 _ rfl
        have p3 := K.out.box.2 3 _ rfl
        clear K hfin
        go_wp2_with fail
        refine (HKE.out _ _ HF.out).mono ?_
        rintro e w9 ⟨b9, rfl, hb9, hb9', k9, h9⟩
        have HE8 := Lib.hid (HE9.out.trans h9)
        have RY := RZ.out.ext h9
        have lR0 := RZ.out.1
        have H9 := Lib.hid k9
        clear lD p0 p1 p2 p3 h9 k9 RZ
        have r0 := RY.2 0 _ rfl
        have r1 := RY.2 1 _ rfl
        have r2 := RY.2 2 _ rfl
        have r3 := RY.2 3 _ rfl
        have tR := RY.3
        have lR := RY.1
        clear RY
        go_wp2
        refine bodyPost_ret (v := .agg #[.int .i64 P, .int .i64 (KN : Nat), .int .i64 D, .slice (some ⟨b9, 0, none⟩) (KN * D) (KN * D)]) (by simp [results, Try.results68, go_sem, r0, r1, r2, r3]) rfl ⟨b9, rfl, by omega, ?_, ?_, ?_⟩
        · simpa using hb9'
        · repeat with_reducible (first | exact H9.out | refine Has.setOther ?_ (by simp <;> omega) _)
        · exact ext4 HE8.out (by omega) _ _ _ _
end Go.Proofs.Ytapaopapgnfdkaa
