/-
  Kernels, in the specification.
-/
import Derived.Test.YtafeognjplphhaaKerI
import Derived.Test.YtafeognjplphhaaRowsL
import Derived.Test.YtafeognjplphhaaRed1S
import Derived.Test.YtafeognjplphhaaTrace
namespace Go.Proofs.Ytafeognjplphhaa
open Go.ChangeShapes Go.WideShapes Go.ChangeAt Go.RowKit
set_option linter.unusedVariables false
theorem gi_zeros (n k : Nat) : gi (List.replicate n (0 : Int)) k = 0 := by
  simp only [gi, List.getD_eq_getElem?_getD, List.getElem?_replicate]; split <;> rfl

set_option maxRecDepth 100000 in
set_option maxHeartbeats 6400000 in
theorem l1Kernel_spec (P : Int) (R C n c : Nat) (a : Option Addr) (xs : List Int) (w : World) (hpr : isP P = true) (hr : Reads w a n xs) (hn : n = R * C) (hb : n ≤ 1048576) (hR : R ≤ 1048576) (hC : C ≤ 1024) (hx : Res xs P) (ha : a = none → n = 0 ∧ c = 0) :
    Calls Try.prog 69 #[.agg #[.int .i64 P, .int .i64 R, .int .i64 C, .slice a n c]] w fun e w' => ∃ b c', e = .returned (.agg #[.int .i64 P, .int .i64 (kerN P R C xs : Nat), .int .i64 C, .slice (some ⟨b, 0, none⟩) (kerN P R C xs * C) c']) ∧ w.heap.size ≤ b ∧ b < w'.heap.size ∧ Has w' b (kerS P R C xs) ∧ Ext w w' ∧ kerN P R C xs * C ≤ c' := by
  have HR := Lib.hid hr
  have HN := Lib.hid hn
  have HX := Lib.hid hx
  have HPR := Lib.hid hpr
  have HA := Lib.hid ha
  have hp := isP_lo hpr
  have hp2 := isP_hi hpr
  obtain ⟨hs1, hs2, hs3⟩ := redTo_pv (P := P) (R := R) (C := C) (xs := xs) C
  have HSL : Hid ((redM P R C xs).m.length = n) := by rw [Hid, redM, redTo_length]; exact hr.1
  have HSR : Hid (Res (redM P R C xs).m P) := redTo_res hp hx C
  have HKN : Hid (kerN P R C xs = (redM P (freeTo (redM P R C xs).pv C).length C (kerTo P C (redM P R C xs).m (redM P R C xs).pv C)).pv.length) := rfl
  have HKS : Hid (kerS P R C xs = spanL P (freeTo (redM P R C xs).pv C).length C (kerTo P C (redM P R C xs).m (redM P R C xs).pv C)) := rfl
  rw [show redTo P R C xs C = redM P R C xs from rfl] at hs1 hs2 hs3
  have hS3 := Lib.hid hs3
  generalize kerN P R C xs = KN at *
  generalize kerS P R C xs = KS at *
  have hfl := freeTo_le (redM P R C xs).pv C
  have HFB : Hid ((freeTo (redM P R C xs).pv C).length * C ≤ 1048576) := Nat.le_trans (Nat.mul_le_mul (show (freeTo (redM P R C xs).pv C).length ≤ 1024 by omega) hC) (by decide)
  clear hr hn hx hpr ha hs3
  go_enter Try.func69, Try.ntmps69
  have A0_1 := Lib.hid ((cells_new' w #[.int .i64 P, .int .i64 R, .int .i64 C, .slice a n c] 26 (w.heap.size) (by simp)).ext ((Ext.refl _).alloc (.cells #[.int .i64 0, .int .i64 0, .int .i64 0, .slice none 0 0] 26)))
  have R_2 := Lib.hid (cells_new' (w.alloc (.cells #[.int .i64 P, .int .i64 R, .int .i64 C, .slice a n c] 26)) #[.int .i64 0, .int .i64 0, .int .i64 0, .slice none 0 0] 26 (w.heap.size + 1) (by simp))
  have E_3 := Lib.hid (((Ext.refl w).alloc (.cells #[.int .i64 P, .int .i64 R, .int .i64 C, .slice a n c] 26)).alloc (.cells #[.int .i64 0, .int .i64 0, .int .i64 0, .slice none 0 0] 26))
  have lA0 := A0_1.out.1
  have qA00 := A0_1.out.2 0 _ rfl
  have qA01 := A0_1.out.2 1 _ rfl
  have qA02 := A0_1.out.2 2 _ rfl
  have qA03 := A0_1.out.2 3 _ rfl
  try simp only [World.size_alloc] at lA0
  go_wp2_with fail
  refine (l1Reduce_spec P R C n c a xs _ (HR.out.ext E_3.out) HN.out hb hR (by omega) HPR.out HX.out HA.out).mono ?_
  rintro e w_4 ⟨b, c2, a2, cap, mid, rfl, hlo, hbm, hmid, hh, ho, h_4, hcc⟩
  clear lA0 qA00 qA01 qA02 qA03
  generalize redM P R C xs = S at *
  have A0_5 := Lib.hid (A0_1.out.ext h_4)
  clear A0_1
  have R_6 := Lib.hid (R_2.out.ext h_4)
  clear R_2
  have E_7 := Lib.hid (E_3.out.trans h_4)
  clear E_3
  have H1 := Lib.hid (hh.ext ((Ext.refl w_4).alloc (.cells #[.int .i64 P, .int .i64 R, .int .i64 C, .slice (some ⟨b, 0, none⟩) n c2] 26)))
  have O1 := Lib.hid (ho.reads.ext ((Ext.refl w_4).alloc (.cells #[.int .i64 P, .int .i64 R, .int .i64 C, .slice (some ⟨b, 0, none⟩) n c2] 26)))
  clear hh ho h_4 hlo hbm hmid hcc
  have P_8 := (Ext.refl w_4).alloc (.cells #[.int .i64 P, .int .i64 R, .int .i64 C, .slice (some ⟨b, 0, none⟩) n c2] 26)
  have A0_9 := Lib.hid (A0_5.out.ext P_8)
  clear A0_5
  have R_10 := Lib.hid (R_6.out.ext P_8)
  clear R_6
  have E_11 := Lib.hid (E_7.out.trans P_8)
  clear E_7
  clear P_8
  have M_12 := Lib.hid (cells_new w_4 #[.int .i64 P, .int .i64 R, .int .i64 C, .slice (some ⟨b, 0, none⟩) n c2] 26)
  have G0 := Lib.hid (rows_lit (w_4.alloc (.cells #[.int .i64 P, .int .i64 R, .int .i64 C, .slice (some ⟨b, 0, none⟩) n c2] 26)) (w_4.heap.size + 1) (by simp))
  have E0 : Hid (Ext (w_4.alloc (.cells #[.int .i64 P, .int .i64 R, .int .i64 C, .slice (some ⟨b, 0, none⟩) n c2] 26)) (((w_4.alloc (.cells #[.int .i64 P, .int .i64 R, .int .i64 C, .slice (some ⟨b, 0, none⟩) n c2] 26))).alloc (.cells #[] 22))) := (Ext.refl _).alloc _
  have hW2 : ((w_4.alloc (.cells #[.int .i64 P, .int .i64 R, .int .i64 C, .slice (some ⟨b, 0, none⟩) n c2] 26))).heap.size = w_4.heap.size + 1 := by simp
  rw [hW2] at G0
  go_wp2_with fail
  have HW2 := Lib.hid hW2
  clear hW2
  generalize (w_4.alloc (.cells #[.int .i64 P, .int .i64 R, .int .i64 C, .slice (some ⟨b, 0, none⟩) n c2] 26)) = W2 at *
  generalize hZB : w_4.heap.size = ZB at *
  clear hZB
  go_loopw [6, 7] (fun v z wr => ∃ q : Nat, q ≤ C ∧ z = .int .i64 q ∧ Hid (RowsG wr (ZB + 1) v (kRows P C S.m S.pv q)) ∧ Hid (Ext W2 wr)) (fun _ z _ => C - (intOf z).toNat)
  case atStart => exact ⟨0, by omega, rfl, G0, E0⟩
  case round =>
    clear G0 E0
    obtain ⟨q, hq, rfl, hG, hE⟩ := hrel
    have qc := A0_9.out.ext hE.out
    have lq := qc.1
    have q0 := qc.2 0 _ rfl
    have q1 := qc.2 1 _ rfl
    have q2 := qc.2 2 _ rfl
    have q3 := qc.2 3 _ rfl
    clear qc
    by_cases hlt : q < C
    · obtain ⟨p, hp1, hpi⟩ := pv_firstAt S.pv q
      have HP := Lib.hid hp1
      have OR := Lib.hid (O1.out.ext hE.out)
      by_cases hc : q ∈ S.pv
      · have hf : fndR S.pv.length p = (p : Int) := by rw [fndR, if_pos (hpi.2 hc)]
        have HF := Lib.hid hf
        have HK : Hid (kRows P C S.m S.pv (q + 1) = kRows P C S.m S.pv q) := by rw [Hid, kRows, freeTo, if_pos hc]; rfl
        have hp0 : 0 ≤ (p : Int) := by omega
        clear hp1 hpi hc hf
        go_wp2_with fail
        refine (l1Find_spec a2 _ cap (pvI S.pv) q p _ OR.out (by omega) HP.out).mono ?_
        rintro e w' ⟨rfl, rfl⟩
        rw [HF.out]
        go_wp2
        exact ⟨⟨q + 1, by omega, by simp, by rw [HK.out]; exact hG, hE⟩, by simp [intOf]; omega⟩
      · have hf : fndR S.pv.length p = -1 := by rw [fndR, if_neg (fun h => hc (hpi.1 h))]
        have HF := Lib.hid hf
        have HK : Hid (kRows P C S.m S.pv (q + 1) = kRows P C S.m S.pv q ++ [krTo P C S.m S.pv q S.pv.length]) := by rw [Hid, kRows, freeTo, if_neg hc, List.map_append]; rfl
        have HKL : Hid ((kRows P C S.m S.pv q).length ≤ 1024) := by rw [Hid, kRows_length]; have := freeTo_le S.pv q; omega
        clear hp1 hpi hc hf
        go_wp2_with fail
        refine (l1Find_spec a2 _ cap (pvI S.pv) q p _ OR.out (by omega) HP.out).mono ?_
        rintro e w' ⟨rfl, rfl⟩
        rw [HF.out]
        have hmk := make_ints C (by omega)
        have hsz := hE.out.le
        have X0 : Hid (Has (wr.alloc (.cells ((ints (List.replicate C 0)).setIfInBounds q (.int .i64 1)) 3)) wr.heap.size (krTo P C S.m S.pv q 0)) := by
          rw [Hid, ints_set]; exact Has.new wr _
        have EX : Hid (Ext wr (wr.alloc (.cells ((ints (List.replicate C 0)).setIfInBounds q (.int .i64 1)) 3))) := (Ext.refl wr).alloc _
        have x2 : (wr.alloc (.cells (ints (List.replicate C 0)) 3)).cell? ⟨wr.heap.size, q, none⟩ = some (.int .i64 0) := by
          have := (Has.new wr (List.replicate C 0)).cell q (by simpa using hlt)
          rwa [gi_zeros] at this
        have f2 : (wr.alloc (.cells (ints (List.replicate C 0)) 3)).frozen? ⟨wr.heap.size, q, none⟩ = false := (Has.new wr (List.replicate C 0)).free q
        go_wp2_with fail
        clear hmk x2 f2 OR HP HF
        clear lq q0 q1 q2 q3
        generalize wr.alloc (.cells ((ints (List.replicate C 0)).setIfInBounds q (.int .i64 1)) 3) = W4 at *
        obtain ⟨wo, rfl⟩ : ∃ wo : World, wo = wr := ⟨_, rfl⟩
        go_loopw [10] (fun z wr => ∃ r : Nat, r ≤ S.pv.length ∧ z = .int .i64 r ∧ Hid (Ext wo wr) ∧ Hid (Has wr wo.heap.size (krTo P C S.m S.pv q r))) (fun z _ => S.pv.length - (intOf z).toNat)
        case atStart => exact ⟨0, by omega, rfl, EX, X0⟩
        case round =>
          clear X0 EX
          obtain ⟨r, hr, rfl, hEr, hX⟩ := hrel
          have EWr := Lib.hid (hE.out.trans hEr.out)
          by_cases hlt2 : r < S.pv.length
          · have hp1 := hS3.out (S.pv.getD r 0) (by rw [List.getD_eq_getElem?_getD, List.getElem?_eq_getElem hlt2]; simp)
            have qc := A0_9.out.ext EWr.out
            have lq := qc.1
            have q0 := qc.2 0 _ rfl
            have q1 := qc.2 1 _ rfl
            have q2 := qc.2 2 _ rfl
            have q3 := qc.2 3 _ rfl
            clear qc
            have mc := M_12.out.ext EWr.out
            have lm := mc.1
            have m0 := mc.2 0 _ rfl
            have m1 := mc.2 1 _ rfl
            have m2 := mc.2 2 _ rfl
            have m3 := mc.2 3 _ rfl
            clear mc
            rcases (O1.out.ext hE.out).2 with h | ⟨pb, po, rfl, hpb, hpc⟩
            · omega
            have x1 := (hEr.out.cells pb (po + r) hpb).trans (hpc r hlt2)
            have hpb2 : pb < wr.heap.size := Nat.lt_of_lt_of_le hpb hEr.out.le
            have npb : pb ≠ wo.heap.size := by omega
            rw [gi_pvI] at x1
            have HKS2 : Hid (krTo P C S.m S.pv q (r + 1) = (krTo P C S.m S.pv q r).set (S.pv.getD r 0) ((-(gi S.m (r * C + q))) % P)) := rfl
            generalize S.pv.getD r 0 = z at x1 hp1 HKS2
            clear hpc
            have HMR := Lib.hid ((H1.out.ext EWr.out).reads (n := n) HSL.out)
            have hpl : r * C + q < n := by rw [HN.out]; exact place_lt (by omega) hlt
            have hmr := HSR.out (r * C + q) (by rw [HSL.out]; exact hpl)
            obtain ⟨y0, y1⟩ := hmr
            have x3 := hX.out.cell z (by rw [krTo_length]; exact hp1)
            have f3 := hX.out.free z
            have lX := hX.out.lt
            have nA : w.heap.size ≠ wo.heap.size := by have := A0_9.out.1; have := hE.out.le; omega
            have nM : ZB ≠ wo.heap.size := by have := HW2.out; omega
            have ew : wr.drew.heap.size = wr.heap.size := rfl
            go_wp2_with fail
            have v4 : IntKind.i64.wrap (-(gi S.m (r * C + q))) = -(gi S.m (r * C + q)) := IntWalk.i64_in _ ⟨by omega, by omega⟩
            go_region_held3 (fun w' => wr.grownBy w' (some wo.heap.size) ∧ ∀ B o, B ≠ wo.heap.size → B < wr.heap.size → w'.cell? ⟨B, o, none⟩ = wr.cell? ⟨B, o, none⟩) (first | assumption | exact keptB_refl _ _ | exact keptB_drew | (with_reducible exact keptB_call ‹wr.grownBy _ (some wo.heap.size) ∧ _› ‹Ext _ _›) | (with_reducible exact keptB_set ‹wr.grownBy _ (some wo.heap.size) ∧ _› _ _)) (first
              | (go_at_call 97; refine (l1At_spec _ _ _ _ _ _ _ _ S.m _ (HMR.out.ext (Ext.refl _).drew) hpl hb).mono ?_; rintro e w4 ⟨rfl, hE4⟩; have c1 : w4.cell? ⟨wo.heap.size, z, none⟩ = _ := (hX.out.ext ((Ext.refl _).drew.trans hE4)).cell z (by rw [krTo_length]; exact hp1); have f1 : w4.frozen? ⟨wo.heap.size, z, none⟩ = false := (hX.out.ext ((Ext.refl _).drew.trans hE4)).free _)
              | (go_at_call 104; with_reducible refine (l1Mod_spec _ _ _ hp hp2).mono ?_; rintro e w5 ⟨rfl, rfl⟩))
            all_goals
              have N1 : Hid (Has (w4.setCell ⟨wo.heap.size, z, none⟩ (.int .i64 ((-(gi S.m (r * C + q))) % P))) wo.heap.size (krTo P C S.m S.pv q (r + 1))) := by
                rw [HKS2.out]
                exact (hX.out.ext ((Ext.refl _).drew.trans hE4)).set z (by rw [krTo_length]; exact hp1) _
              have N2 : Hid (Ext wo (w4.setCell ⟨wo.heap.size, z, none⟩ (.int .i64 ((-(gi S.m (r * C + q))) % P)))) := (hEr.out.trans ((Ext.refl _).drew.trans hE4)).setCell (p := ⟨wo.heap.size, z, none⟩) (Nat.le_refl _) _
              clear v4 hEr hX EWr c1 f1 hE4 x1 x3 f3 HMR
              clear lq q0 q1 q2 q3 lm m0 m1 m2 m3
              go_wp2
              exact ⟨⟨r + 1, by omega, by simp, N2, N1⟩, by simp [intOf]; omega⟩
          · obtain rfl : S.pv.length = r := by omega
            have hszr := EWr.out.le
            have hwl := hEr.out.le
            obtain ⟨va, vc, hv, _⟩ := hG.out.shape
            subst hv
            have HRow : Hid (Own wr (ZB + 1) wr.heap.size (some ⟨wo.heap.size, 0, none⟩) C (krTo P C S.m S.pv q S.pv.length)) := hX.out.own (by have := HW2.out; omega) hX.out.lt (krTo_length _ _)
            have HG2 := Lib.hid (RowsG.ext hG.out hEr.out)
            go_wp2_with (at_builtin; refine wpList_appendRow rfl _ _ rfl (ZB + 1) (.slice va (kRows P C S.m S.pv q).length vc) (kRows P C S.m S.pv q) wo.heap.size C C (krTo P C S.m S.pv q S.pv.length) 1 rfl rfl HG2.out HRow.out (by have := HKL.out; omega) (by have := HW2.out; omega) ?_)
            intro v5 w5 hG5 hg5
            have G5 : Hid (RowsG w5 (ZB + 1) v5 (kRows P C S.m S.pv (q + 1))) := by rw [HK.out]; exact hG5
            have hbk := HG2.out.blk
            have E5 : Hid (Ext W2 w5) := EWr.out.grown hg5 (fun k hk => by have := hbk k hk; have := HW2.out; omega)
            clear hG hE hEr hX EWr hG5 hg5 HRow HG2 hbk
            go_wp2
            exact ⟨⟨q + 1, by omega, by simp, G5, E5⟩, by simp [intOf]; omega⟩
    · obtain rfl : C = q := by omega
      obtain ⟨va, vc, hv, _⟩ := hG.out.shape
      subst hv
      have hkl : (kRows P C S.m S.pv C).length = (freeTo S.pv C).length := kRows_length _ _ _ _ _
      have hkf := kRows_flat P C S.m S.pv C
      have hktl : (kerTo P C S.m S.pv C).length = (freeTo S.pv C).length * C := kerTo_length C
      have HKTL := Lib.hid hktl
      have HKR := Lib.hid (kerTo_res (P := P) (C := C) (m := S.m) (pv := S.pv) hp C)
      have EQ := Lib.hid (E_11.out.trans hE.out)
      have R2 := Lib.hid (R_10.out.ext hE.out)
      have HW3 := hE.out.le
      rw [hkl] at hG ⊢
      have HRB : Hid ((kRows P C S.m S.pv C).flatten.length ≤ 1048576) := by rw [Hid, hkf, hktl]; exact HFB.out
      have HKF := Lib.hid hkf
      have HRW := l1Rows_spec P C (freeTo S.pv C).length (ZB + 1) vc va (kRows P C S.m S.pv C) wr hG.out (by omega) HRB.out
      rw [hkf] at HRW
      have HRW2 := Lib.hid HRW
      clear hkf hktl hkl HRW hG
      generalize hFF : (freeTo S.pv C).length = F at *
      have HFF := Lib.hid hFF
      clear hFF
      go_wp2_with fail
      refine HRW2.out.mono ?_
      rintro e w5 ⟨ra, rc, rfl, hnil, ho, h5⟩
      rw [HKTL.out] at ho hnil ⊢
      have HO := Lib.hid ho.reads
      have HNIL := Lib.hid hnil
      have R3 := Lib.hid (R2.out.ext h5)
      have EQ3 := Lib.hid (EQ.out.trans h5)
      have hw5 := h5.le
      clear ho hnil R2 EQ h5 hE
      go_wp2_with fail
      refine (l1Span_spec P F C (F * C) rc ra (kerTo P C S.m S.pv C) w5 HO.out rfl HFB.out (by omega) (by omega) HPR.out HKR.out HNIL.out).mono ?_
      rintro e w6 ⟨sb, sc, rfl, hs1, hs2, hh, h6, hsc⟩
      rw [← HKN.out] at hsc ⊢
      have HS6 : Hid (Has w6 sb KS) := by rw [Hid, HKS.out]; exact hh
      have R4 := Lib.hid (R3.out.ext h6)
      have EQ4 := Lib.hid (EQ3.out.trans h6)
      have HSC := Lib.hid hsc
      have hrlt := R3.out.1
      clear hh h6 R3 EQ3 hsc
      have r0 := R4.out.2 0 _ rfl
      have r1 := R4.out.2 1 _ rfl
      have r2 := R4.out.2 2 _ rfl
      have r3 := R4.out.2 3 _ rfl
      have tR := R4.out.3
      have lR := R4.out.1
      go_wp2
      refine bodyPost_ret (v := .agg #[.int .i64 P, .int .i64 (KN : Nat), .int .i64 C, .slice (some ⟨sb, 0, none⟩) (KN * C) sc]) (by simp [results, Try.results69, go_sem, r0, r1, r2, r3]) rfl ⟨sb, sc, rfl, by omega, ?_, ?_, ?_, HSC.out⟩
      · simpa using hs2
      · repeat with_reducible (first | exact HS6.out | refine Has.setOther ?_ (by simp <;> omega) _)
      · exact ext4 EQ4.out (by omega) _ _ _ _
end Go.Proofs.Ytafeognjplphhaa
