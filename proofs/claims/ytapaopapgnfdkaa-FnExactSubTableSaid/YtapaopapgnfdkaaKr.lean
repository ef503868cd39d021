/-
  Kernels, in the program.
-/
import Derived.Test.YtapaopapgnfdkaaRi
import Derived.Test.YtapaopapgnfdkaaRs
import Derived.Deep.RegionHeld3
import Derived.Test.YtapaopapgnfdkaaR1
import Derived.Test.YtapaopapgnfdkaaAd
namespace Go.Proofs.Ytapaopapgnfdkaa
open Go.ChangeShapes Go.WideShapes Go.ChangeAt Go.RowKit
set_option linter.unusedVariables false

def FreePost (w : World) (pv : List Nat) (n : Nat) (e : Ending) (w' : World) : Prop := ∃ a cap, e = .returned (.slice a (freeTo pv n).length cap) ∧ Own w' w.heap.size w'.heap.size a (freeTo pv n).length (pvI (freeTo pv n)) ∧ Ext w w'
theorem freeTo_le (pv : List Nat) (c : Nat) : (freeTo pv c).length ≤ c := by
  induction c with
  | zero => simp [freeTo]
  | succ c ih =>
    rw [freeTo]; split
    · omega
    · rw [List.length_append, List.length_singleton]; omega
theorem redTo_asc {P : Int} {R C : Nat} {xs : List Int} (c : Nat) : (redTo P R C xs c).pv.Pairwise (· < ·) := by
  induction c with
  | zero => simp [redTo]
  | succ c ih =>
    rw [redTo, colS]; split
    · exact ih
    · have h := (redTo_pv (P := P) (R := R) (C := C) (xs := xs) c).2.2
      rw [colP, List.pairwise_append]
      exact ⟨ih, by simp, fun x hx y hy => by simp at hy; subst hy; exact h x hx⟩
theorem freeTo_lt (pv : List Nat) (c : Nat) : ∀ x, x ∈ freeTo pv c → x < c := by
  induction c with
  | zero => simp [freeTo]
  | succ c ih =>
    intro x hx
    rw [freeTo] at hx
    split at hx
    · have := ih x hx; omega
    · rcases List.mem_append.1 hx with h | h
      · have := ih x h; omega
      · simp at h; omega
set_option maxRecDepth 100000 in
set_option maxHeartbeats 3200000 in
theorem columnsWithout_impl (a : Option Addr) (K c n : Nat) (pv : List Nat) (w : World) (hr : Reads w a K (pvI pv)) (hn : n ≤ 1048576) (hKn : K ≤ n) :
    Calls Try.prog 110 #[.slice a K c, .int .i64 n] w (FreePost w pv n) := by
  have HR := Lib.hid hr
  have hK : Hid (pv.length = K) := by have := hr.1; rwa [pvI_length] at this
  clear hr
  have hz : 0 ≤ (n : Int) - (K : Int) := by omega
  have hk1 := make_cap ((n : Int) - (K : Int)) hz (by omega)
  have G0 := Lib.hid (grows_made w w.heap.size (n - K) (Nat.le_refl _) (by omega))
  have E0 := Lib.hid ((Ext.refl w).alloc (.cells (ints (List.replicate (n - K) 0)) 3))
  go_enter Try.func110, Try.ntmps110
  go_wp2_with fail
  clear hk1
  go_loopw [5, 13, 6] (fun v z _ wr => ∃ q : Nat, q ≤ n ∧ z = .int .i64 q ∧ Hid (Grows wr w.heap.size v (freeTo pv q).length (pvI (freeTo pv q))) ∧ Hid (Ext w wr)) (fun _ z _ _ => n - (intOf z).toNat)
  case atStart => exact ⟨0, by omega, rfl, G0, E0⟩
  case round =>
    clear G0 E0
    obtain ⟨q, hq, rfl, hG, hE⟩ := hrel
    by_cases hlt : q < n
    · obtain ⟨p, hp, hpi⟩ := pv_firstAt pv q
      rw [hK.out] at hp hpi
      have HP := Lib.hid hp
      have hle := freeTo_le pv q
      by_cases hc : q ∈ pv
      · have hd : Hid (decide (p < K) = true) := decide_eq_true (hpi.2 hc)
        have HF : Hid (freeTo pv (q + 1) = freeTo pv q) := by rw [Hid, freeTo, if_pos hc]
        clear hp hpi hc
        go_wp2_with fail
        refine (contains_fn a K c (pvI pv) q p _ (HR.out.ext hE.out) (by omega) HP.out).mono ?_
        rintro e w' ⟨rfl, rfl⟩
        rw [hd.out]
        go_wp2
        exact ⟨⟨q + 1, by omega, by simp, by rw [HF.out]; exact hG, hE⟩, by simp [intOf]; omega⟩
      · have hd : Hid (decide (p < K) = false) := decide_eq_false (fun h => hc (hpi.1 h))
        have HF : Hid (freeTo pv (q + 1) = freeTo pv q ++ [q]) := by rw [Hid, freeTo, if_neg hc]
        have hsz := hE.out.le
        obtain ⟨a', cap, rfl, hnv, ho⟩ := hG.out.reads2
        clear hp hpi hc hnv ho
        go_wp2_with fail
        refine (contains_fn a K c (pvI pv) q p _ (HR.out.ext hE.out) (by omega) HP.out).mono ?_
        rintro e w' ⟨rfl, rfl⟩
        rw [hd.out]
        go_wp2_with (at_builtin; refine wpList_append1 rfl _ _ rfl w.heap.size (.slice a' (freeTo pv q).length cap) _ _ (q : Int) 1 rfl rfl hG.out (by omega) hsz ?_)
        intro v' w4 hG4 hg4
        have E4 := Lib.hid (hG.out.extAfter hg4 hE.out (Nat.le_refl _))
        have G4 : Hid (Grows w4 w.heap.size v' (freeTo pv (q + 1)).length (pvI (freeTo pv (q + 1)))) := by
          rw [HF.out, pvI_snoc, List.length_append, List.length_singleton]; exact hG4
        clear hG hE hG4 hg4 hsz
        go_wp2
        exact ⟨⟨q + 1, by omega, by simp, G4, E4⟩, by simp [intOf]; omega⟩
    · obtain rfl : n = q := by omega
      obtain ⟨a', cap, rfl, hnv, ho⟩ := hG.out.reads2
      have HO := Lib.hid ho
      clear ho hnv hG
      go_wp2
      go_ret
      exact ⟨a', cap, rfl, HO.out, hE.out⟩

/-! The rows of a kernel, one behind the other. -/
def kRows (P : Int) (C : Nat) (m : List Int) (pv : List Nat) (c : Nat) : List (List Int) := (freeTo pv c).map fun q => krTo P C m pv q pv.length
theorem kRows_flat (P : Int) (C : Nat) (m : List Int) (pv : List Nat) (c : Nat) : (kRows P C m pv c).flatten = kerTo P C m pv c := by
  induction c with
  | zero => rfl
  | succ c ih =>
    rw [kRows, freeTo, kerTo]
    split
    · exact ih
    · rw [List.map_append, List.flatten_append, ← kRows, ih]; simp
theorem kRows_length (P : Int) (C : Nat) (m : List Int) (pv : List Nat) (c : Nat) : (kRows P C m pv c).length = (freeTo pv c).length := by simp [kRows]
theorem flat_length {C : Nat} {rs : List (List Int)} (h : ∀ r, r ∈ rs → r.length = C) (i : Nat) (hi : i ≤ rs.length) : (rs.take i).flatten.length = i * C := by
  induction i with
  | zero => simp
  | succ i ih =>
    have e : i < rs.length := by omega
    rw [flatten_snoc rs i e, List.length_append, ih (by omega), Nat.add_mul, Nat.one_mul]
    congr 1
    refine h _ ?_
    simp [row, List.getD_eq_getElem?_getD, e]
theorem row_kRows {P : Int} {C : Nat} {m : List Int} {pv : List Nat} {c i : Nat} (hi : i < (freeTo pv c).length) : row (kRows P C m pv c) i = krTo P C m pv ((freeTo pv c).getD i 0) pv.length := by
  simp [row, kRows, List.getD_eq_getElem?_getD, hi]
theorem set_mid (A B Z : List Int) (q : Nat) (v : Int) (hq : q < B.length) (o : Nat) (ho : A.length = o) : (A ++ (B ++ Z)).set (o + q) v = A ++ (B.set q v ++ Z) := by
  subst ho
  rw [List.set_append_right _ _ (by omega), Nat.add_sub_cancel_left, List.set_append_left _ _ hq]
/-- k with i rows done, the next one at r. -/
def kSt (P : Int) (C : Nat) (m : List Int) (pv : List Nat) (n : Nat) (i : Nat) (B : List Int) : List Int := ((kRows P C m pv n).take i).flatten ++ (B ++ List.replicate (((freeTo pv n).length - i - 1) * C) 0)
def kAt (P : Int) (C : Nat) (m : List Int) (pv : List Nat) (n : Nat) (i : Nat) : List Int := ((kRows P C m pv n).take i).flatten ++ List.replicate (((freeTo pv n).length - i) * C) 0
section
variable {P : Int} {C : Nat} {m : List Int} {pv : List Nat} {n : Nat}
theorem kRow_len : ∀ r, r ∈ kRows P C m pv n → r.length = C := by
  intro r hr
  simp only [kRows, List.mem_map] at hr
  obtain ⟨q, _, rfl⟩ := hr
  exact krTo_length _ _
theorem kTake_len {i : Nat} (hi : i ≤ (freeTo pv n).length) : ((kRows P C m pv n).take i).flatten.length = i * C := flat_length kRow_len i (by rw [kRows_length]; exact hi)
theorem kAt_zero : kAt P C m pv n 0 = List.replicate ((freeTo pv n).length * C) 0 := by simp [kAt]
theorem kAt_len {i : Nat} (hi : i ≤ (freeTo pv n).length) : (kAt P C m pv n i).length = (freeTo pv n).length * C := by
  rw [kAt, List.length_append, kTake_len hi, List.length_replicate, ← Nat.add_mul]; congr 1; omega
theorem kSt_len {i : Nat} (hi : i < (freeTo pv n).length) {B : List Int} (hB : B.length = C) : (kSt P C m pv n i B).length = (freeTo pv n).length * C := by
  rw [kSt, List.length_append, kTake_len (by omega), List.length_append, hB, List.length_replicate]
  have : C = 1 * C := (Nat.one_mul C).symm
  calc i * C + (C + ((freeTo pv n).length - i - 1) * C) = i * C + 1 * C + ((freeTo pv n).length - i - 1) * C := by omega
    _ = (i + 1 + ((freeTo pv n).length - i - 1)) * C := by rw [← Nat.add_mul, ← Nat.add_mul]
    _ = _ := by congr 1; omega
theorem kAt_open {i : Nat} (hi : i < (freeTo pv n).length) : kAt P C m pv n i = kSt P C m pv n i (List.replicate C 0) := by
  rw [kAt, kSt, List.replicate_append_replicate]
  congr 2
  have : ((freeTo pv n).length - i) = 1 + ((freeTo pv n).length - i - 1) := by omega
  rw [this, Nat.add_mul, Nat.one_mul]; congr 2; omega
theorem kSt_set {i : Nat} (hi : i < (freeTo pv n).length) {B : List Int} {q : Nat} (hq : q < B.length) (v : Int) : (kSt P C m pv n i B).set (i * C + q) v = kSt P C m pv n i (B.set q v) :=
  set_mid _ _ _ _ _ hq _ (kTake_len (by omega))
theorem kSt_close {i : Nat} (hi : i < (freeTo pv n).length) : kSt P C m pv n i (krTo P C m pv ((freeTo pv n).getD i 0) pv.length) = kAt P C m pv n (i + 1) := by
  rw [kSt, kAt, flatten_snoc _ _ (by rw [kRows_length]; exact hi), row_kRows hi, List.append_assoc]
  congr 3
theorem kAt_end : kAt P C m pv n (freeTo pv n).length = kerTo P C m pv n := by
  rw [kAt, Nat.sub_self, Nat.zero_mul, List.replicate_zero, List.append_nil, ← kRows_length P C m pv n, List.take_length, kRows_flat]
end
/-- The kernel's dimension and its rows. -/
def kerN (P : Int) (R C : Nat) (xs : List Int) : Nat := (redM P (nullN P R C xs) C (kerL P R C xs)).pv.length
def kerS (P : Int) (R C : Nat) (xs : List Int) : List Int := spanL P (nullN P R C xs) C (kerL P R C xs)

set_option maxRecDepth 100000 in
set_option maxHeartbeats 6400000 in
theorem kernel_impl (P : Int) (R C n c : Nat) (a : Option Addr) (xs : List Int) (w : World) (hr : Reads w a n xs) (hn : n = R * C) (hb : n ≤ 1048576) (hR : R ≤ 1048576) (hC : C ≤ 1024) (hp : 2 ≤ P) (hp2 : P ≤ 10007) (hx : Res xs P) :
    Calls Try.prog 146 #[.agg #[.int .i64 P, .int .i64 R, .int .i64 C, .slice a n c]] w fun e w' => ∃ b, e = .returned (.agg #[.int .i64 P, .int .i64 (kerN P R C xs : Nat), .int .i64 C, .slice (some ⟨b, 0, none⟩) (kerN P R C xs * C) (kerN P R C xs * C)]) ∧ w.heap.size ≤ b ∧ b < w'.heap.size ∧ Has w' b (kerS P R C xs) ∧ Ext w w' := by
  have HR := Lib.hid hr
  have HN := Lib.hid hn
  have HX := Lib.hid hx
  have HL := Lib.hid hr.1
  obtain ⟨hs1, hs2, hs3⟩ := redTo_pv (P := P) (R := R) (C := C) (xs := xs) C
  have hup : (redM P R C xs).pv.Nodup := (redTo_asc C).imp (fun h => by omega)
  have hfl := freeTo_length (pv := (redM P R C xs).pv) C hup hs3
  have HSL : Hid ((redM P R C xs).m.length = n) := by rw [Hid, redM, redTo_length]; exact hr.1
  have HSR : Hid (Res (redM P R C xs).m P) := redTo_res hp hx C
  have HKN : Hid (kerN P R C xs = (redM P (freeTo (redM P R C xs).pv C).length C (kerTo P C (redM P R C xs).m (redM P R C xs).pv C)).pv.length) := rfl
  have HKS : Hid (kerS P R C xs = spanL P (freeTo (redM P R C xs).pv C).length C (kerTo P C (redM P R C xs).m (redM P R C xs).pv C)) := rfl
  have HDR : Hid (redTo P R C xs C = redM P R C xs) := rfl
  rw [show redTo P R C xs C = redM P R C xs from rfl] at hs1 hs2 hs3
  generalize kerN P R C xs = KN at *
  generalize kerS P R C xs = KS at *
  obtain ⟨F, hF⟩ : ∃ F, F = (freeTo (redM P R C xs).pv C).length := ⟨_, rfl⟩
  rw [← hF] at hfl
  have HF := Lib.hid hF
  have hS3 := Lib.hid hs3
  obtain ⟨N, hNe⟩ : ∃ N, N = F * C := ⟨_, rfl⟩
  have hNb : N ≤ 1048576 := by rw [hNe]; exact Nat.le_trans (Nat.mul_le_mul (show F ≤ 1024 by omega) hC) (by decide)
  obtain ⟨g0, g1, g2⟩ := prodN F C N hNe hNb
  have hFC : (C : Int) - ((redM P R C xs).pv.length : Int) = (F : Int) := by omega
  have HFC := Lib.hid hFC
  have G2 := Lib.hid g2
  have HNE := Lib.hid hNe
  clear hr hn hx hup hF hs3 hNe g2 hFC
  go_enter Try.func146, Try.ntmps146
  have A0_1 := Lib.hid ((cells_new' w #[.int .i64 P, .int .i64 R, .int .i64 C, .slice a n c] 40 (w.heap.size) (by simp)).ext ((Ext.refl _).alloc (.cells #[.int .i64 0, .int .i64 0, .int .i64 0, .slice none 0 0] 40)))
  have R_2 := Lib.hid (cells_new' (w.alloc (.cells #[.int .i64 P, .int .i64 R, .int .i64 C, .slice a n c] 40)) #[.int .i64 0, .int .i64 0, .int .i64 0, .slice none 0 0] 40 (w.heap.size + 1) (by simp))
  have E_3 := Lib.hid (((Ext.refl w).alloc (.cells #[.int .i64 P, .int .i64 R, .int .i64 C, .slice a n c] 40)).alloc (.cells #[.int .i64 0, .int .i64 0, .int .i64 0, .slice none 0 0] 40))
  have lA0 := A0_1.out.1
  have qA00 := A0_1.out.2 0 _ rfl
  have qA01 := A0_1.out.2 1 _ rfl
  have qA02 := A0_1.out.2 2 _ rfl
  have qA03 := A0_1.out.2 3 _ rfl
  try simp only [World.size_alloc] at lA0
  go_wp2_with fail
  refine (copyMatrix_impl P R C n c a xs _ (HR.out.ext E_3.out) HN.out hb).mono ?_
  rintro e w_4 ⟨b, rfl, hb1, hb2, hh, h_4⟩
  clear lA0 qA00 qA01 qA02 qA03
  have A0_5 := Lib.hid (A0_1.out.ext h_4)
  clear A0_1
  have R_6 := Lib.hid (R_2.out.ext h_4)
  clear R_2
  have E_7 := Lib.hid (E_3.out.trans h_4)
  clear E_3
  simp only [World.size_alloc] at hb1
  have H0 := Lib.hid (hh.alloc (.cells #[.int .i64 P, .int .i64 R, .int .i64 C, .slice (some ⟨b, 0, none⟩) n n] 40))
  clear hh
  have P_8 := (Ext.refl w_4).alloc (.cells #[.int .i64 P, .int .i64 R, .int .i64 C, .slice (some ⟨b, 0, none⟩) n n] 40)
  have A0_9 := Lib.hid (A0_5.out.ext P_8)
  clear A0_5
  have R_10 := Lib.hid (R_6.out.ext P_8)
  clear R_6
  have E_11 := Lib.hid (E_7.out.trans P_8)
  clear E_7
  clear P_8
  have M_12 := Lib.hid (cells_new w_4 #[.int .i64 P, .int .i64 R, .int .i64 C, .slice (some ⟨b, 0, none⟩) n n] 40)
  have MB : Hid (b < w_4.heap.size) := hb2
  have HB1 := Lib.hid hb1
  clear hb1 hb2
  have lM := M_12.out.1
  have qM0 := M_12.out.2 0 _ rfl
  have qM1 := M_12.out.2 1 _ rfl
  have qM2 := M_12.out.2 2 _ rfl
  have qM3 := M_12.out.2 3 _ rfl
  try simp only [World.size_alloc] at lM
  go_wp2_with fail
  with_reducible refine (reduceRows_impl P R C C b n xs _ H0.out HL.out HN.out hb (Nat.le_refl _) hR (by omega) hp hp2 HX.out).mono ?_
  rintro e w_13 ⟨pa, cap, rfl, hpo, hh, hg⟩
  clear lM qM0 qM1 qM2 qM3
  rw [HDR.out] at hh hpo ⊢
  have hwle : w_4.heap.size + 1 ≤ w_13.heap.size := by have := hg.size; simpa using this
  have A0_14 := Lib.hid (A0_9.out.grown hg (fun k hk => by simp at hk; have := MB.out; have := HB1.out; omega))
  clear A0_9
  have R_15 := Lib.hid (R_10.out.grown hg (fun k hk => by simp at hk; have := MB.out; have := HB1.out; omega))
  clear R_10
  have M_16 := Lib.hid (M_12.out.grown hg (fun k hk => by simp at hk; have := MB.out; have := HB1.out; omega))
  clear M_12
  have E_17 := Lib.hid (E_11.out.grown hg (fun k hk => by simp at hk; have := MB.out; have := HB1.out; omega))
  clear E_11
  have HH := Lib.hid hh
  have HP := Lib.hid hpo
  clear hh hpo hg H0
  generalize redM P R C xs = S at *
  have lA0 := A0_14.out.1
  have qA00 := A0_14.out.2 0 _ rfl
  have qA01 := A0_14.out.2 1 _ rfl
  have qA02 := A0_14.out.2 2 _ rfl
  have qA03 := A0_14.out.2 3 _ rfl
  have lM := M_16.out.1
  have qM0 := M_16.out.2 0 _ rfl
  have qM1 := M_16.out.2 1 _ rfl
  have qM2 := M_16.out.2 2 _ rfl
  have qM3 := M_16.out.2 3 _ rfl
  try simp only [World.size_alloc] at lA0 lM
  go_wp2_with fail
  rw [HFC.out]
  refine (zeros_impl _ _ _ _ g0 g1).mono ?_
  rintro e w_18 ⟨kb, rfl, hc1, hc2, hk, h_18⟩
  clear lA0 qA00 qA01 qA02 qA03 lM qM0 qM1 qM2 qM3
  rw [G2.out] at hk ⊢
  clear g0 g1
  have A0_19 := Lib.hid (A0_14.out.ext h_18)
  clear A0_14
  have R_20 := Lib.hid (R_15.out.ext h_18)
  clear R_15
  have M_21 := Lib.hid (M_16.out.ext h_18)
  clear M_16
  have E_22 := Lib.hid (E_17.out.trans h_18)
  clear E_17
  have HH2 := Lib.hid ((HH.out.ext h_18).ext ((Ext.refl _).alloc (.cells #[.int .i64 P, .int .i64 F, .int .i64 C, .slice (some ⟨kb, 0, none⟩) N N] 40)))
  have HP2 := Lib.hid ((HP.out.ext h_18).ext ((Ext.refl _).alloc (.cells #[.int .i64 P, .int .i64 F, .int .i64 C, .slice (some ⟨kb, 0, none⟩) N N] 40)))
  have K0 := Lib.hid (hk.alloc (.cells #[.int .i64 P, .int .i64 F, .int .i64 C, .slice (some ⟨kb, 0, none⟩) N N] 40))
  have hbl := HP.out.blk
  clear HH HP hk
  have P_23 := (Ext.refl w_18).alloc (.cells #[.int .i64 P, .int .i64 F, .int .i64 C, .slice (some ⟨kb, 0, none⟩) N N] 40)
  have A0_24 := Lib.hid (A0_19.out.ext P_23)
  clear A0_19
  have R_25 := Lib.hid (R_20.out.ext P_23)
  clear R_20
  have M_26 := Lib.hid (M_21.out.ext P_23)
  clear M_21
  have E_27 := Lib.hid (E_22.out.trans P_23)
  clear E_22
  clear P_23
  have K_28 := Lib.hid (cells_new w_18 #[.int .i64 P, .int .i64 F, .int .i64 C, .slice (some ⟨kb, 0, none⟩) N N] 40)
  have hlk : kb < w_18.heap.size := hc2
  clear h_18 hc2
  have lA0 := A0_24.out.1
  have qA00 := A0_24.out.2 0 _ rfl
  have qA01 := A0_24.out.2 1 _ rfl
  have qA02 := A0_24.out.2 2 _ rfl
  have qA03 := A0_24.out.2 3 _ rfl
  try simp only [World.size_alloc] at lA0
  go_wp2_with fail
  refine (columnsWithout_impl pa _ cap C S.pv _ HP2.out.reads (by omega) (by omega)).mono ?_
  rintro e w_29 ⟨fa, fcap, rfl, hfo, h_29⟩
  clear lA0 qA00 qA01 qA02 qA03
  rw [← HF.out] at hfo ⊢
  have HH3 := Lib.hid (HH2.out.ext h_29)
  have HP3 := Lib.hid (HP2.out.ext h_29)
  have K3 := Lib.hid (K0.out.ext h_29)
  have HFO := Lib.hid hfo
  have hfbl := hfo.blk
  clear HH2 HP2 K0 hfo
  have A0_30 := Lib.hid (A0_24.out.ext h_29)
  clear A0_24
  have R_31 := Lib.hid (R_25.out.ext h_29)
  clear R_25
  have M_32 := Lib.hid (M_26.out.ext h_29)
  clear M_26
  have K_33 := Lib.hid (K_28.out.ext h_29)
  clear K_28
  have E_34 := Lib.hid (E_27.out.trans h_29)
  clear E_27
  have hsz4 := h_29.le
  simp only [World.size_alloc] at hsz4 hfbl
  clear h_29
  have NE : Hid (kb ≠ w.heap.size ∧ kb ≠ w.heap.size + 1 ∧ kb ≠ b ∧ kb ≠ w_4.heap.size ∧ kb ≠ w_18.heap.size ∧ w.heap.size ≤ kb) := by
    have := MB.out; have := HB1.out
    exact ⟨by omega, by omega, by omega, by omega, by omega, by omega⟩
  have NP : Hid (∀ k, blk pa = some k → k ≠ kb) := fun k hk => by have := hbl k hk; omega
  have NF : Hid (∀ k, blk fa = some k → k ≠ kb) := fun k hk => by have := hfbl k hk; omega
  have HRLO : Hid (w.heap.size + 1 < w_29.heap.size) := R_31.out.1
  have HP4 := Lib.hid HP3.out.reads
  have HF4 := Lib.hid HFO.out.reads
  clear HP3 HFO hbl hfbl hsz4 hlk hc1 hwle MB HB1
  go_wp2_with fail
  have K9 : Hid (Has w_29 kb (kAt P C S.m S.pv C 0)) := by rw [Hid, kAt_zero, ← HF.out, ← HNE.out]; exact K3.out
  clear K3
  obtain ⟨Wb, hWb⟩ : ∃ Wb, Wb = w_29 := ⟨_, rfl⟩
  go_loopw [36] (fun z wr => ∃ i : Nat, i ≤ F ∧ z = .int .i64 i ∧ Hid (w_29.grownBy wr (some kb)) ∧ Hid (Has wr kb (kAt P C S.m S.pv C i))) (fun z _ => F - (intOf z).toNat)
  case atStart => exact ⟨0, by omega, rfl, grownBy_refl _ _, K9⟩
  case round =>
    clear K9
    obtain ⟨i, hi, rfl, hG, hK⟩ := hrel
    by_cases hlt : i < F
    · have hci := freeTo_lt S.pv C ((freeTo S.pv C).getD i 0) (by rw [List.getD_eq_getElem?_getD, List.getElem?_eq_getElem (by rw [← HF.out]; exact hlt)]; simp)
      rcases HF4.out.2 with h | ⟨fb, fo, rfl, hfb, hfc⟩
      · omega
      have x1 := (World.cell?_of_block (a := ⟨fb, fo + i, none⟩) (hG.out.block fb hfb (fun e => by injection e with e; exact NF.out fb rfl e))).trans (hfc i hlt)
      have hfb2 : fb < wr.heap.size := Nat.lt_of_lt_of_le hfb hG.out.size
      rw [gi_pvI] at x1
      have HOP := Lib.hid (kAt_open (P := P) (C := C) (m := S.m) (pv := S.pv) (n := C) (show i < (freeTo S.pv C).length by rw [← HF.out]; exact hlt))
      have HCL := Lib.hid (kSt_close (P := P) (C := C) (m := S.m) (pv := S.pv) (n := C) (show i < (freeTo S.pv C).length by rw [← HF.out]; exact hlt))
      generalize hq : (freeTo S.pv C).getD i 0 = q at x1 hci HCL
      have HST : Hid (∀ (B : List Int), B.length = C → (kSt P C S.m S.pv C i B).length = N) := fun B hB => by rw [kSt_len (by rw [← HF.out]; exact hlt) hB, ← HF.out]; exact HNE.out.symm
      have HSE : Hid (∀ (B : List Int) (z : Nat) (v : Int), B.length = C → z < C → (kSt P C S.m S.pv C i B).set (i * C + z) v = kSt P C S.m S.pv C i (B.set z v)) := fun B z v hB hz => kSt_set (by rw [← HF.out]; exact hlt) (by rw [hB]; exact hz) v
      clear hq hfc
      have hrn := row_n hlt HNE.out
      have hie : i * C + C ≤ N := by rw [Nat.add_mul] at hrn; omega
      have HRN := Lib.hid hrn
      have HIE := Lib.hid hie
      clear hrn
      have kc := K_33.out.grown hG.out (fun k hk => by simp at hk; have := NE.out; omega)
      have lk := kc.1
      have k0 := kc.2 0 _ rfl
      have k1 := kc.2 1 _ rfl
      have k2 := kc.2 2 _ rfl
      have k3 := kc.2 3 _ rfl
      clear kc
      go_wp2_with fail
      refine (rowOf_impl P F C i kb 0 N _ HRN.out hNb (by omega)).mono ?_
      rintro e w3 ⟨rfl, h3⟩
      rw [Nat.zero_add]
      clear lk k0 k1 k2 k3
      have hG3 := Lib.hid (grownBy_ext hG.out h3)
      have hK3 : Hid (Has w3 kb (kSt P C S.m S.pv C i (List.replicate C 0))) := by rw [Hid, ← HOP.out]; exact hK.out.ext h3
      clear hG hK h3 HOP x1
      have x2 := hK3.out.cell (i * C + q) (by rw [HST.out _ (by simp)]; omega)
      have f2 := hK3.out.free (i * C + q)
      have N1 : Hid (Has (w3.setCell ⟨kb, i * C + q, none⟩ (.int .i64 1)) kb (kSt P C S.m S.pv C i (krTo P C S.m S.pv q 0))) := by
        have := hK3.out.set (i * C + q) (by rw [HST.out _ (by simp)]; omega) 1
        rw [HSE.out _ _ _ (by simp) hci] at this
        exact this
      have N2 : Hid (w_29.grownBy (w3.setCell ⟨kb, i * C + q, none⟩ (.int .i64 1)) (some kb)) := grownBy_set (p := ⟨kb, i * C + q, none⟩) hG3.out rfl _
      go_wp2_with fail
      clear hG3 hK3 x2 f2
      generalize w3.setCell ⟨kb, i * C + q, none⟩ (.int .i64 1) = W4 at *
      go_loopw [49] (fun z wr => ∃ r : Nat, r ≤ S.pv.length ∧ z = .int .i64 r ∧ Hid (w_29.grownBy wr (some kb)) ∧ Hid (Has wr kb (kSt P C S.m S.pv C i (krTo P C S.m S.pv q r)))) (fun z _ => S.pv.length - (intOf z).toNat)
      case atStart => exact ⟨0, by omega, rfl, N2, N1⟩
      case round =>
        clear N1 N2
        obtain ⟨r, hr, rfl, hG, hK⟩ := hrel
        by_cases hlt2 : r < S.pv.length
        · have hp1 := hS3.out (S.pv.getD r 0) (by rw [List.getD_eq_getElem?_getD, List.getElem?_eq_getElem hlt2]; simp)
          rcases HP4.out.2 with h | ⟨pb, po, rfl, hpb, hpc⟩
          · omega
          have x1 := (World.cell?_of_block (a := ⟨pb, po + r, none⟩) (hG.out.block pb hpb (fun e => by injection e with e; exact NP.out pb rfl e))).trans (hpc r hlt2)
          have hpb2 : pb < wr.heap.size := Nat.lt_of_lt_of_le hpb hG.out.size
          have npb : pb ≠ kb := NP.out pb rfl
          rw [gi_pvI] at x1
          have HKS2 : Hid (krTo P C S.m S.pv q (r + 1) = (krTo P C S.m S.pv q r).set (S.pv.getD r 0) ((-(gi S.m (r * C + q))) % P)) := rfl
          generalize S.pv.getD r 0 = z at x1 hp1 HKS2
          clear hpc
          have mc := M_32.out.grown hG.out (fun k hk => by simp at hk; have := NE.out; omega)
          have lm := mc.1
          have m0 := mc.2 0 _ rfl
          have m1 := mc.2 1 _ rfl
          have m2 := mc.2 2 _ rfl
          have m3 := mc.2 3 _ rfl
          clear mc
          have hmc := (HH3.out.grownOther hG.out (fun k hk => by simp at hk; have := NE.out; omega)).cell (r * C + q) (by rw [HSL.out, HN.out]; exact place_lt (by omega) hci)
          have hmr := HSR.out (r * C + q) (by rw [HSL.out, HN.out]; exact place_lt (by omega) hci)
          obtain ⟨y0, y1⟩ := hmr
          have hmb := (HH3.out.grownOther hG.out (fun k hk => by simp at hk; have := NE.out; omega)).lt
          have nmb : b ≠ kb := fun e => NE.out.2.2.1 e.symm
          have nmm : w_4.heap.size ≠ kb := fun e => NE.out.2.2.2.1 e.symm
          have x3 := hK.out.cell (i * C + z) (by rw [HST.out _ (krTo_length _ _)]; have := HIE.out; omega)
          have f3 := hK.out.free (i * C + z)
          have e1 : (r : Int) * (C : Int) = ((r * C : Nat) : Int) := by simp
          have hpl : r * C + q < n := by rw [HN.out]; exact place_lt (by omega) hci
          have e2 : 0 ≤ (r : Int) * (C : Int) := by rw [e1]; omega
          have e3 : (r : Int) * (C : Int) ≤ 1048576 := by rw [e1]; omega
          have e4 : (r : Int) * (C : Int) + (q : Int) < (n : Int) := by rw [e1]; omega
          have e5 : 0 ≤ (r : Int) * (C : Int) + (q : Int) := by rw [e1]; omega
          have ew : wr.drew.heap.size = wr.heap.size := rfl
          clear e1 hpl
          have N1 : Hid (Has (wr.setCell ⟨kb, i * C + z, none⟩ (.int .i64 ((-(gi S.m (r * C + q))) % P))).drew kb (kSt P C S.m S.pv C i (krTo P C S.m S.pv q (r + 1)))) := by
            have := hK.out.set (i * C + z) (by rw [HST.out _ (krTo_length _ _)]; have := HIE.out; omega) ((-(gi S.m (r * C + q))) % P)
            rw [HSE.out _ _ _ (krTo_length _ _) hp1] at this
            rw [HKS2.out]; exact this.ext (Ext.refl _).drew
          have N2 : Hid (w_29.grownBy (wr.setCell ⟨kb, i * C + z, none⟩ (.int .i64 ((-(gi S.m (r * C + q))) % P))).drew (some kb)) := grownBy_ext (grownBy_set (p := ⟨kb, i * C + z, none⟩) hG.out rfl _) (Ext.refl _).drew
          clear hG hK
          go_wp2_with fail
          have v1 : IntKind.i64.wrap ((r : Int) * (C : Int)) = (r : Int) * (C : Int) := IntWalk.i64_in _ ⟨by omega, by omega⟩
          have v2 : IntKind.i64.wrap ((r : Int) * (C : Int) + (q : Int)) = (r : Int) * (C : Int) + (q : Int) := IntWalk.i64_in _ ⟨by omega, by omega⟩
          have v3 : ((r : Int) * (C : Int) + (q : Int)).toNat = r * C + q := by rw [← Int.natCast_mul, ← Int.natCast_add, Int.toNat_natCast]
          have v4 : IntKind.i64.wrap (-(gi S.m (r * C + q))) = -(gi S.m (r * C + q)) := IntWalk.i64_in _ ⟨by omega, by omega⟩
          go_region_held3 (fun w' => wr.grownBy w' (some kb) ∧ ∀ B o, B ≠ kb → B < wr.heap.size → w'.cell? ⟨B, o, none⟩ = wr.cell? ⟨B, o, none⟩) (first | exact keptB_refl _ _ | exact keptB_drew | (with_reducible exact keptB_call ‹wr.grownBy _ (some kb) ∧ _› ‹Ext _ _›) | (with_reducible exact keptB_set ‹wr.grownBy _ (some kb) ∧ _› _ _) | exact keptB_call (keptB_set (keptB_refl _ _) _ _) (Ext.refl _).drew) (first
            | (go_at_call 154; with_reducible refine (residue_impl _ _ _ hp hp2).mono ?_; rintro e w2 ⟨rfl, rfl⟩))
          all_goals
            clear v1 v2 v3 v4 x1 x3 f3 hmc y0 y1 ew
            clear lm m0 m1 m2 m3
            go_wp2
            exact ⟨⟨r + 1, by omega, by simp, N2, N1⟩, by simp [intOf]; omega⟩
        · obtain rfl : S.pv.length = r := by omega
          rw [HCL.out] at hK
          go_wp2
          exact ⟨⟨i + 1, by omega, by simp, hG, hK⟩, by simp [intOf]; omega⟩
    · obtain rfl : F = i := by omega
      have hke : kAt P C S.m S.pv C F = kerTo P C S.m S.pv C := by rw [HF.out]; exact kAt_end
      rw [hke] at hK
      have hkl : (kerTo P C S.m S.pv C).length = N := by rw [kerTo_length, ← HF.out]; exact HNE.out.symm
      have HKL := Lib.hid hkl
      have HKR := Lib.hid (kerTo_res (P := P) (C := C) (m := S.m) (pv := S.pv) hp C)
      have EW := Lib.hid (E_34.out.grown hG.out (fun k hk => by simp at hk; have := NE.out; omega))
      have RW := Lib.hid (R_31.out.grown hG.out (fun k hk => by simp at hk; have := NE.out; omega))
      clear hke hkl
      have kc := K_33.out.grown hG.out (fun k hk => by simp at hk; have := NE.out; omega)
      have lk := kc.1
      have k0 := kc.2 0 _ rfl
      have k1 := kc.2 1 _ rfl
      have k2 := kc.2 2 _ rfl
      have k3 := kc.2 3 _ rfl
      clear kc
      go_wp2_with fail
      refine (span_impl P F C N N (some ⟨kb, 0, none⟩) (kerTo P C S.m S.pv C) _ (hK.out.reads HKL.out) HNE.out hNb (by omega) (by omega) hp hp2 HKR.out).mono ?_
      rintro e w5 ⟨sb, rfl, hs1, hs2, hh, h5⟩
      clear lk k0 k1 k2 k3
      have R2 := Lib.hid (RW.out.ext h5)
      have E2 := Lib.hid (EW.out.trans h5)
      have HH5 := Lib.hid hh
      have hszr : w_29.heap.size ≤ wr.heap.size := hG.out.size
      clear RW EW hh h5 hG hK
      rw [HF.out, ← HKN.out]
      rw [HF.out, ← HKS.out] at HH5
      have r0 := R2.out.2 0 _ rfl
      have r1 := R2.out.2 1 _ rfl
      have r2 := R2.out.2 2 _ rfl
      have r3 := R2.out.2 3 _ rfl
      have tR := R2.out.3
      have hrl := HRLO.out
      go_wp2
      refine bodyPost_ret (v := .agg #[.int .i64 P, .int .i64 (KN : Nat), .int .i64 C, .slice (some ⟨sb, 0, none⟩) (KN * C) (KN * C)]) (by simp [results, Try.results146, go_sem, r0, r1, r2, r3]) rfl ⟨sb, rfl, by omega, ?_, ?_, ?_⟩
      · simpa using hs2
      · repeat with_reducible (first | exact HH5.out | refine Has.setOther ?_ (by simp <;> omega) _)
      · exact ext4 E2.out (by omega) _ _ _ _
end Go.Proofs.Ytapaopapgnfdkaa

/-
  Kernels, in the specification.
-/
namespace Go.Proofs.Ytapaopapgnfdkaa
open Go.ChangeShapes Go.WideShapes Go.ChangeAt Go.RowKit
set_option linter.unusedVariables false
theorem gi_zeros (n k : Nat) : gi (List.replicate n (0 : Int)) k = 0 := by
  simp only [gi, List.getD_eq_getElem?_getD, List.getElem?_replicate]; split <;> rfl

set_option maxRecDepth 100000 in
set_option maxHeartbeats 6400000 in
theorem l1Kernel_spec (P : Int) (R C n c : Nat) (a : Option Addr) (xs : List Int) (w : World) (hpr : isP P = true) (hr : Reads w a n xs) (hn : n = R * C) (hb : n ≤ 1048576) (hR : R ≤ 1048576) (hC : C ≤ 1024) (hx : Res xs P) (ha : a = none → n = 0 ∧ c = 0) :
    Calls Try.prog 91 #[.agg #[.int .i64 P, .int .i64 R, .int .i64 C, .slice a n c]] w fun e w' => ∃ b c', e = .returned (.agg #[.int .i64 P, .int .i64 (kerN P R C xs : Nat), .int .i64 C, .slice (some ⟨b, 0, none⟩) (kerN P R C xs * C) c']) ∧ w.heap.size ≤ b ∧ b < w'.heap.size ∧ Has w' b (kerS P R C xs) ∧ Ext w w' ∧ kerN P R C xs * C ≤ c' := by
  have HR := Lib.hid hr
  have HN := Lib.hid hn
  have HX := Lib.hid hx
  have HPR := Lib.hid hpr
  have HA := Lib.hid ha
  have hp := isP_lo hpr
  have hp2 := isP_hi hpr
  obtain ⟨hs1, hs2, hs3⟩ := redTo_pv (P := P) (R := R) (C := C) (xs := xs) C
  have HSL : Hid ((redM P R C xs).m.length = n) := by rw [Hid, redM, redTo_length]; exact hr.1
  have HSR : Hid (Res (redM P R C xs).m P) := redTo_res hp hx C
  have HKN : Hid (kerN P R C xs = (redM P (freeTo (redM P R C xs).pv C).length C (kerTo P C (redM P R C xs).m (redM P R C xs).pv C)).pv.length) := rfl
  have HKS : Hid (kerS P R C xs = spanL P (freeTo (redM P R C xs).pv C).length C (kerTo P C (redM P R C xs).m (redM P R C xs).pv C)) := rfl
  rw [show redTo P R C xs C = redM P R C xs from rfl] at hs1 hs2 hs3
  have hS3 := Lib.hid hs3
  generalize kerN P R C xs = KN at *
  generalize kerS P R C xs = KS at *
  have hfl := freeTo_le (redM P R C xs).pv C
  have HFB : Hid ((freeTo (redM P R C xs).pv C).length * C ≤ 1048576) := Nat.le_trans (Nat.mul_le_mul (show (freeTo (redM P R C xs).pv C).length ≤ 1024 by omega) hC) (by decide)
  clear hr hn hx hpr ha hs3
  go_enter Try.func91, Try.ntmps91
  have A0_1 := Lib.hid ((cells_new' w #[.int .i64 P, .int .i64 R, .int .i64 C, .slice a n c] 40 (w.heap.size) (by simp)).ext ((Ext.refl _).alloc (.cells #[.int .i64 0, .int .i64 0, .int .i64 0, .slice none 0 0] 40)))
  have R_2 := Lib.hid (cells_new' (w.alloc (.cells #[.int .i64 P, .int .i64 R, .int .i64 C, .slice a n c] 40)) #[.int .i64 0, .int .i64 0, .int .i64 0, .slice none 0 0] 40 (w.heap.size + 1) (by simp))
  have E_3 := Lib.hid (((Ext.refl w).alloc (.cells #[.int .i64 P, .int .i64 R, .int .i64 C, .slice a n c] 40)).alloc (.cells #[.int .i64 0, .int .i64 0, .int .i64 0, .slice none 0 0] 40))
  have lA0 := A0_1.out.1
  have qA00 := A0_1.out.2 0 _ rfl
  have qA01 := A0_1.out.2 1 _ rfl
  have qA02 := A0_1.out.2 2 _ rfl
  have qA03 := A0_1.out.2 3 _ rfl
  try simp only [World.size_alloc] at lA0
  go_wp2_with fail
  refine (l1Reduce_spec P R C n c a xs _ (HR.out.ext E_3.out) HN.out hb hR (by omega) HPR.out HX.out HA.out).mono ?_
  rintro e w_4 ⟨b, c2, a2, cap, mid, rfl, hlo, hbm, hmid, hh, ho, h_4, hcc⟩
  clear lA0 qA00 qA01 qA02 qA03
  generalize redM P R C xs = S at *
  have A0_5 := Lib.hid (A0_1.out.ext h_4)
  clear A0_1
  have R_6 := Lib.hid (R_2.out.ext h_4)
  clear R_2
  have E_7 := Lib.hid (E_3.out.trans h_4)
  clear E_3
  have H1 := Lib.hid (hh.ext ((Ext.refl w_4).alloc (.cells #[.int .i64 P, .int .i64 R, .int .i64 C, .slice (some ⟨b, 0, none⟩) n c2] 40)))
  have O1 := Lib.hid (ho.reads.ext ((Ext.refl w_4).alloc (.cells #[.int .i64 P, .int .i64 R, .int .i64 C, .slice (some ⟨b, 0, none⟩) n c2] 40)))
  clear hh ho h_4 hlo hbm hmid hcc
  have P_8 := (Ext.refl w_4).alloc (.cells #[.int .i64 P, .int .i64 R, .int .i64 C, .slice (some ⟨b, 0, none⟩) n c2] 40)
  have A0_9 := Lib.hid (A0_5.out.ext P_8)
  clear A0_5
  have R_10 := Lib.hid (R_6.out.ext P_8)
  clear R_6
  have E_11 := Lib.hid (E_7.out.trans P_8)
  clear E_7
  clear P_8
  have M_12 := Lib.hid (cells_new w_4 #[.int .i64 P, .int .i64 R, .int .i64 C, .slice (some ⟨b, 0, none⟩) n c2] 40)
  have G0 := Lib.hid (rows_lit (w_4.alloc (.cells #[.int .i64 P, .int .i64 R, .int .i64 C, .slice (some ⟨b, 0, none⟩) n c2] 40)) (w_4.heap.size + 1) (by simp))
  have E0 : Hid (Ext (w_4.alloc (.cells #[.int .i64 P, .int .i64 R, .int .i64 C, .slice (some ⟨b, 0, none⟩) n c2] 40)) (((w_4.alloc (.cells #[.int .i64 P, .int .i64 R, .int .i64 C, .slice (some ⟨b, 0, none⟩) n c2] 40))).alloc (.cells #[] 22))) := (Ext.refl _).alloc _
  have hW2 : ((w_4.alloc (.cells #[.int .i64 P, .int .i64 R, .int .i64 C, .slice (some ⟨b, 0, none⟩) n c2] 40))).heap.size = w_4.heap.size + 1 := by simp
  rw [hW2] at G0
  go_wp2_with fail
  have HW2 := Lib.hid hW2
  clear hW2
  generalize (w_4.alloc (.cells #[.int .i64 P, .int .i64 R, .int .i64 C, .slice (some ⟨b, 0, none⟩) n c2] 40)) = W2 at *
  generalize hZB : w_4.heap.size = ZB at *
  clear hZB
  go_loopw [6, 7] (fun v z wr => ∃ q : Nat, q ≤ C ∧ z = .int .i64 q ∧ Hid (RowsG wr (ZB + 1) v (kRows P C S.m S.pv q)) ∧ Hid (Ext W2 wr)) (fun _ z _ => C - (intOf z).toNat)
  case atStart => exact ⟨0, by omega, rfl, G0, E0⟩
  case round =>
    clear G0 E0
    obtain ⟨q, hq, rfl, hG, hE⟩ := hrel
    have qc := A0_9.out.ext hE.out
    have lq := qc.1
    have q0 := qc.2 0 _ rfl
    have q1 := qc.2 1 _ rfl
    have q2 := qc.2 2 _ rfl
    have q3 := qc.2 3 _ rfl
    clear qc
    by_cases hlt : q < C
    · obtain ⟨p, hp1, hpi⟩ := pv_firstAt S.pv q
      have HP := Lib.hid hp1
      have OR := Lib.hid (O1.out.ext hE.out)
      by_cases hc : q ∈ S.pv
      · have hf : fndR S.pv.length p = (p : Int) := by rw [fndR, if_pos (hpi.2 hc)]
        have HF := Lib.hid hf
        have HK : Hid (kRows P C S.m S.pv (q + 1) = kRows P C S.m S.pv q) := by rw [Hid, kRows, freeTo, if_pos hc]; rfl
        have hp0 : 0 ≤ (p : Int) := by omega
        clear hp1 hpi hc hf
        go_wp2_with fail
        refine (l1Find_spec a2 _ cap (pvI S.pv) q p _ OR.out (by omega) HP.out).mono ?_
        rintro e w' ⟨rfl, rfl⟩
        rw [HF.out]
        go_wp2
        exact ⟨⟨q + 1, by omega, by simp, by rw [HK.out]; exact hG, hE⟩, by simp [intOf]; omega⟩
      · have hf : fndR S.pv.length p = -1 := by rw [fndR, if_neg (fun h => hc (hpi.1 h))]
        have HF := Lib.hid hf
        have HK : Hid (kRows P C S.m S.pv (q + 1) = kRows P C S.m S.pv q ++ [krTo P C S.m S.pv q S.pv.length]) := by rw [Hid, kRows, freeTo, if_neg hc, List.map_append]; rfl
        have HKL : Hid ((kRows P C S.m S.pv q).length ≤ 1024) := by rw [Hid, kRows_length]; have := freeTo_le S.pv q; omega
        clear hp1 hpi hc hf
        go_wp2_with fail
        refine (l1Find_spec a2 _ cap (pvI S.pv) q p _ OR.out (by omega) HP.out).mono ?_
        rintro e w' ⟨rfl, rfl⟩
        rw [HF.out]
        have hmk := make_ints C (by omega)
        have hsz := hE.out.le
        have X0 : Hid (Has (wr.alloc (.cells ((ints (List.replicate C 0)).setIfInBounds q (.int .i64 1)) 3)) wr.heap.size (krTo P C S.m S.pv q 0)) := by
          rw [Hid, ints_set]; exact Has.new wr _
        have EX : Hid (Ext wr (wr.alloc (.cells ((ints (List.replicate C 0)).setIfInBounds q (.int .i64 1)) 3))) := (Ext.refl wr).alloc _
        have x2 : (wr.alloc (.cells (ints (List.replicate C 0)) 3)).cell? ⟨wr.heap.size, q, none⟩ = some (.int .i64 0) := by
          have := (Has.new wr (List.replicate C 0)).cell q (by simpa using hlt)
          rwa [gi_zeros] at this
        have f2 : (wr.alloc (.cells (ints (List.replicate C 0)) 3)).frozen? ⟨wr.heap.size, q, none⟩ = false := (Has.new wr (List.replicate C 0)).free q
        go_wp2_with fail
        clear hmk x2 f2 OR HP HF
        clear lq q0 q1 q2 q3
        generalize wr.alloc (.cells ((ints (List.replicate C 0)).setIfInBounds q (.int .i64 1)) 3) = W4 at *
        obtain ⟨wo, rfl⟩ : ∃ wo : World, wo = wr := ⟨_, rfl⟩
        go_loopw [10] (fun z wr => ∃ r : Nat, r ≤ S.pv.length ∧ z = .int .i64 r ∧ Hid (Ext wo wr) ∧ Hid (Has wr wo.heap.size (krTo P C S.m S.pv q r))) (fun z _ => S.pv.length - (intOf z).toNat)
        case atStart => exact ⟨0, by omega, rfl, EX, X0⟩
        case round =>
          clear X0 EX
          obtain ⟨r, hr, rfl, hEr, hX⟩ := hrel
          have EWr := Lib.hid (hE.out.trans hEr.out)
          by_cases hlt2 : r < S.pv.length
          · have hp1 := hS3.out (S.pv.getD r 0) (by rw [List.getD_eq_getElem?_getD, List.getElem?_eq_getElem hlt2]; simp)
            have qc := A0_9.out.ext EWr.out
            have lq := qc.1
            have q0 := qc.2 0 _ rfl
            have q1 := qc.2 1 _ rfl
            have q2 := qc.2 2 _ rfl
            have q3 := qc.2 3 _ rfl
            clear qc
            have mc := M_12.out.ext EWr.out
            have lm := mc.1
            have m0 := mc.2 0 _ rfl
            have m1 := mc.2 1 _ rfl
            have m2 := mc.2 2 _ rfl
            have m3 := mc.2 3 _ rfl
            clear mc
            rcases (O1.out.ext hE.out).2 with h | ⟨pb, po, rfl, hpb, hpc⟩
            · omega
            have x1 := (hEr.out.cells pb (po + r) hpb).trans (hpc r hlt2)
            have hpb2 : pb < wr.heap.size := Nat.lt_of_lt_of_le hpb hEr.out.le
            have npb : pb ≠ wo.heap.size := by omega
            rw [gi_pvI] at x1
            have HKS2 : Hid (krTo P C S.m S.pv q (r + 1) = (krTo P C S.m S.pv q r).set (S.pv.getD r 0) ((-(gi S.m (r * C + q))) % P)) := rfl
            generalize S.pv.getD r 0 = z at x1 hp1 HKS2
            clear hpc
            have HMR := Lib.hid ((H1.out.ext EWr.out).reads (n := n) HSL.out)
            have hpl : r * C + q < n := by rw [HN.out]; exact place_lt (by omega) hlt
            have hmr := HSR.out (r * C + q) (by rw [HSL.out]; exact hpl)
            obtain ⟨y0, y1⟩ := hmr
            have x3 := hX.out.cell z (by rw [krTo_length]; exact hp1)
            have f3 := hX.out.free z
            have lX := hX.out.lt
            have nA : w.heap.size ≠ wo.heap.size := by have := A0_9.out.1; have := hE.out.le; omega
            have nM : ZB ≠ wo.heap.size := by have := HW2.out; omega
            have ew : wr.drew.heap.size = wr.heap.size := rfl
            go_wp2_with fail
            have v4 : IntKind.i64.wrap (-(gi S.m (r * C + q))) = -(gi S.m (r * C + q)) := IntWalk.i64_in _ ⟨by omega, by omega⟩
            go_region_held3 (fun w' => wr.grownBy w' (some wo.heap.size) ∧ ∀ B o, B ≠ wo.heap.size → B < wr.heap.size → w'.cell? ⟨B, o, none⟩ = wr.cell? ⟨B, o, none⟩) (first | assumption | exact keptB_refl _ _ | exact keptB_drew | (with_reducible exact keptB_call ‹wr.grownBy _ (some wo.heap.size) ∧ _› ‹Ext _ _›) | (with_reducible exact keptB_set ‹wr.grownBy _ (some wo.heap.size) ∧ _› _ _)) (first
              | (go_at_call 73; refine (l1At_spec _ _ _ _ _ _ _ _ S.m _ (HMR.out.ext (Ext.refl _).drew) hpl hb).mono ?_; rintro e w4 ⟨rfl, hE4⟩; have c1 : w4.cell? ⟨wo.heap.size, z, none⟩ = _ := (hX.out.ext ((Ext.refl _).drew.trans hE4)).cell z (by rw [krTo_length]; exact hp1); have f1 : w4.frozen? ⟨wo.heap.size, z, none⟩ = false := (hX.out.ext ((Ext.refl _).drew.trans hE4)).free _)
              | (go_at_call 74; with_reducible refine (l1Mod_spec _ _ _ hp hp2).mono ?_; rintro e w5 ⟨rfl, rfl⟩))
            all_goals
              have N1 : Hid (Has (w4.setCell ⟨wo.heap.size, z, none⟩ (.int .i64 ((-(gi S.m (r * C + q))) % P))) wo.heap.size (krTo P C S.m S.pv q (r + 1))) := by
                rw [HKS2.out]
                exact (hX.out.ext ((Ext.refl _).drew.trans hE4)).set z (by rw [krTo_length]; exact hp1) _
              have N2 : Hid (Ext wo (w4.setCell ⟨wo.heap.size, z, none⟩ (.int .i64 ((-(gi S.m (r * C + q))) % P)))) := (hEr.out.trans ((Ext.refl _).drew.trans hE4)).setCell (p := ⟨wo.heap.size, z, none⟩) (Nat.le_refl _) _
              clear v4 hEr hX EWr c1 f1 hE4 x1 x3 f3 HMR
              clear lq q0 q1 q2 q3 lm m0 m1 m2 m3
              go_wp2
              exact ⟨⟨r + 1, by omega, by simp, N2, N1⟩, by simp [intOf]; omega⟩
          · obtain rfl : S.pv.length = r := by omega
            have hszr := EWr.out.le
            have hwl := hEr.out.le
            obtain ⟨va, vc, hv, _⟩ := hG.out.shape
            subst hv
            have HRow : Hid (Own wr (ZB + 1) wr.heap.size (some ⟨wo.heap.size, 0, none⟩) C (krTo P C S.m S.pv q S.pv.length)) := hX.out.own (by have := HW2.out; omega) hX.out.lt (krTo_length _ _)
            have HG2 := Lib.hid (RowsG.ext hG.out hEr.out)
            go_wp2_with (at_builtin; refine wpList_appendRow rfl _ _ rfl (ZB + 1) (.slice va (kRows P C S.m S.pv q).length vc) (kRows P C S.m S.pv q) wo.heap.size C C (krTo P C S.m S.pv q S.pv.length) 1 rfl rfl HG2.out HRow.out (by have := HKL.out; omega) (by have := HW2.out; omega) ?_)
            intro v5 w5 hG5 hg5
            have G5 : Hid (RowsG w5 (ZB + 1) v5 (kRows P C S.m S.pv (q + 1))) := by rw [HK.out]; exact hG5
            have hbk := HG2.out.blk
            have E5 : Hid (Ext W2 w5) := EWr.out.grown hg5 (fun k hk => by have := hbk k hk; have := HW2.out; omega)
            clear hG hE hEr hX EWr hG5 hg5 HRow HG2 hbk
            go_wp2
            exact ⟨⟨q + 1, by omega, by simp, G5, E5⟩, by simp [intOf]; omega⟩
    · obtain rfl : C = q := by omega
      obtain ⟨va, vc, hv, _⟩ := hG.out.shape
      subst hv
      have hkl : (kRows P C S.m S.pv C).length = (freeTo S.pv C).length := kRows_length _ _ _ _ _
      have hkf := kRows_flat P C S.m S.pv C
      have hktl : (kerTo P C S.m S.pv C).length = (freeTo S.pv C).length * C := kerTo_length C
      have HKTL := Lib.hid hktl
      have HKR := Lib.hid (kerTo_res (P := P) (C := C) (m := S.m) (pv := S.pv) hp C)
      have EQ := Lib.hid (E_11.out.trans hE.out)
      have R2 := Lib.hid (R_10.out.ext hE.out)
      have HW3 := hE.out.le
      rw [hkl] at hG ⊢
      have HRB : Hid ((kRows P C S.m S.pv C).flatten.length ≤ 1048576) := by rw [Hid, hkf, hktl]; exact HFB.out
      have HKF := Lib.hid hkf
      have HRW := l1Rows_spec P C (freeTo S.pv C).length (ZB + 1) vc va (kRows P C S.m S.pv C) wr hG.out (by omega) HRB.out
      rw [hkf] at HRW
      have HRW2 := Lib.hid HRW
      clear hkf hktl hkl HRW hG
      generalize hFF : (freeTo S.pv C).length = F at *
      have HFF := Lib.hid hFF
      clear hFF
      go_wp2_with fail
      refine HRW2.out.mono ?_
      rintro e w5 ⟨ra, rc, rfl, hnil, ho, h5⟩
      rw [HKTL.out] at ho hnil ⊢
      have HO := Lib.hid ho.reads
      have HNIL := Lib.hid hnil
      have R3 := Lib.hid (R2.out.ext h5)
      have EQ3 := Lib.hid (EQ.out.trans h5)
      have hw5 := h5.le
      clear ho hnil R2 EQ h5 hE
      go_wp2_with fail
      refine (l1Span_spec P F C (F * C) rc ra (kerTo P C S.m S.pv C) w5 HO.out rfl HFB.out (by omega) (by omega) HPR.out HKR.out HNIL.out).mono ?_
      rintro e w6 ⟨sb, sc, rfl, hs1, hs2, hh, h6, hsc⟩
      rw [← HKN.out] at hsc ⊢
      have HS6 : Hid (Has w6 sb KS) := by rw [Hid, HKS.out]; exact hh
      have R4 := Lib.hid (R3.out.ext h6)
      have EQ4 := Lib.hid (EQ3.out.trans h6)
      have HSC := Lib.hid hsc
      have hrlt := R3.out.1
      clear hh h6 R3 EQ3 hsc
      have r0 := R4.out.2 0 _ rfl
      have r1 := R4.out.2 1 _ rfl
      have r2 := R4.out.2 2 _ rfl
      have r3 := R4.out.2 3 _ rfl
      have tR := R4.out.3
      have lR := R4.out.1
      go_wp2
      refine bodyPost_ret (v := .agg #[.int .i64 P, .int .i64 (KN : Nat), .int .i64 C, .slice (some ⟨sb, 0, none⟩) (KN * C) sc]) (by simp [results, Try.results91, go_sem, r0, r1, r2, r3]) rfl ⟨sb, sc, rfl, by omega, ?_, ?_, ?_, HSC.out⟩
      · simpa using hs2
      · repeat with_reducible (first | exact HS6.out | refine Has.setOther ?_ (by simp <;> omega) _)
      · exact ext4 EQ4.out (by omega) _ _ _ _
end Go.Proofs.Ytapaopapgnfdkaa
