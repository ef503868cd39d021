/-
  Some columns of a matrix: takeColumns of the program.
-/
import Derived.Test.YtapaopapgnfdkaaKr
import Derived.Test.YtapaopapgnfdkaaOrth
import Derived.RegionTactic
namespace Go.Proofs.Ytapaopapgnfdkaa
open Go.ChangeShapes Go.WideShapes Go.ChangeAt Go.RowKit
set_option linter.unusedVariables false
set_option linter.unusedSimpArgs false

theorem Reads.oth {w w' : World} {v0 vo n b : Nat} {xs : List Int} (h : Reads w (some ⟨v0, vo, none⟩) n xs) (hg : w.grownBy w' (some b)) (hne : v0 ≠ b) : Reads w' (some ⟨v0, vo, none⟩) n xs := by
  refine ⟨h.1, ?_⟩
  rcases h.2 with h2 | ⟨b3, o3, h2, hb3, hc3⟩
  · exact Or.inl h2
  · simp only [Option.some.injEq, Addr.mk.injEq, and_true] at h2
    obtain ⟨rfl, rfl⟩ := h2
    refine Or.inr ⟨v0, vo, rfl, Nat.lt_of_lt_of_le hb3 hg.size, fun q hq => ?_⟩
    rw [World.cell?_of_block (hg.block v0 hb3 (fun e => by injection e with e; exact hne e))]
    exact hc3 q hq
theorem Reads.atc {w : World} {v0 vo n : Nat} {xs : List Int} (h : Reads w (some ⟨v0, vo, none⟩) n xs) {k : Nat} (hk : k < n) : w.cell? ⟨v0, vo + k, none⟩ = some (.int .i64 (gi xs k)) := by
  rcases h.2 with h2 | ⟨b3, o3, h2, hb3, hc3⟩
  · omega
  · simp only [Option.some.injEq, Addr.mk.injEq, and_true] at h2
    obtain ⟨rfl, rfl⟩ := h2
    exact hc3 k (by first | exact hk | (rw [h.1]; exact hk))
/-- The number at place q. -/
def tkV (C K : Nat) (xs : List Int) (cs : List Nat) (q : Nat) : Int := at2 C xs (q / K) (cs.getD (q % K) 0)
def tkS (C K : Nat) (xs : List Int) (cs : List Nat) (N t : Nat) : List Int := (List.range N).map fun q => if q < t then tkV C K xs cs q else 0
def tkL (C K : Nat) (xs : List Int) (cs : List Nat) (R : Nat) : List Int := tkS C K xs cs (R * K) (R * K)
section
variable {C K : Nat} {xs : List Int} {cs : List Nat} {N t : Nat}
theorem tkS_length : (tkS C K xs cs N t).length = N := by simp [tkS]
theorem gi_tkS {q : Nat} (hq : q < N) : gi (tkS C K xs cs N t) q = if q < t then tkV C K xs cs q else 0 := gi_map N _ hq
theorem tkS_zero : tkS C K xs cs N 0 = List.replicate N 0 := by
  refine ext_gi (by rw [tkS_length, List.length_replicate]) (fun q hq => ?_)
  rw [tkS_length] at hq
  rw [gi_tkS hq, if_neg (by omega), gi, List.getD_eq_getElem?_getD, List.getElem?_replicate]
  simp [hq]
theorem tkS_set (ht : t < N) : (tkS C K xs cs N t).set t (tkV C K xs cs t) = tkS C K xs cs N (t + 1) := by
  refine ext_gi (by rw [List.length_set, tkS_length, tkS_length]) (fun q hq => ?_)
  rw [List.length_set, tkS_length] at hq
  rw [gi_set _ _ _ _ (by rw [tkS_length]; exact ht), gi_tkS hq, gi_tkS hq]
  by_cases e : q = t
  · subst e; rw [if_pos rfl, if_pos (by omega)]
  · rw [if_neg e]
    by_cases e2 : q < t
    · rw [if_pos e2, if_pos (by omega)]
    · rw [if_neg e2, if_neg (by omega)]
theorem tkV_at {i j : Nat} (hj : j < K) : tkV C K xs cs (i * K + j) = at2 C xs i (cs.getD j 0) := by
  rw [tkV, Nat.add_comm, Nat.add_mul_div_right _ _ (by omega), Nat.div_eq_of_lt hj, Nat.zero_add, Nat.add_mul_mod_self_right, Nat.mod_eq_of_lt hj]
theorem tkL_length {R : Nat} : (tkL C K xs cs R).length = R * K := tkS_length
theorem at2_tkL {R i j : Nat} (hi : i < R) (hj : j < K) : at2 K (tkL C K xs cs R) i j = at2 C xs i (cs.getD j 0) := by
  have := row_lt (C := K) hi
  rw [at2, tkL, gi_tkS (by omega), if_pos (by omega), tkV_at hj]
end

set_option maxRecDepth 100000 in
set_option maxHeartbeats 3200000 in
theorem takeColumns_impl (P : Int) (R C K n b0 o0 kc : Nat) (ac : Option Addr) (xs : List Int) (cs : List Nat) (w : World) (hX : Reads w (some ⟨b0, o0, none⟩) n xs) (hn : n = R * C) (hR : R ≤ 40) (hC : C ≤ 40) (hK : K ≤ 40) (hcs : Reads w ac K (pvI cs)) (hlt : ∀ j, j < K → cs.getD j 0 < C) :
    Calls Try.prog 104 #[.agg #[.int .i64 P, .int .i64 (R : Nat), .int .i64 (C : Nat), .slice (some ⟨b0, o0, none⟩) n n], .slice ac K kc] w fun e w' => ∃ b, e = .returned (.agg #[.int .i64 P, .int .i64 (R : Nat), .int .i64 (K : Nat), .slice (some ⟨b, 0, none⟩) (R * K) (R * K)]) ∧ w.heap.size ≤ b ∧ b < w'.heap.size ∧ Has w' b (tkL C K xs cs R) ∧ Ext w w' := by
  have HX := Lib.hid hX
  have HC := Lib.hid hcs
  have HNN := Lib.hid hn
  have HLT := Lib.hid hlt
  have h16 : R * K ≤ 1600 := Nat.mul_le_mul hR hK
  have h17 : n ≤ 1600 := by rw [hn]; exact Nat.mul_le_mul hR hC
  have HPL : Hid (cs.length = K) := by have := hcs.1; rwa [pvI_length] at this
  have HTL : Hid (tkL C K xs cs R = tkS C K xs cs (R * K) (R * K)) := rfl
  have HZ : Hid (∀ w1, Calls Try.prog 66 #[.int .i64 P, .int .i64 (R : Nat), .int .i64 (K : Nat)] w1 fun e w' => ∃ b, e = .returned (.agg #[.int .i64 P, .int .i64 (R : Nat), .int .i64 (K : Nat), .slice (some ⟨b, 0, none⟩) (R * K) (R * K)]) ∧ w1.heap.size ≤ b ∧ b < w'.heap.size ∧ Has w' b (tkS C K xs cs (R * K) 0) ∧ Ext w1 w') := fun w1 => by
    have h := zeros_impl P R K w1 (by rw [← Int.natCast_mul]; omega) (by rw [← Int.natCast_mul]; omega)
    have e : ((R : Int) * (K : Int)).toNat = R * K := by rw [← Int.natCast_mul, Int.toNat_natCast]
    rw [e] at h
    rw [tkS_zero]
    exact h
  obtain ⟨N, hN⟩ : ∃ N, R * K = N := ⟨_, rfl⟩
  have HN := Lib.hid hN
  rw [hN] at HTL HZ h16
  rw [hN]
  clear hX hcs hn hlt hN
  go_enter Try.func104, Try.ntmps104
  have A0_1 := Lib.hid ((cells_new' w #[.int .i64 P, .int .i64 (R : Nat), .int .i64 (C : Nat), .slice (some ⟨b0, o0, none⟩) n n] 40 (w.heap.size) (by simp)).ext ((Ext.refl _).alloc (.cells #[.int .i64 0, .int .i64 0, .int .i64 0, .slice none 0 0] 40)))
  have R_2 := Lib.hid (cells_new' (w.alloc (.cells #[.int .i64 P, .int .i64 (R : Nat), .int .i64 (C : Nat), .slice (some ⟨b0, o0, none⟩) n n] 40)) #[.int .i64 0, .int .i64 0, .int .i64 0, .slice none 0 0] 40 (w.heap.size + 1) (by simp))
  have E_3 := Lib.hid (((Ext.refl w).alloc (.cells #[.int .i64 P, .int .i64 (R : Nat), .int .i64 (C : Nat), .slice (some ⟨b0, o0, none⟩) n n] 40)).alloc (.cells #[.int .i64 0, .int .i64 0, .int .i64 0, .slice none 0 0] 40))
  have lA0 := A0_1.out.1
  have qA00 := A0_1.out.2 0 _ rfl
  have qA01 := A0_1.out.2 1 _ rfl
  have qA02 := A0_1.out.2 2 _ rfl
  have qA03 := A0_1.out.2 3 _ rfl
  try simp only [World.size_alloc] at lA0
  go_wp2_with fail
  refine (HZ.out _).mono ?_
  rintro e w_4 ⟨b, rfl, hb1, hb2, hh, h_4⟩
  clear lA0 qA00 qA01 qA02 qA03
  have A0_5 := Lib.hid (A0_1.out.ext h_4)
  clear A0_1
  have R_6 := Lib.hid (R_2.out.ext h_4)
  clear R_2
  have E_7 := Lib.hid (E_3.out.trans h_4)
  clear E_3
  have hszw := E_7.out.le
  have lRx := R_6.out.1
  have H0 := Lib.hid (hh.alloc (.cells #[.int .i64 P, .int .i64 (R : Nat), .int .i64 (K : Nat), .slice (some ⟨b, 0, none⟩) N N] 40))
  try simp only [World.size_alloc] at hb1
  clear hh
  have P_8 := (Ext.refl w_4).alloc (.cells #[.int .i64 P, .int .i64 (R : Nat), .int .i64 (K : Nat), .slice (some ⟨b, 0, none⟩) N N] 40)
  have A0_9 := Lib.hid (A0_5.out.ext P_8)
  clear A0_5
  have R_10 := Lib.hid (R_6.out.ext P_8)
  clear R_6
  have E_11 := Lib.hid (E_7.out.trans P_8)
  clear E_7
  clear P_8
  have T_12 := Lib.hid (cells_new w_4 #[.int .i64 P, .int .i64 (R : Nat), .int .i64 (K : Nat), .slice (some ⟨b, 0, none⟩) N N] 40)
  have hfr := E_11.out
  have HXW := Lib.hid (HX.out.ext hfr)
  have HCW := Lib.hid (HC.out.ext hfr)
  have HWB : Hid (w.heap.size + 1 < b ∧ b < w_4.heap.size ∧ w.heap.size + 1 < w_4.heap.size) := ⟨by omega, by omega, by omega⟩
  have hxb : ∀ (a0 : Addr) (m : Nat) (ys : List Int), Reads w (some a0) m ys → 0 < m → a0.block < w.heap.size := fun a0 m ys h hm => by
    rcases h.2 with h2 | ⟨b3, o3, h2, hb3, _⟩
    · omega
    · simp only [Option.some.injEq] at h2
      rw [h2]; exact hb3
  have HXB := Lib.hid (hxb _ _ _ HX.out)
  have HCB : Hid (∀ ad, ac = some ad → 0 < K → ad.block < w.heap.size) := fun ad h hm => hxb ad K (pvI cs) (by rw [← h]; exact HC.out) hm
  have lA := A0_9.out.1
  have a1' := A0_9.out.2 1 _ rfl
  try simp only [World.size_alloc] at lA
  clear hfr hxb hszw lRx
  go_wp2_with fail
  clear lA a1'
  generalize hWx : (w_4.alloc (.cells #[.int .i64 P, .int .i64 (R : Nat), .int .i64 (K : Nat), .slice (some ⟨b, 0, none⟩) N N] 40)) = W at *
  generalize hTB : w_4.heap.size = TB at *
  have G0 : Hid (W.grownBy W (some b)) := grownBy_refl _ _
  have HK : Hid (∀ wr, W.grownBy wr (some b) → Cells wr w.heap.size [.int .i64 P, .int .i64 (R : Nat), .int .i64 (C : Nat), .slice (some ⟨b0, o0, none⟩) n n] ∧ Cells wr (w.heap.size + 1) [.int .i64 0, .int .i64 0, .int .i64 0, .slice none 0 0] ∧ Cells wr TB [.int .i64 P, .int .i64 (R : Nat), .int .i64 (K : Nat), .slice (some ⟨b, 0, none⟩) N N] ∧ Ext w wr ∧ (0 < n → Reads wr (some ⟨b0, o0, none⟩) n xs)) := fun wr h => by
    have q := HWB.out
    exact ⟨A0_9.out.grown h (fun k hk => by simp at hk; omega), R_10.out.grown h (fun k hk => by simp at hk; omega), T_12.out.grown h (fun k hk => by simp at hk; omega), E_11.out.grown h (fun k hk => by simp at hk; omega), fun h0 => Reads.oth HXW.out h (by have := HXB.out h0; (try simp only at this); omega)⟩
  clear A0_9 R_10 T_12 E_11 hWx hTB
  go_loopw [20, 6, 7, 8, 9, 10] (fun z _ _ _ _ _ wr => ∃ i : Nat, i ≤ R ∧ z = .int .i64 i ∧ Hid (W.grownBy wr (some b)) ∧ Hid (Has wr b (tkS C K xs cs N (i * K)))) (fun z _ _ _ _ _ _ => R - (intOf z).toNat)
  case atStart => exact ⟨0, by omega, rfl, G0, by rw [Nat.zero_mul]; exact H0⟩
  case round =>
    clear G0 H0
    obtain ⟨i, hi, rfl, hG, hH⟩ := hrel
    have KK := HK.out _ hG.out
    by_cases hlt : i < R
    · have hrow : (i + 1) * C ≤ n := by rw [HNN.out]; exact Nat.mul_le_mul_right C hlt
      have hrow2 : (i + 1) * K ≤ N := by rw [← HN.out]; exact Nat.mul_le_mul_right K hlt
      have HR1 : Hid (∀ wx, Calls Try.prog 78 #[.agg #[.int .i64 P, .int .i64 (R : Nat), .int .i64 (C : Nat), .slice (some ⟨b0, o0, none⟩) n n], .int .i64 i] wx fun e w' => e = .returned (.slice (some ⟨b0, o0 + i * C, none⟩) C (n - i * C)) ∧ Ext wx w') := fun wx => rowOf_impl P R C i b0 o0 n wx hrow (by omega) (by omega)
      have HR2 : Hid (∀ wx, Calls Try.prog 78 #[.agg #[.int .i64 P, .int .i64 (R : Nat), .int .i64 (K : Nat), .slice (some ⟨b, 0, none⟩) N N], .int .i64 i] wx fun e w' => e = .returned (.slice (some ⟨b, i * K, none⟩) K (N - i * K)) ∧ Ext wx w') := fun wx => by
        have h := rowOf_impl P R K i b 0 N wx hrow2 (by omega) (by omega)
        rwa [Nat.zero_add] at h
      have lA := KK.1.1
      have a0' := KK.1.2 0 _ rfl
      have a1' := KK.1.2 1 _ rfl
      have a2' := KK.1.2 2 _ rfl
      have a3' := KK.1.2 3 _ rfl
      have lT := KK.2.2.1.1
      have t0' := KK.2.2.1.2 0 _ rfl
      have t1' := KK.2.2.1.2 1 _ rfl
      have t2' := KK.2.2.1.2 2 _ rfl
      have t3' := KK.2.2.1.2 3 _ rfl
      have hH0 : Hid (Has wr b (tkS C K xs cs N (i * K + 0))) := hH
      have HKK := Lib.hid hrow2
      clear KK hH hrow hrow2
      go_wp2_with fail
      go_region_held3 (fun w' => Ext wr w' ∧ (∀ b o, b < wr.heap.size → w'.cell? ⟨b, o, none⟩ = wr.cell? ⟨b, o, none⟩)) (first | assumption | (with_reducible exact ext2 (Ext.trans (And.left ‹Ext wr _ ∧ _›) ‹Ext _ _›)) | (refine ext2 ?_; with_reducible repeat (first | exact Ext.refl _ | exact And.left ‹Ext wr _ ∧ _› | refine Ext.drew ?_ | refine Ext.drewN ?_ _))) (first
        | (go_at_call 78; (with_reducible refine (HR1.out _).mono ?_); rintro e w3 ⟨rfl, h3⟩)
        | (go_at_call 78; (with_reducible refine (HR2.out _).mono ?_); rintro e w4 ⟨rfl, h4⟩))
      have hG4 := Lib.hid (grownBy_ext hG.out (((Ext.refl _).drew.trans h3).trans h4))
      have hH4 := Lib.hid (hH0.out.ext (((Ext.refl _).drew.trans h3).trans h4))
      clear hG hH0 h3 h4 lA a0' a1' a2' a3' lT t0' t1' t2' t3' HR1 HR2
      go_wp2_with fail
      go_loopw [31, 9, 10] (fun z _ _ wr => ∃ j : Nat, j ≤ K ∧ z = .int .i64 j ∧ Hid (W.grownBy wr (some b)) ∧ Hid (Has wr b (tkS C K xs cs N (i * K + j)))) (fun z _ _ _ => K - (intOf z).toNat)
      case atStart => exact ⟨0, by omega, rfl, hG4, hH4⟩
      case round =>
        clear hG4 hH4
        obtain ⟨j, hj, rfl, hG, hH⟩ := hrel
        by_cases hlt2 : j < K
        · obtain ⟨b9, o9, rfl⟩ : ∃ b9 o9, ac = some ⟨b9, o9, none⟩ := by
            rcases HC.out.2 with h | ⟨b3, o3, h, _⟩
            · omega
            · exact ⟨b3, o3, h⟩
          have hc9 := HCB.out _ rfl (by omega)
          have k0 := (Reads.oth HCW.out hG.out (by have := HWB.out; simp only at hc9; omega)).atc hlt2
          rw [gi_pvI] at k0
          have hcC := HLT.out j hlt2
          obtain ⟨c, hcd⟩ : ∃ c, cs.getD j 0 = c := ⟨_, rfl⟩
          rw [hcd] at k0 hcC
          have hin : i * C + c < n := by rw [HNN.out]; have := row_lt (C := C) hlt; omega
          have x0 := ((HK.out _ hG.out).2.2.2.2 (by omega)).atc hin
          have e0 : o0 + (i * C + c) = o0 + i * C + c := by omega
          rw [e0] at x0
          have hN2 : i * K + j < N := by have := HKK.out; rw [Nat.add_mul, Nat.one_mul] at this; omega
          have hlen : Hid ((tkS C K xs cs N (i * K + j)).length = N) := tkS_length
          have c1 := hH.out.cell (i * K + j) (by rw [hlen.out]; exact hN2)
          have f1 := hH.out.free (i * K + j)
          have HN2 := Lib.hid hN2
          have HST : Hid ((tkS C K xs cs N (i * K + j)).set (i * K + j) (gi xs (i * C + c)) = tkS C K xs cs N (i * K + (j + 1))) := by
            have h := tkS_set (C := C) (K := K) (xs := xs) (cs := cs) HN2.out
            rw [tkV_at hlt2, hcd] at h
            exact h
          have hcI : (c : Int) < (C : Int) := by omega
          have hc0 : (0 : Int) ≤ (c : Int) := by omega
          clear hin hN2 hcd e0 hc9
          go_wp2_with fail
          have G5 := Lib.hid (grownBy_set (p := ⟨b, i * K + j, none⟩) hG.out rfl (.int .i64 (gi xs (i * C + c))))
          have K5 := hH.out.set (i * K + j) (by rw [hlen.out]; exact HN2.out) (gi xs (i * C + c))
          rw [HST.out] at K5
          have HK5 := Lib.hid K5
          clear K5
          exact ⟨⟨j + 1, by omega, by simp, G5, HK5⟩, by simp [intOf]; omega⟩
        · obtain rfl : K = j := by omega
          have hH2 : Hid (Has wr b (tkS C K xs cs N ((i + 1) * K))) := by rw [Hid, Nat.add_mul, Nat.one_mul]; exact hH.out
          clear hH
          go_wp2
          exact ⟨⟨i + 1, by omega, by simp, hG, hH2⟩, by simp [intOf]; omega⟩
    · obtain rfl : R = i := by omega
      obtain ⟨KA, KR, KT, KE, _⟩ := KK
      have r0 := KR.2 0 _ rfl
      have r1 := KR.2 1 _ rfl
      have r2 := KR.2 2 _ rfl
      have r3 := KR.2 3 _ rfl
      have tR := KR.3
      have lR := KR.1
      have lT := KT.1
      have s0 := KT.2 0 _ rfl
      have s1 := KT.2 1 _ rfl
      have s2 := KT.2 2 _ rfl
      have s3 := KT.2 3 _ rfl
      have hwb := HWB.out
      have hltb := hH.out.lt
      have hH9 : Hid (Has wr b (tkL C K xs cs R)) := by rw [HTL.out, ← HN.out]; rw [HN.out]; have := hH.out; rwa [HN.out] at this
      have HKE := Lib.hid KE
      clear KA KR KT KE hH
      go_wp2
      refine bodyPost_ret (v := .agg #[.int .i64 P, .int .i64 (R : Nat), .int .i64 (K : Nat), .slice (some ⟨b, 0, none⟩) N N]) (by simp [results, Try.results104, go_sem, r0, r1, r2, r3]) rfl ⟨b, rfl, by omega, by simp; omega, ?_, ext4 HKE.out (by omega) _ _ _ _⟩
      repeat with_reducible (first | exact hH9.out | refine Has.setOther ?_ (by simp <;> omega) _)
end Go.Proofs.Ytapaopapgnfdkaa
