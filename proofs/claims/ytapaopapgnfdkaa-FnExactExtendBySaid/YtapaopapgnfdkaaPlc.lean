/-
  One algebra's brackets laid into another's table: both texts.
-/
import Derived.Test.YtapaopapgnfdkaaAlgOk2
import Derived.Test.YtapaopapgnfdkaaJn
import Derived.RegionTactic
namespace Go.Proofs.Ytapaopapgnfdkaa
open Go.ChangeShapes Go.WideShapes Go.ChangeAt Go.RowKit
set_option linter.unusedVariables false
set_option linter.unusedSimpArgs false

/-- Where the bracket of the elements i and j of a part begins. -/
def pcB (n off i j : Nat) : Nat := ((off + i) * n + (off + j)) * n + off
def pkTo (n off d : Nat) (xs : List Int) (i j : Nat) (L : List Int) : Nat → List Int
  | 0 => L
  | k + 1 => (pkTo n off d xs i j L k).set (pcB n off i j + k) (tb d xs i j k)
def pjTo (n off d : Nat) (xs : List Int) (i : Nat) (L : List Int) : Nat → List Int
  | 0 => L
  | j + 1 => pkTo n off d xs i j (pjTo n off d xs i L j) d
def piTo (n off d : Nat) (xs : List Int) (L : List Int) : Nat → List Int
  | 0 => L
  | i + 1 => pjTo n off d xs i (piTo n off d xs L i) d
section
variable {n off d : Nat} {xs L : List Int} {i j : Nat}
theorem pkTo_length (k : Nat) : (pkTo n off d xs i j L k).length = L.length := by
  induction k with
  | zero => rfl
  | succ k ih => rw [pkTo, List.length_set, ih]
theorem pjTo_length (j : Nat) : (pjTo n off d xs i L j).length = L.length := by
  induction j with
  | zero => rfl
  | succ j ih => rw [pjTo, pkTo_length, ih]
theorem piTo_length (i : Nat) : (piTo n off d xs L i).length = L.length := by
  induction i with
  | zero => rfl
  | succ i ih => rw [piTo, pjTo_length, ih]
theorem gi_pkTo (hl : pcB n off i j + d ≤ L.length) (k : Nat) (hk : k ≤ d) (q : Nat) : gi (pkTo n off d xs i j L k) q = if pcB n off i j ≤ q ∧ q < pcB n off i j + k then tb d xs i j (q - pcB n off i j) else gi L q := by
  induction k with
  | zero => rw [pkTo, if_neg (by omega)]
  | succ k ih =>
    rw [pkTo, gi_set _ _ _ _ (by rw [pkTo_length]; omega), ih (by omega)]
    by_cases e : q = pcB n off i j + k
    · rw [if_pos e, if_pos (by omega), e, Nat.add_sub_cancel_left]
    · rw [if_neg e]
      by_cases e2 : pcB n off i j ≤ q ∧ q < pcB n off i j + k
      · rw [if_pos e2, if_pos (by omega)]
      · rw [if_neg e2, if_neg (by omega)]
theorem pk_spl (hl : pcB n off i j + d ≤ L.length) (hr : (rowT d xs i j).length = d) : spl L (pcB n off i j) (rowT d xs i j) = pkTo n off d xs i j L d := by
  refine ext_gi (by rw [spl_length _ _ _ (by rw [hr]; exact hl), pkTo_length]) (fun q hq => ?_)
  rw [gi_spl _ _ _ (by rw [hr]; exact hl), gi_pkTo hl d (Nat.le_refl _), hr]
  by_cases e : pcB n off i j ≤ q ∧ q < pcB n off i j + d
  · rw [if_pos e, if_pos e, gi_rowT (by omega)]
  · rw [if_neg e, if_neg e]
theorem pcB_lt (hi : i < d) (hj : j < d) (hn : off + d ≤ n) : pcB n off i j + d ≤ n * n * n ∧ (off + i) * n + (off + j) < n * n ∧ pcB n off i j < n * n * n := by
  have h1 : (off + i) * n + (off + j) + 1 ≤ n * n := by
    have := Nat.mul_le_mul_right n (show off + i + 1 ≤ n by omega)
    rw [Nat.add_mul, Nat.one_mul] at this
    omega
  have h2 := Nat.mul_le_mul_right n h1
  rw [Nat.add_mul, Nat.one_mul] at h2
  unfold pcB
  exact ⟨by omega, by omega, by omega⟩
end

set_option maxRecDepth 100000 in
set_option maxHeartbeats 3200000 in
theorem place_impl (P P' : Int) (n N d np dp BL BP b p0 po off : Nat) (L xs : List Int) (w : World) (hl : Cells w BL [.int .i64 P, .int .i64 n, .slice (some ⟨b, 0, none⟩) N N]) (hp : Cells w BP [.int .i64 P', .int .i64 d, .slice (some ⟨p0, po, none⟩) np dp]) (hn : n ≤ 28) (hN : N = n * n * n) (hnp : np = d * d * d) (hdp : np ≤ dp) (hdp2 : dp ≤ maxLen) (hfd : off + d ≤ n) (hL : Has w b L) (hLl : L.length = N) (hx : Reads w (some ⟨p0, po, none⟩) np xs) (hne : BL ≠ b ∧ BP ≠ b ∧ (0 < np → p0 ≠ b)) :
    Calls Try.prog 153 #[.pointer (some ⟨BL, 0, none⟩), .pointer (some ⟨BP, 0, none⟩), .int .i64 off] w fun e w' => e = .returned (.tuple #[]) ∧ Has w' b (piTo n off d xs L d) ∧ w.grownBy w' (some b) := by
  have HBL := Lib.hid hl
  have HBP := Lib.hid hp
  have HN := Lib.hid hN
  have HNP := Lib.hid hnp
  have HDP : Hid (np ≤ dp ∧ dp ≤ maxLen) := ⟨hdp, hdp2⟩
  have HL0 : Hid (Has w b (piTo n off d xs L 0)) := hL
  have HLL := Lib.hid hLl
  have HX := Lib.hid hx
  have hc28 := cube28 hn
  rw [← hN] at hc28
  obtain ⟨n1, n2, hn3⟩ := hne
  have HNE := Lib.hid hn3
  clear hl hp hL hx hN hnp hLl hdp hdp2 hn3
  have HK : ∀ wr, w.grownBy wr (some b) → Cells wr BL [.int .i64 P, .int .i64 n, .slice (some ⟨b, 0, none⟩) N N] ∧ Cells wr BP [.int .i64 P', .int .i64 d, .slice (some ⟨p0, po, none⟩) np dp] := fun wr h => ⟨HBL.out.grown h (fun k hk => by simp at hk; omega), HBP.out.grown h (fun k hk => by simp at hk; omega)⟩
  have HKK := Lib.hid HK
  clear HK
  have lP := HBP.out.1
  have d0 := HBP.out.2 0 _ rfl
  have d1 := HBP.out.2 1 _ rfl
  go_enter Try.func153, Try.ntmps153
  go_wp2_with fail
  clear lP d0 d1
  go_loopw [13, 6, 7] (fun z _ _ wr => ∃ i : Nat, i ≤ d ∧ z = .int .i64 i ∧ Hid (w.grownBy wr (some b)) ∧ Hid (Has wr b (piTo n off d xs L i))) (fun z _ _ _ => d - (intOf z).toNat)
  case atStart => exact ⟨0, by omega, rfl, grownBy_refl _ _, HL0⟩
  case round =>
    clear HL0
    obtain ⟨i, hi, rfl, hG, hH⟩ := hrel
    by_cases hlt : i < d
    · have lP := (HKK.out _ hG.out).2.1
      have d1 := (HKK.out _ hG.out).2.2 1 _ rfl
      have hH0 : Hid (Has wr b (pjTo n off d xs i (piTo n off d xs L i) 0)) := hH
      clear hH
      go_wp2_with fail
      clear lP d1
      go_loopw [21, 7] (fun z _ wr => ∃ j : Nat, j ≤ d ∧ z = .int .i64 j ∧ Hid (w.grownBy wr (some b)) ∧ Hid (Has wr b (pjTo n off d xs i (piTo n off d xs L i) j))) (fun z _ _ => d - (intOf z).toNat)
      case atStart => exact ⟨0, by omega, rfl, hG, hH0⟩
      case round =>
        clear hG hH0
        obtain ⟨j, hj, rfl, hG, hH⟩ := hrel
        by_cases hlt2 : j < d
        · obtain ⟨q1, q2, q3⟩ := pcB_lt (n := n) (off := off) hlt hlt2 hfd
          rw [← HN.out] at q1 q3
          have HQ1 := Lib.hid q1
          have hlen : Hid ((pjTo n off d xs i (piTo n off d xs L i) j).length = N) := by rw [Hid, pjTo_length, piTo_length]; exact HLL.out
          have hxl : xs.length = d * d * d := by rw [HX.out.1]; exact HNP.out
          have hrt : Hid ((rowT d xs i j).length = d) := rowT_length hxl hlt hlt2
          have HSP : Hid (spl (pjTo n off d xs i (piTo n off d xs L i) j) (pcB n off i j) (rowT d xs i j) = pjTo n off d xs i (piTo n off d xs L i) (j + 1)) := by
            rw [Hid, pk_spl (by rw [hlen.out]; exact q1) hrt.out]; rfl
          have hnp0 : 0 < np := by rw [HNP.out]; exact Nat.mul_pos (Nat.mul_pos (by omega) (by omega)) (by omega)
          have EXR : Hid (Reads wr (some ⟨p0, po, none⟩) np xs) := by
            refine ⟨HX.out.1, Or.inr ?_⟩
            rcases HX.out.2 with h | ⟨b3, o3, h, hb3, hc3⟩
            · omega
            · simp only [Option.some.injEq, Addr.mk.injEq, and_true] at h
              obtain ⟨rfl, rfl⟩ := h
              refine ⟨p0, po, rfl, Nat.lt_of_lt_of_le hb3 hG.out.size, fun q hq => ?_⟩
              rw [World.cell?_of_block (hG.out.block p0 hb3 (fun e => by injection e with e; exact HNE.out hnp0 e))]
              exact hc3 q hq
          have HB1 : Hid (∀ wx, Ext wr wx → Calls Try.prog 81 #[.pointer (some ⟨BL, 0, none⟩), .int .i64 ((off : Int) + (i : Int)), .int .i64 ((off : Int) + (j : Int))] wx fun e w' => e = .returned (.slice (some ⟨b, ((off + i) * n + (off + j)) * n, none⟩) n (N - ((off + i) * n + (off + j)) * n)) ∧ Ext wx w') := fun wx h => by
            have := bracket_impl P n BL b 0 N N (off + i) (off + j) wx ((HKK.out _ hG.out).1.ext h) hn HN.out (Nat.le_refl _) (by unfold maxLen; omega) (by omega) (by omega)
            rw [Nat.zero_add] at this
            simpa using this
          have HB2 : Hid (∀ wx, Ext wr wx → Calls Try.prog 81 #[.pointer (some ⟨BP, 0, none⟩), .int .i64 i, .int .i64 j] wx fun e w' => e = .returned (.slice (some ⟨p0, po + (i * d + j) * d, none⟩) d (dp - (i * d + j) * d)) ∧ Ext wx w') := fun wx h => bracket_impl P' d BP p0 po np dp i j wx ((HKK.out _ hG.out).2.ext h) (by omega) HNP.out HDP.out.1 HDP.out.2 hlt hlt2
          have v1 : IntKind.i64.wrap ((off : Int) + (i : Int)) = (off : Int) + (i : Int) := IntWalk.i64_in _ ⟨by omega, by omega⟩
          have v2 : IntKind.i64.wrap ((off : Int) + (j : Int)) = (off : Int) + (j : Int) := IntWalk.i64_in _ ⟨by omega, by omega⟩
          have hcap : ¬ N - ((off + i) * n + (off + j)) * n = off := by unfold pcB at q1; omega
          have hcap2 : ¬ off = N - ((off + i) * n + (off + j)) * n := fun e => hcap e.symm
          have hoff : (off : Int) ≤ (n : Int) := by omega
          have hon : ((off : Int)).toNat = off := by simp
          have hPC : Hid (((off + i) * n + (off + j)) * n + off = pcB n off i j) := rfl
          have HO : Hid (n - off = n - off ∧ d ≤ n - off) := ⟨rfl, by omega⟩
          clear q1 q2 q3 hxl
          go_wp2_with fail
          refine wp_region_held_drew (S := (fun w' => wr.grownBy w' (some b) ∧ ∀ B o, B ≠ b → B < wr.heap.size → w'.cell? ⟨B, o, none⟩ = wr.cell? ⟨B, o, none⟩)) (by kernel_rfl) keptB_drew (fun hHeld => ?_)
          refine wpAnyH_take (i := 0) (v := ?v1) rfl (by kernel_rfl) (by kernel_rfl) (by kernel_rfl) (fun _ _ _ h => h) (Or.inl ⟨by rfl, ?hy1⟩) hHeld ?rest1
          case hy1 => (intro wz hSw; (try dsimp only at hSw); go_simp; (try with_reducible rfl))
          (try simp only [Act.put, List.getElem_toArray, List.getElem_cons_succ, List.getElem_cons_zero]); (try simp only [List.setIfInBounds_toArray]); (try simp only [List.set_cons_succ]); (try simp only [List.set_cons_zero])
          refine wpAnyH_take (i := 1) (v := ?v2) rfl (by kernel_rfl) (by kernel_rfl) (by kernel_rfl) (fun _ _ _ h => h) (Or.inl ⟨by rfl, ?hy2⟩) hHeld ?rest2
          case hy2 => (intro wz hSw; (try dsimp only at hSw); go_simp; (try with_reducible rfl))
          (try simp only [Act.put, List.getElem_toArray, List.getElem_cons_succ, List.getElem_cons_zero]); (try simp only [List.setIfInBounds_toArray]); (try simp only [List.set_cons_succ]); (try simp only [List.set_cons_zero])
          refine wpAnyH_take (i := 2) (v := ?v3) rfl (by kernel_rfl) (by kernel_rfl) (by kernel_rfl) (fun _ _ _ h => h) (Or.inl ⟨by rfl, ?hy3⟩) hHeld ?rest3
          case hy3 => (intro wz hSw; (try dsimp only at hSw); go_simp; (try with_reducible rfl))
          (try simp only [Act.put, List.getElem_toArray, List.getElem_cons_succ, List.getElem_cons_zero]); (try simp only [List.setIfInBounds_toArray]); (try simp only [List.set_cons_succ]); (try simp only [List.set_cons_zero])
          refine wpAnyH_take (i := 3) (v := ?v4) rfl (by kernel_rfl) (by kernel_rfl) (by kernel_rfl) (fun _ _ _ h => h) (Or.inl ⟨by rfl, ?hy4⟩) hHeld ?rest4
          case hy4 => (intro wz hSw; (try dsimp only at hSw); go_simp; (try with_reducible rfl))
          (try simp only [Act.put, List.getElem_toArray, List.getElem_cons_succ, List.getElem_cons_zero]); (try simp only [List.setIfInBounds_toArray]); (try simp only [List.set_cons_succ]); (try simp only [List.set_cons_zero])
          refine wpAnyH_take (i := 4) (v := ?v5) rfl (by kernel_rfl) (by kernel_rfl) (by kernel_rfl) (fun _ _ _ h => h) (Or.inl ⟨by rfl, ?hy5⟩) hHeld ?rest5
          case hy5 => (intro wz hSw; (try dsimp only at hSw); go_simp; (try with_reducible rfl))
          (try simp only [Act.put, List.getElem_toArray, List.getElem_cons_succ, List.getElem_cons_zero]); (try simp only [List.setIfInBounds_toArray]); (try simp only [List.set_cons_succ]); (try simp only [List.set_cons_zero])
          refine wpAnyH_take (i := 5) (v := ?v6) rfl (by kernel_rfl) (by kernel_rfl) (by kernel_rfl) (fun _ _ _ h => h) (Or.inl ⟨by rfl, ?hy6⟩) hHeld ?rest6
          case hy6 => (intro wz hSw; (try dsimp only at hSw); go_simp; (try with_reducible rfl))
          (try simp only [Act.put, List.getElem_toArray, List.getElem_cons_succ, List.getElem_cons_zero]); (try simp only [List.setIfInBounds_toArray]); (try simp only [List.set_cons_succ]); (try simp only [List.set_cons_zero])
          refine wpAnyH_take (i := 6) (v := ?v7) rfl (by kernel_rfl) (by kernel_rfl) (by kernel_rfl) (fun _ _ _ h => h) (Or.inl ⟨by rfl, ?hy7⟩) hHeld ?rest7
          case hy7 => (intro wz hSw; (try dsimp only at hSw); go_simp; (try with_reducible rfl))
          (try simp only [Act.put, List.getElem_toArray, List.getElem_cons_succ, List.getElem_cons_zero]); (try simp only [List.setIfInBounds_toArray]); (try simp only [List.set_cons_succ]); (try simp only [List.set_cons_zero])
          refine wpAnyH_take (i := 8) (v := ?v8) rfl (by kernel_rfl) (by kernel_rfl) (by kernel_rfl) (fun _ _ _ h => h) (Or.inl ⟨by rfl, ?hy8⟩) hHeld ?rest8
          case hy8 => (intro wz hSw; (try dsimp only at hSw); go_simp; (try with_reducible rfl))
          (try simp only [Act.put, List.getElem_toArray, List.getElem_cons_succ, List.getElem_cons_zero]); (try simp only [List.setIfInBounds_toArray]); (try simp only [List.set_cons_succ]); (try simp only [List.set_cons_zero])
          refine wpAnyH_take (i := 10) (v := ?v9) rfl (by kernel_rfl) (by kernel_rfl) (by kernel_rfl) (fun _ _ _ h => h) (Or.inl ⟨by rfl, ?hy9⟩) hHeld ?rest9
          case hy9 => (intro wz hSw; (try dsimp only at hSw); go_simp; (try with_reducible rfl))
          (try simp only [Act.put, List.getElem_toArray, List.getElem_cons_succ, List.getElem_cons_zero]); (try simp only [List.setIfInBounds_toArray]); (try simp only [List.set_cons_succ]); (try simp only [List.set_cons_zero])
          refine wpAnyH_take (i := 11) (v := ?v10) rfl (by kernel_rfl) (by kernel_rfl) (by kernel_rfl) (fun _ _ _ h => h) (Or.inl ⟨by rfl, ?hy10⟩) hHeld ?rest10
          case hy10 => (intro wz hSw; (try dsimp only at hSw); go_simp; (try with_reducible rfl))
          (try simp only [Act.put, List.getElem_toArray, List.getElem_cons_succ, List.getElem_cons_zero]); (try simp only [List.setIfInBounds_toArray]); (try simp only [List.set_cons_succ]); (try simp only [List.set_cons_zero])
          refine wpAnyH_take (i := 12) (v := ?v11) rfl (by kernel_rfl) (by kernel_rfl) (by kernel_rfl) (fun _ _ _ h => h) (Or.inl ⟨by rfl, ?hy11⟩) hHeld ?rest11
          case hy11 => (intro wz hSw; (try dsimp only at hSw); go_simp; (try with_reducible rfl))
          (try simp only [Act.put, List.getElem_toArray, List.getElem_cons_succ, List.getElem_cons_zero]); (try simp only [List.setIfInBounds_toArray]); (try simp only [List.set_cons_succ]); (try simp only [List.set_cons_zero])
          refine wpAnyH_ready (rs := [7]) (by kernel_rfl) (by simp) ?_
          refine AllReadyH.cons rfl (fun K' hK => ?_) AllReadyH.nil
          go_simp
          refine (HB1.out _ (Ext.refl _).drew).mono ?_
          rintro e w3 ⟨rfl, h3⟩
          dsimp only
          refine hK.out _ _ (keptB_call hHeld h3) (fun hHeld => ?_)
          clear hK
          refine wpAnyH_take (i := 9) (v := ?v12) rfl (by kernel_rfl) (by kernel_rfl) (by kernel_rfl) (fun _ _ _ h => h) (Or.inl ⟨by rfl, ?hy12⟩) hHeld ?rest12
          case hy12 => (intro wz hSw; (try dsimp only at hSw); go_simp; (try with_reducible rfl))
          (try simp only [Act.put, List.getElem_toArray, List.getElem_cons_succ, List.getElem_cons_zero]); (try simp only [List.setIfInBounds_toArray]); (try simp only [List.set_cons_succ]); (try simp only [List.set_cons_zero])
          refine wpAnyH_ready (rs := [13]) (by kernel_rfl) (by simp) ?_
          refine AllReadyH.cons rfl (fun K' hK => ?_) AllReadyH.nil
          go_simp
          refine (HB2.out _ ((Ext.refl _).drew.trans h3)).mono ?_
          rintro e w4 ⟨rfl, h4⟩
          dsimp only
          refine hK.out _ _ (keptB_call hHeld h4) (fun hHeld => ?_)
          clear hK
          refine wpAnyH_ready (rs := [14]) (by kernel_rfl) (by simp) ?_
          refine AllReadyH.cons rfl (fun K' hK => ?_) AllReadyH.nil
          have hJ := (hH.out.ext ((Ext.refl _).drew.trans h3)).ext h4
          have hrd := rowT_reads (EXR.out.ext (((Ext.refl _).drew.trans h3).trans h4)) HNP.out hlt hlt2
          refine step_copyM rfl (.tmp 33) (.tmp 37) rfl _ b (pcB n off i j) (n - off) (N - ((off + i) * n + (off + j)) * n - off) (some ⟨p0, po + (i * d + j) * d, none⟩) d (dp - (i * d + j) * d) rfl rfl (pjTo n off d xs i (piTo n off d xs L i) j) _ hJ hrd d (Nat.min_eq_left HO.out.2) (fun _ => rfl) (by rw [hlen.out]; exact HQ1.out) ?_
          intro w6 h6 g6
          rw [List.take_of_length_le (Nat.le_of_eq hrt.out), HSP.out] at h6
          have KK := Lib.hid h6
          have GG := Lib.hid (grownBy_trans (grownBy_ext hG.out (((Ext.refl _).drew.trans h3).trans h4)) g6)
          (try dsimp only)
          refine hK.out _ _ (keptB_grown hHeld g6) (fun hHeld => ?_)
          clear hK
          refine wpAnyH_done (by kernel_rfl) ?_ _
          clear hHeld hG hH hJ hrd h6 g6 h3 h4 hcap hcap2 hon
          go_wp2
          exact ⟨⟨j + 1, by omega, by simp, GG, KK⟩, by simp [intOf]; omega⟩
        · obtain rfl : d = j := by omega
          have hH2 : Hid (Has wr b (piTo n off d xs L (i + 1))) := hH
          clear hH
          go_wp2
          exact ⟨⟨i + 1, by omega, by simp, hG, hH2⟩, by simp [intOf]; omega⟩
    · obtain rfl : d = i := by omega
      go_wp2
      go_end0
      exact ⟨rfl, hH.out, hG.out⟩

set_option maxRecDepth 100000 in
set_option maxHeartbeats 6400000 in
theorem l2Sum_spec (P P' : Int) (da db n N a0 oa na ca b0 ob nb cb : Nat) (l l' : List Int) (w : World) (hT : Reads w (some ⟨a0, oa, none⟩) na l) (hT' : Reads w (some ⟨b0, ob, none⟩) nb l') (hna : na = da * da * da) (hnb : nb = db * db * db) (hnn : n = da + db) (hn : n ≤ 28) (hN : N = n * n * n) :
    Calls Try.prog 149 #[.agg #[.int .i64 P, .int .i64 da, .slice (some ⟨a0, oa, none⟩) na ca], .agg #[.int .i64 P', .int .i64 db, .slice (some ⟨b0, ob, none⟩) nb cb]] w fun e w' => ∃ b, e = .returned (.agg #[.int .i64 P, .int .i64 ((da : Int) + (db : Int)), .slice (some ⟨b, 0, none⟩) N N]) ∧ w.heap.size ≤ b ∧ b < w'.heap.size ∧ Has w' b (piTo n da db l' (piTo n 0 da l (List.replicate N 0) da) db) ∧ Ext w w' := by
  have HRA := Lib.hid hT
  have HRB := Lib.hid hT'
  have HAN := Lib.hid hna
  have HBN := Lib.hid hnb
  have HN := Lib.hid hN
  have hc28 := cube28 hn
  rw [← hN] at hc28
  have hdn : (da : Int) + (db : Int) = (n : Int) := by omega
  have HDN := Lib.hid hdn
  have e1 : ((da : Int) + (db : Int)) * ((da : Int) + (db : Int)) = ((n * n : Nat) : Int) := by rw [hdn]; simp
  have e2 : ((da : Int) + (db : Int)) * ((da : Int) + (db : Int)) * ((da : Int) + (db : Int)) = (N : Int) := by rw [hdn, hN]; simp
  clear hdn
  have h784 : n * n ≤ 784 := Nat.mul_le_mul hn hn
  have v8 : IntKind.i64.wrap (((da : Int) + (db : Int)) * ((da : Int) + (db : Int))) = ((da : Int) + (db : Int)) * ((da : Int) + (db : Int)) := IntWalk.i64_in _ ⟨by omega, by omega⟩
  have v9 : IntKind.i64.wrap (((da : Int) + (db : Int)) * ((da : Int) + (db : Int)) * ((da : Int) + (db : Int))) = ((da : Int) + (db : Int)) * ((da : Int) + (db : Int)) * ((da : Int) + (db : Int)) := IntWalk.i64_in _ ⟨by omega, by omega⟩
  have e3 : (((da : Int) + (db : Int)) * ((da : Int) + (db : Int)) * ((da : Int) + (db : Int))).toNat = N := by omega
  have E3 := Lib.hid e3
  have hmk := make_intsz (((da : Int) + (db : Int)) * ((da : Int) + (db : Int)) * ((da : Int) + (db : Int))) (by omega) (by omega)
  rw [e3] at hmk
  have hn1 : da + db ≤ n := by omega
  have hn2 : n ≤ da + db := by omega
  clear hT hT' hna hnb hN e1 e2 e3 hnn
  have A0 := Lib.hid (((cells_new' w #[.int .i64 P, .int .i64 da, .slice (some ⟨a0, oa, none⟩) na ca] 28 w.heap.size rfl).ext ((Ext.refl _).alloc (.cells #[.int .i64 P', .int .i64 db, .slice (some ⟨b0, ob, none⟩) nb cb] 28))).ext ((Ext.refl _).alloc (.cells #[.int .i64 0, .int .i64 0, .slice none 0 0] 28)))
  have B0 := Lib.hid ((cells_new' (w.alloc (.cells #[.int .i64 P, .int .i64 da, .slice (some ⟨a0, oa, none⟩) na ca] 28)) #[.int .i64 P', .int .i64 db, .slice (some ⟨b0, ob, none⟩) nb cb] 28 (w.heap.size + 1) (by simp)).ext ((Ext.refl _).alloc (.cells #[.int .i64 0, .int .i64 0, .slice none 0 0] 28)))
  have R0 := Lib.hid (cells_new' ((w.alloc (.cells #[.int .i64 P, .int .i64 da, .slice (some ⟨a0, oa, none⟩) na ca] 28)).alloc (.cells #[.int .i64 P', .int .i64 db, .slice (some ⟨b0, ob, none⟩) nb cb] 28)) #[.int .i64 0, .int .i64 0, .slice none 0 0] 28 (w.heap.size + 1 + 1) (by simp))
  have E0 := Lib.hid ((((Ext.refl w).alloc (.cells #[.int .i64 P, .int .i64 da, .slice (some ⟨a0, oa, none⟩) na ca] 28)).alloc (.cells #[.int .i64 P', .int .i64 db, .slice (some ⟨b0, ob, none⟩) nb cb] 28)).alloc (.cells #[.int .i64 0, .int .i64 0, .slice none 0 0] 28))
  have hsz : (((w.alloc (.cells #[.int .i64 P, .int .i64 da, .slice (some ⟨a0, oa, none⟩) na ca] 28)).alloc (.cells #[.int .i64 P', .int .i64 db, .slice (some ⟨b0, ob, none⟩) nb cb] 28)).alloc (.cells #[.int .i64 0, .int .i64 0, .slice none 0 0] 28)).heap.size = w.heap.size + 1 + 1 + 1 := by simp
  have HSZ := Lib.hid hsz
  go_enter Try.func149, Try.ntmps149
  go_upto_region 1 with fail
  clear hsz
  generalize (((w.alloc (.cells #[.int .i64 P, .int .i64 da, .slice (some ⟨a0, oa, none⟩) na ca] 28)).alloc (.cells #[.int .i64 P', .int .i64 db, .slice (some ⟨b0, ob, none⟩) nb cb] 28)).alloc (.cells #[.int .i64 0, .int .i64 0, .slice none 0 0] 28)) = W0 at *
  have lA := A0.out.1
  have a0' := A0.out.2 0 _ rfl
  have a1' := A0.out.2 1 _ rfl
  have lB := B0.out.1
  have b1' := B0.out.2 1 _ rfl
  go_upto_region 2 with fail
  go_cut [6] (fun s6 wx => ∃ TB b, s6 = .pointer (some ⟨TB, 0, none⟩) ∧ Hid (Cells wx TB [.int .i64 P, .int .i64 ((da : Int) + (db : Int)), .slice (some ⟨b, 0, none⟩) N N]) ∧ Hid (Has wx b (List.replicate N 0)) ∧ Hid (Ext W0 wx) ∧ Hid (W0.heap.size ≤ TB ∧ W0.heap.size ≤ b ∧ TB ≠ b))
  case first =>
    go_region
    all_goals (go_wp2_with fail; go_meet; first
      | exact ⟨W0.heap.size + 1, W0.heap.size, rfl, (cells_new' _ _ _ _ (by simp)).ext (Ext.refl _).drew, ((Has.new W0 (List.replicate N 0)).alloc _).ext (Ext.refl _).drew, (((Ext.refl W0).alloc _).alloc _).drew, by omega, by omega, by omega⟩
      | exact ⟨W0.heap.size, W0.heap.size + 1, rfl, ((cells_new W0 _ _).ext ((Ext.refl _).alloc _)).ext (Ext.refl _).drew, (Has.new' _ _ _ (by simp)).ext (Ext.refl _).drew, (((Ext.refl W0).alloc _).alloc _).drew, by omega, by omega, by omega⟩)
  case rest =>
    obtain ⟨TB, b, rfl, OO, HH0, EX, hTb⟩ := hcut
    have HNE : Hid (w.heap.size + 1 + 1 < b ∧ TB ≠ b ∧ w.heap.size + 1 + 1 < TB) := by have := hTb.out; have := HSZ.out; exact ⟨by omega, by omega, by omega⟩
    have AA := Lib.hid (A0.out.ext EX.out)
    have BB2 := Lib.hid (B0.out.ext EX.out)
    have RR := Lib.hid (R0.out.ext EX.out)
    have EW := Lib.hid (E0.out.trans EX.out)
    clear A0 B0 R0 E0 EX hTb lA a0' a1' lB b1' v8 v9 hmk HSZ E3
    obtain ⟨Wb, hWb⟩ : ∃ Wb : World, Wb = wc := ⟨_, rfl⟩
    subst hWb
    have GG0 : Hid (Wb.grownBy Wb (some b)) := grownBy_refl _ _
    have HH0 : Hid (Has Wb b (piTo n 0 da l (List.replicate N 0) 0)) := HH0
    go_wp2_with fail
    go_loopw [7, 8, 9] (fun z _ _ wr => ∃ i : Nat, i ≤ da ∧ z = .int .i64 i ∧ Hid (Wb.grownBy wr (some b)) ∧ Hid (Has wr b (piTo n 0 da l (List.replicate N 0) i))) (fun z _ _ _ => da - (intOf z).toNat)
    case atStart => exact ⟨0, by omega, rfl, GG0, HH0⟩
    case round =>
      clear GG0 HH0
      obtain ⟨i, hi, rfl, hG, hH⟩ := hrel
      have bac := AA.out.grown hG.out (fun z hz => by simp at hz; have := HNE.out; omega)
      have lba := bac.1
      have ba0 := bac.2 0 _ rfl
      have ba1 := bac.2 1 _ rfl
      have ba2 := bac.2 2 _ rfl
      clear bac
      have bbc := BB2.out.grown hG.out (fun z hz => by simp at hz; have := HNE.out; omega)
      have lbb := bbc.1
      have bb0 := bbc.2 0 _ rfl
      have bb1 := bbc.2 1 _ rfl
      have bb2 := bbc.2 2 _ rfl
      clear bbc
      by_cases hlt : i < da
      · have hH0 : Hid (Has wr b (pjTo n 0 da l i (piTo n 0 da l (List.replicate N 0) i) 0)) := hH
        clear hH
        go_wp2_with fail
        clear lba ba0 ba1 ba2 lbb bb0 bb1 bb2
        go_loopw [8, 9] (fun z _ wr => ∃ j : Nat, j ≤ da ∧ z = .int .i64 j ∧ Hid (Wb.grownBy wr (some b)) ∧ Hid (Has wr b (pjTo n 0 da l i (piTo n 0 da l (List.replicate N 0) i) j))) (fun z _ _ => da - (intOf z).toNat)
        case atStart => exact ⟨0, by omega, rfl, hG, hH0⟩
        case round =>
          clear hG hH0
          obtain ⟨j, hj, rfl, hG, hH⟩ := hrel
          have bac := AA.out.grown hG.out (fun z hz => by simp at hz; have := HNE.out; omega)
          have lba := bac.1
          have ba0 := bac.2 0 _ rfl
          have ba1 := bac.2 1 _ rfl
          have ba2 := bac.2 2 _ rfl
          clear bac
          have bbc := BB2.out.grown hG.out (fun z hz => by simp at hz; have := HNE.out; omega)
          have lbb := bbc.1
          have bb0 := bbc.2 0 _ rfl
          have bb1 := bbc.2 1 _ rfl
          have bb2 := bbc.2 2 _ rfl
          clear bbc
          by_cases hlt2 : j < da
          · have hH0 : Hid (Has wr b (pkTo n 0 da l i j (pjTo n 0 da l i (piTo n 0 da l (List.replicate N 0) i) j) 0)) := hH
            clear hH
            go_wp2_with fail
            clear lba ba0 ba1 ba2 lbb bb0 bb1 bb2
            go_loopw [9] (fun z wr => ∃ k : Nat, k ≤ da ∧ z = .int .i64 k ∧ Hid (Wb.grownBy wr (some b)) ∧ Hid (Has wr b (pkTo n 0 da l i j (pjTo n 0 da l i (piTo n 0 da l (List.replicate N 0) i) j) k))) (fun z _ => da - (intOf z).toNat)
            case atStart => exact ⟨0, by omega, rfl, hG, hH0⟩
            case round =>
              clear hG hH0
              obtain ⟨k, hk, rfl, hG, hH⟩ := hrel
              have bac := AA.out.grown hG.out (fun z hz => by simp at hz; have := HNE.out; omega)
              have lba := bac.1
              have ba0 := bac.2 0 _ rfl
              have ba1 := bac.2 1 _ rfl
              have ba2 := bac.2 2 _ rfl
              clear bac
              have bbc := BB2.out.grown hG.out (fun z hz => by simp at hz; have := HNE.out; omega)
              have lbb := bbc.1
              have bb0 := bbc.2 0 _ rfl
              have bb1 := bbc.2 1 _ rfl
              have bb2 := bbc.2 2 _ rfl
              clear bbc
              by_cases hlt3 : k < da
              · skip
                have boc := OO.out.grown hG.out (fun z hz => by simp at hz; have := HNE.out; omega)
                have lbo := boc.1
                have bo0 := boc.2 0 _ rfl
                have bo1 := boc.2 1 _ rfl
                have bo2 := boc.2 2 _ rfl
                clear boc
                have nA : w.heap.size ≠ b := by have := HNE.out; omega
                have nB : w.heap.size + 1 ≠ b := by have := HNE.out; omega
                have nO : TB ≠ b := by have := HNE.out; omega
                go_wp2_with fail
                obtain ⟨q1, q2, q3⟩ := pcB_lt (n := n) (off := 0) hlt hlt2 (show 0 + da ≤ n by omega)
                rw [← HN.out] at q1 q3
                have hlen : Hid ((pkTo n 0 da l i j (pjTo n 0 da l i (piTo n 0 da l (List.replicate N 0) i) j) k).length = N) := by rw [Hid, pkTo_length, pjTo_length, piTo_length]; exact (by simp : (List.replicate N (0 : Int)).length = N)
                have e1 : (i : Int) * ((da : Int) + (db : Int)) = ((i * n : Nat) : Int) := by rw [HDN.out]; simp
                have e2 : ((i : Int) * ((da : Int) + (db : Int)) + (j : Int)) * ((da : Int) + (db : Int)) = (((i * n + j) * n : Nat) : Int) := by rw [HDN.out]; simp
                have e3 : pcB n 0 i j = (i * n + j) * n := by simp [pcB]
                have e4 : i * n ≤ 784 := Nat.mul_le_mul (show i ≤ 28 by omega) hn
                have q4 : pcB n 0 i j + k < N := by omega
                have v1 : IntKind.i64.wrap ((i : Int) * ((da : Int) + (db : Int))) = (i : Int) * ((da : Int) + (db : Int)) := IntWalk.i64_in _ ⟨by omega, by omega⟩
                have v2 : IntKind.i64.wrap ((i : Int) * ((da : Int) + (db : Int)) + (j : Int)) = (i : Int) * ((da : Int) + (db : Int)) + (j : Int) := IntWalk.i64_in _ ⟨by omega, by omega⟩
                have v3 : IntKind.i64.wrap (((i : Int) * ((da : Int) + (db : Int)) + (j : Int)) * ((da : Int) + (db : Int))) = ((i : Int) * ((da : Int) + (db : Int)) + (j : Int)) * ((da : Int) + (db : Int)) := IntWalk.i64_in _ ⟨by omega, by omega⟩
                have v4 : IntKind.i64.wrap (((i : Int) * ((da : Int) + (db : Int)) + (j : Int)) * ((da : Int) + (db : Int)) + (k : Int)) = ((i : Int) * ((da : Int) + (db : Int)) + (j : Int)) * ((da : Int) + (db : Int)) + (k : Int) := IntWalk.i64_in _ ⟨by omega, by omega⟩
                have v5 : (((i : Int) * ((da : Int) + (db : Int)) + (j : Int)) * ((da : Int) + (db : Int)) + (k : Int)).toNat = pcB n 0 i j + k := by omega
                have v6 : 0 ≤ ((i : Int) * ((da : Int) + (db : Int)) + (j : Int)) * ((da : Int) + (db : Int)) + (k : Int) := by omega
                have v7 : ((i : Int) * ((da : Int) + (db : Int)) + (j : Int)) * ((da : Int) + (db : Int)) + (k : Int) < (N : Int) := by omega
                have HQ := Lib.hid q4
                clear q1 q2 q3 q4 e1 e2 e3 e4
                refine wp_region_held_drew (S := (fun w' => wr.grownBy w' (some b) ∧ ∀ B o, B ≠ b → B < wr.heap.size → w'.cell? ⟨B, o, none⟩ = wr.cell? ⟨B, o, none⟩)) (by kernel_rfl) keptB_drew (fun hHeld => ?_)
                refine wpAnyH_take (i := 0) (v := ?v13) rfl (by kernel_rfl) (by kernel_rfl) (by kernel_rfl) (fun _ _ _ h => h) (Or.inl ⟨by rfl, ?hy13⟩) hHeld ?rest13
                case hy13 => (intro wz hSw; (try dsimp only at hSw); go_simp; (try with_reducible rfl))
                (try simp only [Act.put, List.getElem_toArray, List.getElem_cons_succ, List.getElem_cons_zero]); (try simp only [List.setIfInBounds_toArray]); (try simp only [List.set_cons_succ]); (try simp only [List.set_cons_zero])
                refine wpAnyH_take (i := 1) (v := ?v14) rfl (by kernel_rfl) (by kernel_rfl) (by kernel_rfl) (fun _ _ _ h => h) (Or.inl ⟨by rfl, ?hy14⟩) hHeld ?rest14
                case hy14 => (intro wz hSw; (try dsimp only at hSw); go_simp; (try with_reducible rfl))
                (try simp only [Act.put, List.getElem_toArray, List.getElem_cons_succ, List.getElem_cons_zero]); (try simp only [List.setIfInBounds_toArray]); (try simp only [List.set_cons_succ]); (try simp only [List.set_cons_zero])
                refine wpAnyH_take (i := 2) (v := ?v15) rfl (by kernel_rfl) (by kernel_rfl) (by kernel_rfl) (fun _ _ _ h => h) (Or.inl ⟨by rfl, ?hy15⟩) hHeld ?rest15
                case hy15 => (intro wz hSw; (try dsimp only at hSw); go_simp; (try with_reducible rfl))
                (try simp only [Act.put, List.getElem_toArray, List.getElem_cons_succ, List.getElem_cons_zero]); (try simp only [List.setIfInBounds_toArray]); (try simp only [List.set_cons_succ]); (try simp only [List.set_cons_zero])
                refine wpAnyH_take (i := 3) (v := ?v16) rfl (by kernel_rfl) (by kernel_rfl) (by kernel_rfl) (fun _ _ _ h => h) (Or.inl ⟨by rfl, ?hy16⟩) hHeld ?rest16
                case hy16 => (intro wz hSw; (try dsimp only at hSw); go_simp; (try with_reducible rfl))
                (try simp only [Act.put, List.getElem_toArray, List.getElem_cons_succ, List.getElem_cons_zero]); (try simp only [List.setIfInBounds_toArray]); (try simp only [List.set_cons_succ]); (try simp only [List.set_cons_zero])
                refine wpAnyH_take (i := 4) (v := ?v17) rfl (by kernel_rfl) (by kernel_rfl) (by kernel_rfl) (fun _ _ _ h => h) (Or.inl ⟨by rfl, ?hy17⟩) hHeld ?rest17
                case hy17 => (intro wz hSw; (try dsimp only at hSw); go_simp; (try with_reducible rfl))
                (try simp only [Act.put, List.getElem_toArray, List.getElem_cons_succ, List.getElem_cons_zero]); (try simp only [List.setIfInBounds_toArray]); (try simp only [List.set_cons_succ]); (try simp only [List.set_cons_zero])
                refine wpAnyH_take (i := 5) (v := ?v18) rfl (by kernel_rfl) (by kernel_rfl) (by kernel_rfl) (fun _ _ _ h => h) (Or.inl ⟨by rfl, ?hy18⟩) hHeld ?rest18
                case hy18 => (intro wz hSw; (try dsimp only at hSw); go_simp; (try with_reducible rfl))
                (try simp only [Act.put, List.getElem_toArray, List.getElem_cons_succ, List.getElem_cons_zero]); (try simp only [List.setIfInBounds_toArray]); (try simp only [List.set_cons_succ]); (try simp only [List.set_cons_zero])
                refine wpAnyH_take (i := 6) (v := ?v19) rfl (by kernel_rfl) (by kernel_rfl) (by kernel_rfl) (fun _ _ _ h => h) (Or.inl ⟨by rfl, ?hy19⟩) hHeld ?rest19
                case hy19 => (intro wz hSw; (try dsimp only at hSw); go_simp; (try with_reducible rfl))
                (try simp only [Act.put, List.getElem_toArray, List.getElem_cons_succ, List.getElem_cons_zero]); (try simp only [List.setIfInBounds_toArray]); (try simp only [List.set_cons_succ]); (try simp only [List.set_cons_zero])
                refine wpAnyH_take (i := 7) (v := ?v20) rfl (by kernel_rfl) (by kernel_rfl) (by kernel_rfl) (fun _ _ _ h => h) (Or.inl ⟨by rfl, ?hy20⟩) hHeld ?rest20
                case hy20 => (intro wz hSw; (try dsimp only at hSw); go_simp; (try with_reducible rfl))
                (try simp only [Act.put, List.getElem_toArray, List.getElem_cons_succ, List.getElem_cons_zero]); (try simp only [List.setIfInBounds_toArray]); (try simp only [List.set_cons_succ]); (try simp only [List.set_cons_zero])
                refine wpAnyH_take (i := 8) (v := ?v21) rfl (by kernel_rfl) (by kernel_rfl) (by kernel_rfl) (fun _ _ _ h => h) (Or.inl ⟨by rfl, ?hy21⟩) hHeld ?rest21
                case hy21 => (intro wz hSw; (try dsimp only at hSw); go_simp; (try with_reducible rfl))
                (try simp only [Act.put, List.getElem_toArray, List.getElem_cons_succ, List.getElem_cons_zero]); (try simp only [List.setIfInBounds_toArray]); (try simp only [List.set_cons_succ]); (try simp only [List.set_cons_zero])
                refine wpAnyH_take (i := 9) (v := ?v22) rfl (by kernel_rfl) (by kernel_rfl) (by kernel_rfl) (fun _ _ _ h => h) (Or.inl ⟨by rfl, ?hy22⟩) hHeld ?rest22
                case hy22 => (intro wz hSw; (try dsimp only at hSw); go_simp; (try with_reducible rfl))
                (try simp only [Act.put, List.getElem_toArray, List.getElem_cons_succ, List.getElem_cons_zero]); (try simp only [List.setIfInBounds_toArray]); (try simp only [List.set_cons_succ]); (try simp only [List.set_cons_zero])
                refine wpAnyH_take (i := 10) (v := ?v23) rfl (by kernel_rfl) (by kernel_rfl) (by kernel_rfl) (fun _ _ _ h => h) (Or.inl ⟨by rfl, ?hy23⟩) hHeld ?rest23
                case hy23 => (intro wz hSw; (try dsimp only at hSw); go_simp; (try with_reducible rfl))
                (try simp only [Act.put, List.getElem_toArray, List.getElem_cons_succ, List.getElem_cons_zero]); (try simp only [List.setIfInBounds_toArray]); (try simp only [List.set_cons_succ]); (try simp only [List.set_cons_zero])
                refine wpAnyH_take (i := 11) (v := ?v24) rfl (by kernel_rfl) (by kernel_rfl) (by kernel_rfl) (fun _ _ _ h => h) (Or.inl ⟨by rfl, ?hy24⟩) hHeld ?rest24
                case hy24 => (intro wz hSw; (try dsimp only at hSw); go_simp; (try with_reducible rfl))
                (try simp only [Act.put, List.getElem_toArray, List.getElem_cons_succ, List.getElem_cons_zero]); (try simp only [List.setIfInBounds_toArray]); (try simp only [List.set_cons_succ]); (try simp only [List.set_cons_zero])
                refine wpAnyH_take (i := 12) (v := ?v25) rfl (by kernel_rfl) (by kernel_rfl) (by kernel_rfl) (fun _ _ _ h => h) (Or.inl ⟨by rfl, ?hy25⟩) hHeld ?rest25
                case hy25 => (intro wz hSw; (try dsimp only at hSw); go_simp; (try with_reducible rfl))
                (try simp only [Act.put, List.getElem_toArray, List.getElem_cons_succ, List.getElem_cons_zero]); (try simp only [List.setIfInBounds_toArray]); (try simp only [List.set_cons_succ]); (try simp only [List.set_cons_zero])
                refine wpAnyH_take (i := 13) (v := ?v26) rfl (by kernel_rfl) (by kernel_rfl) (by kernel_rfl) (fun _ _ _ h => h) (Or.inl ⟨by rfl, ?hy26⟩) hHeld ?rest26
                case hy26 => (intro wz hSw; (try dsimp only at hSw); go_simp; (try with_reducible rfl))
                (try simp only [Act.put, List.getElem_toArray, List.getElem_cons_succ, List.getElem_cons_zero]); (try simp only [List.setIfInBounds_toArray]); (try simp only [List.set_cons_succ]); (try simp only [List.set_cons_zero])
                refine wpAnyH_take (i := 14) (v := ?v27) rfl (by kernel_rfl) (by kernel_rfl) (by kernel_rfl) (fun _ _ _ h => h) (Or.inl ⟨by rfl, ?hy27⟩) hHeld ?rest27
                case hy27 => (intro wz hSw; (try dsimp only at hSw); go_simp; (try with_reducible rfl))
                (try simp only [Act.put, List.getElem_toArray, List.getElem_cons_succ, List.getElem_cons_zero]); (try simp only [List.setIfInBounds_toArray]); (try simp only [List.set_cons_succ]); (try simp only [List.set_cons_zero])
                refine wpAnyH_ready (rs := [15]) (by kernel_rfl) (by simp) ?_
                refine AllReadyH.cons rfl (fun K' hK => ?_) AllReadyH.nil
                go_simp
                refine (l2Get_spec P da a0 oa na ca i j k l _ (HRA.out.ext ((EW.out.grown hG.out (fun z hz => by simp at hz; have := HNE.out; omega)).trans (Ext.refl _).drew)) (by omega) HAN.out hlt hlt2 hlt3).mono ?_
                rintro e w4 ⟨rfl, hE4⟩
                dsimp only
                refine hK.out _ _ (keptB_call hHeld hE4) (fun hHeld => ?_)
                clear hK
                refine wpAnyH_take (i := 16) (v := ?v28) rfl (by kernel_rfl) (by kernel_rfl) (by kernel_rfl) (fun _ _ _ h => h) (Or.inl ⟨by rfl, ?hy28⟩) hHeld ?rest28
                case hy28 => (intro wz hSw; (try dsimp only at hSw); go_simp; (try with_reducible rfl))
                (try simp only [Act.put, List.getElem_toArray, List.getElem_cons_succ, List.getElem_cons_zero]); (try simp only [List.setIfInBounds_toArray]); (try simp only [List.set_cons_succ]); (try simp only [List.set_cons_zero])
                have c1 : w4.cell? ⟨b, pcB n 0 i j + k, none⟩ = _ := (hH.out.ext ((Ext.refl _).drew.trans hE4)).cell _ (by rw [hlen.out]; exact HQ.out)
                have f1 : w4.frozen? ⟨b, pcB n 0 i j + k, none⟩ = false := (hH.out.ext ((Ext.refl _).drew.trans hE4)).free _
                refine wpAnyH_ready (rs := [17]) (by kernel_rfl) (by simp) ?_
                refine AllReadyH.cons rfl (fun K' hK => ?_) AllReadyH.nil
                go_simp
                refine hK.out _ _ (keptB_set hHeld _ _) (fun hHeld => ?_)
                clear hK
                refine wpAnyH_done (by kernel_rfl) ?_ _
                have N1 : Hid (Has (w4.setCell ⟨b, pcB n 0 i j + k, none⟩ (.int .i64 (tb da l i j k))) b (pkTo n 0 da l i j (pjTo n 0 da l i (piTo n 0 da l (List.replicate N 0) i) j) (k + 1))) := (hH.out.ext ((Ext.refl _).drew.trans hE4)).set _ (by rw [hlen.out]; exact HQ.out) _
                have N2 : Hid (Wb.grownBy (w4.setCell ⟨b, pcB n 0 i j + k, none⟩ (.int .i64 (tb da l i j k))) (some b)) := grownBy_set (p := ⟨b, pcB n 0 i j + k, none⟩) (grownBy_ext hG.out ((Ext.refl _).drew.trans hE4)) rfl _
                clear hHeld hG hH c1 f1 hE4 v1 v2 v3 v4 v5 v6 v7 lba ba0 ba1 ba2 lbb bb0 bb1 bb2 lbo bo0 bo1 bo2
                go_wp2
                exact ⟨⟨k + 1, by omega, by simp, N2, N1⟩, by simp [intOf]; omega⟩
              · obtain rfl : da = k := by omega
                have hH2 : Hid (Has wr b (pjTo n 0 da l i (piTo n 0 da l (List.replicate N 0) i) (j + 1))) := hH
                clear hH
                go_wp2
                exact ⟨⟨j + 1, by omega, by simp, hG, hH2⟩, by simp [intOf]; omega⟩
          · obtain rfl : da = j := by omega
            have hH2 : Hid (Has wr b (piTo n 0 da l (List.replicate N 0) (i + 1))) := hH
            clear hH
            go_wp2
            exact ⟨⟨i + 1, by omega, by simp, hG, hH2⟩, by simp [intOf]; omega⟩
      · obtain rfl : da = i := by omega
        have HH0 : Hid (Has wr b (piTo n da db l' (piTo n 0 da l (List.replicate N 0) da) 0)) := hH
        have GG0 := hG
        clear hH hG
        go_wp2_with fail
        clear lba ba0 ba1 ba2 lbb bb0 bb1 bb2
        go_loopw [10, 11, 12] (fun z _ _ wr => ∃ i : Nat, i ≤ db ∧ z = .int .i64 i ∧ Hid (Wb.grownBy wr (some b)) ∧ Hid (Has wr b (piTo n da db l' (piTo n 0 da l (List.replicate N 0) da) i))) (fun z _ _ _ => db - (intOf z).toNat)
        case atStart => exact ⟨0, by omega, rfl, GG0, HH0⟩
        case round =>
          clear GG0 HH0
          obtain ⟨i, hi, rfl, hG, hH⟩ := hrel
          have bac := AA.out.grown hG.out (fun z hz => by simp at hz; have := HNE.out; omega)
          have lba := bac.1
          have ba0 := bac.2 0 _ rfl
          have ba1 := bac.2 1 _ rfl
          have ba2 := bac.2 2 _ rfl
          clear bac
          have bbc := BB2.out.grown hG.out (fun z hz => by simp at hz; have := HNE.out; omega)
          have lbb := bbc.1
          have bb0 := bbc.2 0 _ rfl
          have bb1 := bbc.2 1 _ rfl
          have bb2 := bbc.2 2 _ rfl
          clear bbc
          by_cases hlt : i < db
          · have hH0 : Hid (Has wr b (pjTo n da db l' i (piTo n da db l' (piTo n 0 da l (List.replicate N 0) da) i) 0)) := hH
            clear hH
            go_wp2_with fail
            clear lba ba0 ba1 ba2 lbb bb0 bb1 bb2
            go_loopw [11, 12] (fun z _ wr => ∃ j : Nat, j ≤ db ∧ z = .int .i64 j ∧ Hid (Wb.grownBy wr (some b)) ∧ Hid (Has wr b (pjTo n da db l' i (piTo n da db l' (piTo n 0 da l (List.replicate N 0) da) i) j))) (fun z _ _ => db - (intOf z).toNat)
            case atStart => exact ⟨0, by omega, rfl, hG, hH0⟩
            case round =>
              clear hG hH0
              obtain ⟨j, hj, rfl, hG, hH⟩ := hrel
              have bac := AA.out.grown hG.out (fun z hz => by simp at hz; have := HNE.out; omega)
              have lba := bac.1
              have ba0 := bac.2 0 _ rfl
              have ba1 := bac.2 1 _ rfl
              have ba2 := bac.2 2 _ rfl
              clear bac
              have bbc := BB2.out.grown hG.out (fun z hz => by simp at hz; have := HNE.out; omega)
              have lbb := bbc.1
              have bb0 := bbc.2 0 _ rfl
              have bb1 := bbc.2 1 _ rfl
              have bb2 := bbc.2 2 _ rfl
              clear bbc
              by_cases hlt2 : j < db
              · have hH0 : Hid (Has wr b (pkTo n da db l' i j (pjTo n da db l' i (piTo n da db l' (piTo n 0 da l (List.replicate N 0) da) i) j) 0)) := hH
                clear hH
                go_wp2_with fail
                clear lba ba0 ba1 ba2 lbb bb0 bb1 bb2
                go_loopw [12] (fun z wr => ∃ k : Nat, k ≤ db ∧ z = .int .i64 k ∧ Hid (Wb.grownBy wr (some b)) ∧ Hid (Has wr b (pkTo n da db l' i j (pjTo n da db l' i (piTo n da db l' (piTo n 0 da l (List.replicate N 0) da) i) j) k))) (fun z _ => db - (intOf z).toNat)
                case atStart => exact ⟨0, by omega, rfl, hG, hH0⟩
                case round =>
                  clear hG hH0
                  obtain ⟨k, hk, rfl, hG, hH⟩ := hrel
                  have bac := AA.out.grown hG.out (fun z hz => by simp at hz; have := HNE.out; omega)
                  have lba := bac.1
                  have ba0 := bac.2 0 _ rfl
                  have ba1 := bac.2 1 _ rfl
                  have ba2 := bac.2 2 _ rfl
                  clear bac
                  have bbc := BB2.out.grown hG.out (fun z hz => by simp at hz; have := HNE.out; omega)
                  have lbb := bbc.1
                  have bb0 := bbc.2 0 _ rfl
                  have bb1 := bbc.2 1 _ rfl
                  have bb2 := bbc.2 2 _ rfl
                  clear bbc
                  by_cases hlt3 : k < db
                  · skip
                    have boc := OO.out.grown hG.out (fun z hz => by simp at hz; have := HNE.out; omega)
                    have lbo := boc.1
                    have bo0 := boc.2 0 _ rfl
                    have bo1 := boc.2 1 _ rfl
                    have bo2 := boc.2 2 _ rfl
                    clear boc
                    have nA : w.heap.size ≠ b := by have := HNE.out; omega
                    have nB : w.heap.size + 1 ≠ b := by have := HNE.out; omega
                    have nO : TB ≠ b := by have := HNE.out; omega
                    go_wp2_with fail
                    obtain ⟨q1, q2, q3⟩ := pcB_lt (n := n) (off := da) hlt hlt2 (show da + db ≤ n by omega)
                    rw [← HN.out] at q1 q3
                    have hlen : Hid ((pkTo n da db l' i j (pjTo n da db l' i (piTo n da db l' (piTo n 0 da l (List.replicate N 0) da) i) j) k).length = N) := by rw [Hid, pkTo_length, pjTo_length, piTo_length]; exact (by rw [piTo_length]; simp)
                    have e1 : ((da : Int) + (i : Int)) * ((da : Int) + (db : Int)) = (((da + i) * n : Nat) : Int) := by rw [HDN.out]; simp
                    have e2 : (((da : Int) + (i : Int)) * ((da : Int) + (db : Int)) + (da : Int) + (j : Int)) * ((da : Int) + (db : Int)) = ((((da + i) * n + da + j) * n : Nat) : Int) := by rw [HDN.out]; simp
                    have e3 : pcB n da i j = ((da + i) * n + da + j) * n + da := by simp [pcB, Nat.add_assoc]
                    have e4 : (da + i) * n ≤ 784 := Nat.mul_le_mul (show da + i ≤ 28 by omega) hn
                    have q4 : pcB n da i j + k < N := by omega
                    have v0 : IntKind.i64.wrap ((da : Int) + (i : Int)) = (da : Int) + (i : Int) := IntWalk.i64_in _ ⟨by omega, by omega⟩
                    have v1 : IntKind.i64.wrap (((da : Int) + (i : Int)) * ((da : Int) + (db : Int))) = ((da : Int) + (i : Int)) * ((da : Int) + (db : Int)) := IntWalk.i64_in _ ⟨by omega, by omega⟩
                    have v2 : IntKind.i64.wrap (((da : Int) + (i : Int)) * ((da : Int) + (db : Int)) + (da : Int)) = ((da : Int) + (i : Int)) * ((da : Int) + (db : Int)) + (da : Int) := IntWalk.i64_in _ ⟨by omega, by omega⟩
                    have v3 : IntKind.i64.wrap (((da : Int) + (i : Int)) * ((da : Int) + (db : Int)) + (da : Int) + (j : Int)) = ((da : Int) + (i : Int)) * ((da : Int) + (db : Int)) + (da : Int) + (j : Int) := IntWalk.i64_in _ ⟨by omega, by omega⟩
                    have v4 : IntKind.i64.wrap ((((da : Int) + (i : Int)) * ((da : Int) + (db : Int)) + (da : Int) + (j : Int)) * ((da : Int) + (db : Int))) = (((da : Int) + (i : Int)) * ((da : Int) + (db : Int)) + (da : Int) + (j : Int)) * ((da : Int) + (db : Int)) := IntWalk.i64_in _ ⟨by omega, by omega⟩
                    have v4' : IntKind.i64.wrap ((((da : Int) + (i : Int)) * ((da : Int) + (db : Int)) + (da : Int) + (j : Int)) * ((da : Int) + (db : Int)) + (da : Int)) = (((da : Int) + (i : Int)) * ((da : Int) + (db : Int)) + (da : Int) + (j : Int)) * ((da : Int) + (db : Int)) + (da : Int) := IntWalk.i64_in _ ⟨by omega, by omega⟩
                    have v4'' : IntKind.i64.wrap ((((da : Int) + (i : Int)) * ((da : Int) + (db : Int)) + (da : Int) + (j : Int)) * ((da : Int) + (db : Int)) + (da : Int) + (k : Int)) = (((da : Int) + (i : Int)) * ((da : Int) + (db : Int)) + (da : Int) + (j : Int)) * ((da : Int) + (db : Int)) + (da : Int) + (k : Int) := IntWalk.i64_in _ ⟨by omega, by omega⟩
                    have v5 : ((((da : Int) + (i : Int)) * ((da : Int) + (db : Int)) + (da : Int) + (j : Int)) * ((da : Int) + (db : Int)) + (da : Int) + (k : Int)).toNat = pcB n da i j + k := by omega
                    have v6 : 0 ≤ (((da : Int) + (i : Int)) * ((da : Int) + (db : Int)) + (da : Int) + (j : Int)) * ((da : Int) + (db : Int)) + (da : Int) + (k : Int) := by omega
                    have v7 : (((da : Int) + (i : Int)) * ((da : Int) + (db : Int)) + (da : Int) + (j : Int)) * ((da : Int) + (db : Int)) + (da : Int) + (k : Int) < (N : Int) := by omega
                    have HQ := Lib.hid q4
                    clear q1 q2 q3 q4 e1 e2 e3 e4
                    refine wp_region_held_drew (S := (fun w' => wr.grownBy w' (some b) ∧ ∀ B o, B ≠ b → B < wr.heap.size → w'.cell? ⟨B, o, none⟩ = wr.cell? ⟨B, o, none⟩)) (by kernel_rfl) keptB_drew (fun hHeld => ?_)
                    refine wpAnyH_take (i := 0) (v := ?v29) rfl (by kernel_rfl) (by kernel_rfl) (by kernel_rfl) (fun _ _ _ h => h) (Or.inl ⟨by rfl, ?hy29⟩) hHeld ?rest29
                    case hy29 => (intro wz hSw; (try dsimp only at hSw); go_simp; (try with_reducible rfl))
                    (try simp only [Act.put, List.getElem_toArray, List.getElem_cons_succ, List.getElem_cons_zero]); (try simp only [List.setIfInBounds_toArray]); (try simp only [List.set_cons_succ]); (try simp only [List.set_cons_zero])
                    refine wpAnyH_take (i := 1) (v := ?v30) rfl (by kernel_rfl) (by kernel_rfl) (by kernel_rfl) (fun _ _ _ h => h) (Or.inl ⟨by rfl, ?hy30⟩) hHeld ?rest30
                    case hy30 => (intro wz hSw; (try dsimp only at hSw); go_simp; (try with_reducible rfl))
                    (try simp only [Act.put, List.getElem_toArray, List.getElem_cons_succ, List.getElem_cons_zero]); (try simp only [List.setIfInBounds_toArray]); (try simp only [List.set_cons_succ]); (try simp only [List.set_cons_zero])
                    refine wpAnyH_take (i := 2) (v := ?v31) rfl (by kernel_rfl) (by kernel_rfl) (by kernel_rfl) (fun _ _ _ h => h) (Or.inl ⟨by rfl, ?hy31⟩) hHeld ?rest31
                    case hy31 => (intro wz hSw; (try dsimp only at hSw); go_simp; (try with_reducible rfl))
                    (try simp only [Act.put, List.getElem_toArray, List.getElem_cons_succ, List.getElem_cons_zero]); (try simp only [List.setIfInBounds_toArray]); (try simp only [List.set_cons_succ]); (try simp only [List.set_cons_zero])
                    refine wpAnyH_take (i := 3) (v := ?v32) rfl (by kernel_rfl) (by kernel_rfl) (by kernel_rfl) (fun _ _ _ h => h) (Or.inl ⟨by rfl, ?hy32⟩) hHeld ?rest32
                    case hy32 => (intro wz hSw; (try dsimp only at hSw); go_simp; (try with_reducible rfl))
                    (try simp only [Act.put, List.getElem_toArray, List.getElem_cons_succ, List.getElem_cons_zero]); (try simp only [List.setIfInBounds_toArray]); (try simp only [List.set_cons_succ]); (try simp only [List.set_cons_zero])
                    refine wpAnyH_take (i := 4) (v := ?v33) rfl (by kernel_rfl) (by kernel_rfl) (by kernel_rfl) (fun _ _ _ h => h) (Or.inl ⟨by rfl, ?hy33⟩) hHeld ?rest33
                    case hy33 => (intro wz hSw; (try dsimp only at hSw); go_simp; (try with_reducible rfl))
                    (try simp only [Act.put, List.getElem_toArray, List.getElem_cons_succ, List.getElem_cons_zero]); (try simp only [List.setIfInBounds_toArray]); (try simp only [List.set_cons_succ]); (try simp only [List.set_cons_zero])
                    refine wpAnyH_take (i := 5) (v := ?v34) rfl (by kernel_rfl) (by kernel_rfl) (by kernel_rfl) (fun _ _ _ h => h) (Or.inl ⟨by rfl, ?hy34⟩) hHeld ?rest34
                    case hy34 => (intro wz hSw; (try dsimp only at hSw); go_simp; (try with_reducible rfl))
                    (try simp only [Act.put, List.getElem_toArray, List.getElem_cons_succ, List.getElem_cons_zero]); (try simp only [List.setIfInBounds_toArray]); (try simp only [List.set_cons_succ]); (try simp only [List.set_cons_zero])
                    refine wpAnyH_take (i := 6) (v := ?v35) rfl (by kernel_rfl) (by kernel_rfl) (by kernel_rfl) (fun _ _ _ h => h) (Or.inl ⟨by rfl, ?hy35⟩) hHeld ?rest35
                    case hy35 => (intro wz hSw; (try dsimp only at hSw); go_simp; (try with_reducible rfl))
                    (try simp only [Act.put, List.getElem_toArray, List.getElem_cons_succ, List.getElem_cons_zero]); (try simp only [List.setIfInBounds_toArray]); (try simp only [List.set_cons_succ]); (try simp only [List.set_cons_zero])
                    refine wpAnyH_take (i := 7) (v := ?v36) rfl (by kernel_rfl) (by kernel_rfl) (by kernel_rfl) (fun _ _ _ h => h) (Or.inl ⟨by rfl, ?hy36⟩) hHeld ?rest36
                    case hy36 => (intro wz hSw; (try dsimp only at hSw); go_simp; (try with_reducible rfl))
                    (try simp only [Act.put, List.getElem_toArray, List.getElem_cons_succ, List.getElem_cons_zero]); (try simp only [List.setIfInBounds_toArray]); (try simp only [List.set_cons_succ]); (try simp only [List.set_cons_zero])
                    refine wpAnyH_take (i := 8) (v := ?v37) rfl (by kernel_rfl) (by kernel_rfl) (by kernel_rfl) (fun _ _ _ h => h) (Or.inl ⟨by rfl, ?hy37⟩) hHeld ?rest37
                    case hy37 => (intro wz hSw; (try dsimp only at hSw); go_simp; (try with_reducible rfl))
                    (try simp only [Act.put, List.getElem_toArray, List.getElem_cons_succ, List.getElem_cons_zero]); (try simp only [List.setIfInBounds_toArray]); (try simp only [List.set_cons_succ]); (try simp only [List.set_cons_zero])
                    refine wpAnyH_take (i := 9) (v := ?v38) rfl (by kernel_rfl) (by kernel_rfl) (by kernel_rfl) (fun _ _ _ h => h) (Or.inl ⟨by rfl, ?hy38⟩) hHeld ?rest38
                    case hy38 => (intro wz hSw; (try dsimp only at hSw); go_simp; (try with_reducible rfl))
                    (try simp only [Act.put, List.getElem_toArray, List.getElem_cons_succ, List.getElem_cons_zero]); (try simp only [List.setIfInBounds_toArray]); (try simp only [List.set_cons_succ]); (try simp only [List.set_cons_zero])
                    refine wpAnyH_take (i := 10) (v := ?v39) rfl (by kernel_rfl) (by kernel_rfl) (by kernel_rfl) (fun _ _ _ h => h) (Or.inl ⟨by rfl, ?hy39⟩) hHeld ?rest39
                    case hy39 => (intro wz hSw; (try dsimp only at hSw); go_simp; (try with_reducible rfl))
                    (try simp only [Act.put, List.getElem_toArray, List.getElem_cons_succ, List.getElem_cons_zero]); (try simp only [List.setIfInBounds_toArray]); (try simp only [List.set_cons_succ]); (try simp only [List.set_cons_zero])
                    refine wpAnyH_take (i := 11) (v := ?v40) rfl (by kernel_rfl) (by kernel_rfl) (by kernel_rfl) (fun _ _ _ h => h) (Or.inl ⟨by rfl, ?hy40⟩) hHeld ?rest40
                    case hy40 => (intro wz hSw; (try dsimp only at hSw); go_simp; (try with_reducible rfl))
                    (try simp only [Act.put, List.getElem_toArray, List.getElem_cons_succ, List.getElem_cons_zero]); (try simp only [List.setIfInBounds_toArray]); (try simp only [List.set_cons_succ]); (try simp only [List.set_cons_zero])
                    refine wpAnyH_take (i := 12) (v := ?v41) rfl (by kernel_rfl) (by kernel_rfl) (by kernel_rfl) (fun _ _ _ h => h) (Or.inl ⟨by rfl, ?hy41⟩) hHeld ?rest41
                    case hy41 => (intro wz hSw; (try dsimp only at hSw); go_simp; (try with_reducible rfl))
                    (try simp only [Act.put, List.getElem_toArray, List.getElem_cons_succ, List.getElem_cons_zero]); (try simp only [List.setIfInBounds_toArray]); (try simp only [List.set_cons_succ]); (try simp only [List.set_cons_zero])
                    refine wpAnyH_take (i := 13) (v := ?v42) rfl (by kernel_rfl) (by kernel_rfl) (by kernel_rfl) (fun _ _ _ h => h) (Or.inl ⟨by rfl, ?hy42⟩) hHeld ?rest42
                    case hy42 => (intro wz hSw; (try dsimp only at hSw); go_simp; (try with_reducible rfl))
                    (try simp only [Act.put, List.getElem_toArray, List.getElem_cons_succ, List.getElem_cons_zero]); (try simp only [List.setIfInBounds_toArray]); (try simp only [List.set_cons_succ]); (try simp only [List.set_cons_zero])
                    refine wpAnyH_take (i := 14) (v := ?v43) rfl (by kernel_rfl) (by kernel_rfl) (by kernel_rfl) (fun _ _ _ h => h) (Or.inl ⟨by rfl, ?hy43⟩) hHeld ?rest43
                    case hy43 => (intro wz hSw; (try dsimp only at hSw); go_simp; (try with_reducible rfl))
                    (try simp only [Act.put, List.getElem_toArray, List.getElem_cons_succ, List.getElem_cons_zero]); (try simp only [List.setIfInBounds_toArray]); (try simp only [List.set_cons_succ]); (try simp only [List.set_cons_zero])
                    refine wpAnyH_take (i := 15) (v := ?v44) rfl (by kernel_rfl) (by kernel_rfl) (by kernel_rfl) (fun _ _ _ h => h) (Or.inl ⟨by rfl, ?hy44⟩) hHeld ?rest44
                    case hy44 => (intro wz hSw; (try dsimp only at hSw); go_simp; (try with_reducible rfl))
                    (try simp only [Act.put, List.getElem_toArray, List.getElem_cons_succ, List.getElem_cons_zero]); (try simp only [List.setIfInBounds_toArray]); (try simp only [List.set_cons_succ]); (try simp only [List.set_cons_zero])
                    refine wpAnyH_take (i := 16) (v := ?v45) rfl (by kernel_rfl) (by kernel_rfl) (by kernel_rfl) (fun _ _ _ h => h) (Or.inl ⟨by rfl, ?hy45⟩) hHeld ?rest45
                    case hy45 => (intro wz hSw; (try dsimp only at hSw); go_simp; (try with_reducible rfl))
                    (try simp only [Act.put, List.getElem_toArray, List.getElem_cons_succ, List.getElem_cons_zero]); (try simp only [List.setIfInBounds_toArray]); (try simp only [List.set_cons_succ]); (try simp only [List.set_cons_zero])
                    refine wpAnyH_take (i := 17) (v := ?v46) rfl (by kernel_rfl) (by kernel_rfl) (by kernel_rfl) (fun _ _ _ h => h) (Or.inl ⟨by rfl, ?hy46⟩) hHeld ?rest46
                    case hy46 => (intro wz hSw; (try dsimp only at hSw); go_simp; (try with_reducible rfl))
                    (try simp only [Act.put, List.getElem_toArray, List.getElem_cons_succ, List.getElem_cons_zero]); (try simp only [List.setIfInBounds_toArray]); (try simp only [List.set_cons_succ]); (try simp only [List.set_cons_zero])
                    refine wpAnyH_take (i := 18) (v := ?v47) rfl (by kernel_rfl) (by kernel_rfl) (by kernel_rfl) (fun _ _ _ h => h) (Or.inl ⟨by rfl, ?hy47⟩) hHeld ?rest47
                    case hy47 => (intro wz hSw; (try dsimp only at hSw); go_simp; (try with_reducible rfl))
                    (try simp only [Act.put, List.getElem_toArray, List.getElem_cons_succ, List.getElem_cons_zero]); (try simp only [List.setIfInBounds_toArray]); (try simp only [List.set_cons_succ]); (try simp only [List.set_cons_zero])
                    refine wpAnyH_take (i := 19) (v := ?v48) rfl (by kernel_rfl) (by kernel_rfl) (by kernel_rfl) (fun _ _ _ h => h) (Or.inl ⟨by rfl, ?hy48⟩) hHeld ?rest48
                    case hy48 => (intro wz hSw; (try dsimp only at hSw); go_simp; (try with_reducible rfl))
                    (try simp only [Act.put, List.getElem_toArray, List.getElem_cons_succ, List.getElem_cons_zero]); (try simp only [List.setIfInBounds_toArray]); (try simp only [List.set_cons_succ]); (try simp only [List.set_cons_zero])
                    refine wpAnyH_take (i := 20) (v := ?v49) rfl (by kernel_rfl) (by kernel_rfl) (by kernel_rfl) (fun _ _ _ h => h) (Or.inl ⟨by rfl, ?hy49⟩) hHeld ?rest49
                    case hy49 => (intro wz hSw; (try dsimp only at hSw); go_simp; (try with_reducible rfl))
                    (try simp only [Act.put, List.getElem_toArray, List.getElem_cons_succ, List.getElem_cons_zero]); (try simp only [List.setIfInBounds_toArray]); (try simp only [List.set_cons_succ]); (try simp only [List.set_cons_zero])
                    refine wpAnyH_take (i := 21) (v := ?v50) rfl (by kernel_rfl) (by kernel_rfl) (by kernel_rfl) (fun _ _ _ h => h) (Or.inl ⟨by rfl, ?hy50⟩) hHeld ?rest50
                    case hy50 => (intro wz hSw; (try dsimp only at hSw); go_simp; (try with_reducible rfl))
                    (try simp only [Act.put, List.getElem_toArray, List.getElem_cons_succ, List.getElem_cons_zero]); (try simp only [List.setIfInBounds_toArray]); (try simp only [List.set_cons_succ]); (try simp only [List.set_cons_zero])
                    refine wpAnyH_take (i := 22) (v := ?v51) rfl (by kernel_rfl) (by kernel_rfl) (by kernel_rfl) (fun _ _ _ h => h) (Or.inl ⟨by rfl, ?hy51⟩) hHeld ?rest51
                    case hy51 => (intro wz hSw; (try dsimp only at hSw); go_simp; (try with_reducible rfl))
                    (try simp only [Act.put, List.getElem_toArray, List.getElem_cons_succ, List.getElem_cons_zero]); (try simp only [List.setIfInBounds_toArray]); (try simp only [List.set_cons_succ]); (try simp only [List.set_cons_zero])
                    refine wpAnyH_take (i := 23) (v := ?v52) rfl (by kernel_rfl) (by kernel_rfl) (by kernel_rfl) (fun _ _ _ h => h) (Or.inl ⟨by rfl, ?hy52⟩) hHeld ?rest52
                    case hy52 => (intro wz hSw; (try dsimp only at hSw); go_simp; (try with_reducible rfl))
                    (try simp only [Act.put, List.getElem_toArray, List.getElem_cons_succ, List.getElem_cons_zero]); (try simp only [List.setIfInBounds_toArray]); (try simp only [List.set_cons_succ]); (try simp only [List.set_cons_zero])
                    refine wpAnyH_ready (rs := [24]) (by kernel_rfl) (by simp) ?_
                    refine AllReadyH.cons rfl (fun K' hK => ?_) AllReadyH.nil
                    go_simp
                    refine (l2Get_spec P' db b0 ob nb cb i j k l' _ (HRB.out.ext ((EW.out.grown hG.out (fun z hz => by simp at hz; have := HNE.out; omega)).trans (Ext.refl _).drew)) (by omega) HBN.out hlt hlt2 hlt3).mono ?_
                    rintro e w4 ⟨rfl, hE4⟩
                    dsimp only
                    refine hK.out _ _ (keptB_call hHeld hE4) (fun hHeld => ?_)
                    clear hK
                    refine wpAnyH_take (i := 25) (v := ?v53) rfl (by kernel_rfl) (by kernel_rfl) (by kernel_rfl) (fun _ _ _ h => h) (Or.inl ⟨by rfl, ?hy53⟩) hHeld ?rest53
                    case hy53 => (intro wz hSw; (try dsimp only at hSw); go_simp; (try with_reducible rfl))
                    (try simp only [Act.put, List.getElem_toArray, List.getElem_cons_succ, List.getElem_cons_zero]); (try simp only [List.setIfInBounds_toArray]); (try simp only [List.set_cons_succ]); (try simp only [List.set_cons_zero])
                    have c1 : w4.cell? ⟨b, pcB n da i j + k, none⟩ = _ := (hH.out.ext ((Ext.refl _).drew.trans hE4)).cell _ (by rw [hlen.out]; exact HQ.out)
                    have f1 : w4.frozen? ⟨b, pcB n da i j + k, none⟩ = false := (hH.out.ext ((Ext.refl _).drew.trans hE4)).free _
                    refine wpAnyH_ready (rs := [26]) (by kernel_rfl) (by simp) ?_
                    refine AllReadyH.cons rfl (fun K' hK => ?_) AllReadyH.nil
                    go_simp
                    refine hK.out _ _ (keptB_set hHeld _ _) (fun hHeld => ?_)
                    clear hK
                    refine wpAnyH_done (by kernel_rfl) ?_ _
                    have N1 : Hid (Has (w4.setCell ⟨b, pcB n da i j + k, none⟩ (.int .i64 (tb db l' i j k))) b (pkTo n da db l' i j (pjTo n da db l' i (piTo n da db l' (piTo n 0 da l (List.replicate N 0) da) i) j) (k + 1))) := (hH.out.ext ((Ext.refl _).drew.trans hE4)).set _ (by rw [hlen.out]; exact HQ.out) _
                    have N2 : Hid (Wb.grownBy (w4.setCell ⟨b, pcB n da i j + k, none⟩ (.int .i64 (tb db l' i j k))) (some b)) := grownBy_set (p := ⟨b, pcB n da i j + k, none⟩) (grownBy_ext hG.out ((Ext.refl _).drew.trans hE4)) rfl _
                    clear hHeld hG hH c1 f1 hE4 v1 v2 v3 v4 v5 v6 v7 lba ba0 ba1 ba2 lbb bb0 bb1 bb2 lbo bo0 bo1 bo2
                    go_wp2
                    exact ⟨⟨k + 1, by omega, by simp, N2, N1⟩, by simp [intOf]; omega⟩
                  · obtain rfl : db = k := by omega
                    have hH2 : Hid (Has wr b (pjTo n da db l' i (piTo n da db l' (piTo n 0 da l (List.replicate N 0) da) i) (j + 1))) := hH
                    clear hH
                    go_wp2
                    exact ⟨⟨j + 1, by omega, by simp, hG, hH2⟩, by simp [intOf]; omega⟩
              · obtain rfl : db = j := by omega
                have hH2 : Hid (Has wr b (piTo n da db l' (piTo n 0 da l (List.replicate N 0) da) (i + 1))) := hH
                clear hH
                go_wp2
                exact ⟨⟨i + 1, by omega, by simp, hG, hH2⟩, by simp [intOf]; omega⟩
          · obtain rfl : db = i := by omega
            have EX := Lib.hid (EW.out.grown hG.out (fun z hz => by simp at hz; have := HNE.out; omega))
            have RX := RR.out.grown hG.out (fun z hz => by simp at hz; have := HNE.out; omega)
            have OX := OO.out.grown hG.out (fun z hz => by simp at hz; have := HNE.out; omega)
            have hbn := HNE.out
            have hblt := hH.out.lt
            have lO := OX.1
            have o0 := OX.2 0 _ rfl
            have o1 := OX.2 1 _ rfl
            have o2 := OX.2 2 _ rfl
            have r0 := RX.2 0 _ rfl
            have r1 := RX.2 1 _ rfl
            have r2 := RX.2 2 _ rfl
            have tR := RX.3
            have lR := RX.1
            clear OX RX hG
            go_wp2
            refine bodyPost_ret (v := .agg #[.int .i64 P, .int .i64 ((da : Int) + (db : Int)), .slice (some ⟨b, 0, none⟩) N N]) (by simp [results, Try.results149, go_sem, r0, r1, r2]) rfl ⟨b, rfl, by omega, ?_, ?_, ?_⟩
            · simpa using hblt
            · repeat with_reducible (first | exact hH.out | refine Has.setOther ?_ (by simp <;> omega) _)
            · exact ext3 EX.out (by omega) _ _ _
end Go.Proofs.Ytapaopapgnfdkaa
