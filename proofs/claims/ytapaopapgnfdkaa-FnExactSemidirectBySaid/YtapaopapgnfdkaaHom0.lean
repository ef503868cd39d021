/-
  Images under maps: both texts.
-/
import Derived.Test.YtapaopapgnfdkaaBr
import Derived.Test.YtapaopapgnfdkaaInto
namespace Go.Proofs.Ytapaopapgnfdkaa
open Go.ChangeShapes Go.WideShapes Go.ChangeAt Go.RowKit
set_option linter.unusedVariables false
set_option linter.unusedSimpArgs false

set_option maxRecDepth 100000 in
set_option maxHeartbeats 6400000 in
theorem product_gen (P : Int) (R K Q a0 oa b0 ob n n' ca : Nat) (xs ys : List Int) (w : World) (hr : Reads w (some ⟨a0, oa, none⟩) n xs) (hr' : Reads w (some ⟨b0, ob, none⟩) n' ys) (hn : n = R * K) (hn' : n' = K * Q)
    (hR : R ≤ 40) (hK : K ≤ 40) (hQ : Q ≤ 40) (hp : 2 ≤ P) (hp2 : P ≤ 10007) (hx : Res xs P) (hy : Res ys P) (hca : n ≤ ca) (hca2 : ca ≤ maxLen) :
    Calls Try.prog 119 #[.agg #[.int .i64 P, .int .i64 R, .int .i64 K, .slice (some ⟨a0, oa, none⟩) n ca], .agg #[.int .i64 P, .int .i64 K, .int .i64 Q, .slice (some ⟨b0, ob, none⟩) n' n']] w fun e w' => ∃ b, e = .returned (.agg #[.int .i64 P, .int .i64 R, .int .i64 Q, .slice (some ⟨b, 0, none⟩) (R * Q) (R * Q)]) ∧ w.heap.size ≤ b ∧ b < w'.heap.size ∧ Has w' b (mulTo P xs ys R K Q R) ∧ Ext w w' := by
  have HR := Lib.hid hr
  have HR' := Lib.hid hr'
  have HN := Lib.hid hn
  have HN' := Lib.hid hn'
  have g40 := mul40 hR hQ
  have g41 := mul40 hR hK
  have g42 := mul40 hK hQ
  have e1 : (R : Int) * (Q : Int) = ((R * Q : Nat) : Int) := by simp
  have g0 : 0 ≤ (R : Int) * (Q : Int) := by rw [e1]; omega
  have g1 : (R : Int) * (Q : Int) ≤ 1048576 := by rw [e1]; omega
  have E1 : Hid (((R : Int) * (Q : Int)).toNat = R * Q) := by rw [Hid, e1, Int.toNat_natCast]
  clear hr hr' hn hn' e1
  go_enter Try.func119, Try.ntmps119
  have A0_1 := Lib.hid (((cells_new' w #[.int .i64 P, .int .i64 R, .int .i64 K, .slice (some ⟨a0, oa, none⟩) n ca] 40 (w.heap.size) (by simp)).ext ((Ext.refl _).alloc (.cells #[.int .i64 P, .int .i64 K, .int .i64 Q, .slice (some ⟨b0, ob, none⟩) n' n'] 40))).ext ((Ext.refl _).alloc (.cells #[.int .i64 0, .int .i64 0, .int .i64 0, .slice none 0 0] 40)))
  have A1_2 := Lib.hid ((cells_new' (w.alloc (.cells #[.int .i64 P, .int .i64 R, .int .i64 K, .slice (some ⟨a0, oa, none⟩) n ca] 40)) #[.int .i64 P, .int .i64 K, .int .i64 Q, .slice (some ⟨b0, ob, none⟩) n' n'] 40 (w.heap.size + 1) (by simp)).ext ((Ext.refl _).alloc (.cells #[.int .i64 0, .int .i64 0, .int .i64 0, .slice none 0 0] 40)))
  have R_3 := Lib.hid (cells_new' ((w.alloc (.cells #[.int .i64 P, .int .i64 R, .int .i64 K, .slice (some ⟨a0, oa, none⟩) n ca] 40)).alloc (.cells #[.int .i64 P, .int .i64 K, .int .i64 Q, .slice (some ⟨b0, ob, none⟩) n' n'] 40)) #[.int .i64 0, .int .i64 0, .int .i64 0, .slice none 0 0] 40 (w.heap.size + 1 + 1) (by simp))
  have E_4 := Lib.hid ((((Ext.refl w).alloc (.cells #[.int .i64 P, .int .i64 R, .int .i64 K, .slice (some ⟨a0, oa, none⟩) n ca] 40)).alloc (.cells #[.int .i64 P, .int .i64 K, .int .i64 Q, .slice (some ⟨b0, ob, none⟩) n' n'] 40)).alloc (.cells #[.int .i64 0, .int .i64 0, .int .i64 0, .slice none 0 0] 40))
  have hl0 : w.heap.size + 1 + 1 + 1 ≤ (((w.alloc (.cells #[.int .i64 P, .int .i64 R, .int .i64 K, .slice (some ⟨a0, oa, none⟩) n ca] 40)).alloc (.cells #[.int .i64 P, .int .i64 K, .int .i64 Q, .slice (some ⟨b0, ob, none⟩) n' n'] 40)).alloc (.cells #[.int .i64 0, .int .i64 0, .int .i64 0, .slice none 0 0] 40)).heap.size := by simp
  have lA0 := A0_1.out.1
  have qA00 := A0_1.out.2 0 _ rfl
  have qA01 := A0_1.out.2 1 _ rfl
  have qA02 := A0_1.out.2 2 _ rfl
  have qA03 := A0_1.out.2 3 _ rfl
  have lA1 := A1_2.out.1
  have qA10 := A1_2.out.2 0 _ rfl
  have qA11 := A1_2.out.2 1 _ rfl
  have qA12 := A1_2.out.2 2 _ rfl
  have qA13 := A1_2.out.2 3 _ rfl
  try simp only [World.size_alloc] at lA0 lA1
  go_wp2_with fail
  refine (zeros_impl _ _ _ _ g0 g1).mono ?_
  rintro e w_5 ⟨b, rfl, hb1, hb2, hh, h_5⟩
  clear lA0 qA00 qA01 qA02 qA03 lA1 qA10 qA11 qA12 qA13
  rw [E1.out] at hh ⊢
  have hb3 := Nat.le_trans hl0 hb1
  clear hl0
  have A0_6 := Lib.hid (A0_1.out.ext h_5)
  clear A0_1
  have A1_7 := Lib.hid (A1_2.out.ext h_5)
  clear A1_2
  have R_8 := Lib.hid (R_3.out.ext h_5)
  clear R_3
  have E_9 := Lib.hid (E_4.out.trans h_5)
  clear E_4
  have L0 : Hid (Loc w (w_5.alloc (.cells #[.int .i64 P, .int .i64 R, .int .i64 Q, .slice (some ⟨b, 0, none⟩) (R * Q) (R * Q)] 40)) w_5.heap.size b [.int .i64 P, .int .i64 R, .int .i64 Q, .slice (some ⟨b, 0, none⟩) (R * Q) (R * Q)] (mulTo P xs ys R K Q 0)) :=
    ⟨cells_new _ _ _, hh.alloc _, E_9.out.alloc _, by omega, by simp; omega, by omega⟩
  have HA := Lib.hid (A0_6.out.ext ((Ext.refl _).alloc (.cells #[.int .i64 P, .int .i64 R, .int .i64 Q, .slice (some ⟨b, 0, none⟩) (R * Q) (R * Q)] 40)))
  have HB := Lib.hid (A1_7.out.ext ((Ext.refl _).alloc (.cells #[.int .i64 P, .int .i64 R, .int .i64 Q, .slice (some ⟨b, 0, none⟩) (R * Q) (R * Q)] 40)))
  have H4 := Lib.hid (R_8.out.ext ((Ext.refl _).alloc (.cells #[.int .i64 P, .int .i64 R, .int .i64 Q, .slice (some ⟨b, 0, none⟩) (R * Q) (R * Q)] 40)))
  have HS := Lib.hid hb3
  clear hb1 hb2 hb3 hh h_5
  have lA := HA.out.1
  have q1 := HA.out.2 1 _ rfl
  go_wp2_with fail
  clear lA q1
  go_loopw [19] (fun i wr => ∃ k : Nat, k ≤ R ∧ i = .int .i64 k ∧ Hid (Loc w wr w_5.heap.size b [.int .i64 P, .int .i64 R, .int .i64 Q, .slice (some ⟨b, 0, none⟩) (R * Q) (R * Q)] (mulTo P xs ys R K Q k)) ∧ Hid (Cells wr w.heap.size [.int .i64 P, .int .i64 R, .int .i64 K, .slice (some ⟨a0, oa, none⟩) n ca]) ∧ Hid (Cells wr (w.heap.size + 1) [.int .i64 P, .int .i64 K, .int .i64 Q, .slice (some ⟨b0, ob, none⟩) n' n']) ∧ Hid (Cells wr (w.heap.size + 1 + 1) [.int .i64 0, .int .i64 0, .int .i64 0, .slice none 0 0])) (fun i _ => R - (intOf i).toNat)
  case atStart => exact ⟨0, by omega, rfl, L0, HA, HB, H4⟩
  case round =>
    obtain ⟨i, hi, rfl, L, MA, MB, M4⟩ := hrel
    by_cases hlt : i < R
    · have lB := L.out.box.1
      have p0 := L.out.box.2 0 _ rfl
      have p1 := L.out.box.2 1 _ rfl
      have p2 := L.out.box.2 2 _ rfl
      have p3 := L.out.box.2 3 _ rfl
      go_wp2_with fail
      refine (rowOf_impl _ _ _ _ _ _ _ _ (Nat.mul_le_mul_right Q hlt) (by omega) (by omega)).mono ?_
      rintro e w1 ⟨rfl, hE⟩
      have L1 := Lib.hid (L.out.step hE)
      have MA1 := Lib.hid (MA.out.ext hE)
      have MB1 := Lib.hid (MB.out.ext hE)
      have M41 := Lib.hid (M4.out.ext hE)
      clear lB p0 p1 p2 p3 L MA MB M4 hE
      have lA := MA1.out.1
      have q0 := MA1.out.2 0 _ rfl
      have q1 := MA1.out.2 1 _ rfl
      have q2 := MA1.out.2 2 _ rfl
      have q3 := MA1.out.2 3 _ rfl
      go_wp2_with fail
      refine (rowOf_gen _ _ _ _ _ _ n ca _ (by rw [HN.out]; exact Nat.mul_le_mul_right K hlt) (by rw [HN.out]; omega) (by omega) hca hca2).mono ?_
      rintro e w2 ⟨rfl, hE⟩
      have L2 := Lib.hid (L1.out.step hE)
      have MA2 := Lib.hid (MA1.out.ext hE)
      have MB2 := Lib.hid (MB1.out.ext hE)
      have M42 := Lib.hid (M41.out.ext hE)
      clear lA q0 q1 q2 q3 L1 MA1 MB1 M41 hE
      go_wp2_with fail
      go_loopw [29] (fun z wr => ∃ k : Nat, k ≤ K ∧ z = .int .i64 k ∧ Hid (Loc w wr w_5.heap.size b [.int .i64 P, .int .i64 R, .int .i64 Q, .slice (some ⟨b, 0, none⟩) (R * Q) (R * Q)] (kTo P xs ys K Q i (mulTo P xs ys R K Q i) k)) ∧ Hid (Cells wr w.heap.size [.int .i64 P, .int .i64 R, .int .i64 K, .slice (some ⟨a0, oa, none⟩) n ca]) ∧ Hid (Cells wr (w.heap.size + 1) [.int .i64 P, .int .i64 K, .int .i64 Q, .slice (some ⟨b0, ob, none⟩) n' n']) ∧ Hid (Cells wr (w.heap.size + 1 + 1) [.int .i64 0, .int .i64 0, .int .i64 0, .slice none 0 0])) (fun z _ => K - (intOf z).toNat)
      case atStart => exact ⟨0, by omega, rfl, L2, MA2, MB2, M42⟩
      case round =>
        obtain ⟨k, hk, rfl, L, MA, MB, M4⟩ := hrel
        by_cases hlt2 : k < K
        · have d2 := place_lt hlt hlt2
          rcases (HR.out.ext L.out.ext).2 with h | ⟨b', off', h, hb', hc'⟩
          · have := HN.out; omega
          simp only [Option.some.injEq, Addr.mk.injEq, and_true] at h
          obtain ⟨rfl, rfl⟩ := h
          have hc2 := hc' (i * K + k) (by rw [HN.out]; exact d2)
          rw [← Nat.add_assoc] at hc2
          obtain ⟨x0, x1⟩ := hx (i * K + k) (by rw [HR.out.1, HN.out]; exact d2)
          clear hc' hb' d2
          have lA := MA.out.1
          have q0 := MA.out.2 0 _ rfl
          have lB := MB.out.1
          have r0 := MB.out.2 0 _ rfl
          have r1 := MB.out.2 1 _ rfl
          have r2 := MB.out.2 2 _ rfl
          have r3 := MB.out.2 3 _ rfl
          have nA : w.heap.size ≠ b := by have := HS.out; omega
          have nB : w.heap.size + 1 ≠ b := by have := HS.out; omega
          have hll : Hid ((kTo P xs ys K Q i (mulTo P xs ys R K Q i) k).length = R * Q) := by rw [Hid, kTo_length, mulTo_length]
          have hrs : Hid (Res (kTo P xs ys K Q i (mulTo P xs ys R K Q i) k) P) := kTo_res _ (by omega) _ _ _ _ _ _ (mulTo_res _ (by omega) _ _ _ _ _ _) _
          have hrow := Lib.hid (row_le (Q := Q) hlt)
          have hcol := Lib.hid (row_le (Q := Q) hlt2)
          have HX0 := Lib.hid x0
          have HX1 := Lib.hid x1
          clear x0 x1
          go_wp2_with fail
          go_region_held3 (fun w' => wr.grownBy w' (some b) ∧ ∀ B o, B ≠ b → B < wr.heap.size → w'.cell? ⟨B, o, none⟩ = wr.cell? ⟨B, o, none⟩) (first | exact keptB_refl _ _ | exact keptB_drew | (with_reducible exact keptB_call ‹wr.grownBy _ (some b) ∧ _› ‹Ext _ _›) | (with_reducible exact keptB_grown ‹wr.grownBy _ (some b) ∧ _› ‹World.grownBy _ _ (some b)›)) (first
            | (go_at_call 78; refine (rowOf_impl _ _ _ _ _ _ _ _ (by rw [HN'.out]; exact Nat.mul_le_mul_right Q hlt2) (by rw [HN'.out]; omega) (by omega)).mono ?_; rintro e w3 ⟨rfl, hE⟩)
            | (go_at_call 187; refine (addToRow_impl b (i * Q) Q _ (gi xs (i * K + k)) b0 (ob + k * Q) _ ys (k * Q) P (kTo P xs ys K Q i (mulTo P xs ys R K Q i) k) w3 ((L.out.step (Ext.refl _).drew).step hE).has (by omega) (by rw [hll.out]; exact hrow.out) (fun wz l' hg hz ho hl j hj => by
                rcases (HR'.out.ext (((L.out.step (Ext.refl _).drew).step hE).ext)).2 with h | ⟨b'', off'', h, hb'', hc''⟩
                · have := HN'.out; have := hcol.out; omega
                · simp only [Option.some.injEq, Addr.mk.injEq, and_true] at h
                  obtain ⟨rfl, rfl⟩ := h
                  have hlt0 : b0 < w.heap.size := by
                    rcases HR'.out.2 with h | ⟨b3, o3, h, hb3, _⟩
                    · have := HN'.out; have := hcol.out; omega
                    · simp only [Option.some.injEq, Addr.mk.injEq, and_true] at h
                      omega
                  rw [World.cell?_of_block (w := w3) (hg.block _ hb'' (by have := HS.out; simp; omega)), Nat.add_assoc]
                  exact hc'' (k * Q + j) (by have := HN'.out; have := hcol.out; omega)) hp hp2 HX0.out HX1.out (fun j hj => hrs.out _ (by rw [hll.out]; have := hrow.out; omega)) (fun j hj => hy _ (by rw [HR'.out.1, HN'.out]; have := hcol.out; omega))).mono ?_; rintro e w4 ⟨rfl, hh4, hg4⟩))
          have N : Hid (Loc w w4 w_5.heap.size b [.int .i64 P, .int .i64 R, .int .i64 Q, .slice (some ⟨b, 0, none⟩) (R * Q) (R * Q)] (kTo P xs ys K Q i (mulTo P xs ys R K Q i) (k + 1))) := (((L.out.step (Ext.refl _).drew).step hE).row hh4 hg4)
          have hd : ∀ {B : Nat} {vs : List Value}, B ≠ b → Cells wr B vs → Cells w4 B vs := fun hB h => ((h.ext (Ext.refl _).drew).ext hE).grown hg4 (fun z hz => by simp at hz; omega)
          have N1 : Hid (Cells w4 w.heap.size [.int .i64 P, .int .i64 R, .int .i64 K, .slice (some ⟨a0, oa, none⟩) n ca]) := hd nA MA.out
          have N2 : Hid (Cells w4 (w.heap.size + 1) [.int .i64 P, .int .i64 K, .int .i64 Q, .slice (some ⟨b0, ob, none⟩) n' n']) := hd nB MB.out
          have N3 : Hid (Cells w4 (w.heap.size + 1 + 1) [.int .i64 0, .int .i64 0, .int .i64 0, .slice none 0 0]) := hd (by have := HS.out; omega) M4.out
          clear hd L MA MB M4 hE hh4 hg4 lA q0 lB r0 r1 r2 r3
          go_wp2
          exact ⟨⟨k + 1, by omega, by simp, N, N1, N2, N3⟩, by simp [intOf]; omega⟩
        · obtain rfl : k = K := by omega
          go_wp2
          exact ⟨⟨i + 1, by omega, by simp, L, MA, MB, M4⟩, by simp [intOf]; omega⟩
    · obtain rfl : i = R := by omega
      have f0 := M4.out.2 0 _ rfl
      have f1 := M4.out.2 1 _ rfl
      have f2 := M4.out.2 2 _ rfl
      have f3 := M4.out.2 3 _ rfl
      have t0 := M4.out.3
      have p0 := L.out.box.2 0 _ rfl
      have p1 := L.out.box.2 1 _ rfl
      have p2 := L.out.box.2 2 _ rfl
      have p3 := L.out.box.2 3 _ rfl
      go_wp2
      refine bodyPost_ret (v := .agg #[.int .i64 P, .int .i64 i, .int .i64 Q, .slice (some ⟨b, 0, none⟩) (i * Q) (i * Q)]) (by simp [results, Try.results119, go_sem, f0, f1, f2, f3]) rfl ⟨b, rfl, L.out.lo, ?_, ?_, ?_⟩
      · have := L.out.lt; simpa using this
      · have := HS.out
        repeat with_reducible (first | exact L.out.has | refine Has.setOther ?_ (by simp <;> omega) _)
      · exact ext4 L.out.ext (by omega) _ _ _ _

/-- The image of a vector: behind i rows. -/
def imTo (P : Int) (Q : Nat) (xs ms : List Int) : Nat → List Int
  | 0 => List.replicate Q 0
  | i + 1 => axL P (gi xs i) ms 0 (i * Q) Q (imTo P Q xs ms i)
section
variable {P : Int} {Q : Nat} {xs ms : List Int}
theorem imTo_length (i : Nat) : (imTo P Q xs ms i).length = Q := by
  induction i with
  | zero => simp [imTo]
  | succ i ih => rw [imTo, axL_length, ih]
theorem imTo_res (hp : 2 ≤ P) (i : Nat) : Res (imTo P Q xs ms i) P := by
  induction i with
  | zero => exact res_zero _ hp
  | succ i ih => exact axL_res _ _ _ _ _ _ _ (by omega) ih
theorem gi_imTo (hp : 2 ≤ P) (i : Nat) {q : Nat} (hq : q < Q) : gi (imTo P Q xs ms i) q = (sumN i fun c => gi xs c * gi ms (c * Q + q)) % P := by
  induction i with
  | zero => rw [imTo, gi_replicate]; simp [sumN]
  | succ i ih =>
    simp only [imTo, sumN]
    by_cases h : gi xs i = 0
    · rw [axL, if_pos h, ih, h]; simp
    · rw [axL, if_neg h]
      have h1 := gi_axTo_in P (gi xs i) 0 (i * Q) Q (imTo P Q xs ms i) ms (by rw [imTo_length]; omega) q Q hq (Nat.le_refl _)
      simp only [Nat.zero_add] at h1
      rw [h1, ih]
      exact Int.emod_add_emod _ _ _
end
/-! The two ways to ask whether a map is a homomorphism. -/
section
variable {P : Int} {da db : Nat} {l l' ms : List Int}
theorem alt_sum {n : Nat} {f : Nat → Nat → Int} (h : ∀ i j, i < n → j < n → Eqm P (f i j) (-f j i)) (h0 : ∀ i, i < n → Eqm P (f i i) 0) : Eqm P (sumN n fun i => sumN n (f i)) 0 := by
  induction n with
  | zero => exact Eqm.refl _
  | succ n ih =>
    have e1 : (sumN n fun i => sumN (n + 1) (f i)) = (sumN n fun i => sumN n (f i)) + sumN n fun i => f i n := by
      rw [← sumN_add]; rfl
    have e2 : (sumN (n + 1) fun i => sumN (n + 1) (f i)) = (sumN n fun i => sumN (n + 1) (f i)) + (sumN n (f n) + f n n) := rfl
    rw [e2, e1]
    have h1 := ih (fun i j hi hj => h i j (by omega) (by omega)) (fun i hi => h0 i (by omega))
    have h2 : Eqm P (sumN n fun i => f i n) (sumN n fun i => -f n i) := sumN_eqm (fun i hi => h i n (by omega) (by omega))
    have e3 : (sumN n fun i => -f n i) = -1 * sumN n (f n) := by
      rw [← sumN_mul]; exact sumN_congr (fun i _ => by omega)
    rw [e3] at h2
    have h3 := (h1.add h2).add ((Eqm.refl (P := P) (sumN n (f n))).add (h0 n (by omega)))
    refine h3.trans (Eqm.of_eq (by omega))
theorem brN_self (h : AltP P db l') (x : Nat → Int) {q : Nat} (hq : q < db) : Eqm P (brN db l' x x q) 0 := by
  refine alt_sum (fun i j hi hj => ?_) (fun i hi => ?_)
  · have h1 := (Eqm.refl (P := P) (x i * x j)).mul (h.neg hi hj hq)
    refine h1.trans (Eqm.of_eq (by grind))
  · rw [(h i hi).1 q hq, Int.mul_zero]; exact Eqm.refl _
/-- The image of a bracket of basis elements, and the bracket of the images, at q. -/
def lhN (da db : Nat) (l ms : List Int) (i k q : Nat) : Int := sumN da fun c => tb da l i k c * gi ms (c * db + q)
def rhN (db : Nat) (l' ms : List Int) (i k q : Nat) : Int := brN db l' (gi (rowL db ms i)) (gi (rowL db ms k)) q
def HomS (P : Int) (da db : Nat) (l l' ms : List Int) (i j : Nat) : Prop := imTo P db (rowT da l i j) ms da = brL P db l' (rowL db ms i) (rowL db ms j)
def HomI (P : Int) (da db : Nat) (l l' ms : List Int) (i : Nat) : Prop := mulTo P (rowL (da * da) l i) ms da da db da = (bRows P db l' (rowL db ms i) ms da).flatten
theorem homS_iff (hp : 2 ≤ P) (i j : Nat) : HomS P da db l l' ms i j ↔ ∀ q, q < db → Eqm P (lhN da db l ms i j q) (rhN db l' ms i j q) := by
  have key : ∀ q, q < db → (gi (imTo P db (rowT da l i j) ms da) q = lhN da db l ms i j q % P ∧ gi (brL P db l' (rowL db ms i) (rowL db ms j)) q = rhN db l' ms i j q % P) := fun q hq => by
    refine ⟨?_, gi_brL _ _ hq⟩
    rw [gi_imTo hp _ hq, lhN]
    congr 1
    exact sumN_congr (fun c hc => by rw [gi_rowT hc])
  constructor
  · intro h q hq
    have h1 := congrArg (fun x => gi x q) h
    simp only [(key q hq).1, (key q hq).2] at h1
    exact Eqm.of_emod h1
  · intro h
    refine ext_gi (by rw [imTo_length, brL_len]) (fun q hq => ?_)
    rw [imTo_length] at hq
    rw [(key q hq).1, (key q hq).2, (h q hq).to_emod]
theorem homI_iff (hp : 2 ≤ P) (i : Nat) : HomI P da db l l' ms i ↔ ∀ k, k < da → ∀ q, q < db → Eqm P (lhN da db l ms i k q) (rhN db l' ms i k q) := by
  have key : ∀ k q, k < da → q < db → (gi (mulTo P (rowL (da * da) l i) ms da da db da) (k * db + q) = lhN da db l ms i k q % P ∧ gi (bRows P db l' (rowL db ms i) ms da).flatten (k * db + q) = rhN db l' ms i k q % P) := fun k q hk hq => by
    refine ⟨?_, by rw [gi_bRows _ _ _ hk hq]; exact gi_brL _ _ hq⟩
    rw [at2_mulTo _ _ hk hq, lhN]
    congr 1
    refine sumN_congr (fun c hc => ?_)
    rw [gi_rowL2 _ _ (place_lt hk hc), tb, Nat.add_mul, Nat.mul_assoc, Nat.add_assoc]
  constructor
  · intro h k hk q hq
    have h1 := congrArg (fun x => gi x (k * db + q)) h
    simp only [(key k q hk hq).1, (key k q hk hq).2] at h1
    exact Eqm.of_emod h1
  · intro h
    refine ext_at2 (R := da) (C := db) (mulTo_length _ _ _ _ _ _ _) (bRows_flen _ _ _) (fun k hk q hq => ?_)
    show gi _ (k * db + q) = gi _ (k * db + q)
    rw [(key k q hk hq).1, (key k q hk hq).2, (h k hk q hq).to_emod]
theorem hom_iff (hp : 2 ≤ P) (ha : AltP P da l) (hb : AltP P db l') : (∀ i, i < da → HomI P da db l l' ms i) ↔ (∀ i, i < da → ∀ j, j < i → HomS P da db l l' ms i j) := by
  constructor
  · intro h i hi j hj
    exact (homS_iff hp i j).2 ((homI_iff hp i).1 (h i hi) j (by omega))
  · intro h i hi
    refine (homI_iff hp i).2 (fun k hk q hq => ?_)
    have e3 : ∀ a : Int, -a = -1 * a := fun a => by omega
    rcases Nat.lt_trichotomy k i with h1 | h1 | h1
    · exact (homS_iff hp i k).1 (h i hi k h1) q hq
    · subst h1
      refine Eqm.trans ?_ (brN_self hb _ hq).symm
      have : lhN da db l ms k k q = 0 := by
        rw [lhN, ← sumN_zero da]
        exact sumN_congr (fun c hc => by rw [(ha k hi).1 c hc, Int.zero_mul])
      rw [this]; exact Eqm.refl _
    · have h2 := (homS_iff hp k i).1 (h k hk i h1) q hq
      have h3 : Eqm P (lhN da db l ms i k q) (-1 * lhN da db l ms k i q) := by
        rw [lhN, lhN, ← sumN_mul]
        refine sumN_eqm (fun c hc => ?_)
        refine ((ha.neg hi hk hc).mul (Eqm.refl _)).trans (Eqm.of_eq (by grind))
      refine h3.trans (((Eqm.refl (P := P) (-1)).mul h2).trans ?_)
      have h4 := brN_swap hb (gi (rowL db ms i)) (gi (rowL db ms k)) hq
      rw [e3] at h4
      exact h4.symm
end
noncomputable def homB (P : Int) (da db : Nat) (l l' ms : List Int) : Bool := @decide (∀ i, i < da → HomI P da db l l' ms i) (Classical.propDecidable _)
theorem homB_true {P : Int} {da db : Nat} {l l' ms : List Int} (h : ∀ i, i < da → HomI P da db l l' ms i) : homB P da db l l' ms = true := by simp only [homB, decide_eq_true_eq]; exact h
theorem homB_false {P : Int} {da db : Nat} {l l' ms : List Int} (h : ¬ ∀ i, i < da → HomI P da db l l' ms i) : homB P da db l l' ms = false := by simp only [homB, decide_eq_false_iff_not]; exact h

set_option maxRecDepth 100000 in
set_option maxHeartbeats 6400000 in
theorem l2Image_spec (P : Int) (K Q n a0 oa bx ox cx : Nat) (ms xs : List Int) (w : World) (hr : Reads w (some ⟨a0, oa, none⟩) n ms) (hx : Reads w (some ⟨bx, ox, none⟩) K xs) (hn : n = K * Q) (hK : K ≤ 40) (hQ : Q ≤ 40) (hp : 2 ≤ P) (hp2 : P ≤ 10007) (hm : Res ms P) (hxr : Res xs P) :
    Calls Try.prog 209 #[.agg #[.int .i64 P, .int .i64 K, .int .i64 Q, .slice (some ⟨a0, oa, none⟩) n n], .slice (some ⟨bx, ox, none⟩) K cx] w fun e w' => ∃ b, e = .returned (.slice (some ⟨b, 0, none⟩) Q Q) ∧ Has w' b (imTo P Q xs ms K) ∧ Ext w w' := by
  have HR := Lib.hid hr
  have HXR := Lib.hid hx
  have HN := Lib.hid hn
  have g40 := mul40 hK hQ
  have hnb : n ≤ 1600 := by rw [hn]; exact g40
  have HXS := Lib.hid hxr
  have HMS := Lib.hid hm
  clear hr hx hn hxr hm
  go_enter Try.func209, Try.ntmps209
  have A0_1 := Lib.hid (cells_new' w #[.int .i64 P, .int .i64 K, .int .i64 Q, .slice (some ⟨a0, oa, none⟩) n n] 40 (w.heap.size) (by simp))
  have E_2 := Lib.hid ((Ext.refl w).alloc (.cells #[.int .i64 P, .int .i64 K, .int .i64 Q, .slice (some ⟨a0, oa, none⟩) n n] 40))
  have hmk := make_ints Q (by omega)
  have lA0 := A0_1.out.1
  have qA00 := A0_1.out.2 0 _ rfl
  have qA01 := A0_1.out.2 1 _ rfl
  have qA02 := A0_1.out.2 2 _ rfl
  have qA03 := A0_1.out.2 3 _ rfl
  try simp only [World.size_alloc] at lA0
  have hsz : (w.alloc (.cells #[.int .i64 P, .int .i64 K, .int .i64 Q, .slice (some ⟨a0, oa, none⟩) n n] 40)).heap.size = w.heap.size + 1 := by simp
  have HSZ := Lib.hid hsz
  clear hsz
  go_wp2_with fail
  clear lA0 qA00 qA01 qA02 qA03
  have K0 : Hid (Has ((w.alloc (.cells #[.int .i64 P, .int .i64 K, .int .i64 Q, .slice (some ⟨a0, oa, none⟩) n n] 40)).alloc (.cells (ints (List.replicate Q 0)) 3)) (w.heap.size + 1) (imTo P Q xs ms 0)) := by
    have := Has.new (w.alloc (.cells #[.int .i64 P, .int .i64 K, .int .i64 Q, .slice (some ⟨a0, oa, none⟩) n n] 40)) (List.replicate Q 0)
    rw [HSZ.out] at this
    exact this
  have G0 := Lib.hid ((Ext.refl (w.alloc (.cells #[.int .i64 P, .int .i64 K, .int .i64 Q, .slice (some ⟨a0, oa, none⟩) n n] 40))).alloc (.cells (ints (List.replicate Q 0)) 3))
  have A1 := Lib.hid (A0_1.out.ext G0.out)
  have E1 := Lib.hid (E_2.out.trans G0.out)
  have HBX : Hid (0 < K → bx ≠ w.heap.size + 1) := fun h9 => by
    rcases HXR.out.2 with h | ⟨b3, o3, h, hb3, _⟩
    · omega
    · simp only [Option.some.injEq, Addr.mk.injEq, and_true] at h
      omega
  try simp only [World.size_alloc]
  clear hmk G0 A0_1 E_2
  generalize (w.alloc (.cells #[.int .i64 P, .int .i64 K, .int .i64 Q, .slice (some ⟨a0, oa, none⟩) n n] 40)).alloc (.cells (ints (List.replicate Q 0)) 3) = W1 at *
  obtain ⟨b, hb⟩ : ∃ b, b = w.heap.size + 1 := ⟨_, rfl⟩
  have HB := Lib.hid hb
  rw [← hb] at K0 HBX ⊢
  clear hb
  go_loopw [6, 7] (fun z _ wr => ∃ i : Nat, i ≤ K ∧ z = .int .i64 i ∧ Hid (W1.grownBy wr (some b)) ∧ Hid (Has wr b (imTo P Q xs ms i))) (fun z _ _ => K - (intOf z).toNat)
  case atStart => exact ⟨0, by omega, rfl, grownBy_refl _ _, K0⟩
  case round =>
    clear K0
    obtain ⟨i, hi, rfl, hG, hK1⟩ := hrel
    have ac := A1.out.grown hG.out (fun z hz => by simp at hz; have := HB.out; omega)
    have la := ac.1
    have a0' := ac.2 0 _ rfl
    have a1' := ac.2 1 _ rfl
    have a2' := ac.2 2 _ rfl
    have a3' := ac.2 3 _ rfl
    clear ac
    by_cases hlt : i < K
    · have EW := Lib.hid (E1.out.grown hG.out (fun z hz => by simp at hz; have := HB.out; omega))
      obtain ⟨hxb, hxc⟩ := reads_at (HXR.out.ext EW.out) hlt
      have hxn := HBX.out (by omega)
      have hx01 := HXS.out i (by rw [HXR.out.1]; exact hlt)
      have HSTEP : Hid (imTo P Q xs ms (i + 1) = axL P (gi xs i) ms 0 (i * Q) Q (imTo P Q xs ms i)) := rfl
      go_wp2_with fail
      obtain ⟨x, hxg⟩ : ∃ x, gi xs i = x := ⟨_, rfl⟩
      rw [hxg] at hxc hx01 HSTEP
      have HXG := Lib.hid hxg
      clear hxg
      obtain ⟨x0, x1⟩ := hx01
      by_cases hz : x = 0
      · have HS2 : Hid (imTo P Q xs ms (i + 1) = imTo P Q xs ms i) := by rw [Hid, HSTEP.out, axL, if_pos hz]
        have hzb : (x != 0) = false := by simpa using hz
        have hK2 : Hid (Has wr b (imTo P Q xs ms (i + 1))) := by rw [HS2.out]; exact hK1
        clear hz hK1 x0 x1 HSTEP HS2
        go_loopw [7] (fun j w1 => j = .int .i64 0 ∧ w1 = wr) (fun _ _ => 0)
        case atStart => exact ⟨rfl, rfl⟩
        case round =>
          obtain ⟨rfl, rfl⟩ := hrel
          by_cases hq : 0 < Q
          · go_wp2
            exact ⟨⟨i + 1, by omega, by simp, hG, hK2⟩, by simp [intOf]; omega⟩
          · obtain rfl : Q = 0 := by omega
            go_wp2
            exact ⟨⟨i + 1, by omega, by simp, hG, hK2⟩, by simp [intOf]; omega⟩
      · have HS2 : Hid (imTo P Q xs ms (i + 1) = axTo P x ms 0 (i * Q) (imTo P Q xs ms i) Q) := by rw [Hid, HSTEP.out, axL, if_neg hz]
        have hzb : (x != 0) = true := by simpa using hz
        have K1 : Hid (Has wr b (axTo P x ms 0 (i * Q) (imTo P Q xs ms i) 0)) := hK1
        clear hz hK1 HSTEP la a0' a1' a2' a3' hxb hxc EW
        go_loopw [7] (fun z wr => ∃ j : Nat, j ≤ Q ∧ z = .int .i64 j ∧ Hid (W1.grownBy wr (some b)) ∧ Hid (Has wr b (axTo P x ms 0 (i * Q) (imTo P Q xs ms i) j))) (fun z _ => Q - (intOf z).toNat)
        case atStart => exact ⟨0, by omega, rfl, hG, K1⟩
        case round =>
          clear hG K1
          obtain ⟨j, hj, rfl, hG, hH⟩ := hrel
          have ac := A1.out.grown hG.out (fun z hz => by simp at hz; have := HB.out; omega)
          have la := ac.1
          have a0' := ac.2 0 _ rfl
          have a1' := ac.2 1 _ rfl
          have a2' := ac.2 2 _ rfl
          have a3' := ac.2 3 _ rfl
          clear ac
          have EW := Lib.hid (E1.out.grown hG.out (fun z hz => by simp at hz; have := HB.out; omega))
          obtain ⟨hxb, hxc⟩ := reads_at (HXR.out.ext EW.out) hlt
          rw [HXG.out] at hxc
          by_cases hlt3 : j < Q
          · have hlen : Hid ((axTo P x ms 0 (i * Q) (imTo P Q xs ms i) j).length = Q) := by rw [Hid, axTo_length, imTo_length]
            have y1 := hH.out.cell j (by rw [hlen.out]; exact hlt3)
            have hge := gi_axTo_ge P x ms 0 (i * Q) Q (imTo P Q xs ms i) (by rw [imTo_length]; omega) j j (by omega) hj
            rw [hge] at y1
            have HGE := Lib.hid hge
            have hv := imTo_res (P := P) (Q := Q) (xs := xs) (ms := ms) hp i j (by rw [imTo_length]; exact hlt3)
            have hpl9 : i * Q + j < n := by rw [HN.out]; exact place_lt hlt hlt3
            have hy := HMS.out (i * Q + j) (by rw [HR.out.1]; exact hpl9)
            have N1 : ∀ w4, Ext wr w4 → Hid (Has (w4.setCell ⟨b, j, none⟩ (.int .i64 ((gi (imTo P Q xs ms i) j + x * gi ms (i * Q + j)) % P))) b (axTo P x ms 0 (i * Q) (imTo P Q xs ms i) (j + 1))) := fun w4 h4 => by
              have := (hH.out.ext h4).set j (by rw [hlen.out]; exact hlt3) ((gi (imTo P Q xs ms i) j + x * gi ms (i * Q + j)) % P)
              simp only [axTo, Nat.zero_add]; exact this
            have HN1 := Lib.hid N1
            have HHH := Lib.hid hH.out
            clear N1 hge
            have nA : w.heap.size ≠ b := by have := HB.out; omega
            have lX := hH.out.lt
            obtain ⟨v0, v1'⟩ := hv
            obtain ⟨y0, y1'⟩ := hy
            have m0 := Int.mul_nonneg x0 y0
            have m1 := mul_hi x0 x1 y0 y1' hp2
            clear hH
            go_wp2_with fail
            have w1' : IntKind.i64.wrap (x * gi ms (i * Q + j)) = x * gi ms (i * Q + j) := IntWalk.i64_in _ ⟨by omega, by omega⟩
            have w2' : IntKind.i64.wrap (gi (imTo P Q xs ms i) j + x * gi ms (i * Q + j)) = gi (imTo P Q xs ms i) j + x * gi ms (i * Q + j) := IntWalk.i64_in _ ⟨by omega, by omega⟩
            have v6 : (P = 0) = False := eq_false (by omega)
            have v7 : (gi (imTo P Q xs ms i) j + x * gi ms (i * Q + j)).tmod P = (gi (imTo P Q xs ms i) j + x * gi ms (i * Q + j)) % P := IntWalk.rem_in _ _ (by omega)
            refine wp_region_held_drew (S := (fun w' => wr.grownBy w' (some b) ∧ ∀ B o, B ≠ b → B < wr.heap.size → w'.cell? ⟨B, o, none⟩ = wr.cell? ⟨B, o, none⟩)) (by kernel_rfl) keptB_drew (fun hHeld => ?_)
            refine wpAnyH_take (i := 0) (v := ?v1) rfl (by kernel_rfl) (by kernel_rfl) (by kernel_rfl) (fun _ _ _ h => h) (Or.inl ⟨by rfl, ?hy1⟩) hHeld ?rest1
            case hy1 => (intro wz hSw; (try dsimp only at hSw); go_simp; (try with_reducible rfl))
            (try simp only [Act.put, List.getElem_toArray, List.getElem_cons_succ, List.getElem_cons_zero]); (try simp only [List.setIfInBounds_toArray]); (try simp only [List.set_cons_succ]); (try simp only [List.set_cons_zero])
            refine wpAnyH_take (i := 1) (v := ?v2) rfl (by kernel_rfl) (by kernel_rfl) (by kernel_rfl) (fun _ _ _ h => h) (Or.inl ⟨by rfl, ?hy2⟩) hHeld ?rest2
            case hy2 => (intro wz hSw; (try dsimp only at hSw); go_simp; (try with_reducible rfl))
            (try simp only [Act.put, List.getElem_toArray, List.getElem_cons_succ, List.getElem_cons_zero]); (try simp only [List.setIfInBounds_toArray]); (try simp only [List.set_cons_succ]); (try simp only [List.set_cons_zero])
            refine wpAnyH_take (i := 2) (v := ?v3) rfl (by kernel_rfl) (by kernel_rfl) (by kernel_rfl) (fun _ _ _ h => h) (Or.inl ⟨by rfl, ?hy3⟩) hHeld ?rest3
            case hy3 => (intro wz hSw; (try dsimp only at hSw); go_simp; (try with_reducible rfl))
            (try simp only [Act.put, List.getElem_toArray, List.getElem_cons_succ, List.getElem_cons_zero]); (try simp only [List.setIfInBounds_toArray]); (try simp only [List.set_cons_succ]); (try simp only [List.set_cons_zero])
            refine wpAnyH_take (i := 3) (v := ?v4) rfl (by kernel_rfl) (by kernel_rfl) (by kernel_rfl) (fun _ _ _ h => h) (Or.inl ⟨by rfl, ?hy4⟩) hHeld ?rest4
            case hy4 => (intro wz hSw; (try dsimp only at hSw); go_simp; (try with_reducible rfl))
            (try simp only [Act.put, List.getElem_toArray, List.getElem_cons_succ, List.getElem_cons_zero]); (try simp only [List.setIfInBounds_toArray]); (try simp only [List.set_cons_succ]); (try simp only [List.set_cons_zero])
            refine wpAnyH_take (i := 4) (v := ?v5) rfl (by kernel_rfl) (by kernel_rfl) (by kernel_rfl) (fun _ _ _ h => h) (Or.inl ⟨by rfl, ?hy5⟩) hHeld ?rest5
            case hy5 => (intro wz hSw; (try dsimp only at hSw); go_simp; (try with_reducible rfl))
            (try simp only [Act.put, List.getElem_toArray, List.getElem_cons_succ, List.getElem_cons_zero]); (try simp only [List.setIfInBounds_toArray]); (try simp only [List.set_cons_succ]); (try simp only [List.set_cons_zero])
            refine wpAnyH_take (i := 6) (v := ?v6) rfl (by kernel_rfl) (by kernel_rfl) (by kernel_rfl) (fun _ _ _ h => h) (Or.inl ⟨by rfl, ?hy6⟩) hHeld ?rest6
            case hy6 => (intro wz hSw; (try dsimp only at hSw); go_simp; (try with_reducible rfl))
            (try simp only [Act.put, List.getElem_toArray, List.getElem_cons_succ, List.getElem_cons_zero]); (try simp only [List.setIfInBounds_toArray]); (try simp only [List.set_cons_succ]); (try simp only [List.set_cons_zero])
            refine wpAnyH_take (i := 7) (v := ?v7) rfl (by kernel_rfl) (by kernel_rfl) (by kernel_rfl) (fun _ _ _ h => h) (Or.inl ⟨by rfl, ?hy7⟩) hHeld ?rest7
            case hy7 => (intro wz hSw; (try dsimp only at hSw); go_simp; (try with_reducible rfl))
            (try simp only [Act.put, List.getElem_toArray, List.getElem_cons_succ, List.getElem_cons_zero]); (try simp only [List.setIfInBounds_toArray]); (try simp only [List.set_cons_succ]); (try simp only [List.set_cons_zero])
            refine wpAnyH_take (i := 8) (v := ?v8) rfl (by kernel_rfl) (by kernel_rfl) (by kernel_rfl) (fun _ _ _ h => h) (Or.inl ⟨by rfl, ?hy8⟩) hHeld ?rest8
            case hy8 => (intro wz hSw; (try dsimp only at hSw); go_simp; (try with_reducible rfl))
            (try simp only [Act.put, List.getElem_toArray, List.getElem_cons_succ, List.getElem_cons_zero]); (try simp only [List.setIfInBounds_toArray]); (try simp only [List.set_cons_succ]); (try simp only [List.set_cons_zero])
            refine wpAnyH_take (i := 9) (v := ?v9) rfl (by kernel_rfl) (by kernel_rfl) (by kernel_rfl) (fun _ _ _ h => h) (Or.inl ⟨by rfl, ?hy9⟩) hHeld ?rest9
            case hy9 => (intro wz hSw; (try dsimp only at hSw); go_simp; (try with_reducible rfl))
            (try simp only [Act.put, List.getElem_toArray, List.getElem_cons_succ, List.getElem_cons_zero]); (try simp only [List.setIfInBounds_toArray]); (try simp only [List.set_cons_succ]); (try simp only [List.set_cons_zero])
            refine wpAnyH_take (i := 10) (v := ?v10) rfl (by kernel_rfl) (by kernel_rfl) (by kernel_rfl) (fun _ _ _ h => h) (Or.inl ⟨by rfl, ?hy10⟩) hHeld ?rest10
            case hy10 => (intro wz hSw; (try dsimp only at hSw); go_simp; (try with_reducible rfl))
            (try simp only [Act.put, List.getElem_toArray, List.getElem_cons_succ, List.getElem_cons_zero]); (try simp only [List.setIfInBounds_toArray]); (try simp only [List.set_cons_succ]); (try simp only [List.set_cons_zero])
            refine wpAnyH_take (i := 11) (v := ?v11) rfl (by kernel_rfl) (by kernel_rfl) (by kernel_rfl) (fun _ _ _ h => h) (Or.inl ⟨by rfl, ?hy11⟩) hHeld ?rest11
            case hy11 => (intro wz hSw; (try dsimp only at hSw); go_simp; (try with_reducible rfl))
            (try simp only [Act.put, List.getElem_toArray, List.getElem_cons_succ, List.getElem_cons_zero]); (try simp only [List.setIfInBounds_toArray]); (try simp only [List.set_cons_succ]); (try simp only [List.set_cons_zero])
            refine wpAnyH_take (i := 12) (v := ?v12) rfl (by kernel_rfl) (by kernel_rfl) (by kernel_rfl) (fun _ _ _ h => h) (Or.inl ⟨by rfl, ?hy12⟩) hHeld ?rest12
            case hy12 => (intro wz hSw; (try dsimp only at hSw); go_simp; (try with_reducible rfl))
            (try simp only [Act.put, List.getElem_toArray, List.getElem_cons_succ, List.getElem_cons_zero]); (try simp only [List.setIfInBounds_toArray]); (try simp only [List.set_cons_succ]); (try simp only [List.set_cons_zero])
            refine wpAnyH_take (i := 16) (v := ?v13) rfl (by kernel_rfl) (by kernel_rfl) (by kernel_rfl) (fun _ _ _ h => h) (Or.inl ⟨by rfl, ?hy13⟩) hHeld ?rest13
            case hy13 => (intro wz hSw; (try dsimp only at hSw); go_simp; (try with_reducible rfl))
            (try simp only [Act.put, List.getElem_toArray, List.getElem_cons_succ, List.getElem_cons_zero]); (try simp only [List.setIfInBounds_toArray]); (try simp only [List.set_cons_succ]); (try simp only [List.set_cons_zero])
            refine wpAnyH_take (i := 17) (v := ?v14) rfl (by kernel_rfl) (by kernel_rfl) (by kernel_rfl) (fun _ _ _ h => h) (Or.inl ⟨by rfl, ?hy14⟩) hHeld ?rest14
            case hy14 => (intro wz hSw; (try dsimp only at hSw); go_simp; (try with_reducible rfl))
            (try simp only [Act.put, List.getElem_toArray, List.getElem_cons_succ, List.getElem_cons_zero]); (try simp only [List.setIfInBounds_toArray]); (try simp only [List.set_cons_succ]); (try simp only [List.set_cons_zero])
            refine wpAnyH_ready (rs := [5, 13]) (by kernel_rfl) (by simp) ?_
            refine AllReadyH.cons rfl (fun K' hK => ?_) (AllReadyH.cons rfl (fun K' hK => ?_) AllReadyH.nil)
            · skip
              go_simp
              refine hK.out _ _ hHeld (fun hHeld => ?_)
              clear hK
              refine wpAnyH_ready (rs := [13]) (by kernel_rfl) (by simp) ?_
              refine AllReadyH.cons rfl (fun K' hK => ?_) AllReadyH.nil
              go_simp
              refine (l1At_spec _ _ _ _ _ _ _ _ ms _ ((HR.out.ext EW.out).ext (Ext.refl _).drew) hpl9 (by omega)).mono ?_
              rintro e w2 ⟨rfl, h2⟩
              dsimp only
              refine hK.out _ _ (keptB_call hHeld h2) (fun hHeld => ?_)
              clear hK
              refine wpAnyH_take (i := 14) (v := ?v15) rfl (by kernel_rfl) (by kernel_rfl) (by kernel_rfl) (fun _ _ _ h => h) (Or.inl ⟨by rfl, ?hy15⟩) hHeld ?rest15
              case hy15 => (intro wz hSw; (try dsimp only at hSw); go_simp; (try with_reducible rfl))
              (try simp only [Act.put, List.getElem_toArray, List.getElem_cons_succ, List.getElem_cons_zero]); (try simp only [List.setIfInBounds_toArray]); (try simp only [List.set_cons_succ]); (try simp only [List.set_cons_zero])
              refine wpAnyH_take (i := 15) (v := ?v16) rfl (by kernel_rfl) (by kernel_rfl) (by kernel_rfl) (fun _ _ _ h => h) (Or.inl ⟨by rfl, ?hy16⟩) hHeld ?rest16
              case hy16 => (intro wz hSw; (try dsimp only at hSw); go_simp; (try with_reducible rfl))
              (try simp only [Act.put, List.getElem_toArray, List.getElem_cons_succ, List.getElem_cons_zero]); (try simp only [List.setIfInBounds_toArray]); (try simp only [List.set_cons_succ]); (try simp only [List.set_cons_zero])
              refine wpAnyH_take (i := 18) (v := ?v17) rfl (by kernel_rfl) (by kernel_rfl) (by kernel_rfl) (fun _ _ _ h => h) (Or.inl ⟨by rfl, ?hy17⟩) hHeld ?rest17
              case hy17 => (intro wz hSw; (try dsimp only at hSw); go_simp; (try with_reducible rfl))
              (try simp only [Act.put, List.getElem_toArray, List.getElem_cons_succ, List.getElem_cons_zero]); (try simp only [List.setIfInBounds_toArray]); (try simp only [List.set_cons_succ]); (try simp only [List.set_cons_zero])
              refine wpAnyH_take (i := 19) (v := ?v18) rfl (by kernel_rfl) (by kernel_rfl) (by kernel_rfl) (fun _ _ _ h => h) (Or.inl ⟨by rfl, ?hy18⟩) hHeld ?rest18
              case hy18 => (intro wz hSw; (try dsimp only at hSw); go_simp; (try with_reducible rfl))
              (try simp only [Act.put, List.getElem_toArray, List.getElem_cons_succ, List.getElem_cons_zero]); (try simp only [List.setIfInBounds_toArray]); (try simp only [List.set_cons_succ]); (try simp only [List.set_cons_zero])
              have c2 := ((HHH.out.ext (Ext.refl _).drew).ext h2).cell j (by rw [hlen.out]; exact hlt3)
              have f2 := ((HHH.out.ext (Ext.refl _).drew).ext h2).free j
              refine wpAnyH_ready (rs := [20]) (by kernel_rfl) (by simp) ?_
              refine AllReadyH.cons rfl (fun K' hK => ?_) AllReadyH.nil
              go_simp
              refine hK.out _ _ (keptB_set hHeld _ _) (fun hHeld => ?_)
              clear hK
              refine wpAnyH_done (by kernel_rfl) ?_ _
              have G4 : Hid (W1.grownBy (w2.setCell ⟨b, j, none⟩ (.int .i64 ((gi (imTo P Q xs ms i) j + x * gi ms (i * Q + j)) % P))) (some b)) := grownBy_set (p := ⟨b, j, none⟩) (grownBy_ext hG.out ((Ext.refl _).drew.trans h2)) rfl _
              have K4 := HN1.out w2 ((Ext.refl _).drew.trans h2)
              clear hHeld hG HHH y1 w1' w2' v6 v7 c2 f2 h2 HN1 m0 m1 la a0' a1' a2' a3' hxb hxc EW
              go_wp2
              exact ⟨⟨j + 1, by omega, by simp, G4, K4⟩, by simp [intOf]; omega⟩
            · skip
              go_simp
              refine (l1At_spec _ _ _ _ _ _ _ _ ms _ ((HR.out.ext EW.out).ext (Ext.refl _).drew) hpl9 (by omega)).mono ?_
              rintro e w2 ⟨rfl, h2⟩
              dsimp only
              refine hK.out _ _ (keptB_call hHeld h2) (fun hHeld => ?_)
              clear hK
              have x9 := ((HHH.out.ext (Ext.refl _).drew).ext h2).cell j (by rw [hlen.out]; exact hlt3)
              rw [HGE.out] at x9
              refine wpAnyH_take (i := 14) (v := ?v19) rfl (by kernel_rfl) (by kernel_rfl) (by kernel_rfl) (fun _ _ _ h => h) (Or.inl ⟨by rfl, ?hy19⟩) hHeld ?rest19
              case hy19 => (intro wz hSw; (try dsimp only at hSw); go_simp; (try with_reducible rfl))
              (try simp only [Act.put, List.getElem_toArray, List.getElem_cons_succ, List.getElem_cons_zero]); (try simp only [List.setIfInBounds_toArray]); (try simp only [List.set_cons_succ]); (try simp only [List.set_cons_zero])
              refine wpAnyH_ready (rs := [5]) (by kernel_rfl) (by simp) ?_
              refine AllReadyH.cons rfl (fun K' hK => ?_) AllReadyH.nil
              go_simp
              refine hK.out _ _ hHeld (fun hHeld => ?_)
              clear hK
              refine wpAnyH_take (i := 15) (v := ?v20) rfl (by kernel_rfl) (by kernel_rfl) (by kernel_rfl) (fun _ _ _ h => h) (Or.inl ⟨by rfl, ?hy20⟩) hHeld ?rest20
              case hy20 => (intro wz hSw; (try dsimp only at hSw); go_simp; (try with_reducible rfl))
              (try simp only [Act.put, List.getElem_toArray, List.getElem_cons_succ, List.getElem_cons_zero]); (try simp only [List.setIfInBounds_toArray]); (try simp only [List.set_cons_succ]); (try simp only [List.set_cons_zero])
              refine wpAnyH_take (i := 18) (v := ?v21) rfl (by kernel_rfl) (by kernel_rfl) (by kernel_rfl) (fun _ _ _ h => h) (Or.inl ⟨by rfl, ?hy21⟩) hHeld ?rest21
              case hy21 => (intro wz hSw; (try dsimp only at hSw); go_simp; (try with_reducible rfl))
              (try simp only [Act.put, List.getElem_toArray, List.getElem_cons_succ, List.getElem_cons_zero]); (try simp only [List.setIfInBounds_toArray]); (try simp only [List.set_cons_succ]); (try simp only [List.set_cons_zero])
              refine wpAnyH_take (i := 19) (v := ?v22) rfl (by kernel_rfl) (by kernel_rfl) (by kernel_rfl) (fun _ _ _ h => h) (Or.inl ⟨by rfl, ?hy22⟩) hHeld ?rest22
              case hy22 => (intro wz hSw; (try dsimp only at hSw); go_simp; (try with_reducible rfl))
              (try simp only [Act.put, List.getElem_toArray, List.getElem_cons_succ, List.getElem_cons_zero]); (try simp only [List.setIfInBounds_toArray]); (try simp only [List.set_cons_succ]); (try simp only [List.set_cons_zero])
              have c2 := ((HHH.out.ext (Ext.refl _).drew).ext h2).cell j (by rw [hlen.out]; exact hlt3)
              have f2 := ((HHH.out.ext (Ext.refl _).drew).ext h2).free j
              refine wpAnyH_ready (rs := [20]) (by kernel_rfl) (by simp) ?_
              refine AllReadyH.cons rfl (fun K' hK => ?_) AllReadyH.nil
              go_simp
              refine hK.out _ _ (keptB_set hHeld _ _) (fun hHeld => ?_)
              clear hK
              refine wpAnyH_done (by kernel_rfl) ?_ _
              have G4 : Hid (W1.grownBy (w2.setCell ⟨b, j, none⟩ (.int .i64 ((gi (imTo P Q xs ms i) j + x * gi ms (i * Q + j)) % P))) (some b)) := grownBy_set (p := ⟨b, j, none⟩) (grownBy_ext hG.out ((Ext.refl _).drew.trans h2)) rfl _
              have K4 := HN1.out w2 ((Ext.refl _).drew.trans h2)
              clear hHeld hG HHH y1 w1' w2' v6 v7 c2 f2 h2 HN1 m0 m1 la a0' a1' a2' a3' hxb hxc EW
              go_wp2
              exact ⟨⟨j + 1, by omega, by simp, G4, K4⟩, by simp [intOf]; omega⟩
          · obtain rfl : Q = j := by omega
            have hK2 : Hid (Has wr b (imTo P Q xs ms (i + 1))) := by rw [HS2.out]; exact hH
            clear hH
            go_wp2
            exact ⟨⟨i + 1, by omega, by simp, hG, hK2⟩, by simp [intOf]; omega⟩
    · obtain rfl : K = i := by omega
      have E9 := Lib.hid (E1.out.grown hG.out (fun z hz => by simp at hz; have := HB.out; omega))
      go_wp2
      go_ret
      exact ⟨b, rfl, hK1.out, E9.out⟩
end Go.Proofs.Ytapaopapgnfdkaa
