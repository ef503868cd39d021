/-
  The types of the parts of a Cartan matrix, in the specification.
-/
import Derived.Test.YtlnpaplbcocmkaaGreatFit
import Derived.Test.YtlnpaplbcocmkaaGreatWrp
namespace Go.Proofs.YtlnpaplbcocmkaaGreat
open Go.ChangeShapes Go.WideShapes Go.ChangeAt Go.RowKit
set_option linter.unusedVariables false
set_option linter.unusedSimpArgs false

set_option maxHeartbeats 400000 in
theorem l1In_spec (x lo hi : Int) (w : World) : Calls Tryz.prog 110 #[.int .i64 x, .int .i64 lo, .int .i64 hi] w fun e w' => e = .returned (.bool (decide (lo ≤ x ∧ x ≤ hi))) ∧ w = w' := by
  by_cases h1 : lo ≤ x
  · by_cases h2 : x ≤ hi
    · go_enter Tryz.func110, Tryz.ntmps110
      go_wp2
      go_ret
      exact ⟨ret_bool (by first | (simp [*]; done) | (simp; omega)), rfl⟩
    · go_enter Tryz.func110, Tryz.ntmps110
      go_wp2
      go_ret
      exact ⟨ret_bool (by first | (simp [*]; done) | (simp; omega)), rfl⟩
  · go_enter Tryz.func110, Tryz.ntmps110
    go_wp2
    go_ret
    exact ⟨ret_bool (by first | (simp [*]; done) | (simp; omega)), rfl⟩
set_option maxRecDepth 100000 in
theorem l5Names_spec (w : World) : Calls Tryz.prog 141 #[] w fun e w' => ∃ g, e = .returned (.slice (some ⟨g, 0, none⟩) 12 12) ∧ g < w'.heap.size ∧ (∀ q, q < 12 → w'.cell? ⟨g, q, none⟩ = some (.string (nmS (ni spN q)))) ∧ Ext w w' := by
  go_enter Tryz.func141, Tryz.ntmps141
  go_wp2
  go_ret
  refine ⟨w.heap.size, rfl, by simp, fun q hq => ?_, (Ext.refl w).alloc _⟩
  rw [World.cell?_alloc_at _ _ _ _ rfl]
  have : ∀ q, q < 12 → (#[.string (nmS (ni spN 0)), .string (nmS (ni spN 1)), .string (nmS (ni spN 2)), .string (nmS (ni spN 3)), .string (nmS (ni spN 4)), .string (nmS (ni spN 5)), .string (nmS (ni spN 6)), .string (nmS (ni spN 7)), .string (nmS (ni spN 8)), .string (nmS (ni spN 9)), .string (nmS (ni spN 10)), .string (nmS (ni spN 11))] : Array Value)[q]? = some (.string (nmS (ni spN q)))
    | 0, _ => rfl | 1, _ => rfl | 2, _ => rfl | 3, _ => rfl | 4, _ => rfl | 5, _ => rfl | 6, _ => rfl | 7, _ => rfl | 8, _ => rfl | 9, _ => rfl | 10, _ => rfl | 11, _ => rfl
    | n + 12, h => absurd h (by omega)
  exact this q hq
theorem nm_bytes : ∀ k, k < 12 → (nmS k).size = 2 ∧ ∀ h, ((nmS k)[1]'h).toNat = 48 + frk k
  | 0, _ => ⟨rfl, fun _ => rfl⟩ | 1, _ => ⟨rfl, fun _ => rfl⟩ | 2, _ => ⟨rfl, fun _ => rfl⟩ | 3, _ => ⟨rfl, fun _ => rfl⟩ | 4, _ => ⟨rfl, fun _ => rfl⟩ | 5, _ => ⟨rfl, fun _ => rfl⟩
  | 6, _ => ⟨rfl, fun _ => rfl⟩ | 7, _ => ⟨rfl, fun _ => rfl⟩ | 8, _ => ⟨rfl, fun _ => rfl⟩ | 9, _ => ⟨rfl, fun _ => rfl⟩ | 10, _ => ⟨rfl, fun _ => rfl⟩ | 11, _ => ⟨rfl, fun _ => rfl⟩
  | n + 12, h => absurd h (by omega)
set_option maxRecDepth 100000 in
set_option maxHeartbeats 1600000 in
theorem l5Parts_bad (R : Int) (da od n cD : Nat) (w : World) (hm : n ≤ 1048576) (h : ¬ (1 ≤ R ∧ R ≤ 4 ∧ (n : Int) = R * R)) :
    Calls Tryz.prog 97 #[.agg #[.int .i64 R, .slice (some ⟨da, od, none⟩) n cD]] w fun e w' => e = .returned (.tuple #[.slice none 0 0, .bool false]) ∧ Ext w w' := by
  by_cases h1 : 1 ≤ R ∧ R ≤ 4
  · obtain ⟨R, rfl⟩ := Int.eq_ofNat_of_zero_le (show 0 ≤ R by omega)
    have hd : decide ((1 : Int) ≤ (R : Int) ∧ (R : Int) ≤ 4) = true := decide_eq_true h1
    have hRR : R * R ≤ 16 := sq4 (by omega)
    have e1 : (R : Int) * (R : Int) = ((R * R : Nat) : Int) := by simp
    have hw : IntKind.i64.wrap ((R : Int) * (R : Int)) = (R : Int) * (R : Int) := IntWalk.i64_in _ ⟨by rw [e1]; omega, by rw [e1]; omega⟩
    have hne : ((n : Int) == (R : Int) * (R : Int)) = false := by
      rw [beq_eq_false_iff_ne]; intro e; exact h ⟨h1.1, h1.2, e⟩
    have hne2 : ((n : Int) != (R : Int) * (R : Int)) = true := by rw [bne, hne]; rfl
    have HIN := Lib.hid (fun w1 => l1In_spec (R : Int) 1 4 w1)
    rw [hd] at HIN
    clear h e1 hRR hd h1
    go_enter Tryz.func97, Tryz.ntmps97
    go_wp2_with fail
    refine (HIN.out _).mono ?_
    rintro e w' ⟨rfl, rfl⟩
    go_wp2
    go_ret2
    exact ⟨rfl, (Ext.refl w).alloc _⟩
  · have hd : decide ((1 : Int) ≤ R ∧ R ≤ 4) = false := decide_eq_false h1
    have HIN := Lib.hid (fun w1 => l1In_spec R 1 4 w1)
    rw [hd] at HIN
    clear h hd h1
    go_enter Tryz.func97, Tryz.ntmps97
    go_wp2_with fail
    refine (HIN.out _).mono ?_
    rintro e w' ⟨rfl, rfl⟩
    go_wp2
    go_ret2
    exact ⟨rfl, (Ext.refl w).alloc _⟩

theorem rngB_at {xs : List Int} {R : Nat} : rngB xs R = true ↔ ∀ e, e < R * R → (-3 ≤ gi xs e ∧ gi xs e ≤ 2) ∧ (gi xs e = 0 ∨ gi xs (e % R * R + e / R) ≠ 0) := by
  unfold rngB
  simp only [List.all_eq_true, List.mem_range, Bool.and_eq_true, decide_eq_true_eq, Bool.or_eq_true, beq_iff_eq, bne_iff_ne]
theorem rngB_sym {xs : List Int} {R : Nat} (h : rngB xs R = true) : ∀ i j, i < R → j < R → gi xs (i * R + j) = 0 → gi xs (j * R + i) = 0 := by
  intro i j hi hj h0
  have h1 := (rngB_at.1 h (j * R + i) (at_lt hj hi)).2
  have e1 : (j * R + i) % R = i := by rw [Nat.mul_comm, Nat.mul_add_mod]; exact Nat.mod_eq_of_lt hi
  have e2 : (j * R + i) / R = j := by rw [Nat.mul_comm, Nat.mul_add_div (by omega), Nat.div_eq_of_lt hi, Nat.add_zero]
  rw [e1, e2] at h1
  rcases h1 with h1 | h1
  · exact h1
  · exact absurd h0 h1
theorem foundM_lt {xs : List Int} {R : Nat} {rows : List Nat} (k : Nat) : ∀ q, q ≤ 12 → foundM xs R rows q = some k → k < 12
  | 0, _, h => by cases h
  | q + 1, hq, h => by
    rw [foundM] at h
    split at h
    · injection h with h; rw [← h]
      have : ∀ q, q < 12 → ni spN q < 12 := by decide
      exact this q (by omega)
    · exact foundM_lt k q (by omega) h
def fS : Option Nat → ByteArray
  | none => ⟨#[]⟩
  | some k => nmS k
theorem ownsRow_cap {w : World} {base n cap : Nat} {a : Addr} {ys : List Value} {t : TypeId} (h : w.ownsRow base t 1 (.slice (some a) n cap) n ys) : n ≤ cap ∧ cap ≤ maxLen := by
  rcases h.2 with ⟨e1, e2⟩ | ⟨g, cap2, cur, e1, hb, hg, hn, hc, hs, ht⟩
  · injection e1 with e3; cases e3
  · injection e1 with e2 e3 e4; omega
theorem own_take {w : World} {base n cap g p : Nat} {ys : List Value} {t : TypeId} (h : w.ownsRow base t 1 (.slice (some ⟨g, 0, none⟩) n cap) n ys) (hl : ys.length = n) : ∀ j u, (ys.take p)[j]? = some u → w.cell? ((⟨g, 0, none⟩ : Addr).add j) = some u := by
  intro j u hu
  have hj := (List.getElem?_eq_some_iff.1 hu).1
  rw [List.length_take] at hj
  obtain ⟨g2, e, _, _, hc⟩ := ownsRow_get h (by omega)
  injection e with e
  injection e with e
  subst e
  rw [List.getElem?_take_of_lt (by omega)] at hu
  rw [add_plain, hc _ (by omega), Nat.zero_add]
  exact hu
theorem own_drop {w : World} {base n cap g p : Nat} {ys : List Value} {t : TypeId} (h : w.ownsRow base t 1 (.slice (some ⟨g, 0, none⟩) n cap) n ys) (hl : ys.length = n) (ad : Addr) (ha : ad = ⟨g, p, none⟩ ∨ n ≤ p) : ∀ j u, (ys.drop p)[j]? = some u → w.cell? (ad.add j) = some u := by
  intro j u hu
  have hj := (List.getElem?_eq_some_iff.1 hu).1
  rw [List.length_drop] at hj
  obtain ⟨g2, e, _, _, hc⟩ := ownsRow_get h (by omega)
  injection e with e
  injection e with e
  subst e
  rcases ha with rfl | ha
  · rw [List.getElem?_drop] at hu
    rw [add_plain, hc _ (by omega)]
    exact hu
  · omega
theorem one_news {w : World} {g : Nat} {y : Value} (h : w.cell? ⟨g, 0, none⟩ = some y) : ∀ (j : Nat) (u : Value), [y][j]? = some u → w.cell? ((⟨g, 0, none⟩ : Addr).add j) = some u := by
  intro j u hu
  obtain rfl : j = 0 := by have := (List.getElem?_eq_some_iff.1 hu).1; simp at this; omega
  simp at hu
  subst hu
  exact h
theorem ownsRow_low {w : World} {base base' n : Nat} {t : TypeId} {v : Value} {xs : List Value} (h : w.ownsRow base t 1 v n xs) (hb : base' ≤ base) : w.ownsRow base' t 1 v n xs := by
  refine ⟨h.1, ?_⟩
  rcases h.2 with h2 | ⟨g, cap, cur, e1, h3, h4⟩
  · exact .inl h2
  · exact .inr ⟨g, cap, cur, e1, by omega, h4⟩
theorem fS_none : (fS none).toList.isEmpty = true := by decide +kernel
theorem fS_some : ∀ k, k < 12 → (fS (some k)).toList.isEmpty = false := by decide +kernel
theorem ownsRow_ty {w w' : World} {base base2 n n2 : Nat} {t t2 : TypeId} {v v2 : Value} {vs vs2 : List Value} (hne : t ≠ t2) (h : w.ownsRow base t 1 v n vs) (h2 : w.ownsRow base2 t2 1 v2 n2 vs2) (hg : w.grownBy w' v2.ownBlock) : w'.ownsRow base t 1 v n vs := by
  obtain ⟨h1, h3⟩ := h
  refine ⟨h1, ?_⟩
  rcases h3 with h3 | ⟨g, cap, cur, rfl, h4, h5, h6⟩
  · exact .inl h3
  · refine .inr ⟨g, cap, cur, rfl, h4, ?_, h6⟩
    rw [hg.block g (Array.getElem?_eq_some_iff.1 h5).1 (fun e => ?_)]
    · exact h5
    · rcases h2.2 with ⟨e1, _⟩ | ⟨g2, cap2, cur2, e1, _, h7, _⟩
      · rw [e1] at e; simp [Value.ownBlock] at e
      · rw [e1] at e
        simp [Value.ownBlock] at e
        subst e
        rw [h5] at h7
        simp at h7
        exact hne h7.2
theorem specS_stop {xs : List Int} {R i : Nat} (h : specS xs R i = none) : ∀ d, specS xs R (i + d) = none
  | 0 => h
  | d + 1 => by rw [← Nat.add_assoc, specS, specS_stop h d]
theorem insN_length (k : Nat) : ∀ l : List Nat, (insN k l).length = l.length + 1
  | [] => rfl
  | a :: t => by rw [insN]; split <;> simp [insN_length k t]
theorem specS_len {xs : List Int} {R : Nat} : ∀ i done ns, specS xs R i = some (done, ns) → ns.length ≤ i
  | 0, done, ns, h => by cases h; simp
  | i + 1, done, ns, h => by
    rw [specS] at h
    rcases h1 : specS xs R i with _ | ⟨d1, n1⟩
    · rw [h1] at h; cases h
    · rw [h1] at h
      simp only at h
      have a1 := specS_len i d1 n1 h1
      split at h
      · cases h; omega
      · rcases h3 : foundM xs R (conn (bx xs R) R i) 12 with _ | k
        · rw [h3] at h; cases h
        · rw [h3] at h; cases h; rw [insN_length]; omega
theorem specS_done {xs : List Int} {R : Nat} (hR : R ≤ 4) : ∀ i done ns, i ≤ R → specS xs R i = some (done, ns) → done.length ≤ i * 4
  | 0, done, ns, _, h => by cases h; simp
  | i + 1, done, ns, hi, h => by
    rw [specS] at h
    rcases h1 : specS xs R i with _ | ⟨d1, n1⟩
    · rw [h1] at h; cases h
    · rw [h1] at h
      simp only at h
      have a1 := specS_done hR i d1 n1 (by omega) h1
      split at h
      · cases h; omega
      · rcases h3 : foundM xs R (conn (bx xs R) R i) 12 with _ | k
        · rw [h3] at h; cases h
        · rw [h3] at h; cases h
          have := (conn_bx xs R hR).len i (by omega)
          simp only [List.length_append]; omega
theorem specS_steps {xs : List Int} {R i : Nat} {done ns : List Nat} (hR : R ≤ 4) (h : specS xs R i = some (done, ns)) : (i ∈ done → specS xs R (i + 1) = some (done, ns)) ∧ (¬ i ∈ done → (foundM xs R (conn (bx xs R) R i) 12 = none → i < R → specS xs R R = none) ∧ ∀ k, foundM xs R (conn (bx xs R) R i) 12 = some k → specS xs R (i + 1) = some (done ++ conn (bx xs R) R i, insN k ns)) ∧ (i < R → done.length ≤ 16) := by
  refine ⟨fun h1 => by rw [specS, h]; simp only; rw [if_pos (List.contains_iff_mem.2 h1)], fun h1 => ?_, fun h1 => by have := specS_done hR i done ns (by omega) h; omega⟩
  have h2 : ¬ done.contains i = true := fun h3 => h1 (List.contains_iff_mem.1 h3)
  refine ⟨fun h3 h4 => ?_, fun k h3 => by rw [specS, h]; simp only; rw [if_neg h2, h3]⟩
  have h5 : specS xs R (i + 1) = none := by rw [specS, h]; simp only; rw [if_neg h2, h3]
  have := specS_stop h5 (R - (i + 1))
  rwa [show i + 1 + (R - (i + 1)) = R by omega] at this
set_option maxRecDepth 100000 in
set_option maxHeartbeats 12800000 in
theorem l5Parts_spec (R da od n cD : Nat) (xs : List Int) (w : World) (hr : Reads w (some ⟨da, od, none⟩) n xs) (hn : n = R * R) (hR0 : 1 ≤ R) (hR : R ≤ 4) :
    Calls Tryz.prog 97 #[.agg #[.int .i64 (R : Nat), .slice (some ⟨da, od, none⟩) n cD]] w fun e w' => Ext w w' ∧ ((specM xs R = none ∧ e = .returned (.tuple #[.slice none 0 0, .bool false])) ∨ ∃ ns a c, specM xs R = some ns ∧ e = .returned (.tuple #[.slice a ns.length c, .bool true])) := by
  have HR := Lib.hid hr
  have HN := Lib.hid hn
  have hn16 : n ≤ 16 := by rw [hn]; exact sq4 hR
  have e1 : (R : Int) * (R : Int) = ((R * R : Nat) : Int) := by simp
  have hw : IntKind.i64.wrap ((R : Int) * (R : Int)) = (R : Int) * (R : Int) := IntWalk.i64_in _ ⟨by rw [e1, ← hn]; omega, by rw [e1, ← hn]; omega⟩
  have heq : ((n : Int) == (R : Int) * (R : Int)) = true := by rw [beq_iff_eq, e1, hn]
  have hnq : ((n : Int) != (R : Int) * (R : Int)) = false := by rw [bne, heq]; rfl
  have hd : decide ((1 : Int) ≤ (R : Int) ∧ (R : Int) ≤ 4) = true := decide_eq_true ⟨by omega, by omega⟩
  have HIN0 := Lib.hid (fun w1 => l1In_spec (R : Int) 1 4 w1)
  rw [hd] at HIN0
  have HRN := Lib.hid (rngB_at (xs := xs) (R := R))
  have C0 := Lib.hid (cells_new w #[.int .i64 (R : Nat), .slice (some ⟨da, od, none⟩) n cD] 27)
  have X0 := Lib.hid ((Ext.refl w).alloc (.cells #[.int .i64 (R : Nat), .slice (some ⟨da, od, none⟩) n cD] 27))
  have HSM : Hid ((rngB xs R = false → specM xs R = none) ∧ (rngB xs R = true → specM xs R = (specS xs R R).map (·.2))) := by
    constructor
    · intro h; rw [specM, h]; rfl
    · intro h; rw [specM, h]; rfl
  have HSS : Hid (∀ i done ns, specS xs R i = some (done, ns) → (i ∈ done → specS xs R (i + 1) = some (done, ns)) ∧ (¬ i ∈ done → (foundM xs R (conn (bx xs R) R i) 12 = none → i < R → specS xs R R = none) ∧ ∀ k, foundM xs R (conn (bx xs R) R i) 12 = some k → specS xs R (i + 1) = some (done ++ conn (bx xs R) R i, insN k ns)) ∧ (i < R → done.length ≤ 16)) := fun i done ns h => specS_steps hR h
  have HNL : Hid (∀ i done ns, specS xs R i = some (done, ns) → ns.length ≤ i) := fun i done ns h => specS_len i done ns h
  have HCX := Lib.hid (conn_bx xs R hR)
  have hRz : ¬ (R : Int) = 0 := by omega
  have hR0' : 0 < R := hR0
  clear hr hn e1 hd
  go_enter Tryz.func97, Tryz.ntmps97
  go_wp2_with fail
  refine (HIN0.out _).mono ?_
  rintro e w' ⟨rfl, rfl⟩
  generalize (w.alloc (.cells #[.int .i64 (R : Nat), .slice (some ⟨da, od, none⟩) n cD] 27)) = W1 at *
  have l1 := C0.out.1
  have z0 := C0.out.2 0 _ rfl
  have z1 := C0.out.2 1 _ rfl
  go_wp2_with fail
  clear l1 z0 z1 HIN0
  go_loopw [4] (fun z wr => ∃ e : Nat, e ≤ n ∧ z = .int .i64 e ∧ Hid (Ext W1 wr) ∧ Hid (∀ p, p < e → (-3 ≤ gi xs p ∧ gi xs p ≤ 2) ∧ (gi xs p = 0 ∨ gi xs (p % R * R + p / R) ≠ 0))) (fun z _ => n - (intOf z).toNat)
  case atStart => exact ⟨0, by omega, rfl, Ext.refl _, fun p h => by omega⟩
  case round =>
    obtain ⟨e, he, rfl, hE, hD⟩ := hrel
    have C1 := Lib.hid (C0.out.ext hE.out)
    have l1 := C1.out.1
    have z0 := C1.out.2 0 _ rfl
    have z1 := C1.out.2 1 _ rfl
    have XE := Lib.hid (X0.out.trans hE.out)
    by_cases hlt : e < n
    · have HRW := HR.out.ext XE.out
      have heR : e < R * R := by rw [← HN.out]; exact hlt
      have hrow : e / R < R := Nat.div_lt_of_lt_mul heR
      have hcol : e % R < R := Nat.mod_lt _ hR0'
      have htr : e % R * R + e / R < n := by rw [HN.out]; exact at_lt hcol hrow
      have hc : da < wr.heap.size ∧ ∀ q, q < n → wr.cell? ⟨da, od + q, none⟩ = some (.int .i64 (gi xs q)) := by
        rcases HRW.2 with h | ⟨b3, o3, h, hb3, hc3⟩
        · omega
        · simp only [Option.some.injEq, Addr.mk.injEq, and_true] at h
          obtain ⟨rfl, rfl⟩ := h
          exact ⟨hb3, hc3⟩
      obtain ⟨hdl, hc⟩ := hc
      have x1 := hc e hlt
      have x2 := hc _ htr
      have hce : (e % R) * R ≤ 16 := by have := Nat.le_add_right (e % R * R) (e / R); omega
      have hrz : ¬ R = 0 := by omega
      have e2 : (e : Int).tmod (R : Int) * (R : Int) = (((e % R) * R : Nat) : Int) := by rw [Int.tmod_eq_emod_of_nonneg (by omega), Int.natCast_mul, Int.natCast_emod]
      have e4 : (e : Int) / (R : Int) = ((e / R : Nat) : Int) := by rw [Int.natCast_ediv]
      have he16 : e / R ≤ 16 := Nat.le_trans (Nat.div_le_self _ _) (by omega)
      have hA := hD
      have HD2 : Hid ((-3 ≤ gi xs e ∧ gi xs e ≤ 2) ∧ (gi xs e = 0 ∨ gi xs (e % R * R + e / R) ≠ 0) → ∀ p, p < e + 1 → (-3 ≤ gi xs p ∧ gi xs p ≤ 2) ∧ (gi xs p = 0 ∨ gi xs (p % R * R + p / R) ≠ 0)) := fun h p hp => by
        by_cases ep : p = e
        · subst ep; exact h
        · exact hA.out p (by omega)
      have HNO : Hid (¬ ((-3 ≤ gi xs e ∧ gi xs e ≤ 2) ∧ (gi xs e = 0 ∨ gi xs (e % R * R + e / R) ≠ 0)) → specM xs R = none) := fun h => HSM.out.1 (by
        rcases h1 : rngB xs R with _ | _
        · rfl
        · exact absurd (HRN.out.1 h1 e heR) h)
      generalize gi xs (e % R * R + e / R) = y at *
      generalize gi xs e = x at *
      have HIN := Lib.hid (fun w1 => l1In_spec x (-3) 2 w1)
      clear hc hD hA HRW
      rcases hin : decide (-3 ≤ x ∧ x ≤ 2) with _ | _
      · have HF := Lib.hid (HNO.out (fun h => by rw [decide_eq_true h.1] at hin; cases hin))
        rw [hin] at HIN
        go_wp2_with fail
        refine wp_region_held_drew (S := (fun w' => Ext wr w' ∧ (∀ b o, b < wr.heap.size → w'.cell? ⟨b, o, none⟩ = wr.cell? ⟨b, o, none⟩))) (by kernel_rfl) (ext2 (Ext.refl wr).drew) (fun hHeld => ?_)
        refine wpAnyH_take (i := 0) (v := ?v1) rfl (by kernel_rfl) (by kernel_rfl) (by kernel_rfl) (fun _ _ _ h => h) (Or.inl ⟨by rfl, ?hy1⟩) hHeld ?rest1
        case hy1 => (intro wz hSw; (try dsimp only at hSw); go_simp; (try with_reducible rfl))
        (try simp only [Act.put, List.getElem_toArray, List.getElem_cons_succ, List.getElem_cons_zero]); (try simp only [List.setIfInBounds_toArray]); (try simp only [List.set_cons_succ]); (try simp only [List.set_cons_zero])
        refine wpAnyH_take (i := 1) (v := ?v2) rfl (by kernel_rfl) (by kernel_rfl) (by kernel_rfl) (fun _ _ _ h => h) (Or.inl ⟨by rfl, ?hy2⟩) hHeld ?rest2
        case hy2 => (intro wz hSw; (try dsimp only at hSw); go_simp; (try with_reducible rfl))
        (try simp only [Act.put, List.getElem_toArray, List.getElem_cons_succ, List.getElem_cons_zero]); (try simp only [List.setIfInBounds_toArray]); (try simp only [List.set_cons_succ]); (try simp only [List.set_cons_zero])
        refine wpAnyH_take (i := 2) (v := ?v3) rfl (by kernel_rfl) (by kernel_rfl) (by kernel_rfl) (fun _ _ _ h => h) (Or.inl ⟨by rfl, ?hy3⟩) hHeld ?rest3
        case hy3 => (intro wz hSw; (try dsimp only at hSw); go_simp; (try with_reducible rfl))
        (try simp only [Act.put, List.getElem_toArray, List.getElem_cons_succ, List.getElem_cons_zero]); (try simp only [List.setIfInBounds_toArray]); (try simp only [List.set_cons_succ]); (try simp only [List.set_cons_zero])
        refine wpAnyH_take (i := 3) (v := ?v4) rfl (by kernel_rfl) (by kernel_rfl) (by kernel_rfl) (fun _ _ _ h => h) (Or.inl ⟨by rfl, ?hy4⟩) hHeld ?rest4
        case hy4 => (intro wz hSw; (try dsimp only at hSw); go_simp; (try with_reducible rfl))
        (try simp only [Act.put, List.getElem_toArray, List.getElem_cons_succ, List.getElem_cons_zero]); (try simp only [List.setIfInBounds_toArray]); (try simp only [List.set_cons_succ]); (try simp only [List.set_cons_zero])
        refine wpAnyH_take (i := 4) (v := ?v5) rfl (by kernel_rfl) (by kernel_rfl) (by kernel_rfl) (fun _ _ _ h => h) (Or.inl ⟨by rfl, ?hy5⟩) hHeld ?rest5
        case hy5 => (intro wz hSw; (try dsimp only at hSw); go_simp; (try with_reducible rfl))
        (try simp only [Act.put, List.getElem_toArray, List.getElem_cons_succ, List.getElem_cons_zero]); (try simp only [List.setIfInBounds_toArray]); (try simp only [List.set_cons_succ]); (try simp only [List.set_cons_zero])
        refine wpAnyH_ready (rs := [5]) (by kernel_rfl) (by simp) ?_
        refine AllReadyH.cons rfl (fun K' hK => ?_) AllReadyH.nil
        go_simp
        refine (HIN.out _).mono ?_
        rintro e w5 ⟨rfl, rfl⟩
        dsimp only
        refine hK.out _ _ hHeld (fun hHeld => ?_)
        clear hK
        refine wpAnyH_take (i := 6) (v := ?v6) rfl (by kernel_rfl) (by kernel_rfl) (by kernel_rfl) (fun _ _ _ h => h) (Or.inl ⟨by rfl, ?hy6⟩) hHeld ?rest6
        case hy6 => (intro wz hSw; (try dsimp only at hSw); go_simp; (try with_reducible rfl))
        (try simp only [Act.put, List.getElem_toArray, List.getElem_cons_succ, List.getElem_cons_zero]); (try simp only [List.setIfInBounds_toArray]); (try simp only [List.set_cons_succ]); (try simp only [List.set_cons_zero])
        refine wpAnyH_take (i := 7) (v := ?v7) rfl (by kernel_rfl) (by kernel_rfl) (by kernel_rfl) (fun _ _ _ h => h) (Or.inl ⟨by rfl, ?hy7⟩) hHeld ?rest7
        case hy7 => (intro wz hSw; (try dsimp only at hSw); go_simp; (try with_reducible rfl))
        (try simp only [Act.put, List.getElem_toArray, List.getElem_cons_succ, List.getElem_cons_zero]); (try simp only [List.setIfInBounds_toArray]); (try simp only [List.set_cons_succ]); (try simp only [List.set_cons_zero])
        refine wpAnyH_take (i := 8) (v := undef) rfl (by kernel_rfl) (by kernel_rfl) (by kernel_rfl) (fun _ _ _ h => h) (Or.inr ⟨by rfl, rfl⟩) hHeld ?rest8
        (try simp only [Act.put, List.getElem_toArray, List.getElem_cons_succ, List.getElem_cons_zero]); (try simp only [List.setIfInBounds_toArray]); (try simp only [List.set_cons_succ]); (try simp only [List.set_cons_zero])
        refine wpAnyH_take (i := 9) (v := undef) rfl (by kernel_rfl) (by kernel_rfl) (by kernel_rfl) (fun _ _ _ h => h) (Or.inr ⟨by rfl, rfl⟩) hHeld ?rest9
        (try simp only [Act.put, List.getElem_toArray, List.getElem_cons_succ, List.getElem_cons_zero]); (try simp only [List.setIfInBounds_toArray]); (try simp only [List.set_cons_succ]); (try simp only [List.set_cons_zero])
        refine wpAnyH_take (i := 10) (v := undef) rfl (by kernel_rfl) (by kernel_rfl) (by kernel_rfl) (fun _ _ _ h => h) (Or.inr ⟨by rfl, rfl⟩) hHeld ?rest10
        (try simp only [Act.put, List.getElem_toArray, List.getElem_cons_succ, List.getElem_cons_zero]); (try simp only [List.setIfInBounds_toArray]); (try simp only [List.set_cons_succ]); (try simp only [List.set_cons_zero])
        refine wpAnyH_take (i := 11) (v := undef) rfl (by kernel_rfl) (by kernel_rfl) (by kernel_rfl) (fun _ _ _ h => h) (Or.inr ⟨by rfl, rfl⟩) hHeld ?rest11
        (try simp only [Act.put, List.getElem_toArray, List.getElem_cons_succ, List.getElem_cons_zero]); (try simp only [List.setIfInBounds_toArray]); (try simp only [List.set_cons_succ]); (try simp only [List.set_cons_zero])
        refine wpAnyH_take (i := 12) (v := undef) rfl (by kernel_rfl) (by kernel_rfl) (by kernel_rfl) (fun _ _ _ h => h) (Or.inr ⟨by rfl, rfl⟩) hHeld ?rest12
        (try simp only [Act.put, List.getElem_toArray, List.getElem_cons_succ, List.getElem_cons_zero]); (try simp only [List.setIfInBounds_toArray]); (try simp only [List.set_cons_succ]); (try simp only [List.set_cons_zero])
        refine wpAnyH_take (i := 13) (v := undef) rfl (by kernel_rfl) (by kernel_rfl) (by kernel_rfl) (fun _ _ _ h => h) (Or.inr ⟨by rfl, rfl⟩) hHeld ?rest13
        (try simp only [Act.put, List.getElem_toArray, List.getElem_cons_succ, List.getElem_cons_zero]); (try simp only [List.setIfInBounds_toArray]); (try simp only [List.set_cons_succ]); (try simp only [List.set_cons_zero])
        refine wpAnyH_take (i := 14) (v := undef) rfl (by kernel_rfl) (by kernel_rfl) (by kernel_rfl) (fun _ _ _ h => h) (Or.inr ⟨by rfl, rfl⟩) hHeld ?rest14
        (try simp only [Act.put, List.getElem_toArray, List.getElem_cons_succ, List.getElem_cons_zero]); (try simp only [List.setIfInBounds_toArray]); (try simp only [List.set_cons_succ]); (try simp only [List.set_cons_zero])
        refine wpAnyH_take (i := 15) (v := undef) rfl (by kernel_rfl) (by kernel_rfl) (by kernel_rfl) (fun _ _ _ h => h) (Or.inr ⟨by rfl, rfl⟩) hHeld ?rest15
        (try simp only [Act.put, List.getElem_toArray, List.getElem_cons_succ, List.getElem_cons_zero]); (try simp only [List.setIfInBounds_toArray]); (try simp only [List.set_cons_succ]); (try simp only [List.set_cons_zero])
        refine wpAnyH_take (i := 16) (v := undef) rfl (by kernel_rfl) (by kernel_rfl) (by kernel_rfl) (fun _ _ _ h => h) (Or.inr ⟨by rfl, rfl⟩) hHeld ?rest16
        (try simp only [Act.put, List.getElem_toArray, List.getElem_cons_succ, List.getElem_cons_zero]); (try simp only [List.setIfInBounds_toArray]); (try simp only [List.set_cons_succ]); (try simp only [List.set_cons_zero])
        refine wpAnyH_take (i := 17) (v := undef) rfl (by kernel_rfl) (by kernel_rfl) (by kernel_rfl) (fun _ _ _ h => h) (Or.inr ⟨by rfl, rfl⟩) hHeld ?rest17
        (try simp only [Act.put, List.getElem_toArray, List.getElem_cons_succ, List.getElem_cons_zero]); (try simp only [List.setIfInBounds_toArray]); (try simp only [List.set_cons_succ]); (try simp only [List.set_cons_zero])
        refine wpAnyH_take (i := 18) (v := undef) rfl (by kernel_rfl) (by kernel_rfl) (by kernel_rfl) (fun _ _ _ h => h) (Or.inr ⟨by rfl, rfl⟩) hHeld ?rest18
        (try simp only [Act.put, List.getElem_toArray, List.getElem_cons_succ, List.getElem_cons_zero]); (try simp only [List.setIfInBounds_toArray]); (try simp only [List.set_cons_succ]); (try simp only [List.set_cons_zero])
        refine wpAnyH_take (i := 19) (v := undef) rfl (by kernel_rfl) (by kernel_rfl) (by kernel_rfl) (fun _ _ _ h => h) (Or.inr ⟨by rfl, rfl⟩) hHeld ?rest19
        (try simp only [Act.put, List.getElem_toArray, List.getElem_cons_succ, List.getElem_cons_zero]); (try simp only [List.setIfInBounds_toArray]); (try simp only [List.set_cons_succ]); (try simp only [List.set_cons_zero])
        refine wpAnyH_take (i := 20) (v := undef) rfl (by kernel_rfl) (by kernel_rfl) (by kernel_rfl) (fun _ _ _ h => h) (Or.inr ⟨by rfl, rfl⟩) hHeld ?rest20
        (try simp only [Act.put, List.getElem_toArray, List.getElem_cons_succ, List.getElem_cons_zero]); (try simp only [List.setIfInBounds_toArray]); (try simp only [List.set_cons_succ]); (try simp only [List.set_cons_zero])
        refine wpAnyH_take (i := 21) (v := undef) rfl (by kernel_rfl) (by kernel_rfl) (by kernel_rfl) (fun _ _ _ h => h) (Or.inr ⟨by rfl, rfl⟩) hHeld ?rest21
        (try simp only [Act.put, List.getElem_toArray, List.getElem_cons_succ, List.getElem_cons_zero]); (try simp only [List.setIfInBounds_toArray]); (try simp only [List.set_cons_succ]); (try simp only [List.set_cons_zero])
        refine wpAnyH_take (i := 22) (v := undef) rfl (by kernel_rfl) (by kernel_rfl) (by kernel_rfl) (fun _ _ _ h => h) (Or.inr ⟨by rfl, rfl⟩) hHeld ?rest22
        (try simp only [Act.put, List.getElem_toArray, List.getElem_cons_succ, List.getElem_cons_zero]); (try simp only [List.setIfInBounds_toArray]); (try simp only [List.set_cons_succ]); (try simp only [List.set_cons_zero])
        refine wpAnyH_take (i := 23) (v := undef) rfl (by kernel_rfl) (by kernel_rfl) (by kernel_rfl) (fun _ _ _ h => h) (Or.inr ⟨by rfl, rfl⟩) hHeld ?rest23
        (try simp only [Act.put, List.getElem_toArray, List.getElem_cons_succ, List.getElem_cons_zero]); (try simp only [List.setIfInBounds_toArray]); (try simp only [List.set_cons_succ]); (try simp only [List.set_cons_zero])
        refine wpAnyH_take (i := 24) (v := undef) rfl (by kernel_rfl) (by kernel_rfl) (by kernel_rfl) (fun _ _ _ h => h) (Or.inr ⟨by rfl, rfl⟩) hHeld ?rest24
        (try simp only [Act.put, List.getElem_toArray, List.getElem_cons_succ, List.getElem_cons_zero]); (try simp only [List.setIfInBounds_toArray]); (try simp only [List.set_cons_succ]); (try simp only [List.set_cons_zero])
        refine wpAnyH_take (i := 25) (v := undef) rfl (by kernel_rfl) (by kernel_rfl) (by kernel_rfl) (fun _ _ _ h => h) (Or.inr ⟨by rfl, rfl⟩) hHeld ?rest25
        (try simp only [Act.put, List.getElem_toArray, List.getElem_cons_succ, List.getElem_cons_zero]); (try simp only [List.setIfInBounds_toArray]); (try simp only [List.set_cons_succ]); (try simp only [List.set_cons_zero])
        refine wpAnyH_take (i := 26) (v := undef) rfl (by kernel_rfl) (by kernel_rfl) (by kernel_rfl) (fun _ _ _ h => h) (Or.inr ⟨by rfl, rfl⟩) hHeld ?rest26
        (try simp only [Act.put, List.getElem_toArray, List.getElem_cons_succ, List.getElem_cons_zero]); (try simp only [List.setIfInBounds_toArray]); (try simp only [List.set_cons_succ]); (try simp only [List.set_cons_zero])
        refine wpAnyH_take (i := 27) (v := undef) rfl (by kernel_rfl) (by kernel_rfl) (by kernel_rfl) (fun _ _ _ h => h) (Or.inr ⟨by rfl, rfl⟩) hHeld ?rest27
        (try simp only [Act.put, List.getElem_toArray, List.getElem_cons_succ, List.getElem_cons_zero]); (try simp only [List.setIfInBounds_toArray]); (try simp only [List.set_cons_succ]); (try simp only [List.set_cons_zero])
        refine wpAnyH_take (i := 28) (v := undef) rfl (by kernel_rfl) (by kernel_rfl) (by kernel_rfl) (fun _ _ _ h => h) (Or.inr ⟨by rfl, rfl⟩) hHeld ?rest28
        (try simp only [Act.put, List.getElem_toArray, List.getElem_cons_succ, List.getElem_cons_zero]); (try simp only [List.setIfInBounds_toArray]); (try simp only [List.set_cons_succ]); (try simp only [List.set_cons_zero])
        refine wpAnyH_take (i := 29) (v := undef) rfl (by kernel_rfl) (by kernel_rfl) (by kernel_rfl) (fun _ _ _ h => h) (Or.inr ⟨by rfl, rfl⟩) hHeld ?rest29
        (try simp only [Act.put, List.getElem_toArray, List.getElem_cons_succ, List.getElem_cons_zero]); (try simp only [List.setIfInBounds_toArray]); (try simp only [List.set_cons_succ]); (try simp only [List.set_cons_zero])
        refine wpAnyH_take (i := 30) (v := undef) rfl (by kernel_rfl) (by kernel_rfl) (by kernel_rfl) (fun _ _ _ h => h) (Or.inr ⟨by rfl, rfl⟩) hHeld ?rest30
        (try simp only [Act.put, List.getElem_toArray, List.getElem_cons_succ, List.getElem_cons_zero]); (try simp only [List.setIfInBounds_toArray]); (try simp only [List.set_cons_succ]); (try simp only [List.set_cons_zero])
        refine wpAnyH_take (i := 31) (v := undef) rfl (by kernel_rfl) (by kernel_rfl) (by kernel_rfl) (fun _ _ _ h => h) (Or.inr ⟨by rfl, rfl⟩) hHeld ?rest31
        (try simp only [Act.put, List.getElem_toArray, List.getElem_cons_succ, List.getElem_cons_zero]); (try simp only [List.setIfInBounds_toArray]); (try simp only [List.set_cons_succ]); (try simp only [List.set_cons_zero])
        refine wpAnyH_take (i := 32) (v := undef) rfl (by kernel_rfl) (by kernel_rfl) (by kernel_rfl) (fun _ _ _ h => h) (Or.inr ⟨by rfl, rfl⟩) hHeld ?rest32
        (try simp only [Act.put, List.getElem_toArray, List.getElem_cons_succ, List.getElem_cons_zero]); (try simp only [List.setIfInBounds_toArray]); (try simp only [List.set_cons_succ]); (try simp only [List.set_cons_zero])
        refine wpAnyH_take (i := 33) (v := ?v33) rfl (by kernel_rfl) (by kernel_rfl) (by kernel_rfl) (fun _ _ _ h => h) (Or.inl ⟨by rfl, ?hy33⟩) hHeld ?rest33
        case hy33 => (intro wz hSw; (try dsimp only at hSw); go_simp; (try with_reducible rfl))
        (try simp only [Act.put, List.getElem_toArray, List.getElem_cons_succ, List.getElem_cons_zero]); (try simp only [List.setIfInBounds_toArray]); (try simp only [List.set_cons_succ]); (try simp only [List.set_cons_zero])
        refine wpAnyH_done (by kernel_rfl) ?_ _
        have X9 := And.left hHeld
        clear hHeld

        have E9 := Lib.hid (XE.out.trans X9)
        clear X9 hin HNO HD2 x1 x2
        go_wp2
        go_ret2
        exact ⟨E9.out, .inl ⟨HF.out, rfl⟩⟩
      · rw [hin] at HIN
        by_cases hx0 : x = 0
        · have HF := Lib.hid (HD2.out ⟨of_decide_eq_true hin, .inl hx0⟩)
          have hx1 : (x != 0) = false := by rw [hx0]; rfl
          clear HNO HD2 hin hx0
          go_wp2_with fail
          refine wp_region_held_drew (S := (fun w' => Ext wr w' ∧ (∀ b o, b < wr.heap.size → w'.cell? ⟨b, o, none⟩ = wr.cell? ⟨b, o, none⟩))) (by kernel_rfl) (ext2 (Ext.refl wr).drew) (fun hHeld => ?_)
          refine wpAnyH_take (i := 0) (v := ?v34) rfl (by kernel_rfl) (by kernel_rfl) (by kernel_rfl) (fun _ _ _ h => h) (Or.inl ⟨by rfl, ?hy34⟩) hHeld ?rest34
          case hy34 => (intro wz hSw; (try dsimp only at hSw); go_simp; (try with_reducible rfl))
          (try simp only [Act.put, List.getElem_toArray, List.getElem_cons_succ, List.getElem_cons_zero]); (try simp only [List.setIfInBounds_toArray]); (try simp only [List.set_cons_succ]); (try simp only [List.set_cons_zero])
          refine wpAnyH_take (i := 1) (v := ?v35) rfl (by kernel_rfl) (by kernel_rfl) (by kernel_rfl) (fun _ _ _ h => h) (Or.inl ⟨by rfl, ?hy35⟩) hHeld ?rest35
          case hy35 => (intro wz hSw; (try dsimp only at hSw); go_simp; (try with_reducible rfl))
          (try simp only [Act.put, List.getElem_toArray, List.getElem_cons_succ, List.getElem_cons_zero]); (try simp only [List.setIfInBounds_toArray]); (try simp only [List.set_cons_succ]); (try simp only [List.set_cons_zero])
          refine wpAnyH_take (i := 2) (v := ?v36) rfl (by kernel_rfl) (by kernel_rfl) (by kernel_rfl) (fun _ _ _ h => h) (Or.inl ⟨by rfl, ?hy36⟩) hHeld ?rest36
          case hy36 => (intro wz hSw; (try dsimp only at hSw); go_simp; (try with_reducible rfl))
          (try simp only [Act.put, List.getElem_toArray, List.getElem_cons_succ, List.getElem_cons_zero]); (try simp only [List.setIfInBounds_toArray]); (try simp only [List.set_cons_succ]); (try simp only [List.set_cons_zero])
          refine wpAnyH_take (i := 3) (v := ?v37) rfl (by kernel_rfl) (by kernel_rfl) (by kernel_rfl) (fun _ _ _ h => h) (Or.inl ⟨by rfl, ?hy37⟩) hHeld ?rest37
          case hy37 => (intro wz hSw; (try dsimp only at hSw); go_simp; (try with_reducible rfl))
          (try simp only [Act.put, List.getElem_toArray, List.getElem_cons_succ, List.getElem_cons_zero]); (try simp only [List.setIfInBounds_toArray]); (try simp only [List.set_cons_succ]); (try simp only [List.set_cons_zero])
          refine wpAnyH_take (i := 4) (v := ?v38) rfl (by kernel_rfl) (by kernel_rfl) (by kernel_rfl) (fun _ _ _ h => h) (Or.inl ⟨by rfl, ?hy38⟩) hHeld ?rest38
          case hy38 => (intro wz hSw; (try dsimp only at hSw); go_simp; (try with_reducible rfl))
          (try simp only [Act.put, List.getElem_toArray, List.getElem_cons_succ, List.getElem_cons_zero]); (try simp only [List.setIfInBounds_toArray]); (try simp only [List.set_cons_succ]); (try simp only [List.set_cons_zero])
          refine wpAnyH_ready (rs := [5]) (by kernel_rfl) (by simp) ?_
          refine AllReadyH.cons rfl (fun K' hK => ?_) AllReadyH.nil
          go_simp
          refine (HIN.out _).mono ?_
          rintro e w5 ⟨rfl, rfl⟩
          dsimp only
          refine hK.out _ _ hHeld (fun hHeld => ?_)
          clear hK
          refine wpAnyH_take (i := 6) (v := ?v39) rfl (by kernel_rfl) (by kernel_rfl) (by kernel_rfl) (fun _ _ _ h => h) (Or.inl ⟨by rfl, ?hy39⟩) hHeld ?rest39
          case hy39 => (intro wz hSw; (try dsimp only at hSw); go_simp; (try with_reducible rfl))
          (try simp only [Act.put, List.getElem_toArray, List.getElem_cons_succ, List.getElem_cons_zero]); (try simp only [List.setIfInBounds_toArray]); (try simp only [List.set_cons_succ]); (try simp only [List.set_cons_zero])
          refine wpAnyH_take (i := 7) (v := ?v40) rfl (by kernel_rfl) (by kernel_rfl) (by kernel_rfl) (fun _ _ _ h => h) (Or.inl ⟨by rfl, ?hy40⟩) hHeld ?rest40
          case hy40 => (intro wz hSw; (try dsimp only at hSw); go_simp; (try with_reducible rfl))
          (try simp only [Act.put, List.getElem_toArray, List.getElem_cons_succ, List.getElem_cons_zero]); (try simp only [List.setIfInBounds_toArray]); (try simp only [List.set_cons_succ]); (try simp only [List.set_cons_zero])
          refine wpAnyH_take (i := 8) (v := ?v41) rfl (by kernel_rfl) (by kernel_rfl) (by kernel_rfl) (fun _ _ _ h => h) (Or.inl ⟨by rfl, ?hy41⟩) hHeld ?rest41
          case hy41 => (intro wz hSw; (try dsimp only at hSw); go_simp; (try with_reducible rfl))
          (try simp only [Act.put, List.getElem_toArray, List.getElem_cons_succ, List.getElem_cons_zero]); (try simp only [List.setIfInBounds_toArray]); (try simp only [List.set_cons_succ]); (try simp only [List.set_cons_zero])
          refine wpAnyH_take (i := 9) (v := ?v42) rfl (by kernel_rfl) (by kernel_rfl) (by kernel_rfl) (fun _ _ _ h => h) (Or.inl ⟨by rfl, ?hy42⟩) hHeld ?rest42
          case hy42 => (intro wz hSw; (try dsimp only at hSw); go_simp; (try with_reducible rfl))
          (try simp only [Act.put, List.getElem_toArray, List.getElem_cons_succ, List.getElem_cons_zero]); (try simp only [List.setIfInBounds_toArray]); (try simp only [List.set_cons_succ]); (try simp only [List.set_cons_zero])
          refine wpAnyH_take (i := 10) (v := ?v43) rfl (by kernel_rfl) (by kernel_rfl) (by kernel_rfl) (fun _ _ _ h => h) (Or.inl ⟨by rfl, ?hy43⟩) hHeld ?rest43
          case hy43 => (intro wz hSw; (try dsimp only at hSw); go_simp; (try with_reducible rfl))
          (try simp only [Act.put, List.getElem_toArray, List.getElem_cons_succ, List.getElem_cons_zero]); (try simp only [List.setIfInBounds_toArray]); (try simp only [List.set_cons_succ]); (try simp only [List.set_cons_zero])
          refine wpAnyH_take (i := 11) (v := ?v44) rfl (by kernel_rfl) (by kernel_rfl) (by kernel_rfl) (fun _ _ _ h => h) (Or.inl ⟨by rfl, ?hy44⟩) hHeld ?rest44
          case hy44 => (intro wz hSw; (try dsimp only at hSw); go_simp; (try with_reducible rfl))
          (try simp only [Act.put, List.getElem_toArray, List.getElem_cons_succ, List.getElem_cons_zero]); (try simp only [List.setIfInBounds_toArray]); (try simp only [List.set_cons_succ]); (try simp only [List.set_cons_zero])
          refine wpAnyH_take (i := 12) (v := ?v45) rfl (by kernel_rfl) (by kernel_rfl) (by kernel_rfl) (fun _ _ _ h => h) (Or.inl ⟨by rfl, ?hy45⟩) hHeld ?rest45
          case hy45 => (intro wz hSw; (try dsimp only at hSw); go_simp; (try with_reducible rfl))
          (try simp only [Act.put, List.getElem_toArray, List.getElem_cons_succ, List.getElem_cons_zero]); (try simp only [List.setIfInBounds_toArray]); (try simp only [List.set_cons_succ]); (try simp only [List.set_cons_zero])
          refine wpAnyH_take (i := 13) (v := ?v46) rfl (by kernel_rfl) (by kernel_rfl) (by kernel_rfl) (fun _ _ _ h => h) (Or.inl ⟨by rfl, ?hy46⟩) hHeld ?rest46
          case hy46 => (intro wz hSw; (try dsimp only at hSw); go_simp; (try with_reducible rfl))
          (try simp only [Act.put, List.getElem_toArray, List.getElem_cons_succ, List.getElem_cons_zero]); (try simp only [List.setIfInBounds_toArray]); (try simp only [List.set_cons_succ]); (try simp only [List.set_cons_zero])
          refine wpAnyH_take (i := 14) (v := ?v47) rfl (by kernel_rfl) (by kernel_rfl) (by kernel_rfl) (fun _ _ _ h => h) (Or.inl ⟨by rfl, ?hy47⟩) hHeld ?rest47
          case hy47 => (intro wz hSw; (try dsimp only at hSw); go_simp; (try with_reducible rfl))
          (try simp only [Act.put, List.getElem_toArray, List.getElem_cons_succ, List.getElem_cons_zero]); (try simp only [List.setIfInBounds_toArray]); (try simp only [List.set_cons_succ]); (try simp only [List.set_cons_zero])
          refine wpAnyH_take (i := 15) (v := undef) rfl (by kernel_rfl) (by kernel_rfl) (by kernel_rfl) (fun _ _ _ h => h) (Or.inr ⟨by rfl, rfl⟩) hHeld ?rest48
          (try simp only [Act.put, List.getElem_toArray, List.getElem_cons_succ, List.getElem_cons_zero]); (try simp only [List.setIfInBounds_toArray]); (try simp only [List.set_cons_succ]); (try simp only [List.set_cons_zero])
          refine wpAnyH_take (i := 16) (v := undef) rfl (by kernel_rfl) (by kernel_rfl) (by kernel_rfl) (fun _ _ _ h => h) (Or.inr ⟨by rfl, rfl⟩) hHeld ?rest49
          (try simp only [Act.put, List.getElem_toArray, List.getElem_cons_succ, List.getElem_cons_zero]); (try simp only [List.setIfInBounds_toArray]); (try simp only [List.set_cons_succ]); (try simp only [List.set_cons_zero])
          refine wpAnyH_take (i := 17) (v := undef) rfl (by kernel_rfl) (by kernel_rfl) (by kernel_rfl) (fun _ _ _ h => h) (Or.inr ⟨by rfl, rfl⟩) hHeld ?rest50
          (try simp only [Act.put, List.getElem_toArray, List.getElem_cons_succ, List.getElem_cons_zero]); (try simp only [List.setIfInBounds_toArray]); (try simp only [List.set_cons_succ]); (try simp only [List.set_cons_zero])
          refine wpAnyH_take (i := 18) (v := undef) rfl (by kernel_rfl) (by kernel_rfl) (by kernel_rfl) (fun _ _ _ h => h) (Or.inr ⟨by rfl, rfl⟩) hHeld ?rest51
          (try simp only [Act.put, List.getElem_toArray, List.getElem_cons_succ, List.getElem_cons_zero]); (try simp only [List.setIfInBounds_toArray]); (try simp only [List.set_cons_succ]); (try simp only [List.set_cons_zero])
          refine wpAnyH_take (i := 19) (v := undef) rfl (by kernel_rfl) (by kernel_rfl) (by kernel_rfl) (fun _ _ _ h => h) (Or.inr ⟨by rfl, rfl⟩) hHeld ?rest52
          (try simp only [Act.put, List.getElem_toArray, List.getElem_cons_succ, List.getElem_cons_zero]); (try simp only [List.setIfInBounds_toArray]); (try simp only [List.set_cons_succ]); (try simp only [List.set_cons_zero])
          refine wpAnyH_take (i := 20) (v := undef) rfl (by kernel_rfl) (by kernel_rfl) (by kernel_rfl) (fun _ _ _ h => h) (Or.inr ⟨by rfl, rfl⟩) hHeld ?rest53
          (try simp only [Act.put, List.getElem_toArray, List.getElem_cons_succ, List.getElem_cons_zero]); (try simp only [List.setIfInBounds_toArray]); (try simp only [List.set_cons_succ]); (try simp only [List.set_cons_zero])
          refine wpAnyH_take (i := 21) (v := undef) rfl (by kernel_rfl) (by kernel_rfl) (by kernel_rfl) (fun _ _ _ h => h) (Or.inr ⟨by rfl, rfl⟩) hHeld ?rest54
          (try simp only [Act.put, List.getElem_toArray, List.getElem_cons_succ, List.getElem_cons_zero]); (try simp only [List.setIfInBounds_toArray]); (try simp only [List.set_cons_succ]); (try simp only [List.set_cons_zero])
          refine wpAnyH_take (i := 22) (v := undef) rfl (by kernel_rfl) (by kernel_rfl) (by kernel_rfl) (fun _ _ _ h => h) (Or.inr ⟨by rfl, rfl⟩) hHeld ?rest55
          (try simp only [Act.put, List.getElem_toArray, List.getElem_cons_succ, List.getElem_cons_zero]); (try simp only [List.setIfInBounds_toArray]); (try simp only [List.set_cons_succ]); (try simp only [List.set_cons_zero])
          refine wpAnyH_take (i := 23) (v := undef) rfl (by kernel_rfl) (by kernel_rfl) (by kernel_rfl) (fun _ _ _ h => h) (Or.inr ⟨by rfl, rfl⟩) hHeld ?rest56
          (try simp only [Act.put, List.getElem_toArray, List.getElem_cons_succ, List.getElem_cons_zero]); (try simp only [List.setIfInBounds_toArray]); (try simp only [List.set_cons_succ]); (try simp only [List.set_cons_zero])
          refine wpAnyH_take (i := 24) (v := undef) rfl (by kernel_rfl) (by kernel_rfl) (by kernel_rfl) (fun _ _ _ h => h) (Or.inr ⟨by rfl, rfl⟩) hHeld ?rest57
          (try simp only [Act.put, List.getElem_toArray, List.getElem_cons_succ, List.getElem_cons_zero]); (try simp only [List.setIfInBounds_toArray]); (try simp only [List.set_cons_succ]); (try simp only [List.set_cons_zero])
          refine wpAnyH_take (i := 25) (v := undef) rfl (by kernel_rfl) (by kernel_rfl) (by kernel_rfl) (fun _ _ _ h => h) (Or.inr ⟨by rfl, rfl⟩) hHeld ?rest58
          (try simp only [Act.put, List.getElem_toArray, List.getElem_cons_succ, List.getElem_cons_zero]); (try simp only [List.setIfInBounds_toArray]); (try simp only [List.set_cons_succ]); (try simp only [List.set_cons_zero])
          refine wpAnyH_take (i := 26) (v := undef) rfl (by kernel_rfl) (by kernel_rfl) (by kernel_rfl) (fun _ _ _ h => h) (Or.inr ⟨by rfl, rfl⟩) hHeld ?rest59
          (try simp only [Act.put, List.getElem_toArray, List.getElem_cons_succ, List.getElem_cons_zero]); (try simp only [List.setIfInBounds_toArray]); (try simp only [List.set_cons_succ]); (try simp only [List.set_cons_zero])
          refine wpAnyH_take (i := 27) (v := undef) rfl (by kernel_rfl) (by kernel_rfl) (by kernel_rfl) (fun _ _ _ h => h) (Or.inr ⟨by rfl, rfl⟩) hHeld ?rest60
          (try simp only [Act.put, List.getElem_toArray, List.getElem_cons_succ, List.getElem_cons_zero]); (try simp only [List.setIfInBounds_toArray]); (try simp only [List.set_cons_succ]); (try simp only [List.set_cons_zero])
          refine wpAnyH_take (i := 28) (v := undef) rfl (by kernel_rfl) (by kernel_rfl) (by kernel_rfl) (fun _ _ _ h => h) (Or.inr ⟨by rfl, rfl⟩) hHeld ?rest61
          (try simp only [Act.put, List.getElem_toArray, List.getElem_cons_succ, List.getElem_cons_zero]); (try simp only [List.setIfInBounds_toArray]); (try simp only [List.set_cons_succ]); (try simp only [List.set_cons_zero])
          refine wpAnyH_take (i := 29) (v := undef) rfl (by kernel_rfl) (by kernel_rfl) (by kernel_rfl) (fun _ _ _ h => h) (Or.inr ⟨by rfl, rfl⟩) hHeld ?rest62
          (try simp only [Act.put, List.getElem_toArray, List.getElem_cons_succ, List.getElem_cons_zero]); (try simp only [List.setIfInBounds_toArray]); (try simp only [List.set_cons_succ]); (try simp only [List.set_cons_zero])
          refine wpAnyH_take (i := 30) (v := undef) rfl (by kernel_rfl) (by kernel_rfl) (by kernel_rfl) (fun _ _ _ h => h) (Or.inr ⟨by rfl, rfl⟩) hHeld ?rest63
          (try simp only [Act.put, List.getElem_toArray, List.getElem_cons_succ, List.getElem_cons_zero]); (try simp only [List.setIfInBounds_toArray]); (try simp only [List.set_cons_succ]); (try simp only [List.set_cons_zero])
          refine wpAnyH_take (i := 31) (v := undef) rfl (by kernel_rfl) (by kernel_rfl) (by kernel_rfl) (fun _ _ _ h => h) (Or.inr ⟨by rfl, rfl⟩) hHeld ?rest64
          (try simp only [Act.put, List.getElem_toArray, List.getElem_cons_succ, List.getElem_cons_zero]); (try simp only [List.setIfInBounds_toArray]); (try simp only [List.set_cons_succ]); (try simp only [List.set_cons_zero])
          refine wpAnyH_take (i := 32) (v := ?v65) rfl (by kernel_rfl) (by kernel_rfl) (by kernel_rfl) (fun _ _ _ h => h) (Or.inl ⟨by rfl, ?hy65⟩) hHeld ?rest65
          case hy65 => (intro wz hSw; (try dsimp only at hSw); go_simp; (try with_reducible rfl))
          (try simp only [Act.put, List.getElem_toArray, List.getElem_cons_succ, List.getElem_cons_zero]); (try simp only [List.setIfInBounds_toArray]); (try simp only [List.set_cons_succ]); (try simp only [List.set_cons_zero])
          refine wpAnyH_take (i := 33) (v := ?v66) rfl (by kernel_rfl) (by kernel_rfl) (by kernel_rfl) (fun _ _ _ h => h) (Or.inl ⟨by rfl, ?hy66⟩) hHeld ?rest66
          case hy66 => (intro wz hSw; (try dsimp only at hSw); go_simp; (try with_reducible rfl))
          (try simp only [Act.put, List.getElem_toArray, List.getElem_cons_succ, List.getElem_cons_zero]); (try simp only [List.setIfInBounds_toArray]); (try simp only [List.set_cons_succ]); (try simp only [List.set_cons_zero])
          refine wpAnyH_done (by kernel_rfl) ?_ _
          have X9 := And.left hHeld
          clear hHeld

          have E9 := Lib.hid (hE.out.trans X9)
          clear X9 x1 x2
          go_wp2
          exact ⟨⟨e + 1, by omega, by simp, E9, HF⟩, by simp [intOf]; omega⟩
        · have hx1 : (x != 0) = true := by simpa using hx0
          have hx2 : (x == 0) = false := by simpa using hx0
          obtain ⟨t, ht⟩ : ∃ t, e % R * R + e / R = t := ⟨_, rfl⟩
          have e3 : (e : Int).tmod (R : Int) * (R : Int) + (e : Int) / (R : Int) = (t : Int) := by rw [e2, e4, ← ht]; simp
          rw [ht] at x2 htr
          have w1 : IntKind.i64.wrap ((e : Int).tmod (R : Int) * (R : Int)) = (e : Int).tmod (R : Int) * (R : Int) := IntWalk.i64_in _ ⟨by rw [e2]; omega, by rw [e2]; omega⟩
          have w2 : IntKind.i64.wrap ((e : Int).tmod (R : Int) * (R : Int) + (e : Int) / (R : Int)) = (t : Int) := by rw [e3]; exact IntWalk.i64_in _ ⟨by omega, by omega⟩
          have w3 : IntKind.i64.wrap ((e : Int) / (R : Int)) = (e : Int) / (R : Int) := by rw [e4]; exact IntWalk.i64_in _ ⟨by omega, by omega⟩
          have htI : (t : Int) < (n : Int) := by omega
          clear ht e3 e2 e4
          rcases hy : (y == 0) with _ | _
          · have HF := Lib.hid (HD2.out ⟨of_decide_eq_true hin, .inr (by simpa using hy)⟩)
            clear HNO HD2 hin hx0
            go_wp2_with fail
            refine wp_region_held_drew (S := (fun w' => Ext wr w' ∧ (∀ b o, b < wr.heap.size → w'.cell? ⟨b, o, none⟩ = wr.cell? ⟨b, o, none⟩))) (by kernel_rfl) (ext2 (Ext.refl wr).drew) (fun hHeld => ?_)
            refine wpAnyH_take (i := 0) (v := ?v67) rfl (by kernel_rfl) (by kernel_rfl) (by kernel_rfl) (fun _ _ _ h => h) (Or.inl ⟨by rfl, ?hy67⟩) hHeld ?rest67
            case hy67 => (intro wz hSw; (try dsimp only at hSw); go_simp; (try with_reducible rfl))
            (try simp only [Act.put, List.getElem_toArray, List.getElem_cons_succ, List.getElem_cons_zero]); (try simp only [List.setIfInBounds_toArray]); (try simp only [List.set_cons_succ]); (try simp only [List.set_cons_zero])
            refine wpAnyH_take (i := 1) (v := ?v68) rfl (by kernel_rfl) (by kernel_rfl) (by kernel_rfl) (fun _ _ _ h => h) (Or.inl ⟨by rfl, ?hy68⟩) hHeld ?rest68
            case hy68 => (intro wz hSw; (try dsimp only at hSw); go_simp; (try with_reducible rfl))
            (try simp only [Act.put, List.getElem_toArray, List.getElem_cons_succ, List.getElem_cons_zero]); (try simp only [List.setIfInBounds_toArray]); (try simp only [List.set_cons_succ]); (try simp only [List.set_cons_zero])
            refine wpAnyH_take (i := 2) (v := ?v69) rfl (by kernel_rfl) (by kernel_rfl) (by kernel_rfl) (fun _ _ _ h => h) (Or.inl ⟨by rfl, ?hy69⟩) hHeld ?rest69
            case hy69 => (intro wz hSw; (try dsimp only at hSw); go_simp; (try with_reducible rfl))
            (try simp only [Act.put, List.getElem_toArray, List.getElem_cons_succ, List.getElem_cons_zero]); (try simp only [List.setIfInBounds_toArray]); (try simp only [List.set_cons_succ]); (try simp only [List.set_cons_zero])
            refine wpAnyH_take (i := 3) (v := ?v70) rfl (by kernel_rfl) (by kernel_rfl) (by kernel_rfl) (fun _ _ _ h => h) (Or.inl ⟨by rfl, ?hy70⟩) hHeld ?rest70
            case hy70 => (intro wz hSw; (try dsimp only at hSw); go_simp; (try with_reducible rfl))
            (try simp only [Act.put, List.getElem_toArray, List.getElem_cons_succ, List.getElem_cons_zero]); (try simp only [List.setIfInBounds_toArray]); (try simp only [List.set_cons_succ]); (try simp only [List.set_cons_zero])
            refine wpAnyH_take (i := 4) (v := ?v71) rfl (by kernel_rfl) (by kernel_rfl) (by kernel_rfl) (fun _ _ _ h => h) (Or.inl ⟨by rfl, ?hy71⟩) hHeld ?rest71
            case hy71 => (intro wz hSw; (try dsimp only at hSw); go_simp; (try with_reducible rfl))
            (try simp only [Act.put, List.getElem_toArray, List.getElem_cons_succ, List.getElem_cons_zero]); (try simp only [List.setIfInBounds_toArray]); (try simp only [List.set_cons_succ]); (try simp only [List.set_cons_zero])
            refine wpAnyH_ready (rs := [5]) (by kernel_rfl) (by simp) ?_
            refine AllReadyH.cons rfl (fun K' hK => ?_) AllReadyH.nil
            go_simp
            refine (HIN.out _).mono ?_
            rintro e w5 ⟨rfl, rfl⟩
            dsimp only
            refine hK.out _ _ hHeld (fun hHeld => ?_)
            clear hK
            refine wpAnyH_take (i := 6) (v := ?v72) rfl (by kernel_rfl) (by kernel_rfl) (by kernel_rfl) (fun _ _ _ h => h) (Or.inl ⟨by rfl, ?hy72⟩) hHeld ?rest72
            case hy72 => (intro wz hSw; (try dsimp only at hSw); go_simp; (try with_reducible rfl))
            (try simp only [Act.put, List.getElem_toArray, List.getElem_cons_succ, List.getElem_cons_zero]); (try simp only [List.setIfInBounds_toArray]); (try simp only [List.set_cons_succ]); (try simp only [List.set_cons_zero])
            refine wpAnyH_take (i := 7) (v := ?v73) rfl (by kernel_rfl) (by kernel_rfl) (by kernel_rfl) (fun _ _ _ h => h) (Or.inl ⟨by rfl, ?hy73⟩) hHeld ?rest73
            case hy73 => (intro wz hSw; (try dsimp only at hSw); go_simp; (try with_reducible rfl))
            (try simp only [Act.put, List.getElem_toArray, List.getElem_cons_succ, List.getElem_cons_zero]); (try simp only [List.setIfInBounds_toArray]); (try simp only [List.set_cons_succ]); (try simp only [List.set_cons_zero])
            refine wpAnyH_take (i := 8) (v := ?v74) rfl (by kernel_rfl) (by kernel_rfl) (by kernel_rfl) (fun _ _ _ h => h) (Or.inl ⟨by rfl, ?hy74⟩) hHeld ?rest74
            case hy74 => (intro wz hSw; (try dsimp only at hSw); go_simp; (try with_reducible rfl))
            (try simp only [Act.put, List.getElem_toArray, List.getElem_cons_succ, List.getElem_cons_zero]); (try simp only [List.setIfInBounds_toArray]); (try simp only [List.set_cons_succ]); (try simp only [List.set_cons_zero])
            refine wpAnyH_take (i := 9) (v := ?v75) rfl (by kernel_rfl) (by kernel_rfl) (by kernel_rfl) (fun _ _ _ h => h) (Or.inl ⟨by rfl, ?hy75⟩) hHeld ?rest75
            case hy75 => (intro wz hSw; (try dsimp only at hSw); go_simp; (try with_reducible rfl))
            (try simp only [Act.put, List.getElem_toArray, List.getElem_cons_succ, List.getElem_cons_zero]); (try simp only [List.setIfInBounds_toArray]); (try simp only [List.set_cons_succ]); (try simp only [List.set_cons_zero])
            refine wpAnyH_take (i := 10) (v := ?v76) rfl (by kernel_rfl) (by kernel_rfl) (by kernel_rfl) (fun _ _ _ h => h) (Or.inl ⟨by rfl, ?hy76⟩) hHeld ?rest76
            case hy76 => (intro wz hSw; (try dsimp only at hSw); go_simp; (try with_reducible rfl))
            (try simp only [Act.put, List.getElem_toArray, List.getElem_cons_succ, List.getElem_cons_zero]); (try simp only [List.setIfInBounds_toArray]); (try simp only [List.set_cons_succ]); (try simp only [List.set_cons_zero])
            refine wpAnyH_take (i := 11) (v := ?v77) rfl (by kernel_rfl) (by kernel_rfl) (by kernel_rfl) (fun _ _ _ h => h) (Or.inl ⟨by rfl, ?hy77⟩) hHeld ?rest77
            case hy77 => (intro wz hSw; (try dsimp only at hSw); go_simp; (try with_reducible rfl))
            (try simp only [Act.put, List.getElem_toArray, List.getElem_cons_succ, List.getElem_cons_zero]); (try simp only [List.setIfInBounds_toArray]); (try simp only [List.set_cons_succ]); (try simp only [List.set_cons_zero])
            refine wpAnyH_take (i := 12) (v := ?v78) rfl (by kernel_rfl) (by kernel_rfl) (by kernel_rfl) (fun _ _ _ h => h) (Or.inl ⟨by rfl, ?hy78⟩) hHeld ?rest78
            case hy78 => (intro wz hSw; (try dsimp only at hSw); go_simp; (try with_reducible rfl))
            (try simp only [Act.put, List.getElem_toArray, List.getElem_cons_succ, List.getElem_cons_zero]); (try simp only [List.setIfInBounds_toArray]); (try simp only [List.set_cons_succ]); (try simp only [List.set_cons_zero])
            refine wpAnyH_take (i := 13) (v := ?v79) rfl (by kernel_rfl) (by kernel_rfl) (by kernel_rfl) (fun _ _ _ h => h) (Or.inl ⟨by rfl, ?hy79⟩) hHeld ?rest79
            case hy79 => (intro wz hSw; (try dsimp only at hSw); go_simp; (try with_reducible rfl))
            (try simp only [Act.put, List.getElem_toArray, List.getElem_cons_succ, List.getElem_cons_zero]); (try simp only [List.setIfInBounds_toArray]); (try simp only [List.set_cons_succ]); (try simp only [List.set_cons_zero])
            refine wpAnyH_take (i := 14) (v := ?v80) rfl (by kernel_rfl) (by kernel_rfl) (by kernel_rfl) (fun _ _ _ h => h) (Or.inl ⟨by rfl, ?hy80⟩) hHeld ?rest80
            case hy80 => (intro wz hSw; (try dsimp only at hSw); go_simp; (try with_reducible rfl))
            (try simp only [Act.put, List.getElem_toArray, List.getElem_cons_succ, List.getElem_cons_zero]); (try simp only [List.setIfInBounds_toArray]); (try simp only [List.set_cons_succ]); (try simp only [List.set_cons_zero])
            refine wpAnyH_take (i := 15) (v := ?v81) rfl (by kernel_rfl) (by kernel_rfl) (by kernel_rfl) (fun _ _ _ h => h) (Or.inl ⟨by rfl, ?hy81⟩) hHeld ?rest81
            case hy81 => (intro wz hSw; (try dsimp only at hSw); go_simp; (try with_reducible rfl))
            (try simp only [Act.put, List.getElem_toArray, List.getElem_cons_succ, List.getElem_cons_zero]); (try simp only [List.setIfInBounds_toArray]); (try simp only [List.set_cons_succ]); (try simp only [List.set_cons_zero])
            refine wpAnyH_take (i := 16) (v := ?v82) rfl (by kernel_rfl) (by kernel_rfl) (by kernel_rfl) (fun _ _ _ h => h) (Or.inl ⟨by rfl, ?hy82⟩) hHeld ?rest82
            case hy82 => (intro wz hSw; (try dsimp only at hSw); go_simp; (try with_reducible rfl))
            (try simp only [Act.put, List.getElem_toArray, List.getElem_cons_succ, List.getElem_cons_zero]); (try simp only [List.setIfInBounds_toArray]); (try simp only [List.set_cons_succ]); (try simp only [List.set_cons_zero])
            refine wpAnyH_take (i := 17) (v := ?v83) rfl (by kernel_rfl) (by kernel_rfl) (by kernel_rfl) (fun _ _ _ h => h) (Or.inl ⟨by rfl, ?hy83⟩) hHeld ?rest83
            case hy83 => (intro wz hSw; (try dsimp only at hSw); go_simp; (try with_reducible rfl))
            (try simp only [Act.put, List.getElem_toArray, List.getElem_cons_succ, List.getElem_cons_zero]); (try simp only [List.setIfInBounds_toArray]); (try simp only [List.set_cons_succ]); (try simp only [List.set_cons_zero])
            refine wpAnyH_take (i := 18) (v := ?v84) rfl (by kernel_rfl) (by kernel_rfl) (by kernel_rfl) (fun _ _ _ h => h) (Or.inl ⟨by rfl, ?hy84⟩) hHeld ?rest84
            case hy84 => (intro wz hSw; (try dsimp only at hSw); go_simp; (try with_reducible rfl))
            (try simp only [Act.put, List.getElem_toArray, List.getElem_cons_succ, List.getElem_cons_zero]); (try simp only [List.setIfInBounds_toArray]); (try simp only [List.set_cons_succ]); (try simp only [List.set_cons_zero])
            refine wpAnyH_take (i := 19) (v := ?v85) rfl (by kernel_rfl) (by kernel_rfl) (by kernel_rfl) (fun _ _ _ h => h) (Or.inl ⟨by rfl, ?hy85⟩) hHeld ?rest85
            case hy85 => (intro wz hSw; (try dsimp only at hSw); go_simp; (try with_reducible rfl))
            (try simp only [Act.put, List.getElem_toArray, List.getElem_cons_succ, List.getElem_cons_zero]); (try simp only [List.setIfInBounds_toArray]); (try simp only [List.set_cons_succ]); (try simp only [List.set_cons_zero])
            refine wpAnyH_take (i := 20) (v := ?v86) rfl (by kernel_rfl) (by kernel_rfl) (by kernel_rfl) (fun _ _ _ h => h) (Or.inl ⟨by rfl, ?hy86⟩) hHeld ?rest86
            case hy86 => (intro wz hSw; (try dsimp only at hSw); go_simp; (try with_reducible rfl))
            (try simp only [Act.put, List.getElem_toArray, List.getElem_cons_succ, List.getElem_cons_zero]); (try simp only [List.setIfInBounds_toArray]); (try simp only [List.set_cons_succ]); (try simp only [List.set_cons_zero])
            refine wpAnyH_take (i := 21) (v := ?v87) rfl (by kernel_rfl) (by kernel_rfl) (by kernel_rfl) (fun _ _ _ h => h) (Or.inl ⟨by rfl, ?hy87⟩) hHeld ?rest87
            case hy87 => (intro wz hSw; (try dsimp only at hSw); go_simp; (try with_reducible rfl))
            (try simp only [Act.put, List.getElem_toArray, List.getElem_cons_succ, List.getElem_cons_zero]); (try simp only [List.setIfInBounds_toArray]); (try simp only [List.set_cons_succ]); (try simp only [List.set_cons_zero])
            refine wpAnyH_take (i := 22) (v := ?v88) rfl (by kernel_rfl) (by kernel_rfl) (by kernel_rfl) (fun _ _ _ h => h) (Or.inl ⟨by rfl, ?hy88⟩) hHeld ?rest88
            case hy88 => (intro wz hSw; (try dsimp only at hSw); go_simp; (try with_reducible rfl))
            (try simp only [Act.put, List.getElem_toArray, List.getElem_cons_succ, List.getElem_cons_zero]); (try simp only [List.setIfInBounds_toArray]); (try simp only [List.set_cons_succ]); (try simp only [List.set_cons_zero])
            refine wpAnyH_take (i := 23) (v := ?v89) rfl (by kernel_rfl) (by kernel_rfl) (by kernel_rfl) (fun _ _ _ h => h) (Or.inl ⟨by rfl, ?hy89⟩) hHeld ?rest89
            case hy89 => (intro wz hSw; (try dsimp only at hSw); go_simp; (try with_reducible rfl))
            (try simp only [Act.put, List.getElem_toArray, List.getElem_cons_succ, List.getElem_cons_zero]); (try simp only [List.setIfInBounds_toArray]); (try simp only [List.set_cons_succ]); (try simp only [List.set_cons_zero])
            refine wpAnyH_take (i := 24) (v := ?v90) rfl (by kernel_rfl) (by kernel_rfl) (by kernel_rfl) (fun _ _ _ h => h) (Or.inl ⟨by rfl, ?hy90⟩) hHeld ?rest90
            case hy90 => (intro wz hSw; (try dsimp only at hSw); go_simp; (try with_reducible rfl))
            (try simp only [Act.put, List.getElem_toArray, List.getElem_cons_succ, List.getElem_cons_zero]); (try simp only [List.setIfInBounds_toArray]); (try simp only [List.set_cons_succ]); (try simp only [List.set_cons_zero])
            refine wpAnyH_take (i := 25) (v := ?v91) rfl (by kernel_rfl) (by kernel_rfl) (by kernel_rfl) (fun _ _ _ h => h) (Or.inl ⟨by rfl, ?hy91⟩) hHeld ?rest91
            case hy91 => (intro wz hSw; (try dsimp only at hSw); go_simp; (try with_reducible rfl))
            (try simp only [Act.put, List.getElem_toArray, List.getElem_cons_succ, List.getElem_cons_zero]); (try simp only [List.setIfInBounds_toArray]); (try simp only [List.set_cons_succ]); (try simp only [List.set_cons_zero])
            refine wpAnyH_take (i := 26) (v := ?v92) rfl (by kernel_rfl) (by kernel_rfl) (by kernel_rfl) (fun _ _ _ h => h) (Or.inl ⟨by rfl, ?hy92⟩) hHeld ?rest92
            case hy92 => (intro wz hSw; (try dsimp only at hSw); go_simp; (try with_reducible rfl))
            (try simp only [Act.put, List.getElem_toArray, List.getElem_cons_succ, List.getElem_cons_zero]); (try simp only [List.setIfInBounds_toArray]); (try simp only [List.set_cons_succ]); (try simp only [List.set_cons_zero])
            refine wpAnyH_take (i := 27) (v := ?v93) rfl (by kernel_rfl) (by kernel_rfl) (by kernel_rfl) (fun _ _ _ h => h) (Or.inl ⟨by rfl, ?hy93⟩) hHeld ?rest93
            case hy93 => (intro wz hSw; (try dsimp only at hSw); go_simp; (try with_reducible rfl))
            (try simp only [Act.put, List.getElem_toArray, List.getElem_cons_succ, List.getElem_cons_zero]); (try simp only [List.setIfInBounds_toArray]); (try simp only [List.set_cons_succ]); (try simp only [List.set_cons_zero])
            refine wpAnyH_take (i := 28) (v := ?v94) rfl (by kernel_rfl) (by kernel_rfl) (by kernel_rfl) (fun _ _ _ h => h) (Or.inl ⟨by rfl, ?hy94⟩) hHeld ?rest94
            case hy94 => (intro wz hSw; (try dsimp only at hSw); go_simp; (try with_reducible rfl))
            (try simp only [Act.put, List.getElem_toArray, List.getElem_cons_succ, List.getElem_cons_zero]); (try simp only [List.setIfInBounds_toArray]); (try simp only [List.set_cons_succ]); (try simp only [List.set_cons_zero])
            refine wpAnyH_take (i := 29) (v := ?v95) rfl (by kernel_rfl) (by kernel_rfl) (by kernel_rfl) (fun _ _ _ h => h) (Or.inl ⟨by rfl, ?hy95⟩) hHeld ?rest95
            case hy95 => (intro wz hSw; (try dsimp only at hSw); go_simp; (try with_reducible rfl))
            (try simp only [Act.put, List.getElem_toArray, List.getElem_cons_succ, List.getElem_cons_zero]); (try simp only [List.setIfInBounds_toArray]); (try simp only [List.set_cons_succ]); (try simp only [List.set_cons_zero])
            refine wpAnyH_take (i := 30) (v := ?v96) rfl (by kernel_rfl) (by kernel_rfl) (by kernel_rfl) (fun _ _ _ h => h) (Or.inl ⟨by rfl, ?hy96⟩) hHeld ?rest96
            case hy96 => (intro wz hSw; (try dsimp only at hSw); go_simp; (try with_reducible rfl))
            (try simp only [Act.put, List.getElem_toArray, List.getElem_cons_succ, List.getElem_cons_zero]); (try simp only [List.setIfInBounds_toArray]); (try simp only [List.set_cons_succ]); (try simp only [List.set_cons_zero])
            refine wpAnyH_take (i := 31) (v := ?v97) rfl (by kernel_rfl) (by kernel_rfl) (by kernel_rfl) (fun _ _ _ h => h) (Or.inl ⟨by rfl, ?hy97⟩) hHeld ?rest97
            case hy97 => (intro wz hSw; (try dsimp only at hSw); go_simp; (try with_reducible rfl))
            (try simp only [Act.put, List.getElem_toArray, List.getElem_cons_succ, List.getElem_cons_zero]); (try simp only [List.setIfInBounds_toArray]); (try simp only [List.set_cons_succ]); (try simp only [List.set_cons_zero])
            refine wpAnyH_take (i := 32) (v := ?v98) rfl (by kernel_rfl) (by kernel_rfl) (by kernel_rfl) (fun _ _ _ h => h) (Or.inl ⟨by rfl, ?hy98⟩) hHeld ?rest98
            case hy98 => (intro wz hSw; (try dsimp only at hSw); go_simp; (try with_reducible rfl))
            (try simp only [Act.put, List.getElem_toArray, List.getElem_cons_succ, List.getElem_cons_zero]); (try simp only [List.setIfInBounds_toArray]); (try simp only [List.set_cons_succ]); (try simp only [List.set_cons_zero])
            refine wpAnyH_take (i := 33) (v := ?v99) rfl (by kernel_rfl) (by kernel_rfl) (by kernel_rfl) (fun _ _ _ h => h) (Or.inl ⟨by rfl, ?hy99⟩) hHeld ?rest99
            case hy99 => (intro wz hSw; (try dsimp only at hSw); go_simp; (try with_reducible rfl))
            (try simp only [Act.put, List.getElem_toArray, List.getElem_cons_succ, List.getElem_cons_zero]); (try simp only [List.setIfInBounds_toArray]); (try simp only [List.set_cons_succ]); (try simp only [List.set_cons_zero])
            refine wpAnyH_done (by kernel_rfl) ?_ _
            have X9 := And.left hHeld
            clear hHeld

            have E9 := Lib.hid (hE.out.trans X9)
            clear X9 x1 x2 w1 w2 w3
            go_wp2
            exact ⟨⟨e + 1, by omega, by simp, E9, HF⟩, by simp [intOf]; omega⟩
          · have HF := Lib.hid (HNO.out (fun h => h.2.elim hx0 (fun h2 => h2 (by simpa using hy))))
            clear HNO HD2 hin hx0
            go_wp2_with fail
            refine wp_region_held_drew (S := (fun w' => Ext wr w' ∧ (∀ b o, b < wr.heap.size → w'.cell? ⟨b, o, none⟩ = wr.cell? ⟨b, o, none⟩))) (by kernel_rfl) (ext2 (Ext.refl wr).drew) (fun hHeld => ?_)
            refine wpAnyH_take (i := 0) (v := ?v100) rfl (by kernel_rfl) (by kernel_rfl) (by kernel_rfl) (fun _ _ _ h => h) (Or.inl ⟨by rfl, ?hy100⟩) hHeld ?rest100
            case hy100 => (intro wz hSw; (try dsimp only at hSw); go_simp; (try with_reducible rfl))
            (try simp only [Act.put, List.getElem_toArray, List.getElem_cons_succ, List.getElem_cons_zero]); (try simp only [List.setIfInBounds_toArray]); (try simp only [List.set_cons_succ]); (try simp only [List.set_cons_zero])
            refine wpAnyH_take (i := 1) (v := ?v101) rfl (by kernel_rfl) (by kernel_rfl) (by kernel_rfl) (fun _ _ _ h => h) (Or.inl ⟨by rfl, ?hy101⟩) hHeld ?rest101
            case hy101 => (intro wz hSw; (try dsimp only at hSw); go_simp; (try with_reducible rfl))
            (try simp only [Act.put, List.getElem_toArray, List.getElem_cons_succ, List.getElem_cons_zero]); (try simp only [List.setIfInBounds_toArray]); (try simp only [List.set_cons_succ]); (try simp only [List.set_cons_zero])
            refine wpAnyH_take (i := 2) (v := ?v102) rfl (by kernel_rfl) (by kernel_rfl) (by kernel_rfl) (fun _ _ _ h => h) (Or.inl ⟨by rfl, ?hy102⟩) hHeld ?rest102
            case hy102 => (intro wz hSw; (try dsimp only at hSw); go_simp; (try with_reducible rfl))
            (try simp only [Act.put, List.getElem_toArray, List.getElem_cons_succ, List.getElem_cons_zero]); (try simp only [List.setIfInBounds_toArray]); (try simp only [List.set_cons_succ]); (try simp only [List.set_cons_zero])
            refine wpAnyH_take (i := 3) (v := ?v103) rfl (by kernel_rfl) (by kernel_rfl) (by kernel_rfl) (fun _ _ _ h => h) (Or.inl ⟨by rfl, ?hy103⟩) hHeld ?rest103
            case hy103 => (intro wz hSw; (try dsimp only at hSw); go_simp; (try with_reducible rfl))
            (try simp only [Act.put, List.getElem_toArray, List.getElem_cons_succ, List.getElem_cons_zero]); (try simp only [List.setIfInBounds_toArray]); (try simp only [List.set_cons_succ]); (try simp only [List.set_cons_zero])
            refine wpAnyH_take (i := 4) (v := ?v104) rfl (by kernel_rfl) (by kernel_rfl) (by kernel_rfl) (fun _ _ _ h => h) (Or.inl ⟨by rfl, ?hy104⟩) hHeld ?rest104
            case hy104 => (intro wz hSw; (try dsimp only at hSw); go_simp; (try with_reducible rfl))
            (try simp only [Act.put, List.getElem_toArray, List.getElem_cons_succ, List.getElem_cons_zero]); (try simp only [List.setIfInBounds_toArray]); (try simp only [List.set_cons_succ]); (try simp only [List.set_cons_zero])
            refine wpAnyH_ready (rs := [5]) (by kernel_rfl) (by simp) ?_
            refine AllReadyH.cons rfl (fun K' hK => ?_) AllReadyH.nil
            go_simp
            refine (HIN.out _).mono ?_
            rintro e w5 ⟨rfl, rfl⟩
            dsimp only
            refine hK.out _ _ hHeld (fun hHeld => ?_)
            clear hK
            refine wpAnyH_take (i := 6) (v := ?v105) rfl (by kernel_rfl) (by kernel_rfl) (by kernel_rfl) (fun _ _ _ h => h) (Or.inl ⟨by rfl, ?hy105⟩) hHeld ?rest105
            case hy105 => (intro wz hSw; (try dsimp only at hSw); go_simp; (try with_reducible rfl))
            (try simp only [Act.put, List.getElem_toArray, List.getElem_cons_succ, List.getElem_cons_zero]); (try simp only [List.setIfInBounds_toArray]); (try simp only [List.set_cons_succ]); (try simp only [List.set_cons_zero])
            refine wpAnyH_take (i := 7) (v := ?v106) rfl (by kernel_rfl) (by kernel_rfl) (by kernel_rfl) (fun _ _ _ h => h) (Or.inl ⟨by rfl, ?hy106⟩) hHeld ?rest106
            case hy106 => (intro wz hSw; (try dsimp only at hSw); go_simp; (try with_reducible rfl))
            (try simp only [Act.put, List.getElem_toArray, List.getElem_cons_succ, List.getElem_cons_zero]); (try simp only [List.setIfInBounds_toArray]); (try simp only [List.set_cons_succ]); (try simp only [List.set_cons_zero])
            refine wpAnyH_take (i := 8) (v := ?v107) rfl (by kernel_rfl) (by kernel_rfl) (by kernel_rfl) (fun _ _ _ h => h) (Or.inl ⟨by rfl, ?hy107⟩) hHeld ?rest107
            case hy107 => (intro wz hSw; (try dsimp only at hSw); go_simp; (try with_reducible rfl))
            (try simp only [Act.put, List.getElem_toArray, List.getElem_cons_succ, List.getElem_cons_zero]); (try simp only [List.setIfInBounds_toArray]); (try simp only [List.set_cons_succ]); (try simp only [List.set_cons_zero])
            refine wpAnyH_take (i := 9) (v := ?v108) rfl (by kernel_rfl) (by kernel_rfl) (by kernel_rfl) (fun _ _ _ h => h) (Or.inl ⟨by rfl, ?hy108⟩) hHeld ?rest108
            case hy108 => (intro wz hSw; (try dsimp only at hSw); go_simp; (try with_reducible rfl))
            (try simp only [Act.put, List.getElem_toArray, List.getElem_cons_succ, List.getElem_cons_zero]); (try simp only [List.setIfInBounds_toArray]); (try simp only [List.set_cons_succ]); (try simp only [List.set_cons_zero])
            refine wpAnyH_take (i := 10) (v := ?v109) rfl (by kernel_rfl) (by kernel_rfl) (by kernel_rfl) (fun _ _ _ h => h) (Or.inl ⟨by rfl, ?hy109⟩) hHeld ?rest109
            case hy109 => (intro wz hSw; (try dsimp only at hSw); go_simp; (try with_reducible rfl))
            (try simp only [Act.put, List.getElem_toArray, List.getElem_cons_succ, List.getElem_cons_zero]); (try simp only [List.setIfInBounds_toArray]); (try simp only [List.set_cons_succ]); (try simp only [List.set_cons_zero])
            refine wpAnyH_take (i := 11) (v := ?v110) rfl (by kernel_rfl) (by kernel_rfl) (by kernel_rfl) (fun _ _ _ h => h) (Or.inl ⟨by rfl, ?hy110⟩) hHeld ?rest110
            case hy110 => (intro wz hSw; (try dsimp only at hSw); go_simp; (try with_reducible rfl))
            (try simp only [Act.put, List.getElem_toArray, List.getElem_cons_succ, List.getElem_cons_zero]); (try simp only [List.setIfInBounds_toArray]); (try simp only [List.set_cons_succ]); (try simp only [List.set_cons_zero])
            refine wpAnyH_take (i := 12) (v := ?v111) rfl (by kernel_rfl) (by kernel_rfl) (by kernel_rfl) (fun _ _ _ h => h) (Or.inl ⟨by rfl, ?hy111⟩) hHeld ?rest111
            case hy111 => (intro wz hSw; (try dsimp only at hSw); go_simp; (try with_reducible rfl))
            (try simp only [Act.put, List.getElem_toArray, List.getElem_cons_succ, List.getElem_cons_zero]); (try simp only [List.setIfInBounds_toArray]); (try simp only [List.set_cons_succ]); (try simp only [List.set_cons_zero])
            refine wpAnyH_take (i := 13) (v := ?v112) rfl (by kernel_rfl) (by kernel_rfl) (by kernel_rfl) (fun _ _ _ h => h) (Or.inl ⟨by rfl, ?hy112⟩) hHeld ?rest112
            case hy112 => (intro wz hSw; (try dsimp only at hSw); go_simp; (try with_reducible rfl))
            (try simp only [Act.put, List.getElem_toArray, List.getElem_cons_succ, List.getElem_cons_zero]); (try simp only [List.setIfInBounds_toArray]); (try simp only [List.set_cons_succ]); (try simp only [List.set_cons_zero])
            refine wpAnyH_take (i := 14) (v := ?v113) rfl (by kernel_rfl) (by kernel_rfl) (by kernel_rfl) (fun _ _ _ h => h) (Or.inl ⟨by rfl, ?hy113⟩) hHeld ?rest113
            case hy113 => (intro wz hSw; (try dsimp only at hSw); go_simp; (try with_reducible rfl))
            (try simp only [Act.put, List.getElem_toArray, List.getElem_cons_succ, List.getElem_cons_zero]); (try simp only [List.setIfInBounds_toArray]); (try simp only [List.set_cons_succ]); (try simp only [List.set_cons_zero])
            refine wpAnyH_take (i := 15) (v := ?v114) rfl (by kernel_rfl) (by kernel_rfl) (by kernel_rfl) (fun _ _ _ h => h) (Or.inl ⟨by rfl, ?hy114⟩) hHeld ?rest114
            case hy114 => (intro wz hSw; (try dsimp only at hSw); go_simp; (try with_reducible rfl))
            (try simp only [Act.put, List.getElem_toArray, List.getElem_cons_succ, List.getElem_cons_zero]); (try simp only [List.setIfInBounds_toArray]); (try simp only [List.set_cons_succ]); (try simp only [List.set_cons_zero])
            refine wpAnyH_take (i := 16) (v := ?v115) rfl (by kernel_rfl) (by kernel_rfl) (by kernel_rfl) (fun _ _ _ h => h) (Or.inl ⟨by rfl, ?hy115⟩) hHeld ?rest115
            case hy115 => (intro wz hSw; (try dsimp only at hSw); go_simp; (try with_reducible rfl))
            (try simp only [Act.put, List.getElem_toArray, List.getElem_cons_succ, List.getElem_cons_zero]); (try simp only [List.setIfInBounds_toArray]); (try simp only [List.set_cons_succ]); (try simp only [List.set_cons_zero])
            refine wpAnyH_take (i := 17) (v := ?v116) rfl (by kernel_rfl) (by kernel_rfl) (by kernel_rfl) (fun _ _ _ h => h) (Or.inl ⟨by rfl, ?hy116⟩) hHeld ?rest116
            case hy116 => (intro wz hSw; (try dsimp only at hSw); go_simp; (try with_reducible rfl))
            (try simp only [Act.put, List.getElem_toArray, List.getElem_cons_succ, List.getElem_cons_zero]); (try simp only [List.setIfInBounds_toArray]); (try simp only [List.set_cons_succ]); (try simp only [List.set_cons_zero])
            refine wpAnyH_take (i := 18) (v := ?v117) rfl (by kernel_rfl) (by kernel_rfl) (by kernel_rfl) (fun _ _ _ h => h) (Or.inl ⟨by rfl, ?hy117⟩) hHeld ?rest117
            case hy117 => (intro wz hSw; (try dsimp only at hSw); go_simp; (try with_reducible rfl))
            (try simp only [Act.put, List.getElem_toArray, List.getElem_cons_succ, List.getElem_cons_zero]); (try simp only [List.setIfInBounds_toArray]); (try simp only [List.set_cons_succ]); (try simp only [List.set_cons_zero])
            refine wpAnyH_take (i := 19) (v := ?v118) rfl (by kernel_rfl) (by kernel_rfl) (by kernel_rfl) (fun _ _ _ h => h) (Or.inl ⟨by rfl, ?hy118⟩) hHeld ?rest118
            case hy118 => (intro wz hSw; (try dsimp only at hSw); go_simp; (try with_reducible rfl))
            (try simp only [Act.put, List.getElem_toArray, List.getElem_cons_succ, List.getElem_cons_zero]); (try simp only [List.setIfInBounds_toArray]); (try simp only [List.set_cons_succ]); (try simp only [List.set_cons_zero])
            refine wpAnyH_take (i := 20) (v := ?v119) rfl (by kernel_rfl) (by kernel_rfl) (by kernel_rfl) (fun _ _ _ h => h) (Or.inl ⟨by rfl, ?hy119⟩) hHeld ?rest119
            case hy119 => (intro wz hSw; (try dsimp only at hSw); go_simp; (try with_reducible rfl))
            (try simp only [Act.put, List.getElem_toArray, List.getElem_cons_succ, List.getElem_cons_zero]); (try simp only [List.setIfInBounds_toArray]); (try simp only [List.set_cons_succ]); (try simp only [List.set_cons_zero])
            refine wpAnyH_take (i := 21) (v := ?v120) rfl (by kernel_rfl) (by kernel_rfl) (by kernel_rfl) (fun _ _ _ h => h) (Or.inl ⟨by rfl, ?hy120⟩) hHeld ?rest120
            case hy120 => (intro wz hSw; (try dsimp only at hSw); go_simp; (try with_reducible rfl))
            (try simp only [Act.put, List.getElem_toArray, List.getElem_cons_succ, List.getElem_cons_zero]); (try simp only [List.setIfInBounds_toArray]); (try simp only [List.set_cons_succ]); (try simp only [List.set_cons_zero])
            refine wpAnyH_take (i := 22) (v := ?v121) rfl (by kernel_rfl) (by kernel_rfl) (by kernel_rfl) (fun _ _ _ h => h) (Or.inl ⟨by rfl, ?hy121⟩) hHeld ?rest121
            case hy121 => (intro wz hSw; (try dsimp only at hSw); go_simp; (try with_reducible rfl))
            (try simp only [Act.put, List.getElem_toArray, List.getElem_cons_succ, List.getElem_cons_zero]); (try simp only [List.setIfInBounds_toArray]); (try simp only [List.set_cons_succ]); (try simp only [List.set_cons_zero])
            refine wpAnyH_take (i := 23) (v := ?v122) rfl (by kernel_rfl) (by kernel_rfl) (by kernel_rfl) (fun _ _ _ h => h) (Or.inl ⟨by rfl, ?hy122⟩) hHeld ?rest122
            case hy122 => (intro wz hSw; (try dsimp only at hSw); go_simp; (try with_reducible rfl))
            (try simp only [Act.put, List.getElem_toArray, List.getElem_cons_succ, List.getElem_cons_zero]); (try simp only [List.setIfInBounds_toArray]); (try simp only [List.set_cons_succ]); (try simp only [List.set_cons_zero])
            refine wpAnyH_take (i := 24) (v := ?v123) rfl (by kernel_rfl) (by kernel_rfl) (by kernel_rfl) (fun _ _ _ h => h) (Or.inl ⟨by rfl, ?hy123⟩) hHeld ?rest123
            case hy123 => (intro wz hSw; (try dsimp only at hSw); go_simp; (try with_reducible rfl))
            (try simp only [Act.put, List.getElem_toArray, List.getElem_cons_succ, List.getElem_cons_zero]); (try simp only [List.setIfInBounds_toArray]); (try simp only [List.set_cons_succ]); (try simp only [List.set_cons_zero])
            refine wpAnyH_take (i := 25) (v := ?v124) rfl (by kernel_rfl) (by kernel_rfl) (by kernel_rfl) (fun _ _ _ h => h) (Or.inl ⟨by rfl, ?hy124⟩) hHeld ?rest124
            case hy124 => (intro wz hSw; (try dsimp only at hSw); go_simp; (try with_reducible rfl))
            (try simp only [Act.put, List.getElem_toArray, List.getElem_cons_succ, List.getElem_cons_zero]); (try simp only [List.setIfInBounds_toArray]); (try simp only [List.set_cons_succ]); (try simp only [List.set_cons_zero])
            refine wpAnyH_take (i := 26) (v := ?v125) rfl (by kernel_rfl) (by kernel_rfl) (by kernel_rfl) (fun _ _ _ h => h) (Or.inl ⟨by rfl, ?hy125⟩) hHeld ?rest125
            case hy125 => (intro wz hSw; (try dsimp only at hSw); go_simp; (try with_reducible rfl))
            (try simp only [Act.put, List.getElem_toArray, List.getElem_cons_succ, List.getElem_cons_zero]); (try simp only [List.setIfInBounds_toArray]); (try simp only [List.set_cons_succ]); (try simp only [List.set_cons_zero])
            refine wpAnyH_take (i := 27) (v := ?v126) rfl (by kernel_rfl) (by kernel_rfl) (by kernel_rfl) (fun _ _ _ h => h) (Or.inl ⟨by rfl, ?hy126⟩) hHeld ?rest126
            case hy126 => (intro wz hSw; (try dsimp only at hSw); go_simp; (try with_reducible rfl))
            (try simp only [Act.put, List.getElem_toArray, List.getElem_cons_succ, List.getElem_cons_zero]); (try simp only [List.setIfInBounds_toArray]); (try simp only [List.set_cons_succ]); (try simp only [List.set_cons_zero])
            refine wpAnyH_take (i := 28) (v := ?v127) rfl (by kernel_rfl) (by kernel_rfl) (by kernel_rfl) (fun _ _ _ h => h) (Or.inl ⟨by rfl, ?hy127⟩) hHeld ?rest127
            case hy127 => (intro wz hSw; (try dsimp only at hSw); go_simp; (try with_reducible rfl))
            (try simp only [Act.put, List.getElem_toArray, List.getElem_cons_succ, List.getElem_cons_zero]); (try simp only [List.setIfInBounds_toArray]); (try simp only [List.set_cons_succ]); (try simp only [List.set_cons_zero])
            refine wpAnyH_take (i := 29) (v := ?v128) rfl (by kernel_rfl) (by kernel_rfl) (by kernel_rfl) (fun _ _ _ h => h) (Or.inl ⟨by rfl, ?hy128⟩) hHeld ?rest128
            case hy128 => (intro wz hSw; (try dsimp only at hSw); go_simp; (try with_reducible rfl))
            (try simp only [Act.put, List.getElem_toArray, List.getElem_cons_succ, List.getElem_cons_zero]); (try simp only [List.setIfInBounds_toArray]); (try simp only [List.set_cons_succ]); (try simp only [List.set_cons_zero])
            refine wpAnyH_take (i := 30) (v := ?v129) rfl (by kernel_rfl) (by kernel_rfl) (by kernel_rfl) (fun _ _ _ h => h) (Or.inl ⟨by rfl, ?hy129⟩) hHeld ?rest129
            case hy129 => (intro wz hSw; (try dsimp only at hSw); go_simp; (try with_reducible rfl))
            (try simp only [Act.put, List.getElem_toArray, List.getElem_cons_succ, List.getElem_cons_zero]); (try simp only [List.setIfInBounds_toArray]); (try simp only [List.set_cons_succ]); (try simp only [List.set_cons_zero])
            refine wpAnyH_take (i := 31) (v := ?v130) rfl (by kernel_rfl) (by kernel_rfl) (by kernel_rfl) (fun _ _ _ h => h) (Or.inl ⟨by rfl, ?hy130⟩) hHeld ?rest130
            case hy130 => (intro wz hSw; (try dsimp only at hSw); go_simp; (try with_reducible rfl))
            (try simp only [Act.put, List.getElem_toArray, List.getElem_cons_succ, List.getElem_cons_zero]); (try simp only [List.setIfInBounds_toArray]); (try simp only [List.set_cons_succ]); (try simp only [List.set_cons_zero])
            refine wpAnyH_take (i := 32) (v := ?v131) rfl (by kernel_rfl) (by kernel_rfl) (by kernel_rfl) (fun _ _ _ h => h) (Or.inl ⟨by rfl, ?hy131⟩) hHeld ?rest131
            case hy131 => (intro wz hSw; (try dsimp only at hSw); go_simp; (try with_reducible rfl))
            (try simp only [Act.put, List.getElem_toArray, List.getElem_cons_succ, List.getElem_cons_zero]); (try simp only [List.setIfInBounds_toArray]); (try simp only [List.set_cons_succ]); (try simp only [List.set_cons_zero])
            refine wpAnyH_take (i := 33) (v := ?v132) rfl (by kernel_rfl) (by kernel_rfl) (by kernel_rfl) (fun _ _ _ h => h) (Or.inl ⟨by rfl, ?hy132⟩) hHeld ?rest132
            case hy132 => (intro wz hSw; (try dsimp only at hSw); go_simp; (try with_reducible rfl))
            (try simp only [Act.put, List.getElem_toArray, List.getElem_cons_succ, List.getElem_cons_zero]); (try simp only [List.setIfInBounds_toArray]); (try simp only [List.set_cons_succ]); (try simp only [List.set_cons_zero])
            refine wpAnyH_done (by kernel_rfl) ?_ _
            have X9 := And.left hHeld
            clear hHeld

            have E9 := Lib.hid (XE.out.trans X9)
            clear X9 x1 x2 w1 w2 w3
            go_wp2
            go_ret2
            exact ⟨E9.out, .inl ⟨HF.out, rfl⟩⟩
    · obtain rfl : n = e := by omega
      have HRG : Hid (rngB xs R = true) := HRN.out.2 (fun p hp => hD.out p (by rw [HN.out]; exact hp))
      have HSP := Lib.hid (HSM.out.2 HRG.out)
      have HSY := Lib.hid (rngB_sym HRG.out)
      clear hD HSM HRN
      have hle := hE.out.le
      have O0 : Hid (((wr.alloc (.cells #[] 9)).alloc (.cells #[] 3)).ownsRow W1.heap.size 9 1 (.slice (some ⟨wr.heap.size, 0, none⟩) 0 0) 0 []) := ownsRow_ext (World.ownsRow_lit wr #[] 0 hle (by unfold maxLen; omega) (by simp)) ((Ext.refl _).alloc _)
      have G0 : Hid (Grows ((wr.alloc (.cells #[] 9)).alloc (.cells #[] 3)) W1.heap.size (.slice (some ⟨wr.heap.size + 1, 0, none⟩) 0 0) 0 []) := by
        have := World.ownsRow_lit (base := W1.heap.size) (e := 3) (size := 1) (wr.alloc (.cells #[] 9)) #[] 0 (by simp; omega) (by unfold maxLen; omega) (by simp)
        rw [show (wr.alloc (.cells #[] 9)).heap.size = wr.heap.size + 1 by simp] at this
        exact this
      have E0 : Hid (Ext W1 ((wr.alloc (.cells #[] 9)).alloc (.cells #[] 3))) := (hE.out.alloc _).alloc _
      go_wp2_with fail
      clear hle hE C1 l1 z0 z1 XE
      go_loopw [7, 5, 6, 8, 9, 10, 11, 12] (fun z vo vd _ _ _ _ _ wr => ∃ (i : Nat) (done ns : List Nat) (ga : Nat) (ad : Option Addr) (co cd : Nat) (vs : List Value), i ≤ R ∧ z = .int .i64 i ∧ vo = .slice (some ⟨ga, 0, none⟩) ns.length co ∧ vd = .slice ad done.length cd ∧ Hid (specS xs R i = some (done, ns)) ∧ Hid (wr.ownsRow W1.heap.size 9 1 (.slice (some ⟨ga, 0, none⟩) ns.length co) ns.length vs) ∧ Hid (∀ u, u ∈ vs → ∃ b, u = .string b) ∧ Hid (Grows wr W1.heap.size (.slice ad done.length cd) done.length (rI done)) ∧ Hid (Ext W1 wr)) (fun z _ _ _ _ _ _ _ _ => R - (intOf z).toNat)
      case atStart => exact ⟨0, [], [], wr.heap.size, some ⟨wr.heap.size + 1, 0, none⟩, 0, 0, [], by omega, rfl, rfl, rfl, rfl, O0, fun u hu => by simp at hu, G0, E0⟩
      case round =>
        clear O0 G0 E0
        obtain ⟨i, done, ns, ga, ad, co, cd, vs, hi, rfl, rfl, rfl, hS, hO, hVS, hG, hE⟩ := hrel
        have C1 := Lib.hid (C0.out.ext hE.out)
        have l1 := C1.out.1
        have z0 := C1.out.2 0 _ rfl
        have z1 := C1.out.2 1 _ rfl
        have XE := Lib.hid (X0.out.trans hE.out)
        by_cases hlt : i < R
        · obtain ⟨hSA, hSB, hSC⟩ := HSS.out i done ns hS.out
          obtain ⟨a', c', e4, hnv, hOw⟩ := hG.out.reads2
          injection e4 with e5 e6 e7
          subst e5; subst e7
          have HOW := Lib.hid hOw
          obtain ⟨p, hp, hpi⟩ := rI_firstAt done i
          have hltI : (i : Int) < (R : Int) := by omega
          have hdl := hSC hlt
          have hnl := HNL.out i done ns hS.out
          obtain ⟨dl, hdle⟩ : ∃ dl, done.length = dl := ⟨_, rfl⟩
          obtain ⟨nl, hnle⟩ : ∃ nl, ns.length = nl := ⟨_, rfl⟩
          have HDL := Lib.hid hdle
          have HNLE := Lib.hid hnle
          rw [hdle] at hp hpi hdl hG HOW ⊢
          rw [hnle] at hO hnl ⊢
          have HP := Lib.hid hp
          clear e6 hOw hp hdle hnle
          go_wp2_with fail
          refine (l1Find_spec ad dl cd (rI done) i p _ HOW.out.reads (by omega) HP.out).mono ?_
          rintro e' w' ⟨rfl, rfl⟩
          by_cases hmem : i ∈ done
          · have hfd : fndR dl p = (p : Int) := by rw [fndR, if_pos (hpi.2 hmem)]
            have hp0 : (0 : Int) ≤ (p : Int) := by omega
            have HF := Lib.hid (hSA hmem)
            rw [hfd]
            clear hfd hpi hSA hSB hSC hmem hnv
            go_wp2
            exact ⟨⟨i + 1, done, ns, ga, ad, co, cd, vs, by omega, by simp, by rw [HNLE.out], by rw [HDL.out], HF, by rw [HNLE.out]; exact hO, hVS, by rw [HDL.out]; exact hG, hE⟩, by simp [intOf]; omega⟩
          · have hfd : fndR dl p = -1 := by rw [fndR, if_neg (fun h => hmem (hpi.1 h))]
            have hSB := Lib.hid (hSB hmem)
            rw [hfd]
            clear hfd hpi hSA hSC hmem hnv
            go_wp2_with fail
            refine (l5Part_spec R da od n cD xs i _ (HR.out.ext XE.out) HN.out hR HSY.out hlt).mono ?_
            rintro e' w3 ⟨a3, c3, rfl, ho3, hs3, h3⟩
            have hpos : 0 < (conn (bx xs R) R i).length := List.length_pos_of_mem (HCX.out.self i hlt)
            have hcl := HCX.out.len i hlt
            have HCL := Lib.hid (HCX.out.lt i hlt)
            obtain ⟨rows, hrows⟩ : ∃ rows, conn (bx xs R) R i = rows := ⟨_, rfl⟩
            rw [hrows] at ho3 hs3 hpos hcl HCL hSB ⊢
            obtain ⟨m, hm⟩ : ∃ m, rows.length = m := ⟨_, rfl⟩
            have HM := Lib.hid hm
            rw [hm] at ho3 hs3 hpos hcl ⊢
            have HO3 := Lib.hid ho3
            have HS3 := Lib.hid hs3
            obtain ⟨g3, rfl, hg3l, hg3⟩ : ∃ g3, a3 = some ⟨g3, 0, none⟩ ∧ g3 < w3.heap.size ∧ Has w3 g3 (rI rows) := by
              rcases ho3.2 with ⟨_, h⟩ | ⟨b, h1, _, h4, h5⟩
              · omega
              · exact ⟨b, h1, h4, h5⟩
            have E3 := Lib.hid (hE.out.trans h3)
            have G3 := Lib.hid (hG.out.ext h3)
            have O3 := Lib.hid (ownsRow_ext hO.out h3)
            have hle3 := E3.out.le
            have HGL : Hid (∀ z, (Value.slice ad dl cd).ownBlock = some z → z < wr.heap.size) := fun z hz => (World.ownsRow.lt hG.out z hz).2
            clear ho3 hs3 h3 hE hG hO hrows hm l1 z0 z1 C1 XE HOW HP
            have hnews : ∀ (j : Nat) (u : Value), ((rI rows).map (Value.int .i64))[j]? = some u → w3.cell? ((⟨g3, 0, none⟩ : Addr).add j) = some u := reads_newsO (hg3.reads (n := m) (by rw [rI_length]; exact HM.out))
            obtain ⟨i0, hi0, hz0, hz1, hz2⟩ := info_parts Tryz.infoInt
            go_wp2_with (at_builtin; refine wpList_append_own _ rfl (.tmp 84) (.tmp 85) 22 rfl W1.heap.size 3 i0 (.int .i64 0) 1 8 Tryz.underlying22 hi0 hz0 hz1 hz2 rfl (by decide) (.slice ad dl cd) dl ((rI done).map (Value.int .i64)) rfl G3.out ⟨g3, 0, none⟩ m c3 ((rI rows).map (Value.int .i64)) rfl (by rw [List.length_map, rI_length, HM.out, Nat.mul_one]) hnews (fun u hu => by obtain ⟨z, _, rfl⟩ := List.mem_map.1 hu; rfl) (by unfold maxLen; omega) (by omega) hle3 ?_)
            intro v4 w4 ho4 hg4 hnil4
            obtain ⟨a4, c4, rfl⟩ := ownsRow_shape ho4
            have hb3 := World.ownsRow.lt G3.out
            have G4 : Hid (Grows w4 W1.heap.size (.slice a4 (dl + m) c4) (dl + m) (rI (done ++ rows))) := by
              rw [Hid, rI_app, Grows, List.map_append]; exact ho4
            have E4 : Hid (Ext W1 w4) := E3.out.grown hg4 (fun z hz => (hb3 z hz).1)
            have O4 : Hid (w4.ownsRow W1.heap.size 9 1 (.slice (some ⟨ga, 0, none⟩) nl co) nl vs) := ownsRow_ty (by decide) O3.out G3.out hg4
            have R4 : Hid (Has w4 g3 (rI rows)) := hg3.grNe hg4 (fun e => by
              have h1 := (hb3 g3 e).1
              have h2 := (HO3.out.blk g3 rfl).1
              have h3 := HGL.out g3 e
              omega)
            have HDA : Hid ((done ++ rows).length = dl + m) := by rw [Hid, List.length_append, HDL.out, HM.out]
            clear hnil4 hg4 ho4 hnews hg3 hb3 G3 O3 E3 HO3 HGL hle3
            go_wp2_with fail
            refine (l5Names_spec _).mono ?_
            rintro e' w5 ⟨gN, rfl, hgN, hcN, h5⟩
            have G5 := Lib.hid (G4.out.ext h5)
            have E5 := Lib.hid (E4.out.trans h5)
            have O5 := Lib.hid (ownsRow_ext O4.out h5)
            have R5 := Lib.hid (R4.out.ext h5)
            have HCN := Lib.hid hcN
            have HGN := Lib.hid hgN
            clear h5 hcN hgN G4 E4 O4 R4
            go_wp2_with fail
            go_loopw [11, 9] (fun z f wr => ∃ q : Nat, q ≤ 12 ∧ z = .int .i64 q ∧ f = .string (fS (foundM xs R rows q)) ∧ Hid (Ext w5 wr)) (fun z _ _ => 12 - (intOf z).toNat)
            case atStart => exact ⟨0, by omega, rfl, rfl, Ext.refl _⟩
            case round =>
              obtain ⟨q, hq, rfl, rfl, hE⟩ := hrel
              have E6 := Lib.hid (E5.out.trans hE.out)
              by_cases hq12 : q < 12
              · have hqI : (q : Int) < 12 := by omega
                have hkq : ni spN q < 12 := by
                  have : ∀ q, q < 12 → ni spN q < 12 := by decide
                  exact this q hq12
                have c0 := (hE.out.cells gN q HGN.out).trans (HCN.out q hq12)
                have hgl : gN < wr.heap.size := Nat.lt_of_lt_of_le HGN.out hE.out.le
                obtain ⟨hs2, hs1⟩ := nm_bytes _ hkq
                have HFS : Hid ((frk (ni spN q) = m → fitsM (ni spN q) xs R rows m [] = true → foundM xs R rows (q + 1) = some (ni spN q)) ∧ (¬ (frk (ni spN q) = m ∧ fitsM (ni spN q) xs R rows m [] = true) → foundM xs R rows (q + 1) = foundM xs R rows q)) := by
                  constructor
                  · intro h1 h2; rw [foundM, HM.out, if_pos ⟨h1, h2⟩]
                  · intro h1; rw [foundM, HM.out, if_neg h1]
                have HON := Lib.hid (l5One_spec _ hkq)
                have hfk : frk (ni spN q) ≤ 4 ∧ 0 < frk (ni spN q) := by
                  have : ∀ k, k < 12 → frk k ≤ 4 ∧ 0 < frk k := by decide
                  exact this _ hkq
                obtain ⟨kq, hkqe⟩ : ∃ kq, ni spN q = kq := ⟨_, rfl⟩
                rw [hkqe] at hkq c0 hs2 hs1 HFS HON hfk
                clear hkqe
                obtain ⟨s, hs⟩ : ∃ s, nmS kq = s := ⟨_, rfl⟩
                have HSE := Lib.hid hs
                rw [hs] at c0 hs2 hs1 HON
                clear hs
                obtain ⟨rk, hrk⟩ : ∃ rk, frk kq = rk := ⟨_, rfl⟩
                have HRK := Lib.hid hrk
                rw [hrk] at HFS HON hfk
                have hs1' : (s[1]'(by omega)).toNat = 48 + rk := by rw [← hrk]; exact hs1 _
                clear hs1 hrk
                have hv1 : IntKind.u8.wrap (48 + (rk : Int) - 48) = (rk : Int) := by rw [show (48 + (rk : Int) - 48) = (rk : Int) by omega]; obtain ⟨h1, h2⟩ := hfk; rcases (show rk = 1 ∨ rk = 2 ∨ rk = 3 ∨ rk = 4 by omega) with rfl | rfl | rfl | rfl <;> rfl
                have hv2 : IntKind.i64.wrap (rk : Int) = (rk : Int) := IntWalk.i64_in _ ⟨by omega, by omega⟩
                have hsz : 1 < s.size := by omega
                by_cases hrm : rk = m
                · subst hrm
                  have heq : ((rk : Int) == (rk : Int)) = true := by simp
                  have C6 := Lib.hid (C0.out.ext E6.out)
                  have l1 := C6.out.1
                  have z0 := C6.out.2 0 _ rfl
                  have z1 := C6.out.2 1 _ rfl
                  have RW := Lib.hid (HR.out.ext (X0.out.trans E6.out))
                  have RO := Lib.hid ((R5.out.ext hE.out).reads (n := rk) (by rw [rI_length]; exact HM.out))
                  have HFIT := Lib.hid (fun w6 g6 (h6 : Ext wr w6) (hb : Has w6 g6 (oneL kq)) (hl : (oneL kq).length = rk * rk) => l5Fits_spec R da od n cD rk g6 (rk * rk) c3 kq (some ⟨g3, 0, none⟩) xs rows w6 (RW.out.ext h6) HN.out hR hkq HRK.out (hb.reads hl) (RO.out.ext h6) HM.out HCL.out rk [] none 0 0 w6 (Ext.refl _) rfl (by omega) (fun x hx => by cases hx) ⟨rfl, .inl rfl⟩ ⟨Nat.le_refl _, Nat.zero_le _, fun _ => rfl⟩)
                  have HOL : Hid ((oneL kq).length = rk * rk) := by rw [Hid, (oneL_at kq hkq).1, HRK.out]
                  obtain ⟨fb, hfb⟩ : ∃ fb, fitsM kq xs R rows rk [] = fb := ⟨_, rfl⟩
                  rw [hfb] at HFIT HFS
                  have HFS2 : Hid ((fb = true → foundM xs R rows (q + 1) = some kq) ∧ (fb = false → foundM xs R rows (q + 1) = foundM xs R rows q)) := ⟨fun h => HFS.out.1 rfl h, fun h => HFS.out.2 (fun h2 => by rw [h2.2] at h; cases h)⟩
                  clear HFS hfb RW RO C6
                  rcases fb with _ | _
                  · have HF := Lib.hid (HFS2.out.2 rfl)
                    clear HFS2
                    go_wp2_with fail
                    refine wp_region_held_drew (S := (fun w' => Ext wr w' ∧ (∀ b o, b < wr.heap.size → w'.cell? ⟨b, o, none⟩ = wr.cell? ⟨b, o, none⟩))) (by kernel_rfl) (ext2 (Ext.refl wr).drew) (fun hHeld => ?_)
                    refine wpAnyH_take (i := 0) (v := ?v153) rfl (by kernel_rfl) (by kernel_rfl) (by kernel_rfl) (fun _ _ _ h => h) (Or.inl ⟨by rfl, ?hy153⟩) hHeld ?rest153
                    case hy153 => (intro wz hSw; (try dsimp only at hSw); go_simp; (try with_reducible rfl))
                    (try simp only [Act.put, List.getElem_toArray, List.getElem_cons_succ, List.getElem_cons_zero]); (try simp only [List.setIfInBounds_toArray]); (try simp only [List.set_cons_succ]); (try simp only [List.set_cons_zero])
                    refine wpAnyH_take (i := 1) (v := ?v154) rfl (by kernel_rfl) (by kernel_rfl) (by kernel_rfl) (fun _ _ _ h => h) (Or.inl ⟨by rfl, ?hy154⟩) hHeld ?rest154
                    case hy154 => (intro wz hSw; (try dsimp only at hSw); go_simp; (try with_reducible rfl))
                    (try simp only [Act.put, List.getElem_toArray, List.getElem_cons_succ, List.getElem_cons_zero]); (try simp only [List.setIfInBounds_toArray]); (try simp only [List.set_cons_succ]); (try simp only [List.set_cons_zero])
                    refine wpAnyH_take (i := 2) (v := ?v155) rfl (by kernel_rfl) (by kernel_rfl) (by kernel_rfl) (fun _ _ _ h => h) (Or.inl ⟨by rfl, ?hy155⟩) hHeld ?rest155
                    case hy155 => (intro wz hSw; (try dsimp only at hSw); go_simp; (try with_reducible rfl))
                    (try simp only [Act.put, List.getElem_toArray, List.getElem_cons_succ, List.getElem_cons_zero]); (try simp only [List.setIfInBounds_toArray]); (try simp only [List.set_cons_succ]); (try simp only [List.set_cons_zero])
                    refine wpAnyH_take (i := 3) (v := ?v156) rfl (by kernel_rfl) (by kernel_rfl) (by kernel_rfl) (fun _ _ _ h => h) (Or.inl ⟨by rfl, ?hy156⟩) hHeld ?rest156
                    case hy156 => (intro wz hSw; (try dsimp only at hSw); go_simp; (try with_reducible rfl))
                    (try simp only [Act.put, List.getElem_toArray, List.getElem_cons_succ, List.getElem_cons_zero]); (try simp only [List.setIfInBounds_toArray]); (try simp only [List.set_cons_succ]); (try simp only [List.set_cons_zero])
                    refine wpAnyH_take (i := 4) (v := ?v157) rfl (by kernel_rfl) (by kernel_rfl) (by kernel_rfl) (fun _ _ _ h => h) (Or.inl ⟨by rfl, ?hy157⟩) hHeld ?rest157
                    case hy157 => (intro wz hSw; (try dsimp only at hSw); go_simp; (try with_reducible rfl))
                    (try simp only [Act.put, List.getElem_toArray, List.getElem_cons_succ, List.getElem_cons_zero]); (try simp only [List.setIfInBounds_toArray]); (try simp only [List.set_cons_succ]); (try simp only [List.set_cons_zero])
                    refine wpAnyH_take (i := 5) (v := ?v158) rfl (by kernel_rfl) (by kernel_rfl) (by kernel_rfl) (fun _ _ _ h => h) (Or.inl ⟨by rfl, ?hy158⟩) hHeld ?rest158
                    case hy158 => (intro wz hSw; (try dsimp only at hSw); go_simp; (try with_reducible rfl))
                    (try simp only [Act.put, List.getElem_toArray, List.getElem_cons_succ, List.getElem_cons_zero]); (try simp only [List.setIfInBounds_toArray]); (try simp only [List.set_cons_succ]); (try simp only [List.set_cons_zero])
                    refine wpAnyH_take (i := 6) (v := ?v159) rfl (by kernel_rfl) (by kernel_rfl) (by kernel_rfl) (fun _ _ _ h => h) (Or.inl ⟨by rfl, ?hy159⟩) hHeld ?rest159
                    case hy159 => (intro wz hSw; (try dsimp only at hSw); go_simp; (try with_reducible rfl))
                    (try simp only [Act.put, List.getElem_toArray, List.getElem_cons_succ, List.getElem_cons_zero]); (try simp only [List.setIfInBounds_toArray]); (try simp only [List.set_cons_succ]); (try simp only [List.set_cons_zero])
                    refine wpAnyH_take (i := 7) (v := ?v160) rfl (by kernel_rfl) (by kernel_rfl) (by kernel_rfl) (fun _ _ _ h => h) (Or.inl ⟨by rfl, ?hy160⟩) hHeld ?rest160
                    case hy160 => (intro wz hSw; (try dsimp only at hSw); go_simp; (try with_reducible rfl))
                    (try simp only [Act.put, List.getElem_toArray, List.getElem_cons_succ, List.getElem_cons_zero]); (try simp only [List.setIfInBounds_toArray]); (try simp only [List.set_cons_succ]); (try simp only [List.set_cons_zero])
                    refine wpAnyH_take (i := 8) (v := ?v161) rfl (by kernel_rfl) (by kernel_rfl) (by kernel_rfl) (fun _ _ _ h => h) (Or.inl ⟨by rfl, ?hy161⟩) hHeld ?rest161
                    case hy161 => (intro wz hSw; (try dsimp only at hSw); go_simp; (try with_reducible rfl))
                    (try simp only [Act.put, List.getElem_toArray, List.getElem_cons_succ, List.getElem_cons_zero]); (try simp only [List.setIfInBounds_toArray]); (try simp only [List.set_cons_succ]); (try simp only [List.set_cons_zero])
                    refine wpAnyH_take (i := 9) (v := ?v162) rfl (by kernel_rfl) (by kernel_rfl) (by kernel_rfl) (fun _ _ _ h => h) (Or.inl ⟨by rfl, ?hy162⟩) hHeld ?rest162
                    case hy162 => (intro wz hSw; (try dsimp only at hSw); go_simp; (try with_reducible rfl))
                    (try simp only [Act.put, List.getElem_toArray, List.getElem_cons_succ, List.getElem_cons_zero]); (try simp only [List.setIfInBounds_toArray]); (try simp only [List.set_cons_succ]); (try simp only [List.set_cons_zero])
                    refine wpAnyH_take (i := 10) (v := ?v163) rfl (by kernel_rfl) (by kernel_rfl) (by kernel_rfl) (fun _ _ _ h => h) (Or.inl ⟨by rfl, ?hy163⟩) hHeld ?rest163
                    case hy163 => (intro wz hSw; (try dsimp only at hSw); go_simp; (try with_reducible rfl))
                    (try simp only [Act.put, List.getElem_toArray, List.getElem_cons_succ, List.getElem_cons_zero]); (try simp only [List.setIfInBounds_toArray]); (try simp only [List.set_cons_succ]); (try simp only [List.set_cons_zero])
                    refine wpAnyH_take (i := 11) (v := ?v164) rfl (by kernel_rfl) (by kernel_rfl) (by kernel_rfl) (fun _ _ _ h => h) (Or.inl ⟨by rfl, ?hy164⟩) hHeld ?rest164
                    case hy164 => (intro wz hSw; (try dsimp only at hSw); go_simp; (try with_reducible rfl))
                    (try simp only [Act.put, List.getElem_toArray, List.getElem_cons_succ, List.getElem_cons_zero]); (try simp only [List.setIfInBounds_toArray]); (try simp only [List.set_cons_succ]); (try simp only [List.set_cons_zero])
                    refine wpAnyH_take (i := 12) (v := ?v165) rfl (by kernel_rfl) (by kernel_rfl) (by kernel_rfl) (fun _ _ _ h => h) (Or.inl ⟨by rfl, ?hy165⟩) hHeld ?rest165
                    case hy165 => (intro wz hSw; (try dsimp only at hSw); go_simp; (try with_reducible rfl))
                    (try simp only [Act.put, List.getElem_toArray, List.getElem_cons_succ, List.getElem_cons_zero]); (try simp only [List.setIfInBounds_toArray]); (try simp only [List.set_cons_succ]); (try simp only [List.set_cons_zero])
                    refine wpAnyH_take (i := 13) (v := ?v166) rfl (by kernel_rfl) (by kernel_rfl) (by kernel_rfl) (fun _ _ _ h => h) (Or.inl ⟨by rfl, ?hy166⟩) hHeld ?rest166
                    case hy166 => (intro wz hSw; (try dsimp only at hSw); go_simp; (try with_reducible rfl))
                    (try simp only [Act.put, List.getElem_toArray, List.getElem_cons_succ, List.getElem_cons_zero]); (try simp only [List.setIfInBounds_toArray]); (try simp only [List.set_cons_succ]); (try simp only [List.set_cons_zero])
                    refine wpAnyH_take (i := 14) (v := ?v167) rfl (by kernel_rfl) (by kernel_rfl) (by kernel_rfl) (fun _ _ _ h => h) (Or.inl ⟨by rfl, ?hy167⟩) hHeld ?rest167
                    case hy167 => (intro wz hSw; (try dsimp only at hSw); go_simp; (try with_reducible rfl))
                    (try simp only [Act.put, List.getElem_toArray, List.getElem_cons_succ, List.getElem_cons_zero]); (try simp only [List.setIfInBounds_toArray]); (try simp only [List.set_cons_succ]); (try simp only [List.set_cons_zero])
                    refine wpAnyH_take (i := 15) (v := ?v168) rfl (by kernel_rfl) (by kernel_rfl) (by kernel_rfl) (fun _ _ _ h => h) (Or.inl ⟨by rfl, ?hy168⟩) hHeld ?rest168
                    case hy168 => (intro wz hSw; (try dsimp only at hSw); go_simp; (try with_reducible rfl))
                    (try simp only [Act.put, List.getElem_toArray, List.getElem_cons_succ, List.getElem_cons_zero]); (try simp only [List.setIfInBounds_toArray]); (try simp only [List.set_cons_succ]); (try simp only [List.set_cons_zero])
                    refine wpAnyH_take (i := 16) (v := ?v169) rfl (by kernel_rfl) (by kernel_rfl) (by kernel_rfl) (fun _ _ _ h => h) (Or.inl ⟨by rfl, ?hy169⟩) hHeld ?rest169
                    case hy169 => (intro wz hSw; (try dsimp only at hSw); go_simp; (try with_reducible rfl))
                    (try simp only [Act.put, List.getElem_toArray, List.getElem_cons_succ, List.getElem_cons_zero]); (try simp only [List.setIfInBounds_toArray]); (try simp only [List.set_cons_succ]); (try simp only [List.set_cons_zero])
                    refine wpAnyH_ready (rs := [17]) (by kernel_rfl) (by simp) ?_
                    refine AllReadyH.cons rfl (fun K' hK => ?_) AllReadyH.nil
                    go_simp
                    refine (HON.out _).mono ?_
                    rintro e w7 ⟨g6, rfl, hg6, hh6, hx6⟩
                    have X6 := (And.left hHeld).trans hx6
                    dsimp only
                    refine hK.out _ _ (ext2 X6) (fun hHeld => ?_)
                    clear hK
                    refine wpAnyH_ready (rs := [18]) (by kernel_rfl) (by simp) ?_
                    refine AllReadyH.cons rfl (fun K' hK => ?_) AllReadyH.nil
                    go_simp
                    refine (HFIT.out _ g6 (And.left hHeld) (by first | exact hh6 | exact hh6.ext (Ext.refl _).drew) HOL.out).mono ?_
                    rintro e w8 ⟨rfl, hx8⟩
                    have X8 := (And.left hHeld).trans hx8
                    dsimp only
                    refine hK.out _ _ (ext2 X8) (fun hHeld => ?_)
                    clear hK
                    refine wpAnyH_take (i := 19) (v := ?v170) rfl (by kernel_rfl) (by kernel_rfl) (by kernel_rfl) (fun _ _ _ h => h) (Or.inl ⟨by rfl, ?hy170⟩) hHeld ?rest170
                    case hy170 => (intro wz hSw; (try dsimp only at hSw); go_simp; (try with_reducible rfl))
                    (try simp only [Act.put, List.getElem_toArray, List.getElem_cons_succ, List.getElem_cons_zero]); (try simp only [List.setIfInBounds_toArray]); (try simp only [List.set_cons_succ]); (try simp only [List.set_cons_zero])
                    refine wpAnyH_done (by kernel_rfl) ?_ _
                    have X9 := And.left hHeld
                    clear hHeld

                    have E9 := Lib.hid (hE.out.trans X9)
                    clear X9 c0 l1 z0 z1
                    go_wp2
                    exact ⟨⟨q + 1, by omega, by simp, by rw [HF.out], E9⟩, by simp [intOf]; omega⟩
                  · have HF := Lib.hid (HFS2.out.1 rfl)
                    clear HFS2
                    go_wp2_with fail
                    refine wp_region_held_drew (S := (fun w' => Ext wr w' ∧ (∀ b o, b < wr.heap.size → w'.cell? ⟨b, o, none⟩ = wr.cell? ⟨b, o, none⟩))) (by kernel_rfl) (ext2 (Ext.refl wr).drew) (fun hHeld => ?_)
                    refine wpAnyH_take (i := 0) (v := ?v171) rfl (by kernel_rfl) (by kernel_rfl) (by kernel_rfl) (fun _ _ _ h => h) (Or.inl ⟨by rfl, ?hy171⟩) hHeld ?rest171
                    case hy171 => (intro wz hSw; (try dsimp only at hSw); go_simp; (try with_reducible rfl))
                    (try simp only [Act.put, List.getElem_toArray, List.getElem_cons_succ, List.getElem_cons_zero]); (try simp only [List.setIfInBounds_toArray]); (try simp only [List.set_cons_succ]); (try simp only [List.set_cons_zero])
                    refine wpAnyH_take (i := 1) (v := ?v172) rfl (by kernel_rfl) (by kernel_rfl) (by kernel_rfl) (fun _ _ _ h => h) (Or.inl ⟨by rfl, ?hy172⟩) hHeld ?rest172
                    case hy172 => (intro wz hSw; (try dsimp only at hSw); go_simp; (try with_reducible rfl))
                    (try simp only [Act.put, List.getElem_toArray, List.getElem_cons_succ, List.getElem_cons_zero]); (try simp only [List.setIfInBounds_toArray]); (try simp only [List.set_cons_succ]); (try simp only [List.set_cons_zero])
                    refine wpAnyH_take (i := 2) (v := ?v173) rfl (by kernel_rfl) (by kernel_rfl) (by kernel_rfl) (fun _ _ _ h => h) (Or.inl ⟨by rfl, ?hy173⟩) hHeld ?rest173
                    case hy173 => (intro wz hSw; (try dsimp only at hSw); go_simp; (try with_reducible rfl))
                    (try simp only [Act.put, List.getElem_toArray, List.getElem_cons_succ, List.getElem_cons_zero]); (try simp only [List.setIfInBounds_toArray]); (try simp only [List.set_cons_succ]); (try simp only [List.set_cons_zero])
                    refine wpAnyH_take (i := 3) (v := ?v174) rfl (by kernel_rfl) (by kernel_rfl) (by kernel_rfl) (fun _ _ _ h => h) (Or.inl ⟨by rfl, ?hy174⟩) hHeld ?rest174
                    case hy174 => (intro wz hSw; (try dsimp only at hSw); go_simp; (try with_reducible rfl))
                    (try simp only [Act.put, List.getElem_toArray, List.getElem_cons_succ, List.getElem_cons_zero]); (try simp only [List.setIfInBounds_toArray]); (try simp only [List.set_cons_succ]); (try simp only [List.set_cons_zero])
                    refine wpAnyH_take (i := 4) (v := ?v175) rfl (by kernel_rfl) (by kernel_rfl) (by kernel_rfl) (fun _ _ _ h => h) (Or.inl ⟨by rfl, ?hy175⟩) hHeld ?rest175
                    case hy175 => (intro wz hSw; (try dsimp only at hSw); go_simp; (try with_reducible rfl))
                    (try simp only [Act.put, List.getElem_toArray, List.getElem_cons_succ, List.getElem_cons_zero]); (try simp only [List.setIfInBounds_toArray]); (try simp only [List.set_cons_succ]); (try simp only [List.set_cons_zero])
                    refine wpAnyH_take (i := 5) (v := ?v176) rfl (by kernel_rfl) (by kernel_rfl) (by kernel_rfl) (fun _ _ _ h => h) (Or.inl ⟨by rfl, ?hy176⟩) hHeld ?rest176
                    case hy176 => (intro wz hSw; (try dsimp only at hSw); go_simp; (try with_reducible rfl))
                    (try simp only [Act.put, List.getElem_toArray, List.getElem_cons_succ, List.getElem_cons_zero]); (try simp only [List.setIfInBounds_toArray]); (try simp only [List.set_cons_succ]); (try simp only [List.set_cons_zero])
                    refine wpAnyH_take (i := 6) (v := ?v177) rfl (by kernel_rfl) (by kernel_rfl) (by kernel_rfl) (fun _ _ _ h => h) (Or.inl ⟨by rfl, ?hy177⟩) hHeld ?rest177
                    case hy177 => (intro wz hSw; (try dsimp only at hSw); go_simp; (try with_reducible rfl))
                    (try simp only [Act.put, List.getElem_toArray, List.getElem_cons_succ, List.getElem_cons_zero]); (try simp only [List.setIfInBounds_toArray]); (try simp only [List.set_cons_succ]); (try simp only [List.set_cons_zero])
                    refine wpAnyH_take (i := 7) (v := ?v178) rfl (by kernel_rfl) (by kernel_rfl) (by kernel_rfl) (fun _ _ _ h => h) (Or.inl ⟨by rfl, ?hy178⟩) hHeld ?rest178
                    case hy178 => (intro wz hSw; (try dsimp only at hSw); go_simp; (try with_reducible rfl))
                    (try simp only [Act.put, List.getElem_toArray, List.getElem_cons_succ, List.getElem_cons_zero]); (try simp only [List.setIfInBounds_toArray]); (try simp only [List.set_cons_succ]); (try simp only [List.set_cons_zero])
                    refine wpAnyH_take (i := 8) (v := ?v179) rfl (by kernel_rfl) (by kernel_rfl) (by kernel_rfl) (fun _ _ _ h => h) (Or.inl ⟨by rfl, ?hy179⟩) hHeld ?rest179
                    case hy179 => (intro wz hSw; (try dsimp only at hSw); go_simp; (try with_reducible rfl))
                    (try simp only [Act.put, List.getElem_toArray, List.getElem_cons_succ, List.getElem_cons_zero]); (try simp only [List.setIfInBounds_toArray]); (try simp only [List.set_cons_succ]); (try simp only [List.set_cons_zero])
                    refine wpAnyH_take (i := 9) (v := ?v180) rfl (by kernel_rfl) (by kernel_rfl) (by kernel_rfl) (fun _ _ _ h => h) (Or.inl ⟨by rfl, ?hy180⟩) hHeld ?rest180
                    case hy180 => (intro wz hSw; (try dsimp only at hSw); go_simp; (try with_reducible rfl))
                    (try simp only [Act.put, List.getElem_toArray, List.getElem_cons_succ, List.getElem_cons_zero]); (try simp only [List.setIfInBounds_toArray]); (try simp only [List.set_cons_succ]); (try simp only [List.set_cons_zero])
                    refine wpAnyH_take (i := 10) (v := ?v181) rfl (by kernel_rfl) (by kernel_rfl) (by kernel_rfl) (fun _ _ _ h => h) (Or.inl ⟨by rfl, ?hy181⟩) hHeld ?rest181
                    case hy181 => (intro wz hSw; (try dsimp only at hSw); go_simp; (try with_reducible rfl))
                    (try simp only [Act.put, List.getElem_toArray, List.getElem_cons_succ, List.getElem_cons_zero]); (try simp only [List.setIfInBounds_toArray]); (try simp only [List.set_cons_succ]); (try simp only [List.set_cons_zero])
                    refine wpAnyH_take (i := 11) (v := ?v182) rfl (by kernel_rfl) (by kernel_rfl) (by kernel_rfl) (fun _ _ _ h => h) (Or.inl ⟨by rfl, ?hy182⟩) hHeld ?rest182
                    case hy182 => (intro wz hSw; (try dsimp only at hSw); go_simp; (try with_reducible rfl))
                    (try simp only [Act.put, List.getElem_toArray, List.getElem_cons_succ, List.getElem_cons_zero]); (try simp only [List.setIfInBounds_toArray]); (try simp only [List.set_cons_succ]); (try simp only [List.set_cons_zero])
                    refine wpAnyH_take (i := 12) (v := ?v183) rfl (by kernel_rfl) (by kernel_rfl) (by kernel_rfl) (fun _ _ _ h => h) (Or.inl ⟨by rfl, ?hy183⟩) hHeld ?rest183
                    case hy183 => (intro wz hSw; (try dsimp only at hSw); go_simp; (try with_reducible rfl))
                    (try simp only [Act.put, List.getElem_toArray, List.getElem_cons_succ, List.getElem_cons_zero]); (try simp only [List.setIfInBounds_toArray]); (try simp only [List.set_cons_succ]); (try simp only [List.set_cons_zero])
                    refine wpAnyH_take (i := 13) (v := ?v184) rfl (by kernel_rfl) (by kernel_rfl) (by kernel_rfl) (fun _ _ _ h => h) (Or.inl ⟨by rfl, ?hy184⟩) hHeld ?rest184
                    case hy184 => (intro wz hSw; (try dsimp only at hSw); go_simp; (try with_reducible rfl))
                    (try simp only [Act.put, List.getElem_toArray, List.getElem_cons_succ, List.getElem_cons_zero]); (try simp only [List.setIfInBounds_toArray]); (try simp only [List.set_cons_succ]); (try simp only [List.set_cons_zero])
                    refine wpAnyH_take (i := 14) (v := ?v185) rfl (by kernel_rfl) (by kernel_rfl) (by kernel_rfl) (fun _ _ _ h => h) (Or.inl ⟨by rfl, ?hy185⟩) hHeld ?rest185
                    case hy185 => (intro wz hSw; (try dsimp only at hSw); go_simp; (try with_reducible rfl))
                    (try simp only [Act.put, List.getElem_toArray, List.getElem_cons_succ, List.getElem_cons_zero]); (try simp only [List.setIfInBounds_toArray]); (try simp only [List.set_cons_succ]); (try simp only [List.set_cons_zero])
                    refine wpAnyH_take (i := 15) (v := ?v186) rfl (by kernel_rfl) (by kernel_rfl) (by kernel_rfl) (fun _ _ _ h => h) (Or.inl ⟨by rfl, ?hy186⟩) hHeld ?rest186
                    case hy186 => (intro wz hSw; (try dsimp only at hSw); go_simp; (try with_reducible rfl))
                    (try simp only [Act.put, List.getElem_toArray, List.getElem_cons_succ, List.getElem_cons_zero]); (try simp only [List.setIfInBounds_toArray]); (try simp only [List.set_cons_succ]); (try simp only [List.set_cons_zero])
                    refine wpAnyH_take (i := 16) (v := ?v187) rfl (by kernel_rfl) (by kernel_rfl) (by kernel_rfl) (fun _ _ _ h => h) (Or.inl ⟨by rfl, ?hy187⟩) hHeld ?rest187
                    case hy187 => (intro wz hSw; (try dsimp only at hSw); go_simp; (try with_reducible rfl))
                    (try simp only [Act.put, List.getElem_toArray, List.getElem_cons_succ, List.getElem_cons_zero]); (try simp only [List.setIfInBounds_toArray]); (try simp only [List.set_cons_succ]); (try simp only [List.set_cons_zero])
                    refine wpAnyH_ready (rs := [17]) (by kernel_rfl) (by simp) ?_
                    refine AllReadyH.cons rfl (fun K' hK => ?_) AllReadyH.nil
                    go_simp
                    refine (HON.out _).mono ?_
                    rintro e w7 ⟨g6, rfl, hg6, hh6, hx6⟩
                    have X6 := (And.left hHeld).trans hx6
                    dsimp only
                    refine hK.out _ _ (ext2 X6) (fun hHeld => ?_)
                    clear hK
                    refine wpAnyH_ready (rs := [18]) (by kernel_rfl) (by simp) ?_
                    refine AllReadyH.cons rfl (fun K' hK => ?_) AllReadyH.nil
                    go_simp
                    refine (HFIT.out _ g6 (And.left hHeld) (by first | exact hh6 | exact hh6.ext (Ext.refl _).drew) HOL.out).mono ?_
                    rintro e w8 ⟨rfl, hx8⟩
                    have X8 := (And.left hHeld).trans hx8
                    dsimp only
                    refine hK.out _ _ (ext2 X8) (fun hHeld => ?_)
                    clear hK
                    refine wpAnyH_take (i := 19) (v := ?v188) rfl (by kernel_rfl) (by kernel_rfl) (by kernel_rfl) (fun _ _ _ h => h) (Or.inl ⟨by rfl, ?hy188⟩) hHeld ?rest188
                    case hy188 => (intro wz hSw; (try dsimp only at hSw); go_simp; (try with_reducible rfl))
                    (try simp only [Act.put, List.getElem_toArray, List.getElem_cons_succ, List.getElem_cons_zero]); (try simp only [List.setIfInBounds_toArray]); (try simp only [List.set_cons_succ]); (try simp only [List.set_cons_zero])
                    refine wpAnyH_done (by kernel_rfl) ?_ _
                    have X9 := And.left hHeld
                    clear hHeld

                    have E9 := Lib.hid (hE.out.trans X9)
                    have c0 := (X9.cells gN q hgl).trans c0
                    have hgl := Nat.lt_of_lt_of_le hgl X9.le
                    clear X9 l1 z0 z1
                    go_wp2
                    exact ⟨⟨q + 1, by omega, by simp, by rw [HF.out, ← HSE.out]; rfl, E9⟩, by simp [intOf]; omega⟩
                · have HF := Lib.hid (HFS.out.2 (fun h => hrm h.1))
                  have hne : ((rk : Int) == (m : Int)) = false := by simp; omega
                  clear HFS HON hrm
                  go_wp2_with fail
                  refine wp_region_held_drew (S := (fun w' => Ext wr w' ∧ (∀ b o, b < wr.heap.size → w'.cell? ⟨b, o, none⟩ = wr.cell? ⟨b, o, none⟩))) (by kernel_rfl) (ext2 (Ext.refl wr).drew) (fun hHeld => ?_)
                  refine wpAnyH_take (i := 0) (v := ?v133) rfl (by kernel_rfl) (by kernel_rfl) (by kernel_rfl) (fun _ _ _ h => h) (Or.inl ⟨by rfl, ?hy133⟩) hHeld ?rest133
                  case hy133 => (intro wz hSw; (try dsimp only at hSw); go_simp; (try with_reducible rfl))
                  (try simp only [Act.put, List.getElem_toArray, List.getElem_cons_succ, List.getElem_cons_zero]); (try simp only [List.setIfInBounds_toArray]); (try simp only [List.set_cons_succ]); (try simp only [List.set_cons_zero])
                  refine wpAnyH_take (i := 1) (v := ?v134) rfl (by kernel_rfl) (by kernel_rfl) (by kernel_rfl) (fun _ _ _ h => h) (Or.inl ⟨by rfl, ?hy134⟩) hHeld ?rest134
                  case hy134 => (intro wz hSw; (try dsimp only at hSw); go_simp; (try with_reducible rfl))
                  (try simp only [Act.put, List.getElem_toArray, List.getElem_cons_succ, List.getElem_cons_zero]); (try simp only [List.setIfInBounds_toArray]); (try simp only [List.set_cons_succ]); (try simp only [List.set_cons_zero])
                  refine wpAnyH_take (i := 2) (v := ?v135) rfl (by kernel_rfl) (by kernel_rfl) (by kernel_rfl) (fun _ _ _ h => h) (Or.inl ⟨by rfl, ?hy135⟩) hHeld ?rest135
                  case hy135 => (intro wz hSw; (try dsimp only at hSw); go_simp; (try with_reducible rfl))
                  (try simp only [Act.put, List.getElem_toArray, List.getElem_cons_succ, List.getElem_cons_zero]); (try simp only [List.setIfInBounds_toArray]); (try simp only [List.set_cons_succ]); (try simp only [List.set_cons_zero])
                  refine wpAnyH_take (i := 3) (v := ?v136) rfl (by kernel_rfl) (by kernel_rfl) (by kernel_rfl) (fun _ _ _ h => h) (Or.inl ⟨by rfl, ?hy136⟩) hHeld ?rest136
                  case hy136 => (intro wz hSw; (try dsimp only at hSw); go_simp; (try with_reducible rfl))
                  (try simp only [Act.put, List.getElem_toArray, List.getElem_cons_succ, List.getElem_cons_zero]); (try simp only [List.setIfInBounds_toArray]); (try simp only [List.set_cons_succ]); (try simp only [List.set_cons_zero])
                  refine wpAnyH_take (i := 4) (v := ?v137) rfl (by kernel_rfl) (by kernel_rfl) (by kernel_rfl) (fun _ _ _ h => h) (Or.inl ⟨by rfl, ?hy137⟩) hHeld ?rest137
                  case hy137 => (intro wz hSw; (try dsimp only at hSw); go_simp; (try with_reducible rfl))
                  (try simp only [Act.put, List.getElem_toArray, List.getElem_cons_succ, List.getElem_cons_zero]); (try simp only [List.setIfInBounds_toArray]); (try simp only [List.set_cons_succ]); (try simp only [List.set_cons_zero])
                  refine wpAnyH_take (i := 5) (v := ?v138) rfl (by kernel_rfl) (by kernel_rfl) (by kernel_rfl) (fun _ _ _ h => h) (Or.inl ⟨by rfl, ?hy138⟩) hHeld ?rest138
                  case hy138 => (intro wz hSw; (try dsimp only at hSw); go_simp; (try with_reducible rfl))
                  (try simp only [Act.put, List.getElem_toArray, List.getElem_cons_succ, List.getElem_cons_zero]); (try simp only [List.setIfInBounds_toArray]); (try simp only [List.set_cons_succ]); (try simp only [List.set_cons_zero])
                  refine wpAnyH_take (i := 6) (v := ?v139) rfl (by kernel_rfl) (by kernel_rfl) (by kernel_rfl) (fun _ _ _ h => h) (Or.inl ⟨by rfl, ?hy139⟩) hHeld ?rest139
                  case hy139 => (intro wz hSw; (try dsimp only at hSw); go_simp; (try with_reducible rfl))
                  (try simp only [Act.put, List.getElem_toArray, List.getElem_cons_succ, List.getElem_cons_zero]); (try simp only [List.setIfInBounds_toArray]); (try simp only [List.set_cons_succ]); (try simp only [List.set_cons_zero])
                  refine wpAnyH_take (i := 7) (v := ?v140) rfl (by kernel_rfl) (by kernel_rfl) (by kernel_rfl) (fun _ _ _ h => h) (Or.inl ⟨by rfl, ?hy140⟩) hHeld ?rest140
                  case hy140 => (intro wz hSw; (try dsimp only at hSw); go_simp; (try with_reducible rfl))
                  (try simp only [Act.put, List.getElem_toArray, List.getElem_cons_succ, List.getElem_cons_zero]); (try simp only [List.setIfInBounds_toArray]); (try simp only [List.set_cons_succ]); (try simp only [List.set_cons_zero])
                  refine wpAnyH_take (i := 8) (v := ?v141) rfl (by kernel_rfl) (by kernel_rfl) (by kernel_rfl) (fun _ _ _ h => h) (Or.inl ⟨by rfl, ?hy141⟩) hHeld ?rest141
                  case hy141 => (intro wz hSw; (try dsimp only at hSw); go_simp; (try with_reducible rfl))
                  (try simp only [Act.put, List.getElem_toArray, List.getElem_cons_succ, List.getElem_cons_zero]); (try simp only [List.setIfInBounds_toArray]); (try simp only [List.set_cons_succ]); (try simp only [List.set_cons_zero])
                  refine wpAnyH_take (i := 9) (v := ?v142) rfl (by kernel_rfl) (by kernel_rfl) (by kernel_rfl) (fun _ _ _ h => h) (Or.inl ⟨by rfl, ?hy142⟩) hHeld ?rest142
                  case hy142 => (intro wz hSw; (try dsimp only at hSw); go_simp; (try with_reducible rfl))
                  (try simp only [Act.put, List.getElem_toArray, List.getElem_cons_succ, List.getElem_cons_zero]); (try simp only [List.setIfInBounds_toArray]); (try simp only [List.set_cons_succ]); (try simp only [List.set_cons_zero])
                  refine wpAnyH_take (i := 10) (v := ?v143) rfl (by kernel_rfl) (by kernel_rfl) (by kernel_rfl) (fun _ _ _ h => h) (Or.inl ⟨by rfl, ?hy143⟩) hHeld ?rest143
                  case hy143 => (intro wz hSw; (try dsimp only at hSw); go_simp; (try with_reducible rfl))
                  (try simp only [Act.put, List.getElem_toArray, List.getElem_cons_succ, List.getElem_cons_zero]); (try simp only [List.setIfInBounds_toArray]); (try simp only [List.set_cons_succ]); (try simp only [List.set_cons_zero])
                  refine wpAnyH_take (i := 11) (v := undef) rfl (by kernel_rfl) (by kernel_rfl) (by kernel_rfl) (fun _ _ _ h => h) (Or.inr ⟨by rfl, rfl⟩) hHeld ?rest144
                  (try simp only [Act.put, List.getElem_toArray, List.getElem_cons_succ, List.getElem_cons_zero]); (try simp only [List.setIfInBounds_toArray]); (try simp only [List.set_cons_succ]); (try simp only [List.set_cons_zero])
                  refine wpAnyH_take (i := 12) (v := undef) rfl (by kernel_rfl) (by kernel_rfl) (by kernel_rfl) (fun _ _ _ h => h) (Or.inr ⟨by rfl, rfl⟩) hHeld ?rest145
                  (try simp only [Act.put, List.getElem_toArray, List.getElem_cons_succ, List.getElem_cons_zero]); (try simp only [List.setIfInBounds_toArray]); (try simp only [List.set_cons_succ]); (try simp only [List.set_cons_zero])
                  refine wpAnyH_take (i := 13) (v := undef) rfl (by kernel_rfl) (by kernel_rfl) (by kernel_rfl) (fun _ _ _ h => h) (Or.inr ⟨by rfl, rfl⟩) hHeld ?rest146
                  (try simp only [Act.put, List.getElem_toArray, List.getElem_cons_succ, List.getElem_cons_zero]); (try simp only [List.setIfInBounds_toArray]); (try simp only [List.set_cons_succ]); (try simp only [List.set_cons_zero])
                  refine wpAnyH_take (i := 14) (v := undef) rfl (by kernel_rfl) (by kernel_rfl) (by kernel_rfl) (fun _ _ _ h => h) (Or.inr ⟨by rfl, rfl⟩) hHeld ?rest147
                  (try simp only [Act.put, List.getElem_toArray, List.getElem_cons_succ, List.getElem_cons_zero]); (try simp only [List.setIfInBounds_toArray]); (try simp only [List.set_cons_succ]); (try simp only [List.set_cons_zero])
                  refine wpAnyH_take (i := 15) (v := undef) rfl (by kernel_rfl) (by kernel_rfl) (by kernel_rfl) (fun _ _ _ h => h) (Or.inr ⟨by rfl, rfl⟩) hHeld ?rest148
                  (try simp only [Act.put, List.getElem_toArray, List.getElem_cons_succ, List.getElem_cons_zero]); (try simp only [List.setIfInBounds_toArray]); (try simp only [List.set_cons_succ]); (try simp only [List.set_cons_zero])
                  refine wpAnyH_take (i := 16) (v := undef) rfl (by kernel_rfl) (by kernel_rfl) (by kernel_rfl) (fun _ _ _ h => h) (Or.inr ⟨by rfl, rfl⟩) hHeld ?rest149
                  (try simp only [Act.put, List.getElem_toArray, List.getElem_cons_succ, List.getElem_cons_zero]); (try simp only [List.setIfInBounds_toArray]); (try simp only [List.set_cons_succ]); (try simp only [List.set_cons_zero])
                  refine wpAnyH_take (i := 17) (v := undef) rfl (by kernel_rfl) (by kernel_rfl) (by kernel_rfl) (fun _ _ _ h => h) (Or.inr ⟨by rfl, rfl⟩) hHeld ?rest150
                  (try simp only [Act.put, List.getElem_toArray, List.getElem_cons_succ, List.getElem_cons_zero]); (try simp only [List.setIfInBounds_toArray]); (try simp only [List.set_cons_succ]); (try simp only [List.set_cons_zero])
                  refine wpAnyH_take (i := 18) (v := undef) rfl (by kernel_rfl) (by kernel_rfl) (by kernel_rfl) (fun _ _ _ h => h) (Or.inr ⟨by rfl, rfl⟩) hHeld ?rest151
                  (try simp only [Act.put, List.getElem_toArray, List.getElem_cons_succ, List.getElem_cons_zero]); (try simp only [List.setIfInBounds_toArray]); (try simp only [List.set_cons_succ]); (try simp only [List.set_cons_zero])
                  refine wpAnyH_take (i := 19) (v := ?v152) rfl (by kernel_rfl) (by kernel_rfl) (by kernel_rfl) (fun _ _ _ h => h) (Or.inl ⟨by rfl, ?hy152⟩) hHeld ?rest152
                  case hy152 => (intro wz hSw; (try dsimp only at hSw); go_simp; (try with_reducible rfl))
                  (try simp only [Act.put, List.getElem_toArray, List.getElem_cons_succ, List.getElem_cons_zero]); (try simp only [List.setIfInBounds_toArray]); (try simp only [List.set_cons_succ]); (try simp only [List.set_cons_zero])
                  refine wpAnyH_done (by kernel_rfl) ?_ _
                  have X9 := And.left hHeld
                  clear hHeld

                  have E9 := Lib.hid (hE.out.trans X9)
                  clear X9 c0
                  go_wp2
                  exact ⟨⟨q + 1, by omega, by simp, by rw [HF.out], E9⟩, by simp [intOf]; omega⟩
              · obtain rfl : q = 12 := by omega
                clear HCN
                rcases hfd : foundM xs R rows 12 with _ | k
                · have HF := Lib.hid (hSB.out.1 hfd hlt)
                  have hem := fS_none
                  go_wp2
                  go_ret2
                  exact ⟨by with_reducible exact (X0.out.trans E6.out), .inl ⟨by rw [HSP.out, HF.out]; rfl, rfl⟩⟩
                · have HF := Lib.hid (hSB.out.2 k hfd)
                  have hem := fS_some k (foundM_lt _ _ (by omega) hfd)
                  obtain ⟨sF, hsF⟩ : ∃ sF, fS (some k) = sF := ⟨_, rfl⟩
                  rw [hsF] at hem ⊢
                  have OW := Lib.hid (ownsRow_ext O5.out hE.out)
                  have HVL : Hid (vs.length = nl) := by have := OW.out.1; rw [Hid]; simpa using this
                  clear hsF hfd
                  go_wp2_with fail
                  obtain ⟨wq, hwq⟩ : ∃ wq : World, wq = wr := ⟨_, rfl⟩
                  subst hwq
                  go_loopw [12] (fun z wx => ∃ p : Nat, p ≤ nl ∧ z = .int .i64 p ∧ Hid (Ext wq wx)) (fun z _ => (intOf z).toNat)
                  case atStart => exact ⟨nl, by omega, rfl, Ext.refl _⟩
                  case round =>
                    obtain ⟨p, hp, rfl, hX⟩ := hrel
                    by_cases hp0 : p = 0
                    · have hpI : ¬ (0 : Int) < (p : Int) := by omega
                      clear hp0
                      go_wp2_with fail
                      have OX := Lib.hid (ownsRow_ext OW.out hX.out)
                      obtain ⟨hnc, hcm⟩ := ownsRow_cap OX.out
                      have HCX2 := Lib.hid hcm
                      have hpc : p ≤ co := by omega
                      have hpnI : (p : Int) ≤ (nl : Int) := by omega
                      have hpcI : (p : Int) ≤ (co : Int) := by omega
                      clear hcm
                      obtain ⟨i1, hi1, hy0, hy1, hy2⟩ := info_parts Tryz.infoStr
                      have HTK : Hid (∀ u, u ∈ vs.take p → u.oneCell' = true) := fun u hu => by obtain ⟨b, rfl⟩ := hVS.out u (List.mem_of_mem_take hu); rfl
                      have HDR : Hid (∀ u, u ∈ vs.drop p → u.oneCell' = true) := fun u hu => by obtain ⟨b, rfl⟩ := hVS.out u (List.mem_of_mem_drop hu); rfl
                      have HV9 : Hid (∀ u, u ∈ vs.take p ++ [.string sF] ++ vs.drop p → ∃ b, u = .string b) := fun u hu => by
                        rw [List.mem_append, List.mem_append, List.mem_singleton] at hu
                        rcases hu with (hu | hu) | hu
                        · exact hVS.out u (List.mem_of_mem_take hu)
                        · exact ⟨_, hu⟩
                        · exact hVS.out u (List.mem_of_mem_drop hu)
                      have HIL : Hid ((insN k ns).length = nl + 1) := by rw [Hid, insN_length, HNLE.out]
                      rcases (show co = p ∨ ¬ co = p by omega) with hcp | hcp
                      · skip
                        have hcp1 : (co = p) = True := eq_true hcp
                        have HCP := Lib.hid hcp
                        clear hcp
                        refine wp_region_held_drew (S := (fun w' => Ext wr w' ∧ (∀ b o, b < wr.heap.size → w'.cell? ⟨b, o, none⟩ = wr.cell? ⟨b, o, none⟩))) (by kernel_rfl) (ext2 (Ext.refl wr).drew) (fun hHeld => ?_)
                        refine wpAnyH_take (i := 1) (v := ?v189) rfl (by kernel_rfl) (by kernel_rfl) (by kernel_rfl) (fun _ _ _ h => h) (Or.inl ⟨by rfl, ?hy189⟩) hHeld ?rest189
                        case hy189 => (intro wz hSw; (try dsimp only at hSw); go_simp; (try with_reducible rfl))
                        (try simp only [Act.put, List.getElem_toArray, List.getElem_cons_succ, List.getElem_cons_zero]); (try simp only [List.setIfInBounds_toArray]); (try simp only [List.set_cons_succ]); (try simp only [List.set_cons_zero])
                        refine wpAnyH_take (i := 2) (v := ?v190) rfl (by kernel_rfl) (by kernel_rfl) (by kernel_rfl) (fun _ _ _ h => h) (Or.inl ⟨by rfl, ?hy190⟩) hHeld ?rest190
                        case hy190 => (intro wz hSw; (try dsimp only at hSw); go_simp; (try with_reducible rfl))
                        (try simp only [Act.put, List.getElem_toArray, List.getElem_cons_succ, List.getElem_cons_zero]); (try simp only [List.setIfInBounds_toArray]); (try simp only [List.set_cons_succ]); (try simp only [List.set_cons_zero])
                        refine wpAnyH_take (i := 3) (v := ?v191) rfl (by kernel_rfl) (by kernel_rfl) (by kernel_rfl) (fun _ _ _ h => h) (Or.inl ⟨by rfl, ?hy191⟩) hHeld ?rest191
                        case hy191 => (intro wz hSw; (try dsimp only at hSw); go_simp; (try with_reducible rfl))
                        (try simp only [Act.put, List.getElem_toArray, List.getElem_cons_succ, List.getElem_cons_zero]); (try simp only [List.setIfInBounds_toArray]); (try simp only [List.set_cons_succ]); (try simp only [List.set_cons_zero])
                        refine wpAnyH_take (i := 5) (v := ?v192) rfl (by kernel_rfl) (by kernel_rfl) (by kernel_rfl) (fun _ _ _ h => h) (Or.inl ⟨by rfl, ?hy192⟩) hHeld ?rest192
                        case hy192 => (intro wz hSw; (try dsimp only at hSw); go_simp; (try with_reducible rfl))
                        (try simp only [Act.put, List.getElem_toArray, List.getElem_cons_succ, List.getElem_cons_zero]); (try simp only [List.setIfInBounds_toArray]); (try simp only [List.set_cons_succ]); (try simp only [List.set_cons_zero])
                        refine wpAnyH_take (i := 8) (v := ?v193) rfl (by kernel_rfl) (by kernel_rfl) (by kernel_rfl) (fun _ _ _ h => h) (Or.inl ⟨by rfl, ?hy193⟩) hHeld ?rest193
                        case hy193 => (intro wz hSw; (try dsimp only at hSw); go_simp; (try with_reducible rfl))
                        (try simp only [Act.put, List.getElem_toArray, List.getElem_cons_succ, List.getElem_cons_zero]); (try simp only [List.setIfInBounds_toArray]); (try simp only [List.set_cons_succ]); (try simp only [List.set_cons_zero])
                        refine wpAnyH_take (i := 9) (v := ?v194) rfl (by kernel_rfl) (by kernel_rfl) (by kernel_rfl) (fun _ _ _ h => h) (Or.inl ⟨by rfl, ?hy194⟩) hHeld ?rest194
                        case hy194 => (intro wz hSw; (try dsimp only at hSw); go_simp; (try with_reducible rfl))
                        (try simp only [Act.put, List.getElem_toArray, List.getElem_cons_succ, List.getElem_cons_zero]); (try simp only [List.setIfInBounds_toArray]); (try simp only [List.set_cons_succ]); (try simp only [List.set_cons_zero])
                        refine wpAnyH_take (i := 10) (v := ?v195) rfl (by kernel_rfl) (by kernel_rfl) (by kernel_rfl) (fun _ _ _ h => h) (Or.inl ⟨by rfl, ?hy195⟩) hHeld ?rest195
                        case hy195 => (intro wz hSw; (try dsimp only at hSw); go_simp; (try with_reducible rfl))
                        (try simp only [Act.put, List.getElem_toArray, List.getElem_cons_succ, List.getElem_cons_zero]); (try simp only [List.setIfInBounds_toArray]); (try simp only [List.set_cons_succ]); (try simp only [List.set_cons_zero])
                        refine wpAnyH_ready (rs := [0, 6]) (by kernel_rfl) (by simp) ?_
                        refine AllReadyH.cons rfl (fun K' hK => ?_) (AllReadyH.cons rfl (fun K' hK => ?_) AllReadyH.nil)
                        · skip
                          go_simp
                          refine hK.out _ _ (ext2 ((Ext.refl wr).drew.alloc _)) (fun hHeld => ?_)
                          clear hK
                          obtain ⟨V1, hV1⟩ : ∃ V1, (wr.alloc (.cells #[] 9)).drew = V1 := ⟨_, rfl⟩
                          rw [hV1] at hHeld ⊢
                          have E1 := And.left hHeld
                          have hs1 : Hid (V1.heap.size = wr.heap.size + 1) := by rw [Hid, ← hV1]; simp
                          have L1 : V1.ownsRow wr.heap.size 9 1 (.slice (some ⟨wr.heap.size, 0, none⟩) 0 0) 0 [] := by rw [← hV1]; exact ownsRow_ext (World.ownsRow_lit wr #[] 0 (Nat.le_refl _) (by unfold maxLen; omega) (by simp)) ((Ext.refl _).drew)
                          clear hV1
                          refine wpAnyH_ready (rs := [4, 6]) (by kernel_rfl) (by simp) ?_
                          refine AllReadyH.cons rfl (fun K' hK => ?_) (AllReadyH.cons rfl (fun K' hK => ?_) AllReadyH.nil)
                          · skip
                            refine wp_append_own _ (.tmp 135) (.tmp 138) 110 rfl wr.heap.size 9 i1 (.string ByteArray.empty) 1 16 Tryz.underlying110 hi1 hy0 hy1 hy2 rfl (by decide) (.slice (some ⟨wr.heap.size, 0, none⟩) 0 0) 0 [] rfl L1 ⟨ga, 0, none⟩ p co (vs.take p) rfl (by rw [List.length_take, HVL.out]; omega) (own_take (ownsRow_ext OX.out E1) HVL.out) HTK.out (by unfold maxLen; omega) (by omega) E1.le ?_
                            intro v1 w1 hO1 hg1 _
                            have O1 : w1.ownsRow wr.heap.size 9 1 v1 p (vs.take p) := by rw [Nat.zero_add, List.nil_append] at hO1; exact hO1
                            have F1 : Ext wr w1 := E1.grown hg1 (fun z hz => (World.ownsRow.lt L1 z hz).1)
                            obtain ⟨a1, c1, rfl⟩ := ownsRow_shape O1
                            refine hK.out _ _ (ext2 F1) (fun hHeld => ?_)
                            clear hK hO1 hg1
                            refine wpAnyH_ready (rs := [6]) (by kernel_rfl) (by simp) ?_
                            refine AllReadyH.cons rfl (fun K' hK => ?_) AllReadyH.nil
                            go_simp
                            refine hK.out _ _ (ext2 (F1.alloc _)) (fun hHeld => ?_)
                            clear hK
                            have q2 := (Ext.refl w1).alloc (.cells #[.string sF] 9)
                            have S2 : Cells (w1.alloc (.cells #[.string sF] 9)) w1.heap.size [.string sF] := cells_new w1 #[.string sF] 9
                            have O2 := ownsRow_ext O1 q2
                            obtain ⟨V2, hV2⟩ : ∃ V2, w1.alloc (.cells #[.string sF] 9) = V2 := ⟨_, rfl⟩
                            rw [hV2] at S2 O2 hHeld ⊢
                            clear hV2 q2
                            have E2 := And.left hHeld
                            refine wpAnyH_ready (rs := [7]) (by kernel_rfl) (by simp) ?_
                            refine AllReadyH.cons rfl (fun K' hK => ?_) AllReadyH.nil
                            refine wp_append_own _ (.tmp 139) (.tmp 141) 110 rfl wr.heap.size 9 i1 (.string ByteArray.empty) 1 16 Tryz.underlying110 hi1 hy0 hy1 hy2 rfl (by decide) (.slice a1 p c1) p (vs.take p) rfl O2 ⟨w1.heap.size, 0, none⟩ 1 1 [.string sF] rfl rfl (one_news (S2.2 0 _ rfl)) (fun u hu => by rw [List.mem_singleton] at hu; subst hu; rfl) (by unfold maxLen; omega) (by omega) E2.le ?_
                            intro v2 w2 hO2 hg2 _
                            have F2 : Ext wr w2 := E2.grown hg2 (fun z hz => (World.ownsRow.lt O2 z hz).1)
                            obtain ⟨a2, c2, rfl⟩ := ownsRow_shape hO2
                            refine hK.out _ _ (ext2 F2) (fun hHeld => ?_)
                            clear hK hg2
                            refine wpAnyH_ready (rs := [11]) (by kernel_rfl) (by simp) ?_
                            refine AllReadyH.cons rfl (fun K' hK => ?_) AllReadyH.nil
                            refine wp_append_own _ (.tmp 142) (.tmp 145) 110 rfl wr.heap.size 9 i1 (.string ByteArray.empty) 1 16 Tryz.underlying110 hi1 hy0 hy1 hy2 rfl (by decide) (.slice a2 (p + 1) c2) (p + 1) (vs.take p ++ [.string sF]) rfl hO2 ⟨ga, 0, none⟩ (nl - p) (co - p) (vs.drop p) rfl (by rw [List.length_drop, HVL.out]; omega) (own_drop (ownsRow_ext OX.out F2) HVL.out _ (.inr (by have := HCP.out; omega))) HDR.out (by unfold maxLen; omega) (by omega) F2.le ?_
                            intro v3 w3 hO3 hg3 _
                            have F3 : Ext wr w3 := F2.grown hg3 (fun z hz => (World.ownsRow.lt hO2 z hz).1)
                            rw [show p + 1 + (nl - p) = nl + 1 by omega] at hO3
                            obtain ⟨a3, c3', rfl⟩ := ownsRow_shape hO3
                            obtain ⟨g3', rfl, _, _, _⟩ := ownsRow_get hO3 (by omega)
                            refine hK.out _ _ (ext2 F3) (fun hHeld => ?_)
                            clear hK hg3
                            refine wpAnyH_take (i := 12) (v := ?v196) rfl (by kernel_rfl) (by kernel_rfl) (by kernel_rfl) (fun _ _ _ h => h) (Or.inl ⟨by rfl, ?hy196⟩) hHeld ?rest196
                            case hy196 => (intro wz hSw; (try dsimp only at hSw); go_simp; (try with_reducible rfl))
                            (try simp only [Act.put, List.getElem_toArray, List.getElem_cons_succ, List.getElem_cons_zero]); (try simp only [List.setIfInBounds_toArray]); (try simp only [List.set_cons_succ]); (try simp only [List.set_cons_zero])
                            refine wpAnyH_done (by kernel_rfl) ?_ _
                            clear hHeld
                            have O9 := Lib.hid (ownsRow_low hO3 (E6.out.trans hX.out).le)
                            have E8 := Lib.hid (hE.out.trans (hX.out.trans F3))
                            have E9 := Lib.hid (E6.out.trans (hX.out.trans F3))
                            have G9 := Lib.hid (G5.out.ext E8.out)
                            go_wp2
                            exact ⟨⟨i + 1, done ++ rows, insN k ns, g3', a4, c3', c4, _, by omega, by simp, by rw [HIL.out], by rw [HDA.out], HF, by rw [HIL.out]; exact O9, HV9, by rw [HDA.out]; exact G9, E9⟩, by simp [intOf]; omega⟩
                          · skip
                            go_simp
                            refine hK.out _ _ (ext2 (E1.alloc _)) (fun hHeld => ?_)
                            clear hK
                            have q2 := (Ext.refl V1).alloc (.cells #[.string sF] 9)
                            have S2 : Cells (V1.alloc (.cells #[.string sF] 9)) V1.heap.size [.string sF] := cells_new V1 #[.string sF] 9
                            have L2 := ownsRow_ext L1 q2
                            obtain ⟨V2, hV2⟩ : ∃ V2, V1.alloc (.cells #[.string sF] 9) = V2 := ⟨_, rfl⟩
                            rw [hV2] at L2 S2 hHeld ⊢
                            clear hV2 q2
                            have E2 := And.left hHeld
                            refine wpAnyH_ready (rs := [4]) (by kernel_rfl) (by simp) ?_
                            refine AllReadyH.cons rfl (fun K' hK => ?_) AllReadyH.nil
                            refine wp_append_own _ (.tmp 135) (.tmp 138) 110 rfl wr.heap.size 9 i1 (.string ByteArray.empty) 1 16 Tryz.underlying110 hi1 hy0 hy1 hy2 rfl (by decide) (.slice (some ⟨wr.heap.size, 0, none⟩) 0 0) 0 [] rfl L2 ⟨ga, 0, none⟩ p co (vs.take p) rfl (by rw [List.length_take, HVL.out]; omega) (own_take (ownsRow_ext OX.out E2) HVL.out) HTK.out (by unfold maxLen; omega) (by omega) E2.le ?_
                            intro v1 w1 hO1 hg1 _
                            have O1 : w1.ownsRow wr.heap.size 9 1 v1 p (vs.take p) := by rw [Nat.zero_add, List.nil_append] at hO1; exact hO1
                            have F1 : Ext wr w1 := E2.grown hg1 (fun z hz => (World.ownsRow.lt L2 z hz).1)
                            have S3 : Cells w1 V1.heap.size [.string sF] := S2.grown hg1 (fun z hz => by simp [Value.ownBlock] at hz; have := hs1.out; omega)
                            obtain ⟨a1, c1, rfl⟩ := ownsRow_shape O1
                            refine hK.out _ _ (ext2 F1) (fun hHeld => ?_)
                            clear hK hO1 hg1
                            refine wpAnyH_ready (rs := [7]) (by kernel_rfl) (by simp) ?_
                            refine AllReadyH.cons rfl (fun K' hK => ?_) AllReadyH.nil
                            refine wp_append_own _ (.tmp 139) (.tmp 141) 110 rfl wr.heap.size 9 i1 (.string ByteArray.empty) 1 16 Tryz.underlying110 hi1 hy0 hy1 hy2 rfl (by decide) (.slice a1 p c1) p (vs.take p) rfl O1 ⟨V1.heap.size, 0, none⟩ 1 1 [.string sF] rfl rfl (one_news (S3.2 0 _ rfl)) (fun u hu => by rw [List.mem_singleton] at hu; subst hu; rfl) (by unfold maxLen; omega) (by omega) F1.le ?_
                            intro v2 w2 hO2 hg2 _
                            have F2 : Ext wr w2 := F1.grown hg2 (fun z hz => (World.ownsRow.lt O1 z hz).1)
                            obtain ⟨a2, c2, rfl⟩ := ownsRow_shape hO2
                            refine hK.out _ _ (ext2 F2) (fun hHeld => ?_)
                            clear hK hg2
                            refine wpAnyH_ready (rs := [11]) (by kernel_rfl) (by simp) ?_
                            refine AllReadyH.cons rfl (fun K' hK => ?_) AllReadyH.nil
                            refine wp_append_own _ (.tmp 142) (.tmp 145) 110 rfl wr.heap.size 9 i1 (.string ByteArray.empty) 1 16 Tryz.underlying110 hi1 hy0 hy1 hy2 rfl (by decide) (.slice a2 (p + 1) c2) (p + 1) (vs.take p ++ [.string sF]) rfl hO2 ⟨ga, 0, none⟩ (nl - p) (co - p) (vs.drop p) rfl (by rw [List.length_drop, HVL.out]; omega) (own_drop (ownsRow_ext OX.out F2) HVL.out _ (.inr (by have := HCP.out; omega))) HDR.out (by unfold maxLen; omega) (by omega) F2.le ?_
                            intro v3 w3 hO3 hg3 _
                            have F3 : Ext wr w3 := F2.grown hg3 (fun z hz => (World.ownsRow.lt hO2 z hz).1)
                            rw [show p + 1 + (nl - p) = nl + 1 by omega] at hO3
                            obtain ⟨a3, c3', rfl⟩ := ownsRow_shape hO3
                            obtain ⟨g3', rfl, _, _, _⟩ := ownsRow_get hO3 (by omega)
                            refine hK.out _ _ (ext2 F3) (fun hHeld => ?_)
                            clear hK hg3
                            refine wpAnyH_take (i := 12) (v := ?v197) rfl (by kernel_rfl) (by kernel_rfl) (by kernel_rfl) (fun _ _ _ h => h) (Or.inl ⟨by rfl, ?hy197⟩) hHeld ?rest197
                            case hy197 => (intro wz hSw; (try dsimp only at hSw); go_simp; (try with_reducible rfl))
                            (try simp only [Act.put, List.getElem_toArray, List.getElem_cons_succ, List.getElem_cons_zero]); (try simp only [List.setIfInBounds_toArray]); (try simp only [List.set_cons_succ]); (try simp only [List.set_cons_zero])
                            refine wpAnyH_done (by kernel_rfl) ?_ _
                            clear hHeld
                            have O9 := Lib.hid (ownsRow_low hO3 (E6.out.trans hX.out).le)
                            have E8 := Lib.hid (hE.out.trans (hX.out.trans F3))
                            have E9 := Lib.hid (E6.out.trans (hX.out.trans F3))
                            have G9 := Lib.hid (G5.out.ext E8.out)
                            go_wp2
                            exact ⟨⟨i + 1, done ++ rows, insN k ns, g3', a4, c3', c4, _, by omega, by simp, by rw [HIL.out], by rw [HDA.out], HF, by rw [HIL.out]; exact O9, HV9, by rw [HDA.out]; exact G9, E9⟩, by simp [intOf]; omega⟩
                        · skip
                          go_simp
                          refine hK.out _ _ (ext2 ((Ext.refl wr).drew.alloc _)) (fun hHeld => ?_)
                          clear hK
                          obtain ⟨V1, hV1⟩ : ∃ V1, (wr.alloc (.cells #[.string sF] 9)).drew = V1 := ⟨_, rfl⟩
                          rw [hV1] at hHeld ⊢
                          have E1 := And.left hHeld
                          have hs1 : Hid (V1.heap.size = wr.heap.size + 1) := by rw [Hid, ← hV1]; simp
                          have S1 : Cells V1 wr.heap.size [.string sF] := by rw [← hV1]; exact (cells_new wr #[.string sF] 9).ext ((Ext.refl _).drew)
                          clear hV1
                          refine wpAnyH_ready (rs := [0]) (by kernel_rfl) (by simp) ?_
                          refine AllReadyH.cons rfl (fun K' hK => ?_) AllReadyH.nil
                          go_simp
                          refine hK.out _ _ (ext2 (E1.alloc _)) (fun hHeld => ?_)
                          clear hK
                          have q2 := (Ext.refl V1).alloc (.cells #[] 9)
                          have L2 : (V1.alloc (.cells #[] 9)).ownsRow wr.heap.size 9 1 (.slice (some ⟨V1.heap.size, 0, none⟩) 0 0) 0 [] := World.ownsRow_lit V1 #[] 0 E1.le (by unfold maxLen; omega) (by simp)
                          have S2 := S1.ext q2
                          obtain ⟨V2, hV2⟩ : ∃ V2, V1.alloc (.cells #[] 9) = V2 := ⟨_, rfl⟩
                          rw [hV2] at L2 S2 hHeld ⊢
                          clear hV2 q2
                          have E2 := And.left hHeld
                          refine wpAnyH_ready (rs := [4]) (by kernel_rfl) (by simp) ?_
                          refine AllReadyH.cons rfl (fun K' hK => ?_) AllReadyH.nil
                          refine wp_append_own _ (.tmp 135) (.tmp 138) 110 rfl wr.heap.size 9 i1 (.string ByteArray.empty) 1 16 Tryz.underlying110 hi1 hy0 hy1 hy2 rfl (by decide) (.slice (some ⟨V1.heap.size, 0, none⟩) 0 0) 0 [] rfl L2 ⟨ga, 0, none⟩ p co (vs.take p) rfl (by rw [List.length_take, HVL.out]; omega) (own_take (ownsRow_ext OX.out E2) HVL.out) HTK.out (by unfold maxLen; omega) (by omega) E2.le ?_
                          intro v1 w1 hO1 hg1 _
                          have O1 : w1.ownsRow wr.heap.size 9 1 v1 p (vs.take p) := by rw [Nat.zero_add, List.nil_append] at hO1; exact hO1
                          have F1 : Ext wr w1 := E2.grown hg1 (fun z hz => (World.ownsRow.lt L2 z hz).1)
                          have S3 : Cells w1 wr.heap.size [.string sF] := S2.grown hg1 (fun z hz => by simp [Value.ownBlock] at hz; have := hs1.out; omega)
                          obtain ⟨a1, c1, rfl⟩ := ownsRow_shape O1
                          refine hK.out _ _ (ext2 F1) (fun hHeld => ?_)
                          clear hK hO1 hg1
                          refine wpAnyH_ready (rs := [7]) (by kernel_rfl) (by simp) ?_
                          refine AllReadyH.cons rfl (fun K' hK => ?_) AllReadyH.nil
                          refine wp_append_own _ (.tmp 139) (.tmp 141) 110 rfl wr.heap.size 9 i1 (.string ByteArray.empty) 1 16 Tryz.underlying110 hi1 hy0 hy1 hy2 rfl (by decide) (.slice a1 p c1) p (vs.take p) rfl O1 ⟨wr.heap.size, 0, none⟩ 1 1 [.string sF] rfl rfl (one_news (S3.2 0 _ rfl)) (fun u hu => by rw [List.mem_singleton] at hu; subst hu; rfl) (by unfold maxLen; omega) (by omega) F1.le ?_
                          intro v2 w2 hO2 hg2 _
                          have F2 : Ext wr w2 := F1.grown hg2 (fun z hz => (World.ownsRow.lt O1 z hz).1)
                          obtain ⟨a2, c2, rfl⟩ := ownsRow_shape hO2
                          refine hK.out _ _ (ext2 F2) (fun hHeld => ?_)
                          clear hK hg2
                          refine wpAnyH_ready (rs := [11]) (by kernel_rfl) (by simp) ?_
                          refine AllReadyH.cons rfl (fun K' hK => ?_) AllReadyH.nil
                          refine wp_append_own _ (.tmp 142) (.tmp 145) 110 rfl wr.heap.size 9 i1 (.string ByteArray.empty) 1 16 Tryz.underlying110 hi1 hy0 hy1 hy2 rfl (by decide) (.slice a2 (p + 1) c2) (p + 1) (vs.take p ++ [.string sF]) rfl hO2 ⟨ga, 0, none⟩ (nl - p) (co - p) (vs.drop p) rfl (by rw [List.length_drop, HVL.out]; omega) (own_drop (ownsRow_ext OX.out F2) HVL.out _ (.inr (by have := HCP.out; omega))) HDR.out (by unfold maxLen; omega) (by omega) F2.le ?_
                          intro v3 w3 hO3 hg3 _
                          have F3 : Ext wr w3 := F2.grown hg3 (fun z hz => (World.ownsRow.lt hO2 z hz).1)
                          rw [show p + 1 + (nl - p) = nl + 1 by omega] at hO3
                          obtain ⟨a3, c3', rfl⟩ := ownsRow_shape hO3
                          obtain ⟨g3', rfl, _, _, _⟩ := ownsRow_get hO3 (by omega)
                          refine hK.out _ _ (ext2 F3) (fun hHeld => ?_)
                          clear hK hg3
                          refine wpAnyH_take (i := 12) (v := ?v198) rfl (by kernel_rfl) (by kernel_rfl) (by kernel_rfl) (fun _ _ _ h => h) (Or.inl ⟨by rfl, ?hy198⟩) hHeld ?rest198
                          case hy198 => (intro wz hSw; (try dsimp only at hSw); go_simp; (try with_reducible rfl))
                          (try simp only [Act.put, List.getElem_toArray, List.getElem_cons_succ, List.getElem_cons_zero]); (try simp only [List.setIfInBounds_toArray]); (try simp only [List.set_cons_succ]); (try simp only [List.set_cons_zero])
                          refine wpAnyH_done (by kernel_rfl) ?_ _
                          clear hHeld
                          have O9 := Lib.hid (ownsRow_low hO3 (E6.out.trans hX.out).le)
                          have E8 := Lib.hid (hE.out.trans (hX.out.trans F3))
                          have E9 := Lib.hid (E6.out.trans (hX.out.trans F3))
                          have G9 := Lib.hid (G5.out.ext E8.out)
                          go_wp2
                          exact ⟨⟨i + 1, done ++ rows, insN k ns, g3', a4, c3', c4, _, by omega, by simp, by rw [HIL.out], by rw [HDA.out], HF, by rw [HIL.out]; exact O9, HV9, by rw [HDA.out]; exact G9, E9⟩, by simp [intOf]; omega⟩
                      · skip
                        have hcp1 : ¬ p = co := fun h => hcp h.symm
                        refine wp_region_held_drew (S := (fun w' => Ext wr w' ∧ (∀ b o, b < wr.heap.size → w'.cell? ⟨b, o, none⟩ = wr.cell? ⟨b, o, none⟩))) (by kernel_rfl) (ext2 (Ext.refl wr).drew) (fun hHeld => ?_)
                        refine wpAnyH_take (i := 1) (v := ?v199) rfl (by kernel_rfl) (by kernel_rfl) (by kernel_rfl) (fun _ _ _ h => h) (Or.inl ⟨by rfl, ?hy199⟩) hHeld ?rest199
                        case hy199 => (intro wz hSw; (try dsimp only at hSw); go_simp; (try with_reducible rfl))
                        (try simp only [Act.put, List.getElem_toArray, List.getElem_cons_succ, List.getElem_cons_zero]); (try simp only [List.setIfInBounds_toArray]); (try simp only [List.set_cons_succ]); (try simp only [List.set_cons_zero])
                        refine wpAnyH_take (i := 2) (v := ?v200) rfl (by kernel_rfl) (by kernel_rfl) (by kernel_rfl) (fun _ _ _ h => h) (Or.inl ⟨by rfl, ?hy200⟩) hHeld ?rest200
                        case hy200 => (intro wz hSw; (try dsimp only at hSw); go_simp; (try with_reducible rfl))
                        (try simp only [Act.put, List.getElem_toArray, List.getElem_cons_succ, List.getElem_cons_zero]); (try simp only [List.setIfInBounds_toArray]); (try simp only [List.set_cons_succ]); (try simp only [List.set_cons_zero])
                        refine wpAnyH_take (i := 3) (v := ?v201) rfl (by kernel_rfl) (by kernel_rfl) (by kernel_rfl) (fun _ _ _ h => h) (Or.inl ⟨by rfl, ?hy201⟩) hHeld ?rest201
                        case hy201 => (intro wz hSw; (try dsimp only at hSw); go_simp; (try with_reducible rfl))
                        (try simp only [Act.put, List.getElem_toArray, List.getElem_cons_succ, List.getElem_cons_zero]); (try simp only [List.setIfInBounds_toArray]); (try simp only [List.set_cons_succ]); (try simp only [List.set_cons_zero])
                        refine wpAnyH_take (i := 5) (v := ?v202) rfl (by kernel_rfl) (by kernel_rfl) (by kernel_rfl) (fun _ _ _ h => h) (Or.inl ⟨by rfl, ?hy202⟩) hHeld ?rest202
                        case hy202 => (intro wz hSw; (try dsimp only at hSw); go_simp; (try with_reducible rfl))
                        (try simp only [Act.put, List.getElem_toArray, List.getElem_cons_succ, List.getElem_cons_zero]); (try simp only [List.setIfInBounds_toArray]); (try simp only [List.set_cons_succ]); (try simp only [List.set_cons_zero])
                        refine wpAnyH_take (i := 8) (v := ?v203) rfl (by kernel_rfl) (by kernel_rfl) (by kernel_rfl) (fun _ _ _ h => h) (Or.inl ⟨by rfl, ?hy203⟩) hHeld ?rest203
                        case hy203 => (intro wz hSw; (try dsimp only at hSw); go_simp; (try with_reducible rfl))
                        (try simp only [Act.put, List.getElem_toArray, List.getElem_cons_succ, List.getElem_cons_zero]); (try simp only [List.setIfInBounds_toArray]); (try simp only [List.set_cons_succ]); (try simp only [List.set_cons_zero])
                        refine wpAnyH_take (i := 9) (v := ?v204) rfl (by kernel_rfl) (by kernel_rfl) (by kernel_rfl) (fun _ _ _ h => h) (Or.inl ⟨by rfl, ?hy204⟩) hHeld ?rest204
                        case hy204 => (intro wz hSw; (try dsimp only at hSw); go_simp; (try with_reducible rfl))
                        (try simp only [Act.put, List.getElem_toArray, List.getElem_cons_succ, List.getElem_cons_zero]); (try simp only [List.setIfInBounds_toArray]); (try simp only [List.set_cons_succ]); (try simp only [List.set_cons_zero])
                        refine wpAnyH_take (i := 10) (v := ?v205) rfl (by kernel_rfl) (by kernel_rfl) (by kernel_rfl) (fun _ _ _ h => h) (Or.inl ⟨by rfl, ?hy205⟩) hHeld ?rest205
                        case hy205 => (intro wz hSw; (try dsimp only at hSw); go_simp; (try with_reducible rfl))
                        (try simp only [Act.put, List.getElem_toArray, List.getElem_cons_succ, List.getElem_cons_zero]); (try simp only [List.setIfInBounds_toArray]); (try simp only [List.set_cons_succ]); (try simp only [List.set_cons_zero])
                        refine wpAnyH_ready (rs := [0, 6]) (by kernel_rfl) (by simp) ?_
                        refine AllReadyH.cons rfl (fun K' hK => ?_) (AllReadyH.cons rfl (fun K' hK => ?_) AllReadyH.nil)
                        · skip
                          go_simp
                          refine hK.out _ _ (ext2 ((Ext.refl wr).drew.alloc _)) (fun hHeld => ?_)
                          clear hK
                          obtain ⟨V1, hV1⟩ : ∃ V1, (wr.alloc (.cells #[] 9)).drew = V1 := ⟨_, rfl⟩
                          rw [hV1] at hHeld ⊢
                          have E1 := And.left hHeld
                          have hs1 : Hid (V1.heap.size = wr.heap.size + 1) := by rw [Hid, ← hV1]; simp
                          have L1 : V1.ownsRow wr.heap.size 9 1 (.slice (some ⟨wr.heap.size, 0, none⟩) 0 0) 0 [] := by rw [← hV1]; exact ownsRow_ext (World.ownsRow_lit wr #[] 0 (Nat.le_refl _) (by unfold maxLen; omega) (by simp)) ((Ext.refl _).drew)
                          clear hV1
                          refine wpAnyH_ready (rs := [4, 6]) (by kernel_rfl) (by simp) ?_
                          refine AllReadyH.cons rfl (fun K' hK => ?_) (AllReadyH.cons rfl (fun K' hK => ?_) AllReadyH.nil)
                          · skip
                            refine wp_append_own _ (.tmp 135) (.tmp 138) 110 rfl wr.heap.size 9 i1 (.string ByteArray.empty) 1 16 Tryz.underlying110 hi1 hy0 hy1 hy2 rfl (by decide) (.slice (some ⟨wr.heap.size, 0, none⟩) 0 0) 0 [] rfl L1 ⟨ga, 0, none⟩ p co (vs.take p) rfl (by rw [List.length_take, HVL.out]; omega) (own_take (ownsRow_ext OX.out E1) HVL.out) HTK.out (by unfold maxLen; omega) (by omega) E1.le ?_
                            intro v1 w1 hO1 hg1 _
                            have O1 : w1.ownsRow wr.heap.size 9 1 v1 p (vs.take p) := by rw [Nat.zero_add, List.nil_append] at hO1; exact hO1
                            have F1 : Ext wr w1 := E1.grown hg1 (fun z hz => (World.ownsRow.lt L1 z hz).1)
                            obtain ⟨a1, c1, rfl⟩ := ownsRow_shape O1
                            refine hK.out _ _ (ext2 F1) (fun hHeld => ?_)
                            clear hK hO1 hg1
                            refine wpAnyH_ready (rs := [6]) (by kernel_rfl) (by simp) ?_
                            refine AllReadyH.cons rfl (fun K' hK => ?_) AllReadyH.nil
                            go_simp
                            refine hK.out _ _ (ext2 (F1.alloc _)) (fun hHeld => ?_)
                            clear hK
                            have q2 := (Ext.refl w1).alloc (.cells #[.string sF] 9)
                            have S2 : Cells (w1.alloc (.cells #[.string sF] 9)) w1.heap.size [.string sF] := cells_new w1 #[.string sF] 9
                            have O2 := ownsRow_ext O1 q2
                            obtain ⟨V2, hV2⟩ : ∃ V2, w1.alloc (.cells #[.string sF] 9) = V2 := ⟨_, rfl⟩
                            rw [hV2] at S2 O2 hHeld ⊢
                            clear hV2 q2
                            have E2 := And.left hHeld
                            refine wpAnyH_ready (rs := [7]) (by kernel_rfl) (by simp) ?_
                            refine AllReadyH.cons rfl (fun K' hK => ?_) AllReadyH.nil
                            refine wp_append_own _ (.tmp 139) (.tmp 141) 110 rfl wr.heap.size 9 i1 (.string ByteArray.empty) 1 16 Tryz.underlying110 hi1 hy0 hy1 hy2 rfl (by decide) (.slice a1 p c1) p (vs.take p) rfl O2 ⟨w1.heap.size, 0, none⟩ 1 1 [.string sF] rfl rfl (one_news (S2.2 0 _ rfl)) (fun u hu => by rw [List.mem_singleton] at hu; subst hu; rfl) (by unfold maxLen; omega) (by omega) E2.le ?_
                            intro v2 w2 hO2 hg2 _
                            have F2 : Ext wr w2 := E2.grown hg2 (fun z hz => (World.ownsRow.lt O2 z hz).1)
                            obtain ⟨a2, c2, rfl⟩ := ownsRow_shape hO2
                            refine hK.out _ _ (ext2 F2) (fun hHeld => ?_)
                            clear hK hg2
                            refine wpAnyH_ready (rs := [11]) (by kernel_rfl) (by simp) ?_
                            refine AllReadyH.cons rfl (fun K' hK => ?_) AllReadyH.nil
                            refine wp_append_own _ (.tmp 142) (.tmp 145) 110 rfl wr.heap.size 9 i1 (.string ByteArray.empty) 1 16 Tryz.underlying110 hi1 hy0 hy1 hy2 rfl (by decide) (.slice a2 (p + 1) c2) (p + 1) (vs.take p ++ [.string sF]) rfl hO2 ⟨ga, p, none⟩ (nl - p) (co - p) (vs.drop p) rfl (by rw [List.length_drop, HVL.out]; omega) (own_drop (ownsRow_ext OX.out F2) HVL.out _ (.inl rfl)) HDR.out (by unfold maxLen; omega) (by omega) F2.le ?_
                            intro v3 w3 hO3 hg3 _
                            have F3 : Ext wr w3 := F2.grown hg3 (fun z hz => (World.ownsRow.lt hO2 z hz).1)
                            rw [show p + 1 + (nl - p) = nl + 1 by omega] at hO3
                            obtain ⟨a3, c3', rfl⟩ := ownsRow_shape hO3
                            obtain ⟨g3', rfl, _, _, _⟩ := ownsRow_get hO3 (by omega)
                            refine hK.out _ _ (ext2 F3) (fun hHeld => ?_)
                            clear hK hg3
                            refine wpAnyH_take (i := 12) (v := ?v206) rfl (by kernel_rfl) (by kernel_rfl) (by kernel_rfl) (fun _ _ _ h => h) (Or.inl ⟨by rfl, ?hy206⟩) hHeld ?rest206
                            case hy206 => (intro wz hSw; (try dsimp only at hSw); go_simp; (try with_reducible rfl))
                            (try simp only [Act.put, List.getElem_toArray, List.getElem_cons_succ, List.getElem_cons_zero]); (try simp only [List.setIfInBounds_toArray]); (try simp only [List.set_cons_succ]); (try simp only [List.set_cons_zero])
                            refine wpAnyH_done (by kernel_rfl) ?_ _
                            clear hHeld
                            have O9 := Lib.hid (ownsRow_low hO3 (E6.out.trans hX.out).le)
                            have E8 := Lib.hid (hE.out.trans (hX.out.trans F3))
                            have E9 := Lib.hid (E6.out.trans (hX.out.trans F3))
                            have G9 := Lib.hid (G5.out.ext E8.out)
                            go_wp2
                            exact ⟨⟨i + 1, done ++ rows, insN k ns, g3', a4, c3', c4, _, by omega, by simp, by rw [HIL.out], by rw [HDA.out], HF, by rw [HIL.out]; exact O9, HV9, by rw [HDA.out]; exact G9, E9⟩, by simp [intOf]; omega⟩
                          · skip
                            go_simp
                            refine hK.out _ _ (ext2 (E1.alloc _)) (fun hHeld => ?_)
                            clear hK
                            have q2 := (Ext.refl V1).alloc (.cells #[.string sF] 9)
                            have S2 : Cells (V1.alloc (.cells #[.string sF] 9)) V1.heap.size [.string sF] := cells_new V1 #[.string sF] 9
                            have L2 := ownsRow_ext L1 q2
                            obtain ⟨V2, hV2⟩ : ∃ V2, V1.alloc (.cells #[.string sF] 9) = V2 := ⟨_, rfl⟩
                            rw [hV2] at L2 S2 hHeld ⊢
                            clear hV2 q2
                            have E2 := And.left hHeld
                            refine wpAnyH_ready (rs := [4]) (by kernel_rfl) (by simp) ?_
                            refine AllReadyH.cons rfl (fun K' hK => ?_) AllReadyH.nil
                            refine wp_append_own _ (.tmp 135) (.tmp 138) 110 rfl wr.heap.size 9 i1 (.string ByteArray.empty) 1 16 Tryz.underlying110 hi1 hy0 hy1 hy2 rfl (by decide) (.slice (some ⟨wr.heap.size, 0, none⟩) 0 0) 0 [] rfl L2 ⟨ga, 0, none⟩ p co (vs.take p) rfl (by rw [List.length_take, HVL.out]; omega) (own_take (ownsRow_ext OX.out E2) HVL.out) HTK.out (by unfold maxLen; omega) (by omega) E2.le ?_
                            intro v1 w1 hO1 hg1 _
                            have O1 : w1.ownsRow wr.heap.size 9 1 v1 p (vs.take p) := by rw [Nat.zero_add, List.nil_append] at hO1; exact hO1
                            have F1 : Ext wr w1 := E2.grown hg1 (fun z hz => (World.ownsRow.lt L2 z hz).1)
                            have S3 : Cells w1 V1.heap.size [.string sF] := S2.grown hg1 (fun z hz => by simp [Value.ownBlock] at hz; have := hs1.out; omega)
                            obtain ⟨a1, c1, rfl⟩ := ownsRow_shape O1
                            refine hK.out _ _ (ext2 F1) (fun hHeld => ?_)
                            clear hK hO1 hg1
                            refine wpAnyH_ready (rs := [7]) (by kernel_rfl) (by simp) ?_
                            refine AllReadyH.cons rfl (fun K' hK => ?_) AllReadyH.nil
                            refine wp_append_own _ (.tmp 139) (.tmp 141) 110 rfl wr.heap.size 9 i1 (.string ByteArray.empty) 1 16 Tryz.underlying110 hi1 hy0 hy1 hy2 rfl (by decide) (.slice a1 p c1) p (vs.take p) rfl O1 ⟨V1.heap.size, 0, none⟩ 1 1 [.string sF] rfl rfl (one_news (S3.2 0 _ rfl)) (fun u hu => by rw [List.mem_singleton] at hu; subst hu; rfl) (by unfold maxLen; omega) (by omega) F1.le ?_
                            intro v2 w2 hO2 hg2 _
                            have F2 : Ext wr w2 := F1.grown hg2 (fun z hz => (World.ownsRow.lt O1 z hz).1)
                            obtain ⟨a2, c2, rfl⟩ := ownsRow_shape hO2
                            refine hK.out _ _ (ext2 F2) (fun hHeld => ?_)
                            clear hK hg2
                            refine wpAnyH_ready (rs := [11]) (by kernel_rfl) (by simp) ?_
                            refine AllReadyH.cons rfl (fun K' hK => ?_) AllReadyH.nil
                            refine wp_append_own _ (.tmp 142) (.tmp 145) 110 rfl wr.heap.size 9 i1 (.string ByteArray.empty) 1 16 Tryz.underlying110 hi1 hy0 hy1 hy2 rfl (by decide) (.slice a2 (p + 1) c2) (p + 1) (vs.take p ++ [.string sF]) rfl hO2 ⟨ga, p, none⟩ (nl - p) (co - p) (vs.drop p) rfl (by rw [List.length_drop, HVL.out]; omega) (own_drop (ownsRow_ext OX.out F2) HVL.out _ (.inl rfl)) HDR.out (by unfold maxLen; omega) (by omega) F2.le ?_
                            intro v3 w3 hO3 hg3 _
                            have F3 : Ext wr w3 := F2.grown hg3 (fun z hz => (World.ownsRow.lt hO2 z hz).1)
                            rw [show p + 1 + (nl - p) = nl + 1 by omega] at hO3
                            obtain ⟨a3, c3', rfl⟩ := ownsRow_shape hO3
                            obtain ⟨g3', rfl, _, _, _⟩ := ownsRow_get hO3 (by omega)
                            refine hK.out _ _ (ext2 F3) (fun hHeld => ?_)
                            clear hK hg3
                            refine wpAnyH_take (i := 12) (v := ?v207) rfl (by kernel_rfl) (by kernel_rfl) (by kernel_rfl) (fun _ _ _ h => h) (Or.inl ⟨by rfl, ?hy207⟩) hHeld ?rest207
                            case hy207 => (intro wz hSw; (try dsimp only at hSw); go_simp; (try with_reducible rfl))
                            (try simp only [Act.put, List.getElem_toArray, List.getElem_cons_succ, List.getElem_cons_zero]); (try simp only [List.setIfInBounds_toArray]); (try simp only [List.set_cons_succ]); (try simp only [List.set_cons_zero])
                            refine wpAnyH_done (by kernel_rfl) ?_ _
                            clear hHeld
                            have O9 := Lib.hid (ownsRow_low hO3 (E6.out.trans hX.out).le)
                            have E8 := Lib.hid (hE.out.trans (hX.out.trans F3))
                            have E9 := Lib.hid (E6.out.trans (hX.out.trans F3))
                            have G9 := Lib.hid (G5.out.ext E8.out)
                            go_wp2
                            exact ⟨⟨i + 1, done ++ rows, insN k ns, g3', a4, c3', c4, _, by omega, by simp, by rw [HIL.out], by rw [HDA.out], HF, by rw [HIL.out]; exact O9, HV9, by rw [HDA.out]; exact G9, E9⟩, by simp [intOf]; omega⟩
                        · skip
                          go_simp
                          refine hK.out _ _ (ext2 ((Ext.refl wr).drew.alloc _)) (fun hHeld => ?_)
                          clear hK
                          obtain ⟨V1, hV1⟩ : ∃ V1, (wr.alloc (.cells #[.string sF] 9)).drew = V1 := ⟨_, rfl⟩
                          rw [hV1] at hHeld ⊢
                          have E1 := And.left hHeld
                          have hs1 : Hid (V1.heap.size = wr.heap.size + 1) := by rw [Hid, ← hV1]; simp
                          have S1 : Cells V1 wr.heap.size [.string sF] := by rw [← hV1]; exact (cells_new wr #[.string sF] 9).ext ((Ext.refl _).drew)
                          clear hV1
                          refine wpAnyH_ready (rs := [0]) (by kernel_rfl) (by simp) ?_
                          refine AllReadyH.cons rfl (fun K' hK => ?_) AllReadyH.nil
                          go_simp
                          refine hK.out _ _ (ext2 (E1.alloc _)) (fun hHeld => ?_)
                          clear hK
                          have q2 := (Ext.refl V1).alloc (.cells #[] 9)
                          have L2 : (V1.alloc (.cells #[] 9)).ownsRow wr.heap.size 9 1 (.slice (some ⟨V1.heap.size, 0, none⟩) 0 0) 0 [] := World.ownsRow_lit V1 #[] 0 E1.le (by unfold maxLen; omega) (by simp)
                          have S2 := S1.ext q2
                          obtain ⟨V2, hV2⟩ : ∃ V2, V1.alloc (.cells #[] 9) = V2 := ⟨_, rfl⟩
                          rw [hV2] at L2 S2 hHeld ⊢
                          clear hV2 q2
                          have E2 := And.left hHeld
                          refine wpAnyH_ready (rs := [4]) (by kernel_rfl) (by simp) ?_
                          refine AllReadyH.cons rfl (fun K' hK => ?_) AllReadyH.nil
                          refine wp_append_own _ (.tmp 135) (.tmp 138) 110 rfl wr.heap.size 9 i1 (.string ByteArray.empty) 1 16 Tryz.underlying110 hi1 hy0 hy1 hy2 rfl (by decide) (.slice (some ⟨V1.heap.size, 0, none⟩) 0 0) 0 [] rfl L2 ⟨ga, 0, none⟩ p co (vs.take p) rfl (by rw [List.length_take, HVL.out]; omega) (own_take (ownsRow_ext OX.out E2) HVL.out) HTK.out (by unfold maxLen; omega) (by omega) E2.le ?_
                          intro v1 w1 hO1 hg1 _
                          have O1 : w1.ownsRow wr.heap.size 9 1 v1 p (vs.take p) := by rw [Nat.zero_add, List.nil_append] at hO1; exact hO1
                          have F1 : Ext wr w1 := E2.grown hg1 (fun z hz => (World.ownsRow.lt L2 z hz).1)
                          have S3 : Cells w1 wr.heap.size [.string sF] := S2.grown hg1 (fun z hz => by simp [Value.ownBlock] at hz; have := hs1.out; omega)
                          obtain ⟨a1, c1, rfl⟩ := ownsRow_shape O1
                          refine hK.out _ _ (ext2 F1) (fun hHeld => ?_)
                          clear hK hO1 hg1
                          refine wpAnyH_ready (rs := [7]) (by kernel_rfl) (by simp) ?_
                          refine AllReadyH.cons rfl (fun K' hK => ?_) AllReadyH.nil
                          refine wp_append_own _ (.tmp 139) (.tmp 141) 110 rfl wr.heap.size 9 i1 (.string ByteArray.empty) 1 16 Tryz.underlying110 hi1 hy0 hy1 hy2 rfl (by decide) (.slice a1 p c1) p (vs.take p) rfl O1 ⟨wr.heap.size, 0, none⟩ 1 1 [.string sF] rfl rfl (one_news (S3.2 0 _ rfl)) (fun u hu => by rw [List.mem_singleton] at hu; subst hu; rfl) (by unfold maxLen; omega) (by omega) F1.le ?_
                          intro v2 w2 hO2 hg2 _
                          have F2 : Ext wr w2 := F1.grown hg2 (fun z hz => (World.ownsRow.lt O1 z hz).1)
                          obtain ⟨a2, c2, rfl⟩ := ownsRow_shape hO2
                          refine hK.out _ _ (ext2 F2) (fun hHeld => ?_)
                          clear hK hg2
                          refine wpAnyH_ready (rs := [11]) (by kernel_rfl) (by simp) ?_
                          refine AllReadyH.cons rfl (fun K' hK => ?_) AllReadyH.nil
                          refine wp_append_own _ (.tmp 142) (.tmp 145) 110 rfl wr.heap.size 9 i1 (.string ByteArray.empty) 1 16 Tryz.underlying110 hi1 hy0 hy1 hy2 rfl (by decide) (.slice a2 (p + 1) c2) (p + 1) (vs.take p ++ [.string sF]) rfl hO2 ⟨ga, p, none⟩ (nl - p) (co - p) (vs.drop p) rfl (by rw [List.length_drop, HVL.out]; omega) (own_drop (ownsRow_ext OX.out F2) HVL.out _ (.inl rfl)) HDR.out (by unfold maxLen; omega) (by omega) F2.le ?_
                          intro v3 w3 hO3 hg3 _
                          have F3 : Ext wr w3 := F2.grown hg3 (fun z hz => (World.ownsRow.lt hO2 z hz).1)
                          rw [show p + 1 + (nl - p) = nl + 1 by omega] at hO3
                          obtain ⟨a3, c3', rfl⟩ := ownsRow_shape hO3
                          obtain ⟨g3', rfl, _, _, _⟩ := ownsRow_get hO3 (by omega)
                          refine hK.out _ _ (ext2 F3) (fun hHeld => ?_)
                          clear hK hg3
                          refine wpAnyH_take (i := 12) (v := ?v208) rfl (by kernel_rfl) (by kernel_rfl) (by kernel_rfl) (fun _ _ _ h => h) (Or.inl ⟨by rfl, ?hy208⟩) hHeld ?rest208
                          case hy208 => (intro wz hSw; (try dsimp only at hSw); go_simp; (try with_reducible rfl))
                          (try simp only [Act.put, List.getElem_toArray, List.getElem_cons_succ, List.getElem_cons_zero]); (try simp only [List.setIfInBounds_toArray]); (try simp only [List.set_cons_succ]); (try simp only [List.set_cons_zero])
                          refine wpAnyH_done (by kernel_rfl) ?_ _
                          clear hHeld
                          have O9 := Lib.hid (ownsRow_low hO3 (E6.out.trans hX.out).le)
                          have E8 := Lib.hid (hE.out.trans (hX.out.trans F3))
                          have E9 := Lib.hid (E6.out.trans (hX.out.trans F3))
                          have G9 := Lib.hid (G5.out.ext E8.out)
                          go_wp2
                          exact ⟨⟨i + 1, done ++ rows, insN k ns, g3', a4, c3', c4, _, by omega, by simp, by rw [HIL.out], by rw [HDA.out], HF, by rw [HIL.out]; exact O9, HV9, by rw [HDA.out]; exact G9, E9⟩, by simp [intOf]; omega⟩

                    · obtain ⟨t, ht⟩ : ∃ t, p = t + 1 := ⟨p - 1, by omega⟩
                      obtain ⟨g, e1, _, hgl, hcs⟩ := ownsRow_get (ownsRow_ext OW.out hX.out) (by omega)
                      injection e1 with e1
                      injection e1 with e1
                      subst e1
                      have htn : t < nl := by omega
                      have c1 := hcs t htn
                      rw [List.getElem?_eq_getElem (by rw [HVL.out]; exact htn)] at c1
                      obtain ⟨b1, hb1⟩ := hVS.out _ (List.getElem_mem (by rw [HVL.out]; exact htn))
                      rw [hb1] at c1
                      have hz : (p : Int) - 1 = (t : Int) := by omega
                      have hpI : (0 : Int) < (p : Int) := by omega
                      have htI : (t : Int) < (nl : Int) := by omega
                      clear hb1 hcs
                      have HT := Lib.hid ht
                      clear ht hp0
                      go_wp2_with fail
                      · exact ⟨⟨t, by omega, rfl⟩, by simp [intOf]; omega⟩
                      · skip
                        have OX := Lib.hid (ownsRow_ext OW.out hX.out)
                        obtain ⟨hnc, hcm⟩ := ownsRow_cap OX.out
                        have HCX2 := Lib.hid hcm
                        have hpc : p ≤ co := by omega
                        have hpnI : (p : Int) ≤ (nl : Int) := by omega
                        have hpcI : (p : Int) ≤ (co : Int) := by omega
                        clear hcm
                        obtain ⟨i1, hi1, hy0, hy1, hy2⟩ := info_parts Tryz.infoStr
                        have HTK : Hid (∀ u, u ∈ vs.take p → u.oneCell' = true) := fun u hu => by obtain ⟨b, rfl⟩ := hVS.out u (List.mem_of_mem_take hu); rfl
                        have HDR : Hid (∀ u, u ∈ vs.drop p → u.oneCell' = true) := fun u hu => by obtain ⟨b, rfl⟩ := hVS.out u (List.mem_of_mem_drop hu); rfl
                        have HV9 : Hid (∀ u, u ∈ vs.take p ++ [.string sF] ++ vs.drop p → ∃ b, u = .string b) := fun u hu => by
                          rw [List.mem_append, List.mem_append, List.mem_singleton] at hu
                          rcases hu with (hu | hu) | hu
                          · exact hVS.out u (List.mem_of_mem_take hu)
                          · exact ⟨_, hu⟩
                          · exact hVS.out u (List.mem_of_mem_drop hu)
                        have HIL : Hid ((insN k ns).length = nl + 1) := by rw [Hid, insN_length, HNLE.out]
                        rcases (show co = p ∨ ¬ co = p by omega) with hcp | hcp
                        · skip
                          have hcp1 : (co = p) = True := eq_true hcp
                          have HCP := Lib.hid hcp
                          clear hcp
                          refine wp_region_held_drew (S := (fun w' => Ext wr w' ∧ (∀ b o, b < wr.heap.size → w'.cell? ⟨b, o, none⟩ = wr.cell? ⟨b, o, none⟩))) (by kernel_rfl) (ext2 (Ext.refl wr).drew) (fun hHeld => ?_)
                          refine wpAnyH_take (i := 1) (v := ?v209) rfl (by kernel_rfl) (by kernel_rfl) (by kernel_rfl) (fun _ _ _ h => h) (Or.inl ⟨by rfl, ?hy209⟩) hHeld ?rest209
                          case hy209 => (intro wz hSw; (try dsimp only at hSw); go_simp; (try with_reducible rfl))
                          (try simp only [Act.put, List.getElem_toArray, List.getElem_cons_succ, List.getElem_cons_zero]); (try simp only [List.setIfInBounds_toArray]); (try simp only [List.set_cons_succ]); (try simp only [List.set_cons_zero])
                          refine wpAnyH_take (i := 2) (v := ?v210) rfl (by kernel_rfl) (by kernel_rfl) (by kernel_rfl) (fun _ _ _ h => h) (Or.inl ⟨by rfl, ?hy210⟩) hHeld ?rest210
                          case hy210 => (intro wz hSw; (try dsimp only at hSw); go_simp; (try with_reducible rfl))
                          (try simp only [Act.put, List.getElem_toArray, List.getElem_cons_succ, List.getElem_cons_zero]); (try simp only [List.setIfInBounds_toArray]); (try simp only [List.set_cons_succ]); (try simp only [List.set_cons_zero])
                          refine wpAnyH_take (i := 3) (v := ?v211) rfl (by kernel_rfl) (by kernel_rfl) (by kernel_rfl) (fun _ _ _ h => h) (Or.inl ⟨by rfl, ?hy211⟩) hHeld ?rest211
                          case hy211 => (intro wz hSw; (try dsimp only at hSw); go_simp; (try with_reducible rfl))
                          (try simp only [Act.put, List.getElem_toArray, List.getElem_cons_succ, List.getElem_cons_zero]); (try simp only [List.setIfInBounds_toArray]); (try simp only [List.set_cons_succ]); (try simp only [List.set_cons_zero])
                          refine wpAnyH_take (i := 5) (v := ?v212) rfl (by kernel_rfl) (by kernel_rfl) (by kernel_rfl) (fun _ _ _ h => h) (Or.inl ⟨by rfl, ?hy212⟩) hHeld ?rest212
                          case hy212 => (intro wz hSw; (try dsimp only at hSw); go_simp; (try with_reducible rfl))
                          (try simp only [Act.put, List.getElem_toArray, List.getElem_cons_succ, List.getElem_cons_zero]); (try simp only [List.setIfInBounds_toArray]); (try simp only [List.set_cons_succ]); (try simp only [List.set_cons_zero])
                          refine wpAnyH_take (i := 8) (v := ?v213) rfl (by kernel_rfl) (by kernel_rfl) (by kernel_rfl) (fun _ _ _ h => h) (Or.inl ⟨by rfl, ?hy213⟩) hHeld ?rest213
                          case hy213 => (intro wz hSw; (try dsimp only at hSw); go_simp; (try with_reducible rfl))
                          (try simp only [Act.put, List.getElem_toArray, List.getElem_cons_succ, List.getElem_cons_zero]); (try simp only [List.setIfInBounds_toArray]); (try simp only [List.set_cons_succ]); (try simp only [List.set_cons_zero])
                          refine wpAnyH_take (i := 9) (v := ?v214) rfl (by kernel_rfl) (by kernel_rfl) (by kernel_rfl) (fun _ _ _ h => h) (Or.inl ⟨by rfl, ?hy214⟩) hHeld ?rest214
                          case hy214 => (intro wz hSw; (try dsimp only at hSw); go_simp; (try with_reducible rfl))
                          (try simp only [Act.put, List.getElem_toArray, List.getElem_cons_succ, List.getElem_cons_zero]); (try simp only [List.setIfInBounds_toArray]); (try simp only [List.set_cons_succ]); (try simp only [List.set_cons_zero])
                          refine wpAnyH_take (i := 10) (v := ?v215) rfl (by kernel_rfl) (by kernel_rfl) (by kernel_rfl) (fun _ _ _ h => h) (Or.inl ⟨by rfl, ?hy215⟩) hHeld ?rest215
                          case hy215 => (intro wz hSw; (try dsimp only at hSw); go_simp; (try with_reducible rfl))
                          (try simp only [Act.put, List.getElem_toArray, List.getElem_cons_succ, List.getElem_cons_zero]); (try simp only [List.setIfInBounds_toArray]); (try simp only [List.set_cons_succ]); (try simp only [List.set_cons_zero])
                          refine wpAnyH_ready (rs := [0, 6]) (by kernel_rfl) (by simp) ?_
                          refine AllReadyH.cons rfl (fun K' hK => ?_) (AllReadyH.cons rfl (fun K' hK => ?_) AllReadyH.nil)
                          · skip
                            go_simp
                            refine hK.out _ _ (ext2 ((Ext.refl wr).drew.alloc _)) (fun hHeld => ?_)
                            clear hK
                            obtain ⟨V1, hV1⟩ : ∃ V1, (wr.alloc (.cells #[] 9)).drew = V1 := ⟨_, rfl⟩
                            rw [hV1] at hHeld ⊢
                            have E1 := And.left hHeld
                            have hs1 : Hid (V1.heap.size = wr.heap.size + 1) := by rw [Hid, ← hV1]; simp
                            have L1 : V1.ownsRow wr.heap.size 9 1 (.slice (some ⟨wr.heap.size, 0, none⟩) 0 0) 0 [] := by rw [← hV1]; exact ownsRow_ext (World.ownsRow_lit wr #[] 0 (Nat.le_refl _) (by unfold maxLen; omega) (by simp)) ((Ext.refl _).drew)
                            clear hV1
                            refine wpAnyH_ready (rs := [4, 6]) (by kernel_rfl) (by simp) ?_
                            refine AllReadyH.cons rfl (fun K' hK => ?_) (AllReadyH.cons rfl (fun K' hK => ?_) AllReadyH.nil)
                            · skip
                              refine wp_append_own _ (.tmp 135) (.tmp 138) 110 rfl wr.heap.size 9 i1 (.string ByteArray.empty) 1 16 Tryz.underlying110 hi1 hy0 hy1 hy2 rfl (by decide) (.slice (some ⟨wr.heap.size, 0, none⟩) 0 0) 0 [] rfl L1 ⟨ga, 0, none⟩ p co (vs.take p) rfl (by rw [List.length_take, HVL.out]; omega) (own_take (ownsRow_ext OX.out E1) HVL.out) HTK.out (by unfold maxLen; omega) (by omega) E1.le ?_
                              intro v1 w1 hO1 hg1 _
                              have O1 : w1.ownsRow wr.heap.size 9 1 v1 p (vs.take p) := by rw [Nat.zero_add, List.nil_append] at hO1; exact hO1
                              have F1 : Ext wr w1 := E1.grown hg1 (fun z hz => (World.ownsRow.lt L1 z hz).1)
                              obtain ⟨a1, c1, rfl⟩ := ownsRow_shape O1
                              refine hK.out _ _ (ext2 F1) (fun hHeld => ?_)
                              clear hK hO1 hg1
                              refine wpAnyH_ready (rs := [6]) (by kernel_rfl) (by simp) ?_
                              refine AllReadyH.cons rfl (fun K' hK => ?_) AllReadyH.nil
                              go_simp
                              refine hK.out _ _ (ext2 (F1.alloc _)) (fun hHeld => ?_)
                              clear hK
                              have q2 := (Ext.refl w1).alloc (.cells #[.string sF] 9)
                              have S2 : Cells (w1.alloc (.cells #[.string sF] 9)) w1.heap.size [.string sF] := cells_new w1 #[.string sF] 9
                              have O2 := ownsRow_ext O1 q2
                              obtain ⟨V2, hV2⟩ : ∃ V2, w1.alloc (.cells #[.string sF] 9) = V2 := ⟨_, rfl⟩
                              rw [hV2] at S2 O2 hHeld ⊢
                              clear hV2 q2
                              have E2 := And.left hHeld
                              refine wpAnyH_ready (rs := [7]) (by kernel_rfl) (by simp) ?_
                              refine AllReadyH.cons rfl (fun K' hK => ?_) AllReadyH.nil
                              refine wp_append_own _ (.tmp 139) (.tmp 141) 110 rfl wr.heap.size 9 i1 (.string ByteArray.empty) 1 16 Tryz.underlying110 hi1 hy0 hy1 hy2 rfl (by decide) (.slice a1 p c1) p (vs.take p) rfl O2 ⟨w1.heap.size, 0, none⟩ 1 1 [.string sF] rfl rfl (one_news (S2.2 0 _ rfl)) (fun u hu => by rw [List.mem_singleton] at hu; subst hu; rfl) (by unfold maxLen; omega) (by omega) E2.le ?_
                              intro v2 w2 hO2 hg2 _
                              have F2 : Ext wr w2 := E2.grown hg2 (fun z hz => (World.ownsRow.lt O2 z hz).1)
                              obtain ⟨a2, c2, rfl⟩ := ownsRow_shape hO2
                              refine hK.out _ _ (ext2 F2) (fun hHeld => ?_)
                              clear hK hg2
                              refine wpAnyH_ready (rs := [11]) (by kernel_rfl) (by simp) ?_
                              refine AllReadyH.cons rfl (fun K' hK => ?_) AllReadyH.nil
                              refine wp_append_own _ (.tmp 142) (.tmp 145) 110 rfl wr.heap.size 9 i1 (.string ByteArray.empty) 1 16 Tryz.underlying110 hi1 hy0 hy1 hy2 rfl (by decide) (.slice a2 (p + 1) c2) (p + 1) (vs.take p ++ [.string sF]) rfl hO2 ⟨ga, 0, none⟩ (nl - p) (co - p) (vs.drop p) rfl (by rw [List.length_drop, HVL.out]; omega) (own_drop (ownsRow_ext OX.out F2) HVL.out _ (.inr (by have := HCP.out; omega))) HDR.out (by unfold maxLen; omega) (by omega) F2.le ?_
                              intro v3 w3 hO3 hg3 _
                              have F3 : Ext wr w3 := F2.grown hg3 (fun z hz => (World.ownsRow.lt hO2 z hz).1)
                              rw [show p + 1 + (nl - p) = nl + 1 by omega] at hO3
                              obtain ⟨a3, c3', rfl⟩ := ownsRow_shape hO3
                              obtain ⟨g3', rfl, _, _, _⟩ := ownsRow_get hO3 (by omega)
                              refine hK.out _ _ (ext2 F3) (fun hHeld => ?_)
                              clear hK hg3
                              refine wpAnyH_take (i := 12) (v := ?v216) rfl (by kernel_rfl) (by kernel_rfl) (by kernel_rfl) (fun _ _ _ h => h) (Or.inl ⟨by rfl, ?hy216⟩) hHeld ?rest216
                              case hy216 => (intro wz hSw; (try dsimp only at hSw); go_simp; (try with_reducible rfl))
                              (try simp only [Act.put, List.getElem_toArray, List.getElem_cons_succ, List.getElem_cons_zero]); (try simp only [List.setIfInBounds_toArray]); (try simp only [List.set_cons_succ]); (try simp only [List.set_cons_zero])
                              refine wpAnyH_done (by kernel_rfl) ?_ _
                              clear hHeld
                              have O9 := Lib.hid (ownsRow_low hO3 (E6.out.trans hX.out).le)
                              have E8 := Lib.hid (hE.out.trans (hX.out.trans F3))
                              have E9 := Lib.hid (E6.out.trans (hX.out.trans F3))
                              have G9 := Lib.hid (G5.out.ext E8.out)
                              go_wp2
                              exact ⟨⟨i + 1, done ++ rows, insN k ns, g3', a4, c3', c4, _, by omega, by simp, by rw [HIL.out], by rw [HDA.out], HF, by rw [HIL.out]; exact O9, HV9, by rw [HDA.out]; exact G9, E9⟩, by simp [intOf]; omega⟩
                            · skip
                              go_simp
                              refine hK.out _ _ (ext2 (E1.alloc _)) (fun hHeld => ?_)
                              clear hK
                              have q2 := (Ext.refl V1).alloc (.cells #[.string sF] 9)
                              have S2 : Cells (V1.alloc (.cells #[.string sF] 9)) V1.heap.size [.string sF] := cells_new V1 #[.string sF] 9
                              have L2 := ownsRow_ext L1 q2
                              obtain ⟨V2, hV2⟩ : ∃ V2, V1.alloc (.cells #[.string sF] 9) = V2 := ⟨_, rfl⟩
                              rw [hV2] at L2 S2 hHeld ⊢
                              clear hV2 q2
                              have E2 := And.left hHeld
                              refine wpAnyH_ready (rs := [4]) (by kernel_rfl) (by simp) ?_
                              refine AllReadyH.cons rfl (fun K' hK => ?_) AllReadyH.nil
                              refine wp_append_own _ (.tmp 135) (.tmp 138) 110 rfl wr.heap.size 9 i1 (.string ByteArray.empty) 1 16 Tryz.underlying110 hi1 hy0 hy1 hy2 rfl (by decide) (.slice (some ⟨wr.heap.size, 0, none⟩) 0 0) 0 [] rfl L2 ⟨ga, 0, none⟩ p co (vs.take p) rfl (by rw [List.length_take, HVL.out]; omega) (own_take (ownsRow_ext OX.out E2) HVL.out) HTK.out (by unfold maxLen; omega) (by omega) E2.le ?_
                              intro v1 w1 hO1 hg1 _
                              have O1 : w1.ownsRow wr.heap.size 9 1 v1 p (vs.take p) := by rw [Nat.zero_add, List.nil_append] at hO1; exact hO1
                              have F1 : Ext wr w1 := E2.grown hg1 (fun z hz => (World.ownsRow.lt L2 z hz).1)
                              have S3 : Cells w1 V1.heap.size [.string sF] := S2.grown hg1 (fun z hz => by simp [Value.ownBlock] at hz; have := hs1.out; omega)
                              obtain ⟨a1, c1, rfl⟩ := ownsRow_shape O1
                              refine hK.out _ _ (ext2 F1) (fun hHeld => ?_)
                              clear hK hO1 hg1
                              refine wpAnyH_ready (rs := [7]) (by kernel_rfl) (by simp) ?_
                              refine AllReadyH.cons rfl (fun K' hK => ?_) AllReadyH.nil
                              refine wp_append_own _ (.tmp 139) (.tmp 141) 110 rfl wr.heap.size 9 i1 (.string ByteArray.empty) 1 16 Tryz.underlying110 hi1 hy0 hy1 hy2 rfl (by decide) (.slice a1 p c1) p (vs.take p) rfl O1 ⟨V1.heap.size, 0, none⟩ 1 1 [.string sF] rfl rfl (one_news (S3.2 0 _ rfl)) (fun u hu => by rw [List.mem_singleton] at hu; subst hu; rfl) (by unfold maxLen; omega) (by omega) F1.le ?_
                              intro v2 w2 hO2 hg2 _
                              have F2 : Ext wr w2 := F1.grown hg2 (fun z hz => (World.ownsRow.lt O1 z hz).1)
                              obtain ⟨a2, c2, rfl⟩ := ownsRow_shape hO2
                              refine hK.out _ _ (ext2 F2) (fun hHeld => ?_)
                              clear hK hg2
                              refine wpAnyH_ready (rs := [11]) (by kernel_rfl) (by simp) ?_
                              refine AllReadyH.cons rfl (fun K' hK => ?_) AllReadyH.nil
                              refine wp_append_own _ (.tmp 142) (.tmp 145) 110 rfl wr.heap.size 9 i1 (.string ByteArray.empty) 1 16 Tryz.underlying110 hi1 hy0 hy1 hy2 rfl (by decide) (.slice a2 (p + 1) c2) (p + 1) (vs.take p ++ [.string sF]) rfl hO2 ⟨ga, 0, none⟩ (nl - p) (co - p) (vs.drop p) rfl (by rw [List.length_drop, HVL.out]; omega) (own_drop (ownsRow_ext OX.out F2) HVL.out _ (.inr (by have := HCP.out; omega))) HDR.out (by unfold maxLen; omega) (by omega) F2.le ?_
                              intro v3 w3 hO3 hg3 _
                              have F3 : Ext wr w3 := F2.grown hg3 (fun z hz => (World.ownsRow.lt hO2 z hz).1)
                              rw [show p + 1 + (nl - p) = nl + 1 by omega] at hO3
                              obtain ⟨a3, c3', rfl⟩ := ownsRow_shape hO3
                              obtain ⟨g3', rfl, _, _, _⟩ := ownsRow_get hO3 (by omega)
                              refine hK.out _ _ (ext2 F3) (fun hHeld => ?_)
                              clear hK hg3
                              refine wpAnyH_take (i := 12) (v := ?v217) rfl (by kernel_rfl) (by kernel_rfl) (by kernel_rfl) (fun _ _ _ h => h) (Or.inl ⟨by rfl, ?hy217⟩) hHeld ?rest217
                              case hy217 => (intro wz hSw; (try dsimp only at hSw); go_simp; (try with_reducible rfl))
                              (try simp only [Act.put, List.getElem_toArray, List.getElem_cons_succ, List.getElem_cons_zero]); (try simp only [List.setIfInBounds_toArray]); (try simp only [List.set_cons_succ]); (try simp only [List.set_cons_zero])
                              refine wpAnyH_done (by kernel_rfl) ?_ _
                              clear hHeld
                              have O9 := Lib.hid (ownsRow_low hO3 (E6.out.trans hX.out).le)
                              have E8 := Lib.hid (hE.out.trans (hX.out.trans F3))
                              have E9 := Lib.hid (E6.out.trans (hX.out.trans F3))
                              have G9 := Lib.hid (G5.out.ext E8.out)
                              go_wp2
                              exact ⟨⟨i + 1, done ++ rows, insN k ns, g3', a4, c3', c4, _, by omega, by simp, by rw [HIL.out], by rw [HDA.out], HF, by rw [HIL.out]; exact O9, HV9, by rw [HDA.out]; exact G9, E9⟩, by simp [intOf]; omega⟩
                          · skip
                            go_simp
                            refine hK.out _ _ (ext2 ((Ext.refl wr).drew.alloc _)) (fun hHeld => ?_)
                            clear hK
                            obtain ⟨V1, hV1⟩ : ∃ V1, (wr.alloc (.cells #[.string sF] 9)).drew = V1 := ⟨_, rfl⟩
                            rw [hV1] at hHeld ⊢
                            have E1 := And.left hHeld
                            have hs1 : Hid (V1.heap.size = wr.heap.size + 1) := by rw [Hid, ← hV1]; simp
                            have S1 : Cells V1 wr.heap.size [.string sF] := by rw [← hV1]; exact (cells_new wr #[.string sF] 9).ext ((Ext.refl _).drew)
                            clear hV1
                            refine wpAnyH_ready (rs := [0]) (by kernel_rfl) (by simp) ?_
                            refine AllReadyH.cons rfl (fun K' hK => ?_) AllReadyH.nil
                            go_simp
                            refine hK.out _ _ (ext2 (E1.alloc _)) (fun hHeld => ?_)
                            clear hK
                            have q2 := (Ext.refl V1).alloc (.cells #[] 9)
                            have L2 : (V1.alloc (.cells #[] 9)).ownsRow wr.heap.size 9 1 (.slice (some ⟨V1.heap.size, 0, none⟩) 0 0) 0 [] := World.ownsRow_lit V1 #[] 0 E1.le (by unfold maxLen; omega) (by simp)
                            have S2 := S1.ext q2
                            obtain ⟨V2, hV2⟩ : ∃ V2, V1.alloc (.cells #[] 9) = V2 := ⟨_, rfl⟩
                            rw [hV2] at L2 S2 hHeld ⊢
                            clear hV2 q2
                            have E2 := And.left hHeld
                            refine wpAnyH_ready (rs := [4]) (by kernel_rfl) (by simp) ?_
                            refine AllReadyH.cons rfl (fun K' hK => ?_) AllReadyH.nil
                            refine wp_append_own _ (.tmp 135) (.tmp 138) 110 rfl wr.heap.size 9 i1 (.string ByteArray.empty) 1 16 Tryz.underlying110 hi1 hy0 hy1 hy2 rfl (by decide) (.slice (some ⟨V1.heap.size, 0, none⟩) 0 0) 0 [] rfl L2 ⟨ga, 0, none⟩ p co (vs.take p) rfl (by rw [List.length_take, HVL.out]; omega) (own_take (ownsRow_ext OX.out E2) HVL.out) HTK.out (by unfold maxLen; omega) (by omega) E2.le ?_
                            intro v1 w1 hO1 hg1 _
                            have O1 : w1.ownsRow wr.heap.size 9 1 v1 p (vs.take p) := by rw [Nat.zero_add, List.nil_append] at hO1; exact hO1
                            have F1 : Ext wr w1 := E2.grown hg1 (fun z hz => (World.ownsRow.lt L2 z hz).1)
                            have S3 : Cells w1 wr.heap.size [.string sF] := S2.grown hg1 (fun z hz => by simp [Value.ownBlock] at hz; have := hs1.out; omega)
                            obtain ⟨a1, c1, rfl⟩ := ownsRow_shape O1
                            refine hK.out _ _ (ext2 F1) (fun hHeld => ?_)
                            clear hK hO1 hg1
                            refine wpAnyH_ready (rs := [7]) (by kernel_rfl) (by simp) ?_
                            refine AllReadyH.cons rfl (fun K' hK => ?_) AllReadyH.nil
                            refine wp_append_own _ (.tmp 139) (.tmp 141) 110 rfl wr.heap.size 9 i1 (.string ByteArray.empty) 1 16 Tryz.underlying110 hi1 hy0 hy1 hy2 rfl (by decide) (.slice a1 p c1) p (vs.take p) rfl O1 ⟨wr.heap.size, 0, none⟩ 1 1 [.string sF] rfl rfl (one_news (S3.2 0 _ rfl)) (fun u hu => by rw [List.mem_singleton] at hu; subst hu; rfl) (by unfold maxLen; omega) (by omega) F1.le ?_
                            intro v2 w2 hO2 hg2 _
                            have F2 : Ext wr w2 := F1.grown hg2 (fun z hz => (World.ownsRow.lt O1 z hz).1)
                            obtain ⟨a2, c2, rfl⟩ := ownsRow_shape hO2
                            refine hK.out _ _ (ext2 F2) (fun hHeld => ?_)
                            clear hK hg2
                            refine wpAnyH_ready (rs := [11]) (by kernel_rfl) (by simp) ?_
                            refine AllReadyH.cons rfl (fun K' hK => ?_) AllReadyH.nil
                            refine wp_append_own _ (.tmp 142) (.tmp 145) 110 rfl wr.heap.size 9 i1 (.string ByteArray.empty) 1 16 Tryz.underlying110 hi1 hy0 hy1 hy2 rfl (by decide) (.slice a2 (p + 1) c2) (p + 1) (vs.take p ++ [.string sF]) rfl hO2 ⟨ga, 0, none⟩ (nl - p) (co - p) (vs.drop p) rfl (by rw [List.length_drop, HVL.out]; omega) (own_drop (ownsRow_ext OX.out F2) HVL.out _ (.inr (by have := HCP.out; omega))) HDR.out (by unfold maxLen; omega) (by omega) F2.le ?_
                            intro v3 w3 hO3 hg3 _
                            have F3 : Ext wr w3 := F2.grown hg3 (fun z hz => (World.ownsRow.lt hO2 z hz).1)
                            rw [show p + 1 + (nl - p) = nl + 1 by omega] at hO3
                            obtain ⟨a3, c3', rfl⟩ := ownsRow_shape hO3
                            obtain ⟨g3', rfl, _, _, _⟩ := ownsRow_get hO3 (by omega)
                            refine hK.out _ _ (ext2 F3) (fun hHeld => ?_)
                            clear hK hg3
                            refine wpAnyH_take (i := 12) (v := ?v218) rfl (by kernel_rfl) (by kernel_rfl) (by kernel_rfl) (fun _ _ _ h => h) (Or.inl ⟨by rfl, ?hy218⟩) hHeld ?rest218
                            case hy218 => (intro wz hSw; (try dsimp only at hSw); go_simp; (try with_reducible rfl))
                            (try simp only [Act.put, List.getElem_toArray, List.getElem_cons_succ, List.getElem_cons_zero]); (try simp only [List.setIfInBounds_toArray]); (try simp only [List.set_cons_succ]); (try simp only [List.set_cons_zero])
                            refine wpAnyH_done (by kernel_rfl) ?_ _
                            clear hHeld
                            have O9 := Lib.hid (ownsRow_low hO3 (E6.out.trans hX.out).le)
                            have E8 := Lib.hid (hE.out.trans (hX.out.trans F3))
                            have E9 := Lib.hid (E6.out.trans (hX.out.trans F3))
                            have G9 := Lib.hid (G5.out.ext E8.out)
                            go_wp2
                            exact ⟨⟨i + 1, done ++ rows, insN k ns, g3', a4, c3', c4, _, by omega, by simp, by rw [HIL.out], by rw [HDA.out], HF, by rw [HIL.out]; exact O9, HV9, by rw [HDA.out]; exact G9, E9⟩, by simp [intOf]; omega⟩
                        · skip
                          have hcp1 : ¬ p = co := fun h => hcp h.symm
                          refine wp_region_held_drew (S := (fun w' => Ext wr w' ∧ (∀ b o, b < wr.heap.size → w'.cell? ⟨b, o, none⟩ = wr.cell? ⟨b, o, none⟩))) (by kernel_rfl) (ext2 (Ext.refl wr).drew) (fun hHeld => ?_)
                          refine wpAnyH_take (i := 1) (v := ?v219) rfl (by kernel_rfl) (by kernel_rfl) (by kernel_rfl) (fun _ _ _ h => h) (Or.inl ⟨by rfl, ?hy219⟩) hHeld ?rest219
                          case hy219 => (intro wz hSw; (try dsimp only at hSw); go_simp; (try with_reducible rfl))
                          (try simp only [Act.put, List.getElem_toArray, List.getElem_cons_succ, List.getElem_cons_zero]); (try simp only [List.setIfInBounds_toArray]); (try simp only [List.set_cons_succ]); (try simp only [List.set_cons_zero])
                          refine wpAnyH_take (i := 2) (v := ?v220) rfl (by kernel_rfl) (by kernel_rfl) (by kernel_rfl) (fun _ _ _ h => h) (Or.inl ⟨by rfl, ?hy220⟩) hHeld ?rest220
                          case hy220 => (intro wz hSw; (try dsimp only at hSw); go_simp; (try with_reducible rfl))
                          (try simp only [Act.put, List.getElem_toArray, List.getElem_cons_succ, List.getElem_cons_zero]); (try simp only [List.setIfInBounds_toArray]); (try simp only [List.set_cons_succ]); (try simp only [List.set_cons_zero])
                          refine wpAnyH_take (i := 3) (v := ?v221) rfl (by kernel_rfl) (by kernel_rfl) (by kernel_rfl) (fun _ _ _ h => h) (Or.inl ⟨by rfl, ?hy221⟩) hHeld ?rest221
                          case hy221 => (intro wz hSw; (try dsimp only at hSw); go_simp; (try with_reducible rfl))
                          (try simp only [Act.put, List.getElem_toArray, List.getElem_cons_succ, List.getElem_cons_zero]); (try simp only [List.setIfInBounds_toArray]); (try simp only [List.set_cons_succ]); (try simp only [List.set_cons_zero])
                          refine wpAnyH_take (i := 5) (v := ?v222) rfl (by kernel_rfl) (by kernel_rfl) (by kernel_rfl) (fun _ _ _ h => h) (Or.inl ⟨by rfl, ?hy222⟩) hHeld ?rest222
                          case hy222 => (intro wz hSw; (try dsimp only at hSw); go_simp; (try with_reducible rfl))
                          (try simp only [Act.put, List.getElem_toArray, List.getElem_cons_succ, List.getElem_cons_zero]); (try simp only [List.setIfInBounds_toArray]); (try simp only [List.set_cons_succ]); (try simp only [List.set_cons_zero])
                          refine wpAnyH_take (i := 8) (v := ?v223) rfl (by kernel_rfl) (by kernel_rfl) (by kernel_rfl) (fun _ _ _ h => h) (Or.inl ⟨by rfl, ?hy223⟩) hHeld ?rest223
                          case hy223 => (intro wz hSw; (try dsimp only at hSw); go_simp; (try with_reducible rfl))
                          (try simp only [Act.put, List.getElem_toArray, List.getElem_cons_succ, List.getElem_cons_zero]); (try simp only [List.setIfInBounds_toArray]); (try simp only [List.set_cons_succ]); (try simp only [List.set_cons_zero])
                          refine wpAnyH_take (i := 9) (v := ?v224) rfl (by kernel_rfl) (by kernel_rfl) (by kernel_rfl) (fun _ _ _ h => h) (Or.inl ⟨by rfl, ?hy224⟩) hHeld ?rest224
                          case hy224 => (intro wz hSw; (try dsimp only at hSw); go_simp; (try with_reducible rfl))
                          (try simp only [Act.put, List.getElem_toArray, List.getElem_cons_succ, List.getElem_cons_zero]); (try simp only [List.setIfInBounds_toArray]); (try simp only [List.set_cons_succ]); (try simp only [List.set_cons_zero])
                          refine wpAnyH_take (i := 10) (v := ?v225) rfl (by kernel_rfl) (by kernel_rfl) (by kernel_rfl) (fun _ _ _ h => h) (Or.inl ⟨by rfl, ?hy225⟩) hHeld ?rest225
                          case hy225 => (intro wz hSw; (try dsimp only at hSw); go_simp; (try with_reducible rfl))
                          (try simp only [Act.put, List.getElem_toArray, List.getElem_cons_succ, List.getElem_cons_zero]); (try simp only [List.setIfInBounds_toArray]); (try simp only [List.set_cons_succ]); (try simp only [List.set_cons_zero])
                          refine wpAnyH_ready (rs := [0, 6]) (by kernel_rfl) (by simp) ?_
                          refine AllReadyH.cons rfl (fun K' hK => ?_) (AllReadyH.cons rfl (fun K' hK => ?_) AllReadyH.nil)
                          · skip
                            go_simp
                            refine hK.out _ _ (ext2 ((Ext.refl wr).drew.alloc _)) (fun hHeld => ?_)
                            clear hK
                            obtain ⟨V1, hV1⟩ : ∃ V1, (wr.alloc (.cells #[] 9)).drew = V1 := ⟨_, rfl⟩
                            rw [hV1] at hHeld ⊢
                            have E1 := And.left hHeld
                            have hs1 : Hid (V1.heap.size = wr.heap.size + 1) := by rw [Hid, ← hV1]; simp
                            have L1 : V1.ownsRow wr.heap.size 9 1 (.slice (some ⟨wr.heap.size, 0, none⟩) 0 0) 0 [] := by rw [← hV1]; exact ownsRow_ext (World.ownsRow_lit wr #[] 0 (Nat.le_refl _) (by unfold maxLen; omega) (by simp)) ((Ext.refl _).drew)
                            clear hV1
                            refine wpAnyH_ready (rs := [4, 6]) (by kernel_rfl) (by simp) ?_
                            refine AllReadyH.cons rfl (fun K' hK => ?_) (AllReadyH.cons rfl (fun K' hK => ?_) AllReadyH.nil)
                            · skip
                              refine wp_append_own _ (.tmp 135) (.tmp 138) 110 rfl wr.heap.size 9 i1 (.string ByteArray.empty) 1 16 Tryz.underlying110 hi1 hy0 hy1 hy2 rfl (by decide) (.slice (some ⟨wr.heap.size, 0, none⟩) 0 0) 0 [] rfl L1 ⟨ga, 0, none⟩ p co (vs.take p) rfl (by rw [List.length_take, HVL.out]; omega) (own_take (ownsRow_ext OX.out E1) HVL.out) HTK.out (by unfold maxLen; omega) (by omega) E1.le ?_
                              intro v1 w1 hO1 hg1 _
                              have O1 : w1.ownsRow wr.heap.size 9 1 v1 p (vs.take p) := by rw [Nat.zero_add, List.nil_append] at hO1; exact hO1
                              have F1 : Ext wr w1 := E1.grown hg1 (fun z hz => (World.ownsRow.lt L1 z hz).1)
                              obtain ⟨a1, c1, rfl⟩ := ownsRow_shape O1
                              refine hK.out _ _ (ext2 F1) (fun hHeld => ?_)
                              clear hK hO1 hg1
                              refine wpAnyH_ready (rs := [6]) (by kernel_rfl) (by simp) ?_
                              refine AllReadyH.cons rfl (fun K' hK => ?_) AllReadyH.nil
                              go_simp
                              refine hK.out _ _ (ext2 (F1.alloc _)) (fun hHeld => ?_)
                              clear hK
                              have q2 := (Ext.refl w1).alloc (.cells #[.string sF] 9)
                              have S2 : Cells (w1.alloc (.cells #[.string sF] 9)) w1.heap.size [.string sF] := cells_new w1 #[.string sF] 9
                              have O2 := ownsRow_ext O1 q2
                              obtain ⟨V2, hV2⟩ : ∃ V2, w1.alloc (.cells #[.string sF] 9) = V2 := ⟨_, rfl⟩
                              rw [hV2] at S2 O2 hHeld ⊢
                              clear hV2 q2
                              have E2 := And.left hHeld
                              refine wpAnyH_ready (rs := [7]) (by kernel_rfl) (by simp) ?_
                              refine AllReadyH.cons rfl (fun K' hK => ?_) AllReadyH.nil
                              refine wp_append_own _ (.tmp 139) (.tmp 141) 110 rfl wr.heap.size 9 i1 (.string ByteArray.empty) 1 16 Tryz.underlying110 hi1 hy0 hy1 hy2 rfl (by decide) (.slice a1 p c1) p (vs.take p) rfl O2 ⟨w1.heap.size, 0, none⟩ 1 1 [.string sF] rfl rfl (one_news (S2.2 0 _ rfl)) (fun u hu => by rw [List.mem_singleton] at hu; subst hu; rfl) (by unfold maxLen; omega) (by omega) E2.le ?_
                              intro v2 w2 hO2 hg2 _
                              have F2 : Ext wr w2 := E2.grown hg2 (fun z hz => (World.ownsRow.lt O2 z hz).1)
                              obtain ⟨a2, c2, rfl⟩ := ownsRow_shape hO2
                              refine hK.out _ _ (ext2 F2) (fun hHeld => ?_)
                              clear hK hg2
                              refine wpAnyH_ready (rs := [11]) (by kernel_rfl) (by simp) ?_
                              refine AllReadyH.cons rfl (fun K' hK => ?_) AllReadyH.nil
                              refine wp_append_own _ (.tmp 142) (.tmp 145) 110 rfl wr.heap.size 9 i1 (.string ByteArray.empty) 1 16 Tryz.underlying110 hi1 hy0 hy1 hy2 rfl (by decide) (.slice a2 (p + 1) c2) (p + 1) (vs.take p ++ [.string sF]) rfl hO2 ⟨ga, p, none⟩ (nl - p) (co - p) (vs.drop p) rfl (by rw [List.length_drop, HVL.out]; omega) (own_drop (ownsRow_ext OX.out F2) HVL.out _ (.inl rfl)) HDR.out (by unfold maxLen; omega) (by omega) F2.le ?_
                              intro v3 w3 hO3 hg3 _
                              have F3 : Ext wr w3 := F2.grown hg3 (fun z hz => (World.ownsRow.lt hO2 z hz).1)
                              rw [show p + 1 + (nl - p) = nl + 1 by omega] at hO3
                              obtain ⟨a3, c3', rfl⟩ := ownsRow_shape hO3
                              obtain ⟨g3', rfl, _, _, _⟩ := ownsRow_get hO3 (by omega)
                              refine hK.out _ _ (ext2 F3) (fun hHeld => ?_)
                              clear hK hg3
                              refine wpAnyH_take (i := 12) (v := ?v226) rfl (by kernel_rfl) (by kernel_rfl) (by kernel_rfl) (fun _ _ _ h => h) (Or.inl ⟨by rfl, ?hy226⟩) hHeld ?rest226
                              case hy226 => (intro wz hSw; (try dsimp only at hSw); go_simp; (try with_reducible rfl))
                              (try simp only [Act.put, List.getElem_toArray, List.getElem_cons_succ, List.getElem_cons_zero]); (try simp only [List.setIfInBounds_toArray]); (try simp only [List.set_cons_succ]); (try simp only [List.set_cons_zero])
                              refine wpAnyH_done (by kernel_rfl) ?_ _
                              clear hHeld
                              have O9 := Lib.hid (ownsRow_low hO3 (E6.out.trans hX.out).le)
                              have E8 := Lib.hid (hE.out.trans (hX.out.trans F3))
                              have E9 := Lib.hid (E6.out.trans (hX.out.trans F3))
                              have G9 := Lib.hid (G5.out.ext E8.out)
                              go_wp2
                              exact ⟨⟨i + 1, done ++ rows, insN k ns, g3', a4, c3', c4, _, by omega, by simp, by rw [HIL.out], by rw [HDA.out], HF, by rw [HIL.out]; exact O9, HV9, by rw [HDA.out]; exact G9, E9⟩, by simp [intOf]; omega⟩
                            · skip
                              go_simp
                              refine hK.out _ _ (ext2 (E1.alloc _)) (fun hHeld => ?_)
                              clear hK
                              have q2 := (Ext.refl V1).alloc (.cells #[.string sF] 9)
                              have S2 : Cells (V1.alloc (.cells #[.string sF] 9)) V1.heap.size [.string sF] := cells_new V1 #[.string sF] 9
                              have L2 := ownsRow_ext L1 q2
                              obtain ⟨V2, hV2⟩ : ∃ V2, V1.alloc (.cells #[.string sF] 9) = V2 := ⟨_, rfl⟩
                              rw [hV2] at L2 S2 hHeld ⊢
                              clear hV2 q2
                              have E2 := And.left hHeld
                              refine wpAnyH_ready (rs := [4]) (by kernel_rfl) (by simp) ?_
                              refine AllReadyH.cons rfl (fun K' hK => ?_) AllReadyH.nil
                              refine wp_append_own _ (.tmp 135) (.tmp 138) 110 rfl wr.heap.size 9 i1 (.string ByteArray.empty) 1 16 Tryz.underlying110 hi1 hy0 hy1 hy2 rfl (by decide) (.slice (some ⟨wr.heap.size, 0, none⟩) 0 0) 0 [] rfl L2 ⟨ga, 0, none⟩ p co (vs.take p) rfl (by rw [List.length_take, HVL.out]; omega) (own_take (ownsRow_ext OX.out E2) HVL.out) HTK.out (by unfold maxLen; omega) (by omega) E2.le ?_
                              intro v1 w1 hO1 hg1 _
                              have O1 : w1.ownsRow wr.heap.size 9 1 v1 p (vs.take p) := by rw [Nat.zero_add, List.nil_append] at hO1; exact hO1
                              have F1 : Ext wr w1 := E2.grown hg1 (fun z hz => (World.ownsRow.lt L2 z hz).1)
                              have S3 : Cells w1 V1.heap.size [.string sF] := S2.grown hg1 (fun z hz => by simp [Value.ownBlock] at hz; have := hs1.out; omega)
                              obtain ⟨a1, c1, rfl⟩ := ownsRow_shape O1
                              refine hK.out _ _ (ext2 F1) (fun hHeld => ?_)
                              clear hK hO1 hg1
                              refine wpAnyH_ready (rs := [7]) (by kernel_rfl) (by simp) ?_
                              refine AllReadyH.cons rfl (fun K' hK => ?_) AllReadyH.nil
                              refine wp_append_own _ (.tmp 139) (.tmp 141) 110 rfl wr.heap.size 9 i1 (.string ByteArray.empty) 1 16 Tryz.underlying110 hi1 hy0 hy1 hy2 rfl (by decide) (.slice a1 p c1) p (vs.take p) rfl O1 ⟨V1.heap.size, 0, none⟩ 1 1 [.string sF] rfl rfl (one_news (S3.2 0 _ rfl)) (fun u hu => by rw [List.mem_singleton] at hu; subst hu; rfl) (by unfold maxLen; omega) (by omega) F1.le ?_
                              intro v2 w2 hO2 hg2 _
                              have F2 : Ext wr w2 := F1.grown hg2 (fun z hz => (World.ownsRow.lt O1 z hz).1)
                              obtain ⟨a2, c2, rfl⟩ := ownsRow_shape hO2
                              refine hK.out _ _ (ext2 F2) (fun hHeld => ?_)
                              clear hK hg2
                              refine wpAnyH_ready (rs := [11]) (by kernel_rfl) (by simp) ?_
                              refine AllReadyH.cons rfl (fun K' hK => ?_) AllReadyH.nil
                              refine wp_append_own _ (.tmp 142) (.tmp 145) 110 rfl wr.heap.size 9 i1 (.string ByteArray.empty) 1 16 Tryz.underlying110 hi1 hy0 hy1 hy2 rfl (by decide) (.slice a2 (p + 1) c2) (p + 1) (vs.take p ++ [.string sF]) rfl hO2 ⟨ga, p, none⟩ (nl - p) (co - p) (vs.drop p) rfl (by rw [List.length_drop, HVL.out]; omega) (own_drop (ownsRow_ext OX.out F2) HVL.out _ (.inl rfl)) HDR.out (by unfold maxLen; omega) (by omega) F2.le ?_
                              intro v3 w3 hO3 hg3 _
                              have F3 : Ext wr w3 := F2.grown hg3 (fun z hz => (World.ownsRow.lt hO2 z hz).1)
                              rw [show p + 1 + (nl - p) = nl + 1 by omega] at hO3
                              obtain ⟨a3, c3', rfl⟩ := ownsRow_shape hO3
                              obtain ⟨g3', rfl, _, _, _⟩ := ownsRow_get hO3 (by omega)
                              refine hK.out _ _ (ext2 F3) (fun hHeld => ?_)
                              clear hK hg3
                              refine wpAnyH_take (i := 12) (v := ?v227) rfl (by kernel_rfl) (by kernel_rfl) (by kernel_rfl) (fun _ _ _ h => h) (Or.inl ⟨by rfl, ?hy227⟩) hHeld ?rest227
                              case hy227 => (intro wz hSw; (try dsimp only at hSw); go_simp; (try with_reducible rfl))
                              (try simp only [Act.put, List.getElem_toArray, List.getElem_cons_succ, List.getElem_cons_zero]); (try simp only [List.setIfInBounds_toArray]); (try simp only [List.set_cons_succ]); (try simp only [List.set_cons_zero])
                              refine wpAnyH_done (by kernel_rfl) ?_ _
                              clear hHeld
                              have O9 := Lib.hid (ownsRow_low hO3 (E6.out.trans hX.out).le)
                              have E8 := Lib.hid (hE.out.trans (hX.out.trans F3))
                              have E9 := Lib.hid (E6.out.trans (hX.out.trans F3))
                              have G9 := Lib.hid (G5.out.ext E8.out)
                              go_wp2
                              exact ⟨⟨i + 1, done ++ rows, insN k ns, g3', a4, c3', c4, _, by omega, by simp, by rw [HIL.out], by rw [HDA.out], HF, by rw [HIL.out]; exact O9, HV9, by rw [HDA.out]; exact G9, E9⟩, by simp [intOf]; omega⟩
                          · skip
                            go_simp
                            refine hK.out _ _ (ext2 ((Ext.refl wr).drew.alloc _)) (fun hHeld => ?_)
                            clear hK
                            obtain ⟨V1, hV1⟩ : ∃ V1, (wr.alloc (.cells #[.string sF] 9)).drew = V1 := ⟨_, rfl⟩
                            rw [hV1] at hHeld ⊢
                            have E1 := And.left hHeld
                            have hs1 : Hid (V1.heap.size = wr.heap.size + 1) := by rw [Hid, ← hV1]; simp
                            have S1 : Cells V1 wr.heap.size [.string sF] := by rw [← hV1]; exact (cells_new wr #[.string sF] 9).ext ((Ext.refl _).drew)
                            clear hV1
                            refine wpAnyH_ready (rs := [0]) (by kernel_rfl) (by simp) ?_
                            refine AllReadyH.cons rfl (fun K' hK => ?_) AllReadyH.nil
                            go_simp
                            refine hK.out _ _ (ext2 (E1.alloc _)) (fun hHeld => ?_)
                            clear hK
                            have q2 := (Ext.refl V1).alloc (.cells #[] 9)
                            have L2 : (V1.alloc (.cells #[] 9)).ownsRow wr.heap.size 9 1 (.slice (some ⟨V1.heap.size, 0, none⟩) 0 0) 0 [] := World.ownsRow_lit V1 #[] 0 E1.le (by unfold maxLen; omega) (by simp)
                            have S2 := S1.ext q2
                            obtain ⟨V2, hV2⟩ : ∃ V2, V1.alloc (.cells #[] 9) = V2 := ⟨_, rfl⟩
                            rw [hV2] at L2 S2 hHeld ⊢
                            clear hV2 q2
                            have E2 := And.left hHeld
                            refine wpAnyH_ready (rs := [4]) (by kernel_rfl) (by simp) ?_
                            refine AllReadyH.cons rfl (fun K' hK => ?_) AllReadyH.nil
                            refine wp_append_own _ (.tmp 135) (.tmp 138) 110 rfl wr.heap.size 9 i1 (.string ByteArray.empty) 1 16 Tryz.underlying110 hi1 hy0 hy1 hy2 rfl (by decide) (.slice (some ⟨V1.heap.size, 0, none⟩) 0 0) 0 [] rfl L2 ⟨ga, 0, none⟩ p co (vs.take p) rfl (by rw [List.length_take, HVL.out]; omega) (own_take (ownsRow_ext OX.out E2) HVL.out) HTK.out (by unfold maxLen; omega) (by omega) E2.le ?_
                            intro v1 w1 hO1 hg1 _
                            have O1 : w1.ownsRow wr.heap.size 9 1 v1 p (vs.take p) := by rw [Nat.zero_add, List.nil_append] at hO1; exact hO1
                            have F1 : Ext wr w1 := E2.grown hg1 (fun z hz => (World.ownsRow.lt L2 z hz).1)
                            have S3 : Cells w1 wr.heap.size [.string sF] := S2.grown hg1 (fun z hz => by simp [Value.ownBlock] at hz; have := hs1.out; omega)
                            obtain ⟨a1, c1, rfl⟩ := ownsRow_shape O1
                            refine hK.out _ _ (ext2 F1) (fun hHeld => ?_)
                            clear hK hO1 hg1
                            refine wpAnyH_ready (rs := [7]) (by kernel_rfl) (by simp) ?_
                            refine AllReadyH.cons rfl (fun K' hK => ?_) AllReadyH.nil
                            refine wp_append_own _ (.tmp 139) (.tmp 141) 110 rfl wr.heap.size 9 i1 (.string ByteArray.empty) 1 16 Tryz.underlying110 hi1 hy0 hy1 hy2 rfl (by decide) (.slice a1 p c1) p (vs.take p) rfl O1 ⟨wr.heap.size, 0, none⟩ 1 1 [.string sF] rfl rfl (one_news (S3.2 0 _ rfl)) (fun u hu => by rw [List.mem_singleton] at hu; subst hu; rfl) (by unfold maxLen; omega) (by omega) F1.le ?_
                            intro v2 w2 hO2 hg2 _
                            have F2 : Ext wr w2 := F1.grown hg2 (fun z hz => (World.ownsRow.lt O1 z hz).1)
                            obtain ⟨a2, c2, rfl⟩ := ownsRow_shape hO2
                            refine hK.out _ _ (ext2 F2) (fun hHeld => ?_)
                            clear hK hg2
                            refine wpAnyH_ready (rs := [11]) (by kernel_rfl) (by simp) ?_
                            refine AllReadyH.cons rfl (fun K' hK => ?_) AllReadyH.nil
                            refine wp_append_own _ (.tmp 142) (.tmp 145) 110 rfl wr.heap.size 9 i1 (.string ByteArray.empty) 1 16 Tryz.underlying110 hi1 hy0 hy1 hy2 rfl (by decide) (.slice a2 (p + 1) c2) (p + 1) (vs.take p ++ [.string sF]) rfl hO2 ⟨ga, p, none⟩ (nl - p) (co - p) (vs.drop p) rfl (by rw [List.length_drop, HVL.out]; omega) (own_drop (ownsRow_ext OX.out F2) HVL.out _ (.inl rfl)) HDR.out (by unfold maxLen; omega) (by omega) F2.le ?_
                            intro v3 w3 hO3 hg3 _
                            have F3 : Ext wr w3 := F2.grown hg3 (fun z hz => (World.ownsRow.lt hO2 z hz).1)
                            rw [show p + 1 + (nl - p) = nl + 1 by omega] at hO3
                            obtain ⟨a3, c3', rfl⟩ := ownsRow_shape hO3
                            obtain ⟨g3', rfl, _, _, _⟩ := ownsRow_get hO3 (by omega)
                            refine hK.out _ _ (ext2 F3) (fun hHeld => ?_)
                            clear hK hg3
                            refine wpAnyH_take (i := 12) (v := ?v228) rfl (by kernel_rfl) (by kernel_rfl) (by kernel_rfl) (fun _ _ _ h => h) (Or.inl ⟨by rfl, ?hy228⟩) hHeld ?rest228
                            case hy228 => (intro wz hSw; (try dsimp only at hSw); go_simp; (try with_reducible rfl))
                            (try simp only [Act.put, List.getElem_toArray, List.getElem_cons_succ, List.getElem_cons_zero]); (try simp only [List.setIfInBounds_toArray]); (try simp only [List.set_cons_succ]); (try simp only [List.set_cons_zero])
                            refine wpAnyH_done (by kernel_rfl) ?_ _
                            clear hHeld
                            have O9 := Lib.hid (ownsRow_low hO3 (E6.out.trans hX.out).le)
                            have E8 := Lib.hid (hE.out.trans (hX.out.trans F3))
                            have E9 := Lib.hid (E6.out.trans (hX.out.trans F3))
                            have G9 := Lib.hid (G5.out.ext E8.out)
                            go_wp2
                            exact ⟨⟨i + 1, done ++ rows, insN k ns, g3', a4, c3', c4, _, by omega, by simp, by rw [HIL.out], by rw [HDA.out], HF, by rw [HIL.out]; exact O9, HV9, by rw [HDA.out]; exact G9, E9⟩, by simp [intOf]; omega⟩

        · obtain rfl : R = i := by omega
          have HF : Hid (specM xs R = some ns) := by rw [Hid, HSP.out, hS.out]; rfl
          obtain ⟨nl, hnle⟩ : ∃ nl, ns.length = nl := ⟨_, rfl⟩
          have HNLE := Lib.hid hnle
          rw [hnle] at hO ⊢
          clear hG hnle
          go_wp2
          go_ret2
          exact ⟨XE.out, .inr ⟨ns, some ⟨ga, 0, none⟩, co, HF.out, by rw [HNLE.out]; rfl⟩⟩
end Go.Proofs.YtlnpaplbcocmkaaGreat
