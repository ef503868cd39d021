/-
  Subsets, listed.
-/
import Derived.Test.YtapaopapgnfdkaaLst
import Derived.Maps.AppendAt
import Derived.WalkSpells
namespace Go.Proofs.Ytapaopapgnfdkaa
open Go.ChangeShapes Go.WideShapes Go.ChangeAt Go.RowKit
set_option linter.unusedVariables false
set_option linter.unusedSimpArgs false

/-- The subsets of k numbers from a on and below n, each one ascending, in the order in which they are listed. -/
def subsN (n : Nat) : Nat → Nat → List (List Int)
  | 0, _ => [[]]
  | k + 1, a => (List.range' a (n - a)).flatMap fun b => (subsN n k (b + 1)).map fun r => (b : Int) :: r
/-- The first number that may follow. -/
def nextN (xs : List Int) : Nat := match xs.getLast? with | none => 0 | some x => (x + 1).toNat
/-- One list, made longer by one. -/
def longN (n : Nat) (xs : List Int) : List (List Int) := (List.range' (nextN xs) (n - nextN xs)).map fun b : Nat => xs ++ [(b : Int)]
def longA (n : Nat) (ls : List (List Int)) : List (List Int) := ls.flatMap (longN n)
def longK (n : Nat) : Nat → List (List Int) → List (List Int)
  | 0, ls => ls
  | k + 1, ls => longK n k (longA n ls)
theorem longA_append (n : Nat) (a b : List (List Int)) : longA n (a ++ b) = longA n a ++ longA n b := by simp [longA]
theorem longK_append (n : Nat) : ∀ (k : Nat) (a b : List (List Int)), longK n k (a ++ b) = longK n k a ++ longK n k b
  | 0, _, _ => rfl
  | k + 1, a, b => by rw [longK, longA_append, longK_append n k]; rfl
theorem longK_nil (n : Nat) : ∀ k : Nat, longK n k [] = []
  | 0 => rfl
  | k + 1 => by rw [longK]; exact longK_nil n k
theorem longK_flat (n k : Nat) : ∀ ls : List (List Int), longK n k ls = ls.flatMap fun x => longK n k [x]
  | [] => longK_nil n k
  | x :: ls => by
    rw [show x :: ls = [x] ++ ls from rfl, longK_append, longK_flat n k ls]
    simp
theorem nextN_snoc (xs : List Int) (b : Nat) : nextN (xs ++ [(b : Int)]) = b + 1 := by
  simp only [nextN, List.getLast?_append, List.getLast?_singleton, Option.some_or]
  omega
theorem longK_one (n : Nat) : ∀ (k : Nat) (xs : List Int), longK n k [xs] = (subsN n k (nextN xs)).map fun r => xs ++ r
  | 0, xs => by simp [longK, subsN]
  | k + 1, xs => by
    rw [longK, longK_flat]
    simp only [longA, List.flatMap_cons, List.flatMap_nil, List.append_nil, longN, List.flatMap_map, subsN, List.map_flatMap, List.map_map]
    congr 1
    funext b
    rw [longK_one n k, nextN_snoc]
    refine List.map_congr_left fun r _ => ?_
    simp
theorem longK_all (n k : Nat) : longK n k [[]] = subsN n k 0 := by
  rw [longK_one]
  simp [nextN]
/-- Outside in: the last step alone. -/
theorem longK_succ (n : Nat) : ∀ (k : Nat) (ls : List (List Int)), longK n (k + 1) ls = longA n (longK n k ls)
  | 0, _ => rfl
  | k + 1, ls => by rw [longK, longK_succ n k]; rfl
theorem mem_subsN {n : Nat} : ∀ {k a : Nat} {r : List Int}, r ∈ subsN n k a → r.length = k ∧ ∀ x, x ∈ r → (a : Int) ≤ x ∧ x < n
  | 0, a, r, h => by
    simp only [subsN, List.mem_singleton] at h
    subst h; simp
  | k + 1, a, r, h => by
    simp only [subsN, List.mem_flatMap, List.mem_range', List.mem_map] at h
    obtain ⟨b, ⟨i, hi, hb⟩, s, hs, rfl⟩ := h
    obtain ⟨h1, h2⟩ := mem_subsN hs
    refine ⟨by simp [h1], fun x hx => ?_⟩
    rcases List.mem_cons.1 hx with rfl | hx
    · exact ⟨by omega, by omega⟩
    · have := h2 x hx; exact ⟨by omega, by omega⟩
theorem subsN_len (n : Nat) : ∀ (m k a : Nat), n - a ≤ m → (subsN n k a).length ≤ 2 ^ m
  | m, 0, a, _ => by simpa [subsN] using Nat.one_le_two_pow
  | 0, k + 1, a, h => by
    rw [subsN, show n - a = 0 by omega]
    simp
  | m + 1, k + 1, a, h => by
    by_cases e : n - a = 0
    · rw [subsN, e]; simp
    · obtain ⟨d, hd⟩ : ∃ d, n - a = d + 1 := ⟨n - a - 1, by omega⟩
      have h1 := subsN_len n m k (a + 1) (by omega)
      have h2 := subsN_len n m (k + 1) (a + 1) (by omega)
      rw [subsN, show n - (a + 1) = d by omega] at h2
      rw [subsN, hd, List.range'_succ, List.flatMap_cons, List.length_append, List.length_map, Nat.pow_succ]
      omega
termination_by m k => (m, k)

/-- What is listed up to the d-th first number. -/
def subP (n k a d : Nat) : List (List Int) := (List.range' a d).flatMap fun b => (subsN n k (b + 1)).map fun r => (b : Int) :: r
theorem subP_zero (n k a : Nat) : subP n k a 0 = [] := by simp [subP]
theorem subP_succ (n k a d : Nat) : subP n k a (d + 1) = subP n k a d ++ (subsN n k (a + d + 1)).map fun r => ((a + d : Nat) : Int) :: r := by
  simp [subP, List.range'_concat]
theorem subP_all (n k a : Nat) : subP n k a (n - a) = subsN n (k + 1) a := rfl
theorem subP_mono (n k a d : Nat) : ∀ e : Nat, (subP n k a d).length ≤ (subP n k a (d + e)).length
  | 0 => Nat.le_refl _
  | e + 1 => by
    have := subP_mono n k a d e
    rw [← Nat.add_assoc, subP_succ, List.length_append]
    omega
theorem subP_le {n k a d : Nat} (hn : n ≤ 7) (h : d ≤ n - a) : (subP n k a d).length ≤ 128 := by
  have h1 := subP_mono n k a d (n - a - d)
  rw [show d + (n - a - d) = n - a by omega, subP_all] at h1
  exact Nat.le_trans h1 (subsN_len n 7 (k + 1) a (by omega))
theorem RowsS.congr {w : World} {base hi k : Nat} {v : Value} {f g : Nat → List Int} (h : RowsS w base hi v f k) (e : ∀ i, i < k → f i = g i) : RowsS w base hi v g k := by
  obtain ⟨vs, B, h1, h2, h3, h4⟩ := h
  refine ⟨vs, B, h1, h2, fun i hi => ?_, h4⟩
  rw [← e i hi]; exact h3 i hi
theorem row_app1 {a b : List (List Int)} {i : Nat} (h : i < a.length) : row (a ++ b) i = row a i := by simp [row, List.getD_eq_getElem?_getD, List.getElem?_append_left h]
theorem row_app2 {a : List (List Int)} {x : List Int} : row (a ++ [x]) a.length = x := by simp [row, List.getD_eq_getElem?_getD]
/-- Rows that are read only. -/
def RowsQ (w : World) (lo hi g m : Nat) (L : List (List Int)) : Prop := lo ≤ g ∧ g < hi ∧ g < w.heap.size ∧ ∃ (cur : Array Value), w.heap[g]? = some (.cells cur 22 (0, 0)) ∧ ∀ i, i < m → ∃ b c, cur[i]? = some (.slice (some ⟨b, 0, none⟩) (row L i).length c) ∧ Own w lo hi (some ⟨b, 0, none⟩) (row L i).length (row L i)
theorem RowsQ.keep {w w' : World} {lo hi g m : Nat} {L : List (List Int)} (h : RowsQ w lo hi g m L) (hs : w.heap.size ≤ w'.heap.size) (hk : ∀ b, lo ≤ b → b < hi → b < w.heap.size → w'.heap[b]? = w.heap[b]?) : RowsQ w' lo hi g m L := by
  obtain ⟨h1, h2, h3, cur, h4, h5⟩ := h
  exact ⟨h1, h2, by omega, cur, by rw [hk g h1 h2 h3]; exact h4, fun i hi => by obtain ⟨b, c, x, y⟩ := h5 i hi; exact ⟨b, c, x, y.keep hk⟩⟩
theorem RowsQ.ext {w w' : World} {lo hi g m : Nat} {L : List (List Int)} (h : RowsQ w lo hi g m L) (hE : Ext w w') : RowsQ w' lo hi g m L := h.keep hE.le (fun b _ _ hb => hE.block b hb)
theorem RowsQ.grown {w w' : World} {lo hi g m : Nat} {L : List (List Int)} (h : RowsQ w lo hi g m L) {r : Option Nat} (hg : w.grownBy w' r) (hd : ∀ z, r = some z → z < lo ∨ hi ≤ z) : RowsQ w' lo hi g m L :=
  h.keep hg.size (fun b h1 h2 hb => hg.block b hb (fun e => by have := hd b e.symm; omega))
theorem RowsQ.get {w : World} {lo hi g m : Nat} {L : List (List Int)} (h : RowsQ w lo hi g m L) {i : Nat} (hi : i < m) : ∃ b c, w.cell? ⟨g, i, none⟩ = some (.slice (some ⟨b, 0, none⟩) (row L i).length c) ∧ Reads w (some ⟨b, 0, none⟩) (row L i).length (row L i) := by
  obtain ⟨h1, h2, h3, cur, h4, h5⟩ := h
  obtain ⟨b, c, x, y⟩ := h5 i hi
  exact ⟨b, c, by rw [cell_of_row w g i _ _ _ h4]; exact x, y.reads⟩
theorem RowsS.toQ {w : World} {base hi m cap : Nat} {a : Option Addr} {L : List (List Int)} (h : RowsS w base hi (.slice a m cap) (row L) m) (hh : hi ≤ w.heap.size) (hm : 0 < m) : ∃ g, a = some ⟨g, 0, none⟩ ∧ RowsQ w base w.heap.size g m L := by
  obtain ⟨vs, B, h1, h2, h3, h4⟩ := h
  rcases h1.2 with ⟨e1, e2⟩ | ⟨g, cap', cur, e1, hb, hg, hn, hc, hcs, htk⟩
  · omega
  · injection e1 with e2 e3 e4
    have hgl := (Array.getElem?_eq_some_iff.1 hg).1
    refine ⟨g, e2, hb, hgl, hgl, cur, hg, fun i hi => ?_⟩
    obtain ⟨c, x0, h6⟩ := h3 i hi
    refine ⟨B i, c, ?_, h6.mono (Nat.le_refl _) hh⟩
    rw [← Array.getElem?_toList]
    have : (cur.toList.take (m * 1))[i]? = vs[i]? := by rw [htk]
    rw [List.getElem?_take, if_pos (by omega)] at this
    rw [this, x0]

/-- The list while the rows of one first number are laid. -/
def lsI (L R : List (List Int)) (b : Int) (i : Nat) : List (List Int) := L ++ (R.take i).map fun r => b :: r
theorem lsI_length {L R : List (List Int)} {b : Int} {i : Nat} (h : i ≤ R.length) : (lsI L R b i).length = L.length + i := by
  simp [lsI]; omega
theorem lsI_zero (L R : List (List Int)) (b : Int) : lsI L R b 0 = L := by simp [lsI]
theorem lsI_all (L R : List (List Int)) (b : Int) : lsI L R b R.length = L ++ R.map fun r => b :: r := by simp [lsI]
theorem lsI_succ {L R : List (List Int)} {b : Int} {i : Nat} (h : i < R.length) : lsI L R b (i + 1) = lsI L R b i ++ [b :: row R i] := by
  have e : R.take (i + 1) = R.take i ++ [row R i] := by
    rw [List.take_add_one]; simp [row, List.getD_eq_getElem?_getD, h]
  rw [lsI, lsI, e]; simp

theorem own_cons {w : World} {base m : Nat} {v : Value} {b : Int} {ys : List Int} (ho : w.ownsRow base 3 1 v (1 + m) ([.int .i64 b] ++ ys.map (Value.int .i64))) (hne : ¬ v = .slice none 0 0) : ∃ g c, v = .slice (some ⟨g, 0, none⟩) (1 + m) c ∧ Has w g (b :: ys) ∧ base ≤ g ∧ g < w.heap.size := by
  have h9 := ho
  rcases ho.2 with ⟨h, _⟩ | ⟨g, cap, cur, h, hb, hg, _⟩
  · exact absurd h hne
  · subst h
    refine ⟨g, cap, rfl, ?_, hb, (Array.getElem?_eq_some_iff.1 hg).1⟩
    exact (Has.ofOwns (xs := b :: ys) (by simpa using h9)).1

set_option maxRecDepth 100000 in
set_option maxHeartbeats 1600000 in
theorem subsets_zero (n a : Int) (w : World) :
    Calls Try.prog 130 #[.int .i64 n, .int .i64 0, .int .i64 a] w fun e w' => ∃ v, e = .returned v ∧ RowsS w' w.heap.size w'.heap.size v (row ([[]] : List (List Int))) ([[]] : List (List Int)).length ∧ Ext w w' := by
  go_enter Try.func130, Try.ntmps130
  go_wp2
  refine bodyPost_ret (v := .slice (some ⟨w.heap.size + 1, 0, none⟩) 1 1) (by simp [results, Try.results130, go_sem]) rfl ?_
  refine ⟨_, rfl, ⟨[.slice (some ⟨w.heap.size, 0, none⟩) 0 0], fun _ => w.heap.size, ?_, rfl, fun i hi => ?_, fun i j h1 h2 => by simp at h2; omega⟩, ((Ext.refl w).alloc _).alloc _⟩
  · have h9 := World.ownsRow_lit (base := w.heap.size) (e := 22) (size := 1) (w.alloc (.cells #[] 3)) #[.slice (some ⟨w.heap.size, 0, none⟩) 0 0] 1 (by simp) (by unfold maxLen; omega) (by simp)
    simpa using h9
  · obtain rfl : i = 0 := by simpa using hi
    refine ⟨0, by simp [row], ?_⟩
    have h9 : Has (w.alloc (.cells #[] 3)) w.heap.size [] := Has.new w []
    exact (h9.alloc _).own (Nat.le_refl _) (by simp <;> omega) (by simp [row])

set_option maxRecDepth 100000 in
set_option maxHeartbeats 6400000 in
theorem subsets_step (n k a : Nat) (hn : n ≤ 7) (hk : k ≤ 7) (ha : a ≤ n) (IH : ∀ b : Nat, b < n → ∀ w : World, Calls Try.prog 130 #[.int .i64 n, .int .i64 k, .int .i64 ((b : Int) + 1)] w fun e w' => ∃ v, e = .returned v ∧ RowsS w' w.heap.size w'.heap.size v (row (subsN n k (b + 1))) (subsN n k (b + 1)).length ∧ Ext w w') (w : World) :
    Calls Try.prog 130 #[.int .i64 n, .int .i64 ((k : Int) + 1), .int .i64 a] w fun e w' => ∃ v, e = .returned v ∧ RowsS w' w.heap.size w'.heap.size v (row (subP n k a (n - a))) (subP n k a (n - a)).length ∧ Ext w w' := by
  obtain ⟨i0, hi0, hz0, hz1, hz2⟩ := info_parts Try.infoInt
  have HIH := Lib.hid IH
  clear IH
  have hkz : ¬ ((k : Int) + 1 = 0) := by omega
  have hkz2 : (((k : Int) + 1) == 0) = false := by simp; omega
  have hkw : (k : Int) + 1 - 1 = k := by omega
  go_enter Try.func130, Try.ntmps130
  go_wp2_with fail
  have G0 : Hid (RowsS (w.alloc (.cells #[] 22)) w.heap.size (w.heap.size + 1) (.slice (some ⟨w.heap.size, 0, none⟩) (subP n k a 0).length 0) (row (subP n k a 0)) (subP n k a 0).length) := by
    rw [subP_zero]; exact rowsS_lit w w.heap.size (w.heap.size + 1) (Nat.le_refl _)
  have E0 := Lib.hid ((Ext.refl w).alloc (.cells #[] 22))
  have hs1 : Hid ((w.alloc (.cells #[] 22)).heap.size = w.heap.size + 1) := by rw [Hid]; simp
  generalize (w.alloc (.cells #[] 22)) = W1 at *
  go_loopw [7, 8, 9, 10] (fun v z _ _ wr => ∃ (d cv : Nat) (va : Option Addr), d ≤ n - a ∧ z = .int .i64 ((a + d : Nat) : Int) ∧ v = .slice va (subP n k a d).length cv ∧ Hid (RowsS wr w.heap.size wr.heap.size (.slice va (subP n k a d).length cv) (row (subP n k a d)) (subP n k a d).length) ∧ Hid (Ext w wr)) (fun _ z _ _ _ => n - (intOf z).toNat)
  case atStart => exact ⟨0, 0, _, by omega, by simp, by rw [subP_zero]; rfl, G0.out.mono (by have := hs1.out; omega), E0⟩
  case round =>
    clear G0 E0 hs1
    obtain ⟨d, cv, va, hd, rfl, rfl, hG, hE⟩ := hrel
    by_cases hlt : a + d < n
    · have HI1 := Lib.hid (HIH.out (a + d) hlt)
      have HSU := Lib.hid (subP_succ n k a d)
      have HBD : Hid ((subP n k a (d + 1)).length ≤ 128) := subP_le hn (by omega)
      obtain ⟨b, hb⟩ : ∃ b, a + d = b := ⟨_, rfl⟩
      have HB := Lib.hid hb
      rw [hb] at HI1 HSU hlt ⊢
      clear hb
      generalize subP n k a d = L0 at *
      go_wp2_with fail
      refine (HI1.out _).mono ?_
      rintro e w2 ⟨v2, rfl, hS2, h2⟩
      obtain ⟨a2, c2, rfl⟩ := hS2.shape
      have HRK : Hid (∀ i, i < (subsN n k (b + 1)).length → (row (subsN n k (b + 1)) i).length = k) := fun i hi => (mem_subsN (by rw [row, List.getD_eq_getElem?_getD, List.getElem?_eq_getElem hi]; exact List.getElem_mem hi)).1
      generalize subsN n k (b + 1) = R at *
      have hHQ : Hid (0 < R.length → ∃ g, a2 = some ⟨g, 0, none⟩ ∧ RowsQ w2 wr.heap.size w2.heap.size g R.length R) := fun h => hS2.toQ (Nat.le_refl _) h
      have hG2 : Hid (RowsS w2 w.heap.size w2.heap.size (.slice va L0.length cv) (row L0) L0.length) := (hG.out.ext h2).mono h2.le
      have hN2 : Hid (∀ z, (Value.slice va L0.length cv).ownBlock = some z → z < wr.heap.size ∨ w2.heap.size ≤ z) := fun z hz => .inl (hG.out.blk z hz).2
      have hE2 := Lib.hid (hE.out.trans h2)
      have hsz := h2.le
      clear hS2 hG hE h2
      have HRL : Hid (L0.length + R.length ≤ 128) := by
        have := HBD.out
        rw [HSU.out, List.length_append, List.length_map] at this
        exact this
      have hG3 : Hid (RowsS w2 w.heap.size w2.heap.size (.slice va (L0.length + 0) cv) (row (lsI L0 R (b : Int) 0)) (L0.length + 0)) := by rw [Hid, lsI_zero]; exact hG2.out
      clear hG2
      generalize hlo : wr.heap.size = lo at *
      generalize hhi : w2.heap.size = hi at hN2 hHQ
      go_wp2_with fail
      go_loopw [7, 10] (fun v z wr => ∃ (i cv : Nat) (va : Option Addr), i ≤ R.length ∧ z = .int .i64 i ∧ v = .slice va (L0.length + i) cv ∧ Hid (RowsS wr w.heap.size wr.heap.size (.slice va (L0.length + i) cv) (row (lsI L0 R (b : Int) i)) (L0.length + i)) ∧ Hid (0 < R.length → ∃ g, a2 = some ⟨g, 0, none⟩ ∧ RowsQ wr lo hi g R.length R) ∧ Hid (∀ z, (Value.slice va (L0.length + i) cv).ownBlock = some z → z < lo ∨ hi ≤ z) ∧ Hid (Ext w wr) ∧ Hid (hi ≤ wr.heap.size)) (fun _ z _ => R.length - (intOf z).toNat)
      case atStart => exact ⟨0, cv, va, by omega, rfl, rfl, hG3, hHQ, hN2, hE2, by show _ ≤ _; omega⟩
      case round =>
        clear hG3 hHQ hN2 hE2
        obtain ⟨i, cv, va, hi', rfl, rfl, hG, hHQ, hN, hE, hHI⟩ := hrel
        by_cases hlt2 : i < R.length
        · obtain ⟨g, rfl, hQ⟩ := hHQ.out (by omega)
          have HQ := Lib.hid hQ
          obtain ⟨b', c', hc1, hr1⟩ := (hQ.ext ((Ext.refl wr).alloc (.cells #[.int .i64 b] 3))).get hlt2
          have hgl : g < wr.heap.size := hQ.2.2.1
          have HRR := Lib.hid hr1
          obtain ⟨ys, hys⟩ : ∃ ys, row R i = ys := ⟨_, rfl⟩
          have HY := Lib.hid hys
          have HYK : Hid (ys.length = k) := by rw [Hid, ← hys]; exact HRK.out i hlt2
          rw [hys] at hc1 hr1 HRR
          have HLN : Hid (((b : Int) :: ys).length = 1 + k) := by rw [Hid, List.length_cons, Nat.add_comm, HYK.out]
          rw [HYK.out] at hc1
          clear hys
          have LS := Lib.hid (lsI_succ (L := L0) (R := R) (b := (b : Int)) hlt2)
          rw [Hid, HY.out] at LS
          have LS := Lib.hid LS
          have LL : Hid ((lsI L0 R (b : Int) i).length = L0.length + i) := lsI_length (by omega)
          have hrl := HRL.out
          have hG5 : Hid (RowsS wr w.heap.size wr.heap.size (.slice va (L0.length + i) cv) (row (lsI L0 R (b : Int) (i + 1))) (L0.length + i)) := hG.out.congr (fun j hj => by rw [LS.out, row_app1 (by rw [LL.out]; exact hj)])
          have HFK : Hid (row (lsI L0 R (b : Int) (i + 1)) (L0.length + i) = (b : Int) :: ys) := by rw [Hid, LS.out, ← LL.out, row_app2]
          obtain ⟨F, hF⟩ : ∃ F, row (lsI L0 R (b : Int) (i + 1)) = F := ⟨_, rfl⟩
          rw [Hid, hF] at hG5 HFK
          have hG5 := Lib.hid hG5
          have HFK := Lib.hid HFK
          have HFE := Lib.hid hF
          clear hF
          have own0 : (wr.alloc (.cells #[.int .i64 b] 3)).ownsRow wr.heap.size 3 1 (.slice (some ⟨wr.heap.size, 0, none⟩) 1 1) 1 [.int .i64 b] := by
            have h9 := World.ownsRow_lit (base := wr.heap.size) (e := 3) (size := 1) wr #[.int .i64 b] 1 (Nat.le_refl _) (by unfold maxLen; omega) (by simp)
            simpa using h9
          have hnews : ∀ (j : Nat) (u : Value), (ys.map (Value.int .i64))[j]? = some u → (wr.alloc (.cells #[.int .i64 b] 3)).cell? ((⟨b', 0, none⟩ : Addr).add j) = some u := by
            intro j u hu
            have hj : j < ys.length := by have := (List.getElem?_eq_some_iff.1 hu).1; simpa using this
            rcases hr1.2 with h | ⟨b2, off, h, hb2, hc2⟩
            · omega
            · simp at h
              obtain ⟨rfl, rfl⟩ := h
              rw [add_plain, hc2 j hj]
              simp [hj] at hu
              simp [gi, hj, hu]
          have hc0 : wr.cell? ⟨g, i, none⟩ = some (.slice (some ⟨b', 0, none⟩) k c') := by
            rw [World.cell?_alloc_past _ _ _ hgl] at hc1; exact hc1
          have HLO : Hid (w.heap.size ≤ wr.heap.size) := hE.out.le
          have hiR : (i : Int) < (R.length : Int) := by omega
          clear hr1 hG hQ hHQ
          go_wp2_with (at_builtin; first
            | (refine Go.wpList_append_own_at _ rfl (.tmp 36) (.tmp 40) 22 rfl wr.heap.size 3 i0 (.int .i64 0) 1 8 Try.underlying22 hi0 hz0 hz1 hz2 rfl (by decide) (.slice (some ⟨wr.heap.size, 0, none⟩) 1 1) 1 [.int .i64 b] rfl own0 ⟨b', 0, none⟩ k c' (ys.map (Value.int .i64)) rfl (by rw [List.length_map, HYK.out, Nat.mul_one]) hnews (fun u hu => by obtain ⟨z, _, rfl⟩ := List.mem_map.1 hu; rfl) (by unfold maxLen; omega) (by omega) (by simp) ?_
               intro v3 w3 ho hg hnil hat
               obtain ⟨g3, c3, e3, hH, hge, hl3⟩ := own_cons ho (fun h => by have := (hnil.1 h).1; simp at this)
               subst e3
               have HH3 := Lib.hid hH
               have HE3 : Hid (Ext wr w3) := ((Ext.refl wr).alloc _).grown hg (fun z hz => by simp [Value.ownBlock] at hz; omega)
               have HRW3 : Hid (Own w3 w.heap.size w3.heap.size (some ⟨g3, 0, none⟩) (1 + k) (F (L0.length + i))) := by rw [Hid, HFK.out]; exact hH.own (by have := HLO.out; omega) hl3 HLN.out
               have HF3 : Hid ((F (L0.length + i)).length = 1 + k) := by rw [Hid, HFK.out]; exact HLN.out
               have HLE3 := HE3.out.le
               clear ho hg hnil hat hH own0 hnews hc1)
            | (refine wpList_appendRowS rfl (.tmp 34) (.tmp 42) rfl w.heap.size wr.heap.size (.slice va (L0.length + i) cv) F (L0.length + i) g3 c3 1 w3.heap.size (1 + k) rfl HF3.out rfl rfl (hG5.out.ext HE3.out) HRW3.out hge (by omega) (by have := HLO.out; omega) ?_
               intro v5 w5 hG6 hg5 hat
               obtain ⟨a5, c5, e5⟩ := hG6.shape
               subst e5
               have HG6 := Lib.hid hG6
               have HGR := Lib.hid hg5
               have HAT := Lib.hid hat
               clear hG6 hg5 hat))
          have hgs := HGR.out.size
          have hb0 := hG5.out.blk
          have E5 := Lib.hid ((hE.out.trans HE3.out).grown HGR.out (fun z hz => by have := hb0 z hz; omega))
          have HQ5 : Hid (0 < R.length → ∃ g', some (⟨g, 0, none⟩ : Addr) = some ⟨g', 0, none⟩ ∧ RowsQ w5 lo hi g' R.length R) := fun _ => ⟨g, rfl, (HQ.out.ext HE3.out).grown HGR.out hN.out⟩
          have HN5 : Hid (∀ z, (Value.slice a5 (L0.length + i + 1) c5).ownBlock = some z → z < lo ∨ hi ≤ z) := fun z hz => by
            rcases HAT.out with e9 | e9
            · rw [e9] at hz; exact hN.out z hz
            · rw [e9] at hz; have := hHI.out; simp at hz; omega
          have HG7 : Hid (RowsS w5 w.heap.size w5.heap.size (.slice a5 (L0.length + (i + 1)) c5) (row (lsI L0 R (b : Int) (i + 1))) (L0.length + (i + 1))) := by rw [Hid, HFE.out]; exact HG6.out.mono hgs
          have hh5 : Hid (hi ≤ w5.heap.size) := by have := hHI.out; show _ ≤ _; omega
          exact ⟨⟨i + 1, c5, a5, by omega, by simp, by simp [Nat.add_assoc], HG7, HQ5, HN5, E5, hh5⟩, by simp [intOf]; omega⟩
        · obtain rfl : R.length = i := by omega
          have HF : Hid (lsI L0 R (b : Int) R.length = subP n k a (d + 1)) := by rw [Hid, lsI_all, HSU.out]
          have HFL : Hid (L0.length + R.length = (subP n k a (d + 1)).length) := by rw [Hid, ← HF.out, lsI_length (Nat.le_refl _)]
          have hG4 : Hid (RowsS wr w.heap.size wr.heap.size (.slice va (subP n k a (d + 1)).length cv) (row (subP n k a (d + 1))) (subP n k a (d + 1)).length) := by
            have := hG.out
            rw [HF.out, HFL.out] at this; exact this
          clear hG hHQ hN
          rw [HFL.out]
          go_wp2
          exact ⟨⟨d + 1, cv, va, by have := HB.out; omega, by have := HB.out; simp; omega, rfl, hG4, hE⟩, by have := HB.out; simp [intOf]; omega⟩
    · obtain rfl : d = n - a := by omega
      go_wp2
      go_ret
      exact ⟨_, rfl, hG.out, hE.out⟩

theorem l4Subsets_spec (n : Nat) (hn : n ≤ 7) : ∀ (k : Nat), k ≤ 8 → ∀ (a : Nat), a ≤ n → ∀ w : World, Calls Try.prog 130 #[.int .i64 n, .int .i64 k, .int .i64 a] w fun e w' => ∃ v, e = .returned v ∧ RowsS w' w.heap.size w'.heap.size v (row (subsN n k a)) (subsN n k a).length ∧ Ext w w'
  | 0, _, a, _, w => subsets_zero n a w
  | k + 1, hk, a, ha, w => by
    have h9 := subsets_step n k a hn (by omega) ha (fun b hb w => by
      have h8 := l4Subsets_spec n hn k (by omega) (b + 1) hb w
      rw [show ((b + 1 : Nat) : Int) = (b : Int) + 1 by simp] at h8
      exact h8) w
    rw [show ((k + 1 : Nat) : Int) = (k : Int) + 1 by simp, ← subP_all]
    exact h9
/-- The model. -/
def subsM (n k : Int) : List (List Int) := if inB n 0 7 && inB k 0 n then subsN n.toNat k.toNat 0 else []
theorem flat_len {k : Nat} : ∀ (L : List (List Int)), (∀ x, x ∈ L → x.length ≤ k) → L.flatten.length ≤ L.length * k
  | [], _ => by simp
  | x :: L, h => by
    have h1 := h x (by simp)
    have h2 := flat_len L (fun y hy => h y (by simp [hy]))
    simp only [List.flatten_cons, List.length_append, List.length_cons, Nat.add_mul, Nat.one_mul]
    omega
theorem rowsF_row (L : List (List Int)) : rowsF (row L) L.length = L := by
  refine List.ext_getElem (by simp [rowsF]) (fun i h1 h2 => ?_)
  simp [rowsF, row, List.getD_eq_getElem?_getD, h2]
theorem subsN_tot {n k : Nat} (hn : n ≤ 7) (hk : k ≤ n) : (subsN n k 0).flatten.length ≤ 1048576 ∧ (subsN n k 0).length ≤ 128 := by
  have h1 := subsN_len n 7 k 0 (by omega)
  have h2 := flat_len (k := 7) (subsN n k 0) (fun x hx => by rw [(mem_subsN hx).1]; omega)
  omega
theorem subs_rows {w w' : World} {v : Value} {n k : Nat} (hn : n ≤ 7) (hk : k ≤ n) (h : RowsS w' w.heap.size w'.heap.size v (row (subsN n k 0)) (subsN n k 0).length) : Rrows w w' v (subsN n k 0) := by
  have h1 := subsN_tot hn hk
  have e := rowsF_row (subsN n k 0)
  obtain ⟨a, c, rfl, hR⟩ := h.toR (Nat.le_refl _) (Nat.le_refl _) (Nat.le_refl _) (by rw [e]; exact h1.1)
  rw [e] at hR
  exact ⟨a, _, c, rfl, hR, by omega⟩
end Go.Proofs.Ytapaopapgnfdkaa
