/-
  Subsets, made longer one by one: the program's text.
-/
import Derived.Test.YtapaopapgnfdkaaSbs
import Derived.Test.YtapaopapgnfdkaaGrw
namespace Go.Proofs.Ytapaopapgnfdkaa
open Go.ChangeShapes Go.WideShapes Go.ChangeAt Go.RowKit
set_option linter.unusedVariables false
set_option linter.unusedSimpArgs false

def lnA (n : Nat) (L : List (List Int)) (i : Nat) : List (List Int) := longA n (L.take i)
def lnI (A : List (List Int)) (xs : List Int) (F d : Nat) : List (List Int) := A ++ (List.range' F d).map fun b : Nat => xs ++ [(b : Int)]
theorem lnA_zero (n : Nat) (L : List (List Int)) : lnA n L 0 = [] := by simp [lnA, longA]
theorem lnA_succ {n : Nat} {L : List (List Int)} {i : Nat} (h : i < L.length) : lnA n L (i + 1) = lnA n L i ++ longN n (row L i) := by
  have e : L.take (i + 1) = L.take i ++ [row L i] := by
    rw [List.take_add_one]; simp [row, List.getD_eq_getElem?_getD, h]
  rw [lnA, e, longA_append]; simp [lnA, longA]
theorem lnA_all (n : Nat) (L : List (List Int)) : lnA n L L.length = longA n L := by simp [lnA]
theorem lnA_le {n : Nat} {L : List (List Int)} (i : Nat) : (lnA n L i).length ≤ (longA n L).length := by
  have e : longA n L = lnA n L i ++ longA n (L.drop i) := by rw [lnA, ← longA_append, List.take_append_drop]
  rw [e, List.length_append]; omega
theorem lnI_zero (A : List (List Int)) (xs : List Int) (F : Nat) : lnI A xs F 0 = A := by simp [lnI]
theorem lnI_succ (A : List (List Int)) (xs : List Int) (F d : Nat) : lnI A xs F (d + 1) = lnI A xs F d ++ [xs ++ [((F + d : Nat) : Int)]] := by
  simp [lnI, List.range'_concat]
theorem lnI_length (A : List (List Int)) (xs : List Int) (F d : Nat) : (lnI A xs F d).length = A.length + d := by simp [lnI]
theorem lnI_all (n : Nat) (A : List (List Int)) (xs : List Int) : lnI A xs (nextN xs) (n - nextN xs) = A ++ longN n xs := rfl
theorem nextN_last {xs : List Int} {q : Nat} (h : xs.length = q + 1) (h0 : 0 ≤ gi xs q) : ((nextN xs : Nat) : Int) = gi xs q + 1 := by
  have e : xs.getLast? = some (gi xs q) := by
    rw [List.getLast?_eq_getElem?, h, Nat.add_sub_cancel, gi, List.getD_eq_getElem?_getD, List.getElem?_eq_getElem (by omega)]; simp
  rw [nextN, e]; simp only []; omega
theorem rowsS_none (w : World) (base hi : Nat) (f : Nat → List Int) : RowsS w base hi (.slice none 0 0) f 0 :=
  ⟨[], fun _ => 0, ⟨by simp, .inl ⟨rfl, rfl⟩⟩, rfl, fun i hi => by omega, fun i j h1 h2 => by omega⟩

theorem own_low {w : World} {base base' n : Nat} {v : Value} {ys : List Value} {t : TypeId} (h : w.ownsRow base t 1 v n ys) (hb : base' ≤ base) : w.ownsRow base' t 1 v n ys := by
  refine ⟨h.1, ?_⟩
  rcases h.2 with h2 | ⟨g, cap, cur, e1, h3, h4⟩
  · exact .inl h2
  · exact .inr ⟨g, cap, cur, e1, by omega, h4⟩
theorem rowsS_low {w : World} {base base' hi k : Nat} {v : Value} {f : Nat → List Int} (h : RowsS w base hi v f k) (hb : base' ≤ base) : RowsS w base' hi v f k := by
  obtain ⟨vs, B, h1, h2, h3, h4⟩ := h
  exact ⟨vs, B, own_low h1 hb, h2, fun i hi => by obtain ⟨c, x0, h6⟩ := h3 i hi; exact ⟨c, x0, h6.mono hb (Nat.le_refl _)⟩, h4⟩

set_option maxRecDepth 100000 in
set_option maxHeartbeats 6400000 in
theorem oneLonger_impl (n k cg lo hi : Nat) (a : Option Addr) (L : List (List Int)) (hn : n ≤ 7) (w : World) (hQ : 0 < L.length → ∃ g, a = some ⟨g, 0, none⟩ ∧ RowsQ w lo hi g L.length L) (hk7 : k ≤ 7) (hrow : ∀ i, i < L.length → (row L i).length = k ∧ ∀ q, q < k → 0 ≤ gi (row L i) q ∧ gi (row L i) q < n) (htot : (longA n L).length ≤ 1000) (hm : L.length ≤ 1000) :
    Calls Try.prog 231 #[.slice a L.length cg, .int .i64 n] w fun e w' => ∃ v, e = .returned v ∧ RowsS w' w.heap.size w'.heap.size v (row (longA n L)) (longA n L).length ∧ Ext w w' := by
  have HQ := Lib.hid hQ
  have HROW := Lib.hid hrow
  have HTOT := Lib.hid htot
  have HALL := Lib.hid (lnA_all n L)
  obtain ⟨m, hmm⟩ : ∃ m, L.length = m := ⟨_, rfl⟩
  have HMM := Lib.hid hmm
  rw [hmm] at hm ⊢
  clear hQ hrow htot hmm
  go_enter Try.func231, Try.ntmps231
  go_wp2_with fail
  have G0 : Hid (RowsS w w.heap.size w.heap.size (.slice none (lnA n L 0).length 0) (row (lnA n L 0)) (lnA n L 0).length) := by rw [lnA_zero]; exact rowsS_none _ _ _ _
  go_loopw [12, 5, 7, 8, 9] (fun z v _ _ _ wr => ∃ (i cv : Nat) (va : Option Addr), i ≤ m ∧ z = .int .i64 i ∧ v = .slice va (lnA n L i).length cv ∧ Hid (RowsS wr w.heap.size wr.heap.size (.slice va (lnA n L i).length cv) (row (lnA n L i)) (lnA n L i).length) ∧ Hid (Ext w wr)) (fun z _ _ _ _ _ => m - (intOf z).toNat)
  case atStart => exact ⟨0, 0, none, by omega, rfl, by rw [lnA_zero]; rfl, G0, Ext.refl w⟩
  case round =>
    clear G0
    obtain ⟨i, cv, va, hi', rfl, rfl, hG, hE⟩ := hrel
    by_cases hlt : i < m
    · have hiL : i < L.length := by rw [HMM.out]; exact hlt
      obtain ⟨g, rfl, hQ⟩ := HQ.out (by omega)
      obtain ⟨b', c', hc0, hr0⟩ := hQ.get hiL
      have hgl0 : g < w.heap.size := hQ.2.2.1
      have hgl : g < wr.heap.size := Nat.lt_of_lt_of_le hgl0 hE.out.le
      have hc1 : wr.cell? ⟨g, i, none⟩ = some (.slice (some ⟨b', 0, none⟩) (row L i).length c') := by rw [World.cell?_of_block (a := ⟨g, i, none⟩) (hE.out.block g hgl0)]; exact hc0
      have hr1 := hr0.ext hE.out
      obtain ⟨hxl, hxb⟩ := HROW.out i hiL
      have HSU : Hid (lnA n L (i + 1) = lnA n L i ++ longN n (row L i)) := lnA_succ hiL
      have HTL0 := Lib.hid (Nat.le_trans (lnA_le (n := n) (L := L) (i + 1)) HTOT.out)
      obtain ⟨xs, hxs⟩ : ∃ xs, row L i = xs := ⟨_, rfl⟩
      rw [hxs] at hc1 hr1 hxl hxb HSU hr0
      clear hxs
      rw [hxl] at hc1 hr1 hr0
      have HXR : Hid (∀ w', Ext w w' → Reads w' (some ⟨b', 0, none⟩) k xs) := fun w' h => hr0.ext h
      have HXL := Lib.hid hxl
      obtain ⟨F, hF⟩ : ∃ F, nextN xs = F := ⟨_, rfl⟩
      have hFn : F ≤ n := by
        rw [← hF]
        rcases k with _ | q
        · have : xs = [] := List.length_eq_zero_iff.1 hxl
          subst this; simp [nextN]
        · have h9 := nextN_last hxl (hxb q (by omega)).1
          have := (hxb q (by omega)).2
          omega
      have HNX : Hid (lnI (lnA n L i) xs F (n - F) = lnA n L (i + 1)) := by rw [Hid, HSU.out, ← hF]; rfl
      have HTL : Hid (∀ d, F + d < n + 1 → (lnA n L i).length + d ≤ 1000) := fun d h => by
        have h1 := HTL0.out
        rw [← HNX.out, lnI_length] at h1
        omega
      have hFk : (¬ 0 < k ∧ Hid (F = 0)) ∨ (0 < k ∧ wr.cell? ⟨b', k - 1, none⟩ = some (.int .i64 ((F : Int) - 1))) := by
        rcases k with _ | q
        · have : xs = [] := List.length_eq_zero_iff.1 hxl
          subst this; left; exact ⟨by omega, by rw [Hid, ← hF]; rfl⟩
        · have h9 := nextN_last hxl (hxb q (by omega)).1
          rcases hr1.2 with h | ⟨b2, off, h, hb2, hc2⟩
          · omega
          · simp at h
            obtain ⟨rfl, rfl⟩ := h
            right
            refine ⟨by omega, ?_⟩
            rw [Nat.add_sub_cancel]
            have := hc2 q (by omega)
            rw [Nat.zero_add] at this
            rw [this, ← hF, h9]
            simp
      clear HSU hxb hF HTL0 hr1 hr0 hQ hiL hxl hc0
      generalize lnA n L i = A at *
      rcases hFk with ⟨hk0, HF0⟩ | ⟨hk0, hcq⟩
      · go_wp2_with fail
        have hG0 : Hid (RowsS wr w.heap.size wr.heap.size (.slice va (A.length + 0) cv) (row (lnI A xs F 0)) (A.length + 0)) := by rw [Hid, lnI_zero]; exact hG.out
        clear hG
        go_loopw [9, 5] (fun z v wr => ∃ (d cv : Nat) (va : Option Addr), F + d ≤ n ∧ z = .int .i64 ((F + d : Nat) : Int) ∧ v = .slice va (A.length + d) cv ∧ Hid (RowsS wr w.heap.size wr.heap.size (.slice va (A.length + d) cv) (row (lnI A xs F d)) (A.length + d)) ∧ Hid (Ext w wr)) (fun z _ _ => n - (intOf z).toNat)
        case atStart => exact ⟨0, cv, va, by omega, by first | (simp; done) | (rw [HF0.out]; simp), rfl, hG0, hE⟩
        case round =>
          clear hG0 hE
          obtain ⟨d, cv, va, hd, rfl, rfl, hG, hE⟩ := hrel
          by_cases hlt2 : F + d < n
          · have LS := Lib.hid (lnI_succ A xs F d)
            have LL := Lib.hid (lnI_length A xs F d)
            have hAL : A.length + d + 1 ≤ 1001 := by have := HTL.out d (by omega); omega
            obtain ⟨b, hb⟩ : ∃ b, F + d = b := ⟨_, rfl⟩
            have HB := Lib.hid hb
            rw [hb] at LS hlt2 ⊢
            clear hb
            have hG5 : Hid (RowsS wr w.heap.size wr.heap.size (.slice va (A.length + d) cv) (row (lnI A xs F (d + 1))) (A.length + d)) := hG.out.congr (fun j hj => by rw [LS.out, row_app1 (by rw [LL.out]; exact hj)])
            have HFK : Hid (row (lnI A xs F (d + 1)) (A.length + d) = xs ++ [(b : Int)]) := by rw [Hid, LS.out, ← LL.out, row_app2]
            obtain ⟨FF, hF⟩ : ∃ FF, row (lnI A xs F (d + 1)) = FF := ⟨_, rfl⟩
            rw [Hid, hF] at hG5 HFK
            have hG5 := Lib.hid hG5
            have HFK := Lib.hid HFK
            have HFE := Lib.hid hF
            clear hF hG
            have hp1 : Ext wr (wr.alloc (.cells #[.int .i64 b] 3)) := (Ext.refl wr).alloc _
            have HR1 : Hid (Reads ((wr.alloc (.cells #[.int .i64 b] 3)).alloc (.cells #[.slice (some ⟨b', 0, none⟩) k c', .slice (some ⟨wr.heap.size, 0, none⟩) 1 1] 22)) (some ⟨b', 0, none⟩) k xs) := HXR.out _ (hE.out.trans (hp1.alloc _))
            have HR2 : Hid (Reads ((wr.alloc (.cells #[.int .i64 b] 3)).alloc (.cells #[.slice (some ⟨b', 0, none⟩) k c', .slice (some ⟨wr.heap.size, 0, none⟩) 1 1] 22)) (some ⟨wr.heap.size, 0, none⟩) 1 [(b : Int)]) := by
              have h9 : Has (wr.alloc (.cells #[.int .i64 b] 3)) wr.heap.size [(b : Int)] := Has.new wr [(b : Int)]
              exact (h9.alloc _).reads rfl
            have hq := cells_new (wr.alloc (.cells #[.int .i64 b] 3)) #[.slice (some ⟨b', 0, none⟩) k c', .slice (some ⟨wr.heap.size, 0, none⟩) 1 1] 22
            rw [show (wr.alloc (.cells #[.int .i64 b] 3)).heap.size = wr.heap.size + 1 by simp] at hq
            have HCQ := Lib.hid hq
            have HPX : Hid (Ext wr ((wr.alloc (.cells #[.int .i64 b] 3)).alloc (.cells #[.slice (some ⟨b', 0, none⟩) k c', .slice (some ⟨wr.heap.size, 0, none⟩) 1 1] 22))) := hp1.alloc _
            clear hq hp1
            go_wp2_with fail
            generalize ((wr.alloc (.cells #[.int .i64 b] 3)).alloc (.cells #[.slice (some ⟨b', 0, none⟩) k c', .slice (some ⟨wr.heap.size, 0, none⟩) 1 1] 22)) = W2 at *
            refine (concat_two (wr.heap.size + 1) b' wr.heap.size k c' 1 2 xs b W2 (HCQ.out.2 0 _ rfl) (HCQ.out.2 1 _ rfl) HCQ.out.1 HR1.out HR2.out hk7 (by omega)).mono ?_
            rintro e w3 ⟨h3, c3, rfl, hb3, hl3, hh3, hE3⟩
            have HE3 : Hid (Ext wr w3) := HPX.out.trans hE3
            have hle := HPX.out.le
            have HLN : Hid ((xs ++ [(b : Int)]).length = k + 1) := by rw [Hid, List.length_append, HXL.out]; rfl
            have HRW3 : Hid (Own w3 w.heap.size w3.heap.size (some ⟨h3, 0, none⟩) (k + 1) (FF (A.length + d))) := by rw [Hid, HFK.out]; exact hh3.own (by have := hE.out.le; omega) hl3 HLN.out
            have HF3 : Hid ((FF (A.length + d)).length = k + 1) := by rw [Hid, HFK.out]; exact HLN.out
            have hge : wr.heap.size ≤ h3 := by omega
            clear hb3 hh3 hE3 HPX HCQ HR1 HR2
            go_wp2_with (at_builtin; refine wpList_appendRowS rfl (.tmp 32) (.tmp 38) rfl w.heap.size wr.heap.size (.slice va (A.length + d) cv) FF (A.length + d) h3 c3 1 w3.heap.size (k + 1) rfl HF3.out rfl rfl (hG5.out.ext HE3.out) HRW3.out hge (by omega) (hE.out.trans HE3.out).le ?_; intro v5 w5 hG6 hg5 hat; obtain ⟨a5, c5, e5⟩ := hG6.shape; subst e5; have HG6 := Lib.hid hG6; have HGR := Lib.hid hg5; clear hG6 hg5 hat)
            have hgs := HGR.out.size
            have hb0 := hG5.out.blk
            have E5 := Lib.hid ((hE.out.trans HE3.out).grown HGR.out (fun z hz => by have := hb0 z hz; omega))
            have HG7 : Hid (RowsS w5 w.heap.size w5.heap.size (.slice a5 (A.length + (d + 1)) c5) (row (lnI A xs F (d + 1))) (A.length + (d + 1))) := by rw [Hid, HFE.out]; exact HG6.out.mono hgs
            exact ⟨⟨d + 1, c5, a5, by have := HB.out; omega, by have := HB.out; simp; omega, by simp [Nat.add_assoc], HG7, E5⟩, by have := HB.out; simp [intOf]; omega⟩
          · obtain rfl : d = n - F := by omega
            have HF : Hid (lnI A xs F (n - F) = lnA n L (i + 1)) := by rw [Hid, HNX.out]
            have HFL : Hid (A.length + (n - F) = (lnA n L (i + 1)).length) := by rw [Hid, ← HF.out, lnI_length]
            have hG4 : Hid (RowsS wr w.heap.size wr.heap.size (.slice va (lnA n L (i + 1)).length cv) (row (lnA n L (i + 1))) (lnA n L (i + 1)).length) := by
              have := hG.out
              rw [HF.out, HFL.out] at this; exact this
            clear hG
            rw [HFL.out]
            go_wp2
            exact ⟨⟨i + 1, cv, va, by omega, by simp, rfl, hG4, hE⟩, by simp [intOf]; omega⟩
      · have e1 : (F : Int) - 1 + 1 = F := by omega
        go_wp2_with fail
        have hG0 : Hid (RowsS wr w.heap.size wr.heap.size (.slice va (A.length + 0) cv) (row (lnI A xs F 0)) (A.length + 0)) := by rw [Hid, lnI_zero]; exact hG.out
        clear hG
        go_loopw [9, 5] (fun z v wr => ∃ (d cv : Nat) (va : Option Addr), F + d ≤ n ∧ z = .int .i64 ((F + d : Nat) : Int) ∧ v = .slice va (A.length + d) cv ∧ Hid (RowsS wr w.heap.size wr.heap.size (.slice va (A.length + d) cv) (row (lnI A xs F d)) (A.length + d)) ∧ Hid (Ext w wr)) (fun z _ _ => n - (intOf z).toNat)
        case atStart => exact ⟨0, cv, va, by omega, by first | (simp; done) | (rw [HF0.out]; simp), rfl, hG0, hE⟩
        case round =>
          clear hG0 hE
          obtain ⟨d, cv, va, hd, rfl, rfl, hG, hE⟩ := hrel
          by_cases hlt2 : F + d < n
          · have LS := Lib.hid (lnI_succ A xs F d)
            have LL := Lib.hid (lnI_length A xs F d)
            have hAL : A.length + d + 1 ≤ 1001 := by have := HTL.out d (by omega); omega
            obtain ⟨b, hb⟩ : ∃ b, F + d = b := ⟨_, rfl⟩
            have HB := Lib.hid hb
            rw [hb] at LS hlt2 ⊢
            clear hb
            have hG5 : Hid (RowsS wr w.heap.size wr.heap.size (.slice va (A.length + d) cv) (row (lnI A xs F (d + 1))) (A.length + d)) := hG.out.congr (fun j hj => by rw [LS.out, row_app1 (by rw [LL.out]; exact hj)])
            have HFK : Hid (row (lnI A xs F (d + 1)) (A.length + d) = xs ++ [(b : Int)]) := by rw [Hid, LS.out, ← LL.out, row_app2]
            obtain ⟨FF, hF⟩ : ∃ FF, row (lnI A xs F (d + 1)) = FF := ⟨_, rfl⟩
            rw [Hid, hF] at hG5 HFK
            have hG5 := Lib.hid hG5
            have HFK := Lib.hid HFK
            have HFE := Lib.hid hF
            clear hF hG
            have hp1 : Ext wr (wr.alloc (.cells #[.int .i64 b] 3)) := (Ext.refl wr).alloc _
            have HR1 : Hid (Reads ((wr.alloc (.cells #[.int .i64 b] 3)).alloc (.cells #[.slice (some ⟨b', 0, none⟩) k c', .slice (some ⟨wr.heap.size, 0, none⟩) 1 1] 22)) (some ⟨b', 0, none⟩) k xs) := HXR.out _ (hE.out.trans (hp1.alloc _))
            have HR2 : Hid (Reads ((wr.alloc (.cells #[.int .i64 b] 3)).alloc (.cells #[.slice (some ⟨b', 0, none⟩) k c', .slice (some ⟨wr.heap.size, 0, none⟩) 1 1] 22)) (some ⟨wr.heap.size, 0, none⟩) 1 [(b : Int)]) := by
              have h9 : Has (wr.alloc (.cells #[.int .i64 b] 3)) wr.heap.size [(b : Int)] := Has.new wr [(b : Int)]
              exact (h9.alloc _).reads rfl
            have hq := cells_new (wr.alloc (.cells #[.int .i64 b] 3)) #[.slice (some ⟨b', 0, none⟩) k c', .slice (some ⟨wr.heap.size, 0, none⟩) 1 1] 22
            rw [show (wr.alloc (.cells #[.int .i64 b] 3)).heap.size = wr.heap.size + 1 by simp] at hq
            have HCQ := Lib.hid hq
            have HPX : Hid (Ext wr ((wr.alloc (.cells #[.int .i64 b] 3)).alloc (.cells #[.slice (some ⟨b', 0, none⟩) k c', .slice (some ⟨wr.heap.size, 0, none⟩) 1 1] 22))) := hp1.alloc _
            clear hq hp1
            go_wp2_with fail
            generalize ((wr.alloc (.cells #[.int .i64 b] 3)).alloc (.cells #[.slice (some ⟨b', 0, none⟩) k c', .slice (some ⟨wr.heap.size, 0, none⟩) 1 1] 22)) = W2 at *
            refine (concat_two (wr.heap.size + 1) b' wr.heap.size k c' 1 2 xs b W2 (HCQ.out.2 0 _ rfl) (HCQ.out.2 1 _ rfl) HCQ.out.1 HR1.out HR2.out hk7 (by omega)).mono ?_
            rintro e w3 ⟨h3, c3, rfl, hb3, hl3, hh3, hE3⟩
            have HE3 : Hid (Ext wr w3) := HPX.out.trans hE3
            have hle := HPX.out.le
            have HLN : Hid ((xs ++ [(b : Int)]).length = k + 1) := by rw [Hid, List.length_append, HXL.out]; rfl
            have HRW3 : Hid (Own w3 w.heap.size w3.heap.size (some ⟨h3, 0, none⟩) (k + 1) (FF (A.length + d))) := by rw [Hid, HFK.out]; exact hh3.own (by have := hE.out.le; omega) hl3 HLN.out
            have HF3 : Hid ((FF (A.length + d)).length = k + 1) := by rw [Hid, HFK.out]; exact HLN.out
            have hge : wr.heap.size ≤ h3 := by omega
            clear hb3 hh3 hE3 HPX HCQ HR1 HR2
            go_wp2_with (at_builtin; refine wpList_appendRowS rfl (.tmp 32) (.tmp 38) rfl w.heap.size wr.heap.size (.slice va (A.length + d) cv) FF (A.length + d) h3 c3 1 w3.heap.size (k + 1) rfl HF3.out rfl rfl (hG5.out.ext HE3.out) HRW3.out hge (by omega) (hE.out.trans HE3.out).le ?_; intro v5 w5 hG6 hg5 hat; obtain ⟨a5, c5, e5⟩ := hG6.shape; subst e5; have HG6 := Lib.hid hG6; have HGR := Lib.hid hg5; clear hG6 hg5 hat)
            have hgs := HGR.out.size
            have hb0 := hG5.out.blk
            have E5 := Lib.hid ((hE.out.trans HE3.out).grown HGR.out (fun z hz => by have := hb0 z hz; omega))
            have HG7 : Hid (RowsS w5 w.heap.size w5.heap.size (.slice a5 (A.length + (d + 1)) c5) (row (lnI A xs F (d + 1))) (A.length + (d + 1))) := by rw [Hid, HFE.out]; exact HG6.out.mono hgs
            exact ⟨⟨d + 1, c5, a5, by have := HB.out; omega, by have := HB.out; simp; omega, by simp [Nat.add_assoc], HG7, E5⟩, by have := HB.out; simp [intOf]; omega⟩
          · obtain rfl : d = n - F := by omega
            have HF : Hid (lnI A xs F (n - F) = lnA n L (i + 1)) := by rw [Hid, HNX.out]
            have HFL : Hid (A.length + (n - F) = (lnA n L (i + 1)).length) := by rw [Hid, ← HF.out, lnI_length]
            have hG4 : Hid (RowsS wr w.heap.size wr.heap.size (.slice va (lnA n L (i + 1)).length cv) (row (lnA n L (i + 1))) (lnA n L (i + 1)).length) := by
              have := hG.out
              rw [HF.out, HFL.out] at this; exact this
            clear hG
            rw [HFL.out]
            go_wp2
            exact ⟨⟨i + 1, cv, va, by omega, by simp, rfl, hG4, hE⟩, by simp [intOf]; omega⟩
    · obtain rfl : m = i := by omega
      have HFA : Hid (lnA n L m = longA n L) := by rw [Hid, ← HMM.out]; exact HALL.out
      have hG9 := hG.out
      rw [HFA.out] at hG9 ⊢
      have HG9 := Lib.hid hG9
      clear hG hG9
      go_wp2
      go_ret
      exact ⟨_, rfl, HG9.out, hE.out⟩

theorem rowsS_nilrow (w : World) : RowsS ((w.alloc (.cells #[] 3)).alloc (.cells #[.slice (some ⟨w.heap.size, 0, none⟩) 0 0] 22)) w.heap.size (w.heap.size + 2) (.slice (some ⟨w.heap.size + 1, 0, none⟩) 1 1) (row [[]]) 1 := by
  refine ⟨[.slice (some ⟨w.heap.size, 0, none⟩) 0 0], fun _ => w.heap.size, ?_, rfl, fun i hi => ?_, fun i j h1 h2 => by omega⟩
  · have h9 := World.ownsRow_lit (base := w.heap.size) (e := 22) (size := 1) (w.alloc (.cells #[] 3)) #[.slice (some ⟨w.heap.size, 0, none⟩) 0 0] 1 (by simp) (by unfold maxLen; omega) (by simp)
    simpa using h9
  · obtain rfl : i = 0 := by omega
    refine ⟨0, by simp [row], ?_⟩
    have h9 : Has (w.alloc (.cells #[] 3)) w.heap.size [] := Has.new w []
    exact (h9.alloc _).own (Nat.le_refl _) (by omega) (by simp [row])
theorem subs_long (n j : Nat) : subsN n (j + 1) 0 = longA n (subsN n j 0) := by rw [← longK_all, longK_succ, longK_all]
theorem subs_row {n j i : Nat} (hi : i < (subsN n j 0).length) : (row (subsN n j 0) i).length = j ∧ ∀ q, q < j → 0 ≤ gi (row (subsN n j 0) i) q ∧ gi (row (subsN n j 0) i) q < n := by
  have hm : row (subsN n j 0) i ∈ subsN n j 0 := by rw [row, List.getD_eq_getElem?_getD, List.getElem?_eq_getElem hi]; exact List.getElem_mem hi
  obtain ⟨h1, h2⟩ := mem_subsN hm
  refine ⟨h1, fun q hq => ?_⟩
  have h3 := h2 (gi (row (subsN n j 0) i) q) (by rw [gi, List.getD_eq_getElem?_getD, List.getElem?_eq_getElem (by omega)]; exact List.getElem_mem _)
  exact ⟨by have := h3.1; omega, h3.2⟩
set_option maxRecDepth 100000 in
set_option maxHeartbeats 1600000 in
theorem subsetsOf_impl {n k : Int} {w : World} {d : List (List Int)} (hM : subsM n k = d) :
    Calls Try.prog 225 #[.int .i64 n, .int .i64 k] w fun e w' => ∃ v, e = .returned v ∧ Rrows w w' v d ∧ Ext w w' := by
  subst hM
  have hno : (n < 0 ∨ 7 < n ∨ k < 0 ∨ n < k) → subsM n k = [] := fun h => by
    have : (inB n 0 7 && inB k 0 n) = false := by
      rw [← Bool.not_eq_true, Bool.and_eq_true, inB_iff, inB_iff]; omega
    rw [subsM, this]; rfl
  by_cases h1 : n < 0
  · rw [hno (.inl h1)]
    clear hno
    go_enter Try.func225, Try.ntmps225
    go_wp2
    go_ret
    exact ⟨_, rfl, ⟨none, 0, 0, rfl, rowsR_nil _ _ _ _, by omega⟩, Ext.refl _⟩
  by_cases h2 : 7 < n
  · rw [hno (.inr (.inl h2))]
    clear hno
    go_enter Try.func225, Try.ntmps225
    go_wp2
    go_ret
    exact ⟨_, rfl, ⟨none, 0, 0, rfl, rowsR_nil _ _ _ _, by omega⟩, Ext.refl _⟩
  by_cases h3 : k < 0
  · rw [hno (.inr (.inr (.inl h3)))]
    clear hno
    go_enter Try.func225, Try.ntmps225
    go_wp2
    go_ret
    exact ⟨_, rfl, ⟨none, 0, 0, rfl, rowsR_nil _ _ _ _, by omega⟩, Ext.refl _⟩
  by_cases h4 : n < k
  · rw [hno (.inr (.inr (.inr h4)))]
    clear hno
    go_enter Try.func225, Try.ntmps225
    go_wp2
    go_ret
    exact ⟨_, rfl, ⟨none, 0, 0, rfl, rowsR_nil _ _ _ _, by omega⟩, Ext.refl _⟩
  obtain ⟨m, rfl⟩ : ∃ m : Nat, n = m := ⟨n.toNat, by omega⟩
  obtain ⟨q, rfl⟩ : ∃ q : Nat, k = q := ⟨k.toNat, by omega⟩
  have HM : Hid (subsM m q = subsN m q 0) := by
    have : (inB (m : Int) 0 7 && inB (q : Int) 0 m) = true := by rw [Bool.and_eq_true, inB_iff, inB_iff]; omega
    rw [Hid, subsM, this]; simp
  have hm : m ≤ 7 := by omega
  have hq : q ≤ m := by omega
  rw [HM.out]
  clear hno
  go_enter Try.func225, Try.ntmps225
  go_wp2_with fail
  have G0 := Lib.hid (rowsS_nilrow w)
  have E0 : Hid (Ext w ((w.alloc (.cells #[] 3)).alloc (.cells #[.slice (some ⟨w.heap.size, 0, none⟩) 0 0] 22))) := ((Ext.refl w).alloc _).alloc _
  have hs : Hid (((w.alloc (.cells #[] 3)).alloc (.cells #[.slice (some ⟨w.heap.size, 0, none⟩) 0 0] 22)).heap.size = w.heap.size + 2) := by rw [Hid]; simp
  generalize ((w.alloc (.cells #[] 3)).alloc (.cells #[.slice (some ⟨w.heap.size, 0, none⟩) 0 0] 22)) = W2 at *
  go_loopw [24, 5] (fun z v wr => ∃ (j cv : Nat) (va : Option Addr), j ≤ q ∧ z = .int .i64 j ∧ v = .slice va (subsN m j 0).length cv ∧ Hid (RowsS wr w.heap.size wr.heap.size (.slice va (subsN m j 0).length cv) (row (subsN m j 0)) (subsN m j 0).length) ∧ Hid (Ext w wr)) (fun z _ _ => q - (intOf z).toNat)
  case atStart => exact ⟨0, 1, _, by omega, rfl, rfl, G0.out.mono (by have := hs.out; omega), E0⟩
  case round =>
    clear G0 E0 hs
    obtain ⟨j, cv, va, hj, rfl, rfl, hG, hE⟩ := hrel
    by_cases hlt : j < q
    · have HSU := Lib.hid (subs_long m j)
      have h8 := subsN_len m 7 (j + 1) 0 (by omega)
      have h9 := subsN_len m 7 j 0 (by omega)
      rw [HSU.out] at h8
      have HON : Hid (Calls Try.prog 231 #[.slice va (subsN m j 0).length cv, .int .i64 m] wr fun e w' => ∃ v, e = .returned v ∧ RowsS w' wr.heap.size w'.heap.size v (row (subsN m (j + 1) 0)) (subsN m (j + 1) 0).length ∧ Ext wr w') := by
        rw [HSU.out]
        exact oneLonger_impl m j cv w.heap.size wr.heap.size va (subsN m j 0) hm wr (fun h => hG.out.toQ (Nat.le_refl _) h) (by omega) (fun i hi => subs_row hi) (by omega) (by omega)
      clear h8 h9 HSU hG
      go_wp2_with fail
      refine HON.out.mono ?_
      rintro e w3 ⟨v3, rfl, hS, h3⟩
      obtain ⟨a3, c3, rfl⟩ := hS.shape
      have HS : Hid (RowsS w3 w.heap.size w3.heap.size (.slice a3 (subsN m (j + 1) 0).length c3) (row (subsN m (j + 1) 0)) (subsN m (j + 1) 0).length) := rowsS_low hS hE.out.le
      have E3 := Lib.hid (hE.out.trans h3)
      clear hS h3 hE
      go_wp2
      exact ⟨⟨j + 1, c3, a3, by omega, by simp, rfl, HS, E3⟩, by simp [intOf]; omega⟩
    · obtain rfl : q = j := by omega
      have HR := Lib.hid (subs_rows hm hq hG.out)
      clear hG
      go_wp2
      go_ret
      exact ⟨_, rfl, HR.out, hE.out⟩
end Go.Proofs.Ytapaopapgnfdkaa
