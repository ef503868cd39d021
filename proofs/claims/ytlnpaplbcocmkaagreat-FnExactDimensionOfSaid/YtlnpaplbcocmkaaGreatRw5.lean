/-
  Lists of lists as roots are kept: appended, read, looked up; in both texts.
-/
import Derived.Test.YtlnpaplbcocmkaaGreatRd5
import Derived.Maps.AppendAt
import Derived.WalkSpells
import Derived.Laws.EntriesVeiled
namespace Go.Proofs.YtlnpaplbcocmkaaGreat
open Go.ChangeShapes Go.WideShapes Go.ChangeAt Go.RowKit
set_option linter.unusedVariables false
set_option linter.unusedSimpArgs false

theorem Tryz.infoInts : (Tryz.prog.info? 22).map (fun i => (i.zero, i.size, i.bytes)) = some (some (.slice none 0 0), 1, 24) := by kernel_rfl
def row (rs : List (List Int)) (i : Nat) : List Int := rs.getD i []
theorem own_other {w w' : World} {lo hi : Nat} {a : Option Addr} {n : Nat} {xs : List Int} {row : Option Nat} (h : Own w lo hi a n xs) (hg : w.grownBy w' row) (hd : ∀ k, row = some k → ∃ cur z, w.heap[k]? = some (.cells cur 22 z)) : Own w' lo hi a n xs := by
  obtain ⟨h1, h2⟩ := h
  rcases h2 with h2 | ⟨b, rfl, h3, h4, r, h2, h5⟩
  · exact ⟨h1, .inl h2⟩
  · refine ⟨h1, .inr ⟨b, rfl, h3, h4, r, ?_, h5⟩⟩
    rw [hg.block b (Array.getElem?_eq_some_iff.1 h2).1 (fun e => by
      obtain ⟨cur, z, hk⟩ := hd b e.symm
      rw [h2] at hk
      simp at hk)]
    exact h2
section
variable {w w' : World} {hi : Nat} {f : Nat → List Int}
/-- A slice of the call's own of k rows that was appended to; the data lie in blocks one behind the other, below hi. -/
def RowsS (w : World) (base hi : Nat) (v : Value) (f : Nat → List Int) (k : Nat) : Prop := ∃ (vs : List Value) (B : Nat → Nat), w.ownsRow base 22 1 v k vs ∧ vs.length = k ∧ (∀ i, i < k → ∃ c, vs[i]? = some (.slice (some ⟨B i, 0, none⟩) (f i).length c) ∧ Own w base hi (some ⟨B i, 0, none⟩) (f i).length (f i)) ∧ ∀ i j, i < j → j < k → B i < B j
theorem RowsS.blk {base k : Nat} {v : Value} (h : RowsS w base hi v f k) : ∀ z, v.ownBlock = some z → base ≤ z ∧ z < w.heap.size := by
  obtain ⟨vs, B, h, _⟩ := h
  exact World.ownsRow.lt h
theorem RowsS.ext {base k : Nat} {v : Value} (h : RowsS w base hi v f k) (hE : Ext w w') : RowsS w' base hi v f k := by
  obtain ⟨vs, B, h1, h2, h3, h4⟩ := h
  refine ⟨vs, B, ?_, h2, fun i hi => ?_, h4⟩
  · by_cases e : v.ownBlock = none
    · exact World.ownsRow.kept h1 (ext_grownBy hE none) (.inl e)
    · exact World.ownsRow.kept h1 (ext_grownBy hE none) (.inr e)
  · obtain ⟨c, x0, h6⟩ := h3 i hi
    exact ⟨c, x0, h6.ext hE⟩
theorem RowsS.mono {base k hi' : Nat} {v : Value} (h : RowsS w base hi v f k) (hh : hi ≤ hi') : RowsS w base hi' v f k := by
  obtain ⟨vs, B, h1, h2, h3, h4⟩ := h
  exact ⟨vs, B, h1, h2, fun i hi => by obtain ⟨c, x0, h6⟩ := h3 i hi; exact ⟨c, x0, h6.mono (Nat.le_refl _) hh⟩, h4⟩
theorem RowsS.shape {base k : Nat} {v : Value} (h : RowsS w base hi v f k) : ∃ a cap, v = .slice a k cap := by
  obtain ⟨vs, B, h1, h2, h3, _⟩ := h
  rcases h1.2 with ⟨e1, e2⟩ | ⟨g, cap, cur, e1, _⟩
  · exact ⟨none, 0, by rw [e1, e2]⟩
  · exact ⟨_, cap, e1⟩
theorem rowsS_lit (w : World) (base hi : Nat) (hb : base ≤ w.heap.size) : RowsS (w.alloc (.cells #[] 22)) base hi (.slice (some ⟨w.heap.size, 0, none⟩) 0 0) f 0 :=
  ⟨[], fun _ => 0, World.ownsRow_lit w #[] 0 hb (by unfold maxLen; omega) (by simp), rfl, fun i hi => by omega, fun i j h1 h2 => by omega⟩
end
/-- append of one row. -/
theorem wpList_appendRowS {w : World} {ops : Array Oper} {rest : List Oper} {o : Oper} {a : Act} {Q : Exit → Act → World → Prop} (hgd : o.guard = none) (s x : Operand)
    (ho : o.op = .call { callee := .builtin .append, args := #[s, x], argTypes := #[35, 35] })
    (base hi : Nat) (v : Value) (f : Nat → List Int) (k b0 c0 c g n0 : Nat) (hg0 : g = w.heap.size) (hn0 : (f k).length = n0) (hs : a.eval s = v) (hx : a.eval x = .slice (some ⟨g, 0, none⟩) 1 c) (hown : RowsS w base hi v f k) (hrow : Own w base w.heap.size (some ⟨b0, 0, none⟩) n0 (f k)) (hh : hi ≤ b0) (hb : k + 1 ≤ 1048577) (hbase : base ≤ w.heap.size)
    (h : ∀ v' w', RowsS w' base w.heap.size v' f (k + 1) → w.grownBy w' v.ownBlock → (v'.ownBlock = v.ownBlock ∨ v'.ownBlock = some (w.heap.size + 1)) → wpList Tryz.prog ops Q rest (a.put o.dst v') w') : wpList Tryz.prog ops Q (o :: rest) a (w.alloc (.cells #[.slice (some ⟨b0, 0, none⟩) n0 c0] 22)) := by
  subst hg0 hn0
  obtain ⟨i0, hi0, hz0, hz1, hz2⟩ := info_parts Tryz.infoInts
  have hb0 : b0 < w.heap.size := (hrow.blk b0 rfl).2
  obtain ⟨vs, B, h1, h2, h3, h4⟩ := RowsS.ext hown ((Ext.refl w).alloc (.cells #[.slice (some ⟨b0, 0, none⟩) (f k).length c0] 22))
  have hrow2 := hrow.ext ((Ext.refl w).alloc (.cells #[.slice (some ⟨b0, 0, none⟩) (f k).length c0] 22))
  refine Go.wpList_append_own_at _ hgd s x 35 ho base 22 i0 (.slice none 0 0) 1 24 Tryz.underlying35 hi0 hz0 hz1 hz2 rfl (by decide) v k vs hs h1 ⟨w.heap.size, 0, none⟩ 1 c [.slice (some ⟨b0, 0, none⟩) (f k).length c0] hx rfl (fun j u hu => ?_) (fun u hu => by simp at hu; subst hu; rfl) (by unfold maxLen; omega) (by omega) (by simp; omega) (fun v' w' g1 g2 _ g3 => h v' w' ?_ (grownBy_alloc g2) (by simpa using g3))
  · obtain rfl : j = 0 := by have := (List.getElem?_eq_some_iff.1 hu).1; simp at this; omega
    simp at hu
    subst hu
    rw [show (⟨w.heap.size, 0, none⟩ : Addr).add 0 = ⟨w.heap.size, 0, none⟩ from rfl, World.cell?_alloc_at _ _ _ _ rfl]
    rfl
  · have hty : ∀ z, v.ownBlock = some z → ∃ cur y, (w.alloc (.cells #[.slice (some ⟨b0, 0, none⟩) (f k).length c0] 22)).heap[z]? = some (.cells cur 22 y) := by
      intro z hz
      rcases h1.2 with ⟨e1, _⟩ | ⟨g, cap, cur, e1, _, hg, _⟩
      · subst e1; simp [Value.ownBlock] at hz
      · subst e1
        simp [Value.ownBlock] at hz
        subst hz
        exact ⟨cur, _, hg⟩
    have hbl : ∀ i, i < k → B i < hi := fun i hi => by obtain ⟨c, x0, h6⟩ := h3 i hi; exact (h6.blk (B i) rfl).2
    refine ⟨vs ++ [.slice (some ⟨b0, 0, none⟩) (f k).length c0], fun i => if i = k then b0 else B i, by simpa using g1, by simp [h2], fun i hi => ?_, fun i j hij hj => ?_⟩
    · by_cases e : i < k
      · obtain ⟨c', y0, h6⟩ := h3 i e
        refine ⟨c', ?_, ?_⟩
        · rw [List.getElem?_append_left (by omega)]; simp only [if_neg (show ¬ i = k by omega)]; exact y0
        · simp only [if_neg (show ¬ i = k by omega)]; exact (own_other h6 g2 hty).mono (Nat.le_refl _) (by omega)
      · obtain rfl : i = k := by omega
        refine ⟨c0, ?_, ?_⟩
        · rw [List.getElem?_append_right (by omega)]; simp [h2]
        · simp only [if_true]; exact own_other hrow2 g2 hty
    · by_cases e : j = k
      · subst e
        simp only [if_neg (show ¬ i = j by omega), if_true]
        have := hbl i hij; omega
      · simp only [if_neg e, if_neg (show ¬ i = k by omega)]
        exact h4 i j hij (by omega)


theorem row_lt {l : List (List Int)} {k : Nat} (h : k < l.length) : row l k = l[k] := by simp [row, List.getD_eq_getElem?_getD, h]
theorem row_mem {l : List (List Int)} {k : Nat} (h : k < l.length) : row l k ∈ l := by rw [row_lt h]; exact List.getElem_mem h
theorem mem_row {l : List (List Int)} {x : List Int} (h : x ∈ l) : ∃ k, k < l.length ∧ row l k = x := by
  obtain ⟨k, hk, rfl⟩ := List.mem_iff_getElem.1 h
  exact ⟨k, hk, row_lt hk⟩
theorem row_gl (l : List (List Int)) (k : Nat) : row l k = gl l k := rfl
/-- A slice of rows of the call's own, all apart. -/
def RowsP (w : World) (lo : Nat) (v : Value) (L : List (List Int)) : Prop := ∃ (us : List Value) (B : Nat → Nat), w.ownsRow lo 22 1 v L.length us ∧ us.length = L.length ∧ (∀ i, i < L.length → ∃ c, us[i]? = some (.slice (some ⟨B i, 0, none⟩) (row L i).length c) ∧ Own w lo w.heap.size (some ⟨B i, 0, none⟩) (row L i).length (row L i)) ∧ ∀ i j, i < L.length → j < L.length → i ≠ j → B i ≠ B j
theorem RowsS.toP {w : World} {base hi : Nat} {v : Value} {L : List (List Int)} {k : Nat} (h : RowsS w base hi v (row L) k) (hk : L.length = k) (hh : hi ≤ w.heap.size) : RowsP w base v L := by
  subst hk
  obtain ⟨vs, B, h1, h2, h3, h4⟩ := h
  refine ⟨vs, B, h1, h2, fun i hi => ?_, fun i j hi hj hne e => ?_⟩
  · obtain ⟨c, x0, h6⟩ := h3 i hi
    exact ⟨c, x0, h6.mono (Nat.le_refl _) hh⟩
  · rcases Nat.lt_or_gt_of_ne hne with h | h
    · have := h4 i j h hj; omega
    · have := h4 j i h hi; omega
theorem RowsP.ext {w w' : World} {lo : Nat} {v : Value} {L : List (List Int)} (h : RowsP w lo v L) (hE : Ext w w') : RowsP w' lo v L := by
  obtain ⟨us, B, h1, h2, h3, h4⟩ := h
  refine ⟨us, B, ?_, h2, fun i hi => ?_, h4⟩
  · by_cases e : v.ownBlock = none
    · exact World.ownsRow.kept h1 (ext_grownBy hE none) (.inl e)
    · exact World.ownsRow.kept h1 (ext_grownBy hE none) (.inr e)
  · obtain ⟨c, x0, h6⟩ := h3 i hi
    exact ⟨c, x0, (h6.ext hE).mono (Nat.le_refl _) hE.le⟩
/-- A slice of rows that may be read. -/
def RdR (w : World) (g : Nat) (L : List (List Int)) : Prop := g < w.heap.size ∧ ∀ i, i < L.length → ∃ b c, w.cell? ⟨g, i, none⟩ = some (.slice (some ⟨b, 0, none⟩) (row L i).length c) ∧ Reads w (some ⟨b, 0, none⟩) (row L i).length (row L i)
theorem RdR.ext {w w' : World} {g : Nat} {L : List (List Int)} (h : RdR w g L) (hE : Ext w w') : RdR w' g L :=
  ⟨Nat.lt_of_lt_of_le h.1 hE.le, fun i hi => by obtain ⟨b, c, h1, h2⟩ := h.2 i hi; exact ⟨b, c, (hE.cells g i h.1).trans h1, h2.ext hE⟩⟩
theorem contains_yes {L : List (List Int)} {x : List Int} {i : Nat} (hi : i < L.length) (h : row L i = x) : L.contains x = true := by
  rw [List.contains_iff_mem, ← h]; exact row_mem hi
theorem contains_no {L : List (List Int)} {x : List Int} (h : ∀ i, i < L.length → row L i ≠ x) : L.contains x = false := by
  rcases h1 : L.contains x with _ | _
  · rfl
  · rw [List.contains_iff_mem] at h1
    obtain ⟨k, hk, e⟩ := mem_row h1
    exact absurd e (h k hk)

set_option maxRecDepth 100000 in
set_option maxHeartbeats 1600000 in
theorem l5Place_spec (g m c n cx : Nat) (ax : Option Addr) (L : List (List Int)) (x : List Int) (w : World) (hR : RdR w g L) (hm : L.length = m) (hmm : m ≤ 1024) (hrl : ∀ i, i < L.length → (row L i).length ≤ 1024) (hx : Reads w ax n x) (hn : n ≤ 1024) :
    Calls Tryz.prog 178 #[.slice (some ⟨g, 0, none⟩) m c, .slice ax n cx] w fun e w' => ∃ z : Int, e = .returned (.int .i64 z) ∧ (decide (0 ≤ z) = L.contains x) ∧ (decide (z < 0) = !L.contains x) ∧ Ext w w' := by
  subst hm
  have HR := Lib.hid hR
  have HX := Lib.hid hx
  have HRL := Lib.hid hrl
  have HYES : Hid (∀ i, i < L.length → row L i = x → L.contains x = true) := fun i h1 h2 => contains_yes h1 h2
  have HNO := Lib.hid (@contains_no L x)
  obtain ⟨q, hq⟩ : ∃ q, L.contains x = q := ⟨_, rfl⟩
  rw [hq] at HYES HNO
  rw [hq]
  clear hR hx hq hrl
  go_enter Tryz.func178, Tryz.ntmps178
  go_wp2
  go_loopw [5] (fun z wr => ∃ e : Nat, e ≤ L.length ∧ z = .int .i64 e ∧ Hid (Ext w wr) ∧ Hid (∀ p, p < e → row L p ≠ x)) (fun z _ => L.length - (intOf z).toNat)
  case atStart => exact ⟨0, by omega, rfl, Ext.refl _, fun p h => by omega⟩
  case round =>
    obtain ⟨e, he, rfl, hE, hD⟩ := hrel
    by_cases hlt : e < L.length
    · have h1 := HR.out.ext hE.out
      obtain ⟨b, cb, hc, hrd⟩ := h1.2 e hlt
      have lg := h1.1
      have hltI : (e : Int) < (L.length : Int) := by omega
      have HSM := Lib.hid (l1Same_spec (some ⟨b, 0, none⟩) ax (row L e).length n cb cx (row L e) x wr hrd (HX.out.ext hE.out) (by have := HRL.out e hlt; omega) (by omega))
      have HD2 : Hid (row L e ≠ x → ∀ p, p < e + 1 → row L p ≠ x) := fun h p hp => by
        by_cases ep : p = e
        · subst ep; exact h
        · exact hD.out p (by omega)
      have HY := Lib.hid (HYES.out e hlt)
      clear h1 hrd hD
      rcases hs : sameB (row L e) x with _ | _
      · have HF := Lib.hid (HD2.out (of_decide_eq_false hs))
        rw [hs] at HSM
        go_wp2_with fail
        refine HSM.out.mono ?_
        rintro e' w' ⟨rfl, k9, rfl⟩
        go_wp2
        exact ⟨⟨e + 1, by omega, by simp, hE.out.drewN _, HF⟩, by simp [intOf]; omega⟩
      · have HF := Lib.hid (HY.out (of_decide_eq_true hs))
        rw [hs] at HSM
        go_wp2_with fail
        refine HSM.out.mono ?_
        rintro e' w' ⟨rfl, k9, rfl⟩
        go_wp2
        go_ret
        exact ⟨e, rfl, by rw [HF.out]; simp, by rw [HF.out]; exact decide_eq_false (by omega), hE.out.drewN _⟩
    · obtain rfl : e = L.length := by omega
      have HF := Lib.hid (HNO.out hD.out)
      go_wp2
      go_ret
      exact ⟨-1, rfl, by rw [HF.out]; rfl, by rw [HF.out]; rfl, hE.out⟩

set_option maxRecDepth 100000 in
set_option maxHeartbeats 400000 in
theorem containsList_1 (F b nb cb n cx : Nat) (ax : Option Addr) (y x : List Int) (w : World) (hF : Cells w F [.slice ax n cx]) (hy : Reads w (some ⟨b, 0, none⟩) nb y) (hx : Reads w ax n x) (hnb : nb ≤ 1024) (hn : n ≤ 1048576) :
    Calls Tryz.prog 202 #[.slice (some ⟨b, 0, none⟩) nb cb, .pointer (some ⟨F, 0, none⟩)] w fun e w' => e = .returned (.bool (sameB x y)) ∧ Ext w w' := by
  have lF := hF.1
  have f0 := hF.2 0 _ rfl
  have HE := Lib.hid (equal_fn ax (some ⟨b, 0, none⟩) n nb cx cb x y w hx hy (by omega) (by omega))
  clear hF hy hx
  go_enter Tryz.func202, Tryz.ntmps202
  go_wp2_with fail
  refine HE.out.mono ?_
  rintro e w2 ⟨rfl, k9, rfl⟩
  go_wp2
  go_ret
  exact ⟨rfl, (Ext.refl _).drewN _⟩
set_option maxRecDepth 100000 in
set_option maxHeartbeats 1600000 in
theorem indexRows (F g m c n cx : Nat) (ax : Option Addr) (L : List (List Int)) (x : List Int) (w : World) (hF : Cells w F [.slice ax n cx]) (hR : RdR w g L) (hm : L.length = m) (hmm : m ≤ 1024) (hrl : ∀ i, i < L.length → (row L i).length ≤ 1024) (hx : Reads w ax n x) (hn : n ≤ 1048576) :
    Calls Tryz.prog 171 #[.slice (some ⟨g, 0, none⟩) m c, .func (.func 202) #[] #[.pointer (some ⟨F, 0, none⟩)]] w fun e w' => ∃ z : Int, e = .returned (.int .i64 z) ∧ (decide (0 ≤ z) = L.contains x) ∧ Ext w w' := by
  subst hm
  have HR := Lib.hid hR
  have HX := Lib.hid hx
  have HRL := Lib.hid hrl
  have HF := Lib.hid hF
  have HYES : Hid (∀ i, i < L.length → row L i = x → L.contains x = true) := fun i h1 h2 => contains_yes h1 h2
  have HNO := Lib.hid (@contains_no L x)
  obtain ⟨q, hq⟩ : ∃ q, L.contains x = q := ⟨_, rfl⟩
  rw [hq] at HYES HNO
  rw [hq]
  clear hR hx hq hrl hF
  go_enter Tryz.func171, Tryz.ntmps171
  go_wp2_with fail
  go_loopw [8, 5] (fun z _ wr => ∃ e : Nat, e ≤ L.length ∧ z = .int .i64 e ∧ Hid (Ext w wr) ∧ Hid (∀ p, p < e → row L p ≠ x)) (fun z _ _ => L.length - (intOf z).toNat)
  case atStart => exact ⟨0, by omega, rfl, Ext.refl _, fun p h => by omega⟩
  case round =>
    obtain ⟨e, he, rfl, hE, hD⟩ := hrel
    by_cases hlt : e < L.length
    · have h1 := HR.out.ext hE.out
      obtain ⟨b, cb, hc, hrd⟩ := h1.2 e hlt
      have lg := h1.1
      have hltI : (e : Int) < (L.length : Int) := by omega
      have HSM := Lib.hid (containsList_1 F b (row L e).length cb n cx ax (row L e) x wr (HF.out.ext hE.out) hrd (HX.out.ext hE.out) (HRL.out e hlt) hn)
      have HD2 : Hid (row L e ≠ x → ∀ p, p < e + 1 → row L p ≠ x) := fun h p hp => by
        by_cases ep : p = e
        · subst ep; exact h
        · exact hD.out p (by omega)
      have HY := Lib.hid (HYES.out e hlt)
      clear h1 hrd hD
      rcases hs : sameB x (row L e) with _ | _
      · have HFF := Lib.hid (HD2.out (Ne.symm (of_decide_eq_false hs)))
        rw [hs] at HSM
        go_wp2_with fail
        refine HSM.out.mono ?_
        rintro e' w' ⟨rfl, hE2⟩
        go_wp2
        exact ⟨⟨e + 1, by omega, by simp, hE.out.trans hE2, HFF⟩, by simp [intOf]; omega⟩
      · have HFF := Lib.hid (HY.out (of_decide_eq_true hs).symm)
        rw [hs] at HSM
        go_wp2_with fail
        refine HSM.out.mono ?_
        rintro e' w' ⟨rfl, hE2⟩
        go_wp2
        go_ret
        exact ⟨e, rfl, by rw [HFF.out]; simp, hE.out.trans hE2⟩
    · obtain rfl : e = L.length := by omega
      have HFF := Lib.hid (HNO.out hD.out)
      go_wp2
      go_ret
      exact ⟨-1, rfl, by rw [HFF.out]; rfl, hE.out⟩
set_option maxRecDepth 100000 in
set_option maxHeartbeats 1600000 in
theorem containsRows (F g m c n cx : Nat) (ax : Option Addr) (L : List (List Int)) (x : List Int) (w : World) (hF : Cells w F [.slice ax n cx]) (hR : RdR w g L) (hm : L.length = m) (hmm : m ≤ 1024) (hrl : ∀ i, i < L.length → (row L i).length ≤ 1024) (hx : Reads w ax n x) (hn : n ≤ 1048576) :
    Calls Tryz.prog 117 #[.slice (some ⟨g, 0, none⟩) m c, .func (.func 202) #[] #[.pointer (some ⟨F, 0, none⟩)]] w fun e w' => e = .returned (.bool (L.contains x)) ∧ Ext w w' := by
  have HC := Lib.hid (indexRows F g m c n cx ax L x w hF hR hm hmm hrl hx hn)
  clear hF hR hrl hx
  go_enter Tryz.func117, Tryz.ntmps117
  go_wp2_with fail
  refine HC.out.mono ?_
  rintro e w2 ⟨z, rfl, hz, hE⟩
  have HZ := Lib.hid hz
  clear hz
  go_wp2
  go_ret
  exact ⟨ret_bool HZ.out, hE⟩
set_option maxRecDepth 100000 in
set_option maxHeartbeats 1600000 in
theorem containsList_impl (g m c n cx : Nat) (ax : Option Addr) (L : List (List Int)) (x : List Int) (w : World) (hR : RdR w g L) (hm : L.length = m) (hmm : m ≤ 1024) (hrl : ∀ i, i < L.length → (row L i).length ≤ 1024) (hx : Reads w ax n x) (hn : n ≤ 1048576) :
    Calls Tryz.prog 164 #[.slice (some ⟨g, 0, none⟩) m c, .slice ax n cx] w fun e w' => e = .returned (.bool (L.contains x)) ∧ Ext w w' := by
  have hmf : ∀ (fn : Fn) (first cap : Array Value) (w : World), (Instr.makeFunc fn first cap).run Tryz.prog w = .ok (.func fn first cap) w := fun _ _ _ _ => rfl
  have X0 := Lib.hid ((Ext.refl w).alloc (.cells #[.slice ax n cx] 22))
  have HC := Lib.hid (containsRows w.heap.size g m c n cx ax L x (w.alloc (.cells #[.slice ax n cx] 22)) (cells_new w #[.slice ax n cx] _) (hR.ext X0.out) hm hmm hrl (hx.ext X0.out) hn)
  obtain ⟨q, hq⟩ : ∃ q, L.contains x = q := ⟨_, rfl⟩
  rw [hq] at HC ⊢
  clear hR hrl hx hq
  go_enter Tryz.func164, Tryz.ntmps164
  go_wp2_with fail
  refine HC.out.mono ?_
  rintro e w2 ⟨rfl, hE⟩
  go_wp2
  go_ret
  exact ⟨rfl, X0.out.trans hE⟩
end Go.Proofs.YtlnpaplbcocmkaaGreat
