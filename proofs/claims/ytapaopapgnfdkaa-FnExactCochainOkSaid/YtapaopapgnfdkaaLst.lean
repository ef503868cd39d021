/-
  Rows listed one by one, each in new memory.
-/
import Derived.Test.YtapaopapgnfdkaaRwR
import Derived.Test.YtapaopapgnfdkaaMz
import Derived.Test.YtapaopapgnfdkaaBr
import Derived.Test.YtapaopapgnfdkaaRi
import Derived.Test.YtapaopapgnfdkaaPrQ
import Derived.Maps.AppendAt
import Derived.WalkSpells
namespace Go.Proofs.Ytapaopapgnfdkaa
open Go.ChangeShapes Go.WideShapes Go.ChangeAt Go.RowKit
set_option linter.unusedVariables false
set_option linter.unusedSimpArgs false

set_option maxHeartbeats 800000 in
theorem clone_fn (ad : Addr) (n c : Nat) (xs : List Int) (w : World) (hr0 : Reads w (some ad) n xs) (hn : n ≤ 1048576) :
    Calls Try.prog 215 #[.slice (some ad) n c] w (PInts w n xs) := by
  obtain ⟨i0, hi, hz0, hz1, hz2⟩ := info_parts Try.infoInt
  obtain ⟨hl, hr⟩ := hr0
  have own0 : (w.alloc (.cells #[] 3)).ownsRow w.heap.size 3 1 (.slice (some ⟨w.heap.size, 0, none⟩) 0 0) 0 [] := World.ownsRow_lit w #[] 0 (Nat.le_refl _) (by unfold maxLen; omega) (by simp)
  have hnews : ∀ (j : Nat) (u : Value), (xs.map (Value.int .i64))[j]? = some u → (w.alloc (.cells #[] 3)).cell? (ad.add j) = some u := by
    intro j u hu
    have hj : j < xs.length := by have := (List.getElem?_eq_some_iff.1 hu).1; simpa using this
    rcases hr with h | ⟨b, off, h, hb, hc⟩
    · omega
    · simp at h
      subst h
      have e : (⟨b, off, none⟩ : Addr).add j = ⟨b, off + j, none⟩ := add_plain ..
      rw [e, World.cell?_alloc_past _ _ _ hb, hc j (by omega)]
      simp [hj] at hu
      simp [gi, hj, hu]
  have hnil := Lib.run_eql_slice_nil (P := Try.prog) w 22 3 (some ad) n c 0 0 Try.underlying22
  go_enter Try.func215, Try.ntmps215
  go_wp2_with (at_builtin; refine wpList_append_own _ rfl _ _ 22 rfl w.heap.size 3 i0 (.int .i64 0) 1 8 Try.underlying22 hi hz0 hz1 hz2 rfl (by decide) _ 0 [] rfl own0 ad n _ (xs.map (Value.int .i64)) rfl ?c1 hnews ?c2 ?c3 ?c4 ?c5 ?_)
  case c1 => simpa using hl
  case c2 => intro u hu; obtain ⟨z, _, rfl⟩ := List.mem_map.1 hu; rfl
  case c3 => unfold maxLen; omega
  case c4 => omega
  case c5 => simp
  intro v' w1 ho hg hnil
  have hne : ¬ v' = .slice none 0 0 := hnil
  rcases ho.2 with ⟨h, _⟩ | ⟨g, cap, cur, h, _, _, hcap, _⟩
  · exact absurd h hne
  · subst h
    have hcp : Hid (n ≤ cap) := by simpa [Hid] using hcap
    clear hcap
    have hh := Lib.hid (Has.ofOwns ho)
    have hE : Hid (Ext w w1) := ((Ext.refl w).alloc _).grown hg (fun k hk => by simp [Value.ownBlock] at hk; omega)
    clear ho hg hnil hne
    go_wp2
    refine bodyPost_ret (v := .slice (some ⟨g, 0, none⟩) n cap) (by simp [results, Try.results215, go_sem]) rfl ?_
    have h3 := hh.out
    exact ⟨g, cap, rfl, h3.2.1, h3.1, hE.out, hcp.out⟩
theorem make_rows (n : Nat) (hn : n ≤ 1048576) (w : World) :
    (Instr.makeSlice 47 (.int .i64 (n : Int)) (.int .i64 (n : Int))).run Try.prog w = .ok (.slice (some ⟨w.heap.size, 0, none⟩) n n) (w.alloc (.cells (Array.replicate n (.slice none 0 0)) 22)) := by
  obtain ⟨i0, hi, hz0, hz1, hz2⟩ := info_parts Try.infoInts
  have h := run_make (P := Try.prog) w 47 22 i0 (.slice none 0 0) Try.underlying47 hi hz0 .i64 .i64 n n (by omega) (by omega) (by rw [hz2]; omega) (by omega)
  simp only [Int.toNat_natCast, hz1, Nat.mul_one] at h
  rw [h]
  have e : madeCells (Value.slice none 0 0).cells n = Array.replicate n (.slice none 0 0) := by
    apply Array.toList_inj.1
    rw [show (Value.slice none 0 0).cells = #[Value.slice none 0 0] from rfl, toList_madeCells_one]
    simp
  rw [e]
/-- A block of K rows, the first i of which are laid; the data lie in blocks one behind the other, from lo on, below hi. -/
def RowsB (w : World) (lo hi g K : Nat) (f : Nat → List Int) (i : Nat) : Prop := ∃ (cur : Array Value) (B C : Nat → Nat), w.heap[g]? = some (.cells cur 22 (0, 0)) ∧ cur.size = K ∧ (∀ j, j < i → cur[j]? = some (.slice (some ⟨B j, 0, none⟩) (f j).length (C j)) ∧ Own w lo hi (some ⟨B j, 0, none⟩) (f j).length (f j)) ∧ ∀ a b, a < b → b < i → B a < B b
section
variable {w w' : World} {lo hi g K i : Nat} {f : Nat → List Int}
theorem RowsB.lt (h : RowsB w lo hi g K f i) : g < w.heap.size := by obtain ⟨cur, B, C, h1, _⟩ := h; exact (Array.getElem?_eq_some_iff.1 h1).1
theorem RowsB.free (h : RowsB w lo hi g K f i) (j : Nat) : w.frozen? ⟨g, j, none⟩ = false := by obtain ⟨cur, B, C, h1, _⟩ := h; exact frozen_of_row w g j _ _ h1
theorem RowsB.cellAt (h : RowsB w lo hi g K f i) {j : Nat} (hj : j < K) : ∃ u, w.cell? ⟨g, j, none⟩ = some u := by
  obtain ⟨cur, B, C, h1, h2, _⟩ := h
  rw [cell_of_row w g j _ _ _ h1]
  exact ⟨cur[j]'(by omega), Array.getElem?_eq_getElem _⟩
theorem RowsB.ext (h : RowsB w lo hi g K f i) (hE : Ext w w') : RowsB w' lo hi g K f i := by
  obtain ⟨cur, B, C, h1, h2, h3, h4⟩ := h
  exact ⟨cur, B, C, by rw [hE.block g (Array.getElem?_eq_some_iff.1 h1).1]; exact h1, h2, fun j hj => ⟨(h3 j hj).1, (h3 j hj).2.ext hE⟩, h4⟩
theorem RowsB.mono {hi' : Nat} (h : RowsB w lo hi g K f i) (hh : hi ≤ hi') : RowsB w lo hi' g K f i := by
  obtain ⟨cur, B, C, h1, h2, h3, h4⟩ := h
  exact ⟨cur, B, C, h1, h2, fun j hj => ⟨(h3 j hj).1, (h3 j hj).2.mono (Nat.le_refl _) hh⟩, h4⟩
theorem RowsB.put (h : RowsB w lo hi g K f i) (hK : i < K) {b0 c : Nat} (hb : Has w b0 (f i)) (hlo : lo ≤ b0) (hh : hi ≤ b0) {hi' : Nat} (hi2 : b0 < hi') : RowsB (w.setCell ⟨g, i, none⟩ (.slice (some ⟨b0, 0, none⟩) (f i).length c)) lo hi' g K f (i + 1) := by
  obtain ⟨cur, B, C, h1, h2, h3, h4⟩ := h
  have hty : ∀ b xs, Has w b xs → b ≠ g := fun b xs ⟨r, hr, _⟩ e => by subst e; rw [hr] at h1; simp at h1
  refine ⟨cur.setIfInBounds i (.slice (some ⟨b0, 0, none⟩) (f i).length c), fun j => if j = i then b0 else B j, fun j => if j = i then c else C j, heap_setCell_same w g i _ _ _ h1, by simpa using h2, fun j hj => ?_, fun a b hab hbi => ?_⟩
  · rw [Array.getElem?_setIfInBounds]
    by_cases e : j = i
    · subst e
      rw [if_pos rfl, if_pos (by omega)]
      simp only [if_true]
      exact ⟨trivial, (hb.setOther (p := ⟨g, j, none⟩) (Ne.symm (hty _ _ hb)) _).own hlo hi2 rfl⟩
    · rw [if_neg (Ne.symm e)]
      simp only [if_neg e]
      obtain ⟨h5, h6⟩ := h3 j (by omega)
      refine ⟨h5, ?_⟩
      rcases h6 with ⟨h7, h8⟩
      rcases h8 with ⟨h8, _⟩ | ⟨b, hb8, h9, h10, h11⟩
      · simp at h8
      · exact ⟨h7, .inr ⟨b, hb8, h9, by omega, h11.setOther (p := ⟨g, i, none⟩) (Ne.symm (hty _ _ h11)) _⟩⟩
  · by_cases e : b = i
    · subst e
      simp only [if_neg (show ¬ a = b by omega), if_true]
      have := ((h3 a hab).2.blk (B a) rfl).2
      omega
    · simp only [if_neg e, if_neg (show ¬ a = i by omega)]
      exact h4 a b hab (by omega)
theorem rowsB_new (w : World) (lo hi K : Nat) (f : Nat → List Int) : RowsB (w.alloc (.cells (Array.replicate K (.slice none 0 0)) 22)) lo hi w.heap.size K f 0 :=
  ⟨_, fun _ => 0, fun _ => 0, heap_alloc_new w _, by simp, fun j hj => by omega, fun a b h1 h2 => by omega⟩
/-- The list as data. -/
def rowsF (f : Nat → List Int) (k : Nat) : List (List Int) := (List.range k).map f
theorem rowsF_length (k : Nat) : (rowsF f k).length = k := by simp [rowsF]
theorem row_rowsF {k : Nat} (hi : i < k) : row (rowsF f k) i = f i := by simp [row, rowsF, List.getD_eq_getElem?_getD, hi]
theorem RowsB.toR {lo' hi' : Nat} (h : RowsB w lo hi g K f K) (hg : lo' ≤ g) (hg2 : g < hi') (hlo : lo' ≤ lo) (hh : hi ≤ hi') (ht : (rowsF f K).flatten.length ≤ 1048576) : RowsR w lo' hi' (some ⟨g, 0, none⟩) K (rowsF f K) := by
  obtain ⟨cur, B, C, h1, h2, h3, h4⟩ := h
  refine ⟨rowsF_length K, ht, .inr ⟨g, cur, fun i => some ⟨B i, 0, none⟩, C, rfl, hg, hg2, h1, fun i hi => ?_, fun i j b hi hj hne e e9 => ?_⟩⟩
  · rw [row_rowsF hi]; exact ⟨(h3 i hi).1, (h3 i hi).2.mono hlo hh⟩
  · have e7 : B i = b := Option.some.inj e
    have e8 : B j = b := Option.some.inj e9
    rcases Nat.lt_or_gt_of_ne hne with h | h
    · have := h4 i j h hj; omega
    · have := h4 j i h hi; omega
/-- A slice of the call's own of k rows that was appended to; the data lie in blocks one behind the other, below hi. -/
def RowsS (w : World) (base hi : Nat) (v : Value) (f : Nat → List Int) (k : Nat) : Prop := ∃ (vs : List Value) (B : Nat → Nat), w.ownsRow base 22 1 v k vs ∧ vs.length = k ∧ (∀ i, i < k → ∃ c, vs[i]? = some (.slice (some ⟨B i, 0, none⟩) (f i).length c) ∧ Own w base hi (some ⟨B i, 0, none⟩) (f i).length (f i)) ∧ ∀ i j, i < j → j < k → B i < B j
theorem RowsS.blk {base k : Nat} {v : Value} (h : RowsS w base hi v f k) : ∀ z, v.ownBlock = some z → base ≤ z ∧ z < w.heap.size := by
  obtain ⟨vs, B, h, _⟩ := h
  exact World.ownsRow.lt h
theorem RowsS.ext {base k : Nat} {v : Value} (h : RowsS w base hi v f k) (hE : Ext w w') : RowsS w' base hi v f k := by
  obtain ⟨vs, B, h1, h2, h3, h4⟩ := h
  refine ⟨vs, B, ?_, h2, fun i hi => ?_, h4⟩
  · by_cases e : v.ownBlock = none
    · exact World.ownsRow.kept h1 (ext_grownBy hE none) (.inl e)
    · exact World.ownsRow.kept h1 (ext_grownBy hE none) (.inr e)
  · obtain ⟨c, x0, h6⟩ := h3 i hi
    exact ⟨c, x0, h6.ext hE⟩
theorem RowsS.mono {base k hi' : Nat} {v : Value} (h : RowsS w base hi v f k) (hh : hi ≤ hi') : RowsS w base hi' v f k := by
  obtain ⟨vs, B, h1, h2, h3, h4⟩ := h
  exact ⟨vs, B, h1, h2, fun i hi => by obtain ⟨c, x0, h6⟩ := h3 i hi; exact ⟨c, x0, h6.mono (Nat.le_refl _) hh⟩, h4⟩
theorem RowsS.shape {base k : Nat} {v : Value} (h : RowsS w base hi v f k) : ∃ a cap, v = .slice a k cap := by
  obtain ⟨vs, B, h1, h2, h3, _⟩ := h
  rcases h1.2 with ⟨e1, e2⟩ | ⟨g, cap, cur, e1, _⟩
  · exact ⟨none, 0, by rw [e1, e2]⟩
  · exact ⟨_, cap, e1⟩
theorem rowsS_lit (w : World) (base hi : Nat) (hb : base ≤ w.heap.size) : RowsS (w.alloc (.cells #[] 22)) base hi (.slice (some ⟨w.heap.size, 0, none⟩) 0 0) f 0 :=
  ⟨[], fun _ => 0, World.ownsRow_lit w #[] 0 hb (by unfold maxLen; omega) (by simp), rfl, fun i hi => by omega, fun i j h1 h2 => by omega⟩
theorem RowsS.toR {base k lo hi' : Nat} {v : Value} (h : RowsS w base hi v f k) (hlo : lo ≤ base) (hh : hi ≤ hi') (hsz : w.heap.size ≤ hi') (ht : (rowsF f k).flatten.length ≤ 1048576) : ∃ a c, v = .slice a k c ∧ RowsR w lo hi' a k (rowsF f k) := by
  obtain ⟨vs, B, h1, h2, h3, h4⟩ := h
  rcases h1.2 with ⟨e1, e2⟩ | ⟨g, cap, cur, e1, hb, hg, hn, hc, hcs, htk⟩
  · subst e2
    exact ⟨none, 0, e1, rowsF_length 0, ht, .inl rfl⟩
  · refine ⟨_, cap, e1, rowsF_length k, ht, .inr ⟨g, cur, fun i => some ⟨B i, 0, none⟩, fun i => ((vs[i]?).map fun | .slice _ _ c => c | _ => 0).getD 0, rfl, by omega, Nat.lt_of_lt_of_le (Array.getElem?_eq_some_iff.1 hg).1 hsz, hg, fun i hi => ?_, fun i j b hi hj hne e e9 => ?_⟩⟩
    · obtain ⟨c, x0, h6⟩ := h3 i hi
      rw [row_rowsF hi]
      refine ⟨?_, h6.mono hlo hh⟩
      simp only [x0, Option.map_some, Option.getD_some]
      rw [← Array.getElem?_toList]
      have : (cur.toList.take (k * 1))[i]? = vs[i]? := by rw [htk]
      rw [List.getElem?_take, if_pos (by omega)] at this
      rw [this, x0]
    · have e7 : B i = b := Option.some.inj e
      have e8 : B j = b := Option.some.inj e9
      rcases Nat.lt_or_gt_of_ne hne with h | h
      · have := h4 i j h hj; omega
      · have := h4 j i h hi; omega
end
/-- append of one row. -/
theorem wpList_appendRowS {w : World} {ops : Array Oper} {rest : List Oper} {o : Oper} {a : Act} {Q : Exit → Act → World → Prop} (hgd : o.guard = none) (s x : Operand)
    (ho : o.op = .call { callee := .builtin .append, args := #[s, x], argTypes := #[47, 47] })
    (base hi : Nat) (v : Value) (f : Nat → List Int) (k b0 c0 c g n0 : Nat) (hg0 : g = w.heap.size) (hn0 : (f k).length = n0) (hs : a.eval s = v) (hx : a.eval x = .slice (some ⟨g, 0, none⟩) 1 c) (hown : RowsS w base hi v f k) (hrow : Own w base w.heap.size (some ⟨b0, 0, none⟩) n0 (f k)) (hh : hi ≤ b0) (hb : k + 1 ≤ 1048577) (hbase : base ≤ w.heap.size)
    (h : ∀ v' w', RowsS w' base w.heap.size v' f (k + 1) → w.grownBy w' v.ownBlock → (v'.ownBlock = v.ownBlock ∨ v'.ownBlock = some (w.heap.size + 1)) → wpList Try.prog ops Q rest (a.put o.dst v') w') : wpList Try.prog ops Q (o :: rest) a (w.alloc (.cells #[.slice (some ⟨b0, 0, none⟩) n0 c0] 22)) := by
  subst hg0 hn0
  obtain ⟨i0, hi0, hz0, hz1, hz2⟩ := info_parts Try.infoInts
  have hb0 : b0 < w.heap.size := (hrow.blk b0 rfl).2
  obtain ⟨vs, B, h1, h2, h3, h4⟩ := RowsS.ext hown ((Ext.refl w).alloc (.cells #[.slice (some ⟨b0, 0, none⟩) (f k).length c0] 22))
  have hrow2 := hrow.ext ((Ext.refl w).alloc (.cells #[.slice (some ⟨b0, 0, none⟩) (f k).length c0] 22))
  refine Go.wpList_append_own_at _ hgd s x 47 ho base 22 i0 (.slice none 0 0) 1 24 Try.underlying47 hi0 hz0 hz1 hz2 rfl (by decide) v k vs hs h1 ⟨w.heap.size, 0, none⟩ 1 c [.slice (some ⟨b0, 0, none⟩) (f k).length c0] hx rfl (fun j u hu => ?_) (fun u hu => by simp at hu; subst hu; rfl) (by unfold maxLen; omega) (by omega) (by simp; omega) (fun v' w' g1 g2 _ g3 => h v' w' ?_ (grownBy_alloc g2) (by simpa using g3))
  · obtain rfl : j = 0 := by have := (List.getElem?_eq_some_iff.1 hu).1; simp at this; omega
    simp at hu
    subst hu
    rw [show (⟨w.heap.size, 0, none⟩ : Addr).add 0 = ⟨w.heap.size, 0, none⟩ from rfl, World.cell?_alloc_at _ _ _ _ rfl]
    rfl
  · have hty : ∀ z, v.ownBlock = some z → ∃ cur y, (w.alloc (.cells #[.slice (some ⟨b0, 0, none⟩) (f k).length c0] 22)).heap[z]? = some (.cells cur 22 y) := by
      intro z hz
      rcases h1.2 with ⟨e1, _⟩ | ⟨g, cap, cur, e1, _, hg, _⟩
      · subst e1; simp [Value.ownBlock] at hz
      · subst e1
        simp [Value.ownBlock] at hz
        subst hz
        exact ⟨cur, _, hg⟩
    have hbl : ∀ i, i < k → B i < hi := fun i hi => by obtain ⟨c, x0, h6⟩ := h3 i hi; exact (h6.blk (B i) rfl).2
    refine ⟨vs ++ [.slice (some ⟨b0, 0, none⟩) (f k).length c0], fun i => if i = k then b0 else B i, by simpa using g1, by simp [h2], fun i hi => ?_, fun i j hij hj => ?_⟩
    · by_cases e : i < k
      · obtain ⟨c', y0, h6⟩ := h3 i e
        refine ⟨c', ?_, ?_⟩
        · rw [List.getElem?_append_left (by omega)]; simp only [if_neg (show ¬ i = k by omega)]; exact y0
        · simp only [if_neg (show ¬ i = k by omega)]; exact (own_other h6 g2 hty).mono (Nat.le_refl _) (by omega)
      · obtain rfl : i = k := by omega
        refine ⟨c0, ?_, ?_⟩
        · rw [List.getElem?_append_right (by omega)]; simp [h2]
        · simp only [if_true]; exact own_other hrow2 g2 hty
    · by_cases e : j = k
      · subst e
        simp only [if_neg (show ¬ i = j by omega), if_true]
        have := hbl i hij; omega
      · simp only [if_neg e, if_neg (show ¬ i = k by omega)]
        exact h4 i j hij (by omega)

theorem rowsF_bound (xs : List Int) (C K m : Nat) (hm : C ≤ m) (hl : xs.length = K * C) : (rowsF (rowL C xs) K).flatten.length ≤ K * m := by
  have : ∀ L : List (List Int), (∀ x, x ∈ L → x.length ≤ m) → L.flatten.length ≤ L.length * m := by
    intro L
    induction L with
    | nil => intro _; simp
    | cons x L ih =>
      intro h
      have h1 := h x (by simp)
      have h2 := ih (fun y hy => h y (by simp [hy]))
      simp only [List.flatten_cons, List.length_append, List.length_cons, Nat.add_mul, Nat.one_mul]
      omega
  have h3 := this (rowsF (rowL C xs) K) (fun x hx => by
    simp only [rowsF, List.mem_map, List.mem_range] at hx
    obtain ⟨i, hi, rfl⟩ := hx
    rw [rowL_length hl hi]; exact hm)
  rwa [rowsF_length] at h3
set_option maxRecDepth 100000 in
set_option maxHeartbeats 3200000 in
theorem listRows_impl (P : Int) (K C b0 cc : Nat) (xs : List Int) (w : World) (hr : Has w b0 xs) (hl : xs.length = K * C) (hK : K ≤ 1024) (hC : C ≤ 1024) (hKC : K * C ≤ 1048576) (hcc : K * C ≤ cc) (hcc2 : cc ≤ maxLen) :
    Calls Try.prog 168 #[.agg #[.int .i64 P, .int .i64 (K : Nat), .int .i64 C, .slice (some ⟨b0, 0, none⟩) (K * C) cc]] w fun e w' => ∃ g, e = .returned (.slice (some ⟨g, 0, none⟩) K K) ∧ w.heap.size ≤ g ∧ RowsB w' (w.heap.size + 1) w'.heap.size g K (rowL C xs) K ∧ g < w'.heap.size ∧ Ext w w' := by
  have HR := Lib.hid hr
  have HL := Lib.hid hl
  have hmk := fun w => make_rows K (by omega) w
  clear hr hl
  go_enter Try.func168, Try.ntmps168
  have A0_1 := Lib.hid (cells_new' w #[.int .i64 P, .int .i64 (K : Nat), .int .i64 C, .slice (some ⟨b0, 0, none⟩) (K * C) cc] 40 (w.heap.size) (by simp))
  have E_2 := Lib.hid ((Ext.refl w).alloc (.cells #[.int .i64 P, .int .i64 (K : Nat), .int .i64 C, .slice (some ⟨b0, 0, none⟩) (K * C) cc] 40))
  have lA0 := A0_1.out.1
  have qA00 := A0_1.out.2 0 _ rfl
  have qA01 := A0_1.out.2 1 _ rfl
  have qA02 := A0_1.out.2 2 _ rfl
  have qA03 := A0_1.out.2 3 _ rfl
  try simp only [World.size_alloc] at lA0
  go_wp2_with fail
  clear hmk
  have G0 : Hid (RowsB (((w.alloc (.cells #[.int .i64 P, .int .i64 (K : Nat), .int .i64 C, .slice (some ⟨b0, 0, none⟩) (K * C) cc] 40))).alloc (.cells (Array.replicate K (.slice none 0 0)) 22)) (w.heap.size + 1) (w.heap.size + 1) (w.heap.size + 1) K (rowL C xs) 0) := by
    have := rowsB_new (w.alloc (.cells #[.int .i64 P, .int .i64 (K : Nat), .int .i64 C, .slice (some ⟨b0, 0, none⟩) (K * C) cc] 40)) (w.heap.size + 1) (w.heap.size + 1) K (rowL C xs)
    rw [Hid]; simpa using this
  have EA := Lib.hid (E_2.out.alloc (.cells (Array.replicate K (.slice none 0 0)) 22))
  have AA := Lib.hid (A0_1.out.ext ((Ext.refl _).alloc (.cells (Array.replicate K (.slice none 0 0)) 22)))
  clear E_2 A0_1
  generalize hW1 : (((w.alloc (.cells #[.int .i64 P, .int .i64 (K : Nat), .int .i64 C, .slice (some ⟨b0, 0, none⟩) (K * C) cc] 40))).alloc (.cells (Array.replicate K (.slice none 0 0)) 22)) = W1 at *
  have hs1 : Hid (W1.heap.size = w.heap.size + 2) := by rw [Hid, ← hW1]; simp
  clear hW1 lA0 qA00 qA01 qA02 qA03
  go_loopw [10, 4] (fun z _ wr => ∃ i : Nat, i ≤ K ∧ z = .int .i64 i ∧ Hid (RowsB wr (w.heap.size + 1) wr.heap.size (w.heap.size + 1) K (rowL C xs) i) ∧ Hid (Cells wr w.heap.size [.int .i64 P, .int .i64 (K : Nat), .int .i64 C, .slice (some ⟨b0, 0, none⟩) (K * C) cc]) ∧ Hid (Ext w wr) ∧ Hid (w.heap.size + 1 < wr.heap.size)) (fun z _ _ => K - (intOf z).toNat)
  case atStart => exact ⟨0, by omega, rfl, G0.out.mono (by have := hs1.out; omega), AA, EA, by have := hs1.out; show _ < _; omega⟩
  case round =>
    clear G0 AA EA
    obtain ⟨i, hi, rfl, hG, hA, hE, hz⟩ := hrel
    by_cases hlt : i < K
    · have lA := hA.out.1
      have q0 := hA.out.2 0 _ rfl
      have q1 := hA.out.2 1 _ rfl
      have q2 := hA.out.2 2 _ rfl
      have q3 := hA.out.2 3 _ rfl
      have hrow := Nat.mul_le_mul_right C (show i + 1 ≤ K by omega)
      have HRW := Lib.hid hrow
      have HRR : Hid (Reads w (some ⟨b0, i * C, none⟩) C (rowL C xs i)) := by
        have h9 := reads_row (HR.out.reads HL.out) rfl hlt
        rw [Nat.zero_add] at h9
        exact h9
      have HLR : Hid ((rowL C xs i).length = C) := rowL_length HL.out hlt
      clear hrow
      go_wp2_with fail
      refine (rowOf_gen P K C i b0 0 (K * C) cc _ HRW.out hKC (by omega) hcc hcc2).mono ?_
      rintro e w2 ⟨rfl, h2⟩
      have hG2 := Lib.hid (hG.out.ext h2)
      have hA2 := Lib.hid (hA.out.ext h2)
      have hE2 := Lib.hid (hE.out.trans h2)
      have hsz := h2.le
      clear lA q0 q1 q2 q3 hG hA hE h2
      go_wp2_with fail
      refine (clone_fn ⟨b0, i * C, none⟩ C _ (rowL C xs i) _ (HRR.out.ext hE2.out) (by omega)).mono ?_
      rintro e w3 ⟨b3, c3, rfl, hb3, hh3, h3, hcc3⟩
      have hG3 := Lib.hid (hG2.out.ext h3)
      have hA3 := Lib.hid (hA2.out.ext h3)
      have hE3 := Lib.hid (hE2.out.trans h3)
      have hsz3 := h3.le
      have hlt3 := hh3.lt
      have hZ := hz.out
      obtain ⟨u9, hu9⟩ := hG3.out.cellAt hlt
      have hf9 := hG3.out.free i
      have lG := hG3.out.lt
      have hP := hG3.out.put hlt (c := c3) hh3 (by omega) (by omega) hlt3
      rw [HLR.out] at hP
      have HP := Lib.hid hP
      have hA4 := Lib.hid (hA3.out.grown (grownBy_set (p := ⟨w.heap.size + 1, i, none⟩) (grownBy_refl _ (some (w.heap.size + 1))) rfl (.slice (some ⟨b3, 0, none⟩) C c3)) (fun k hk => by simp at hk; omega))
      have hE4 := Lib.hid (hE3.out.setCell (p := ⟨w.heap.size + 1, i, none⟩) (by simp) (.slice (some ⟨b3, 0, none⟩) C c3))
      clear hP hh3 h3 hG2 hA2 hE2 hG3 hA3 hE3 hb3 hcc3
      go_wp2
      exact ⟨⟨i + 1, by omega, by simp, HP.out.mono (by simp), hA4, hE4, by show _ < _; simp; omega⟩, by simp [intOf]; omega⟩
    · obtain rfl : K = i := by omega
      go_wp2
      go_ret
      exact ⟨w.heap.size + 1, rfl, by omega, hG.out, hz.out, hE.out⟩

set_option maxRecDepth 100000 in
set_option maxHeartbeats 3200000 in
theorem l3Lists_spec (P : Int) (K C b0 cc : Nat) (xs : List Int) (w : World) (hr : Has w b0 xs) (hl : xs.length = K * C) (hK : K ≤ 1024) (hC : C ≤ 1024) (hKC : K * C ≤ 1048576) (hcc : K * C ≤ cc) :
    Calls Try.prog 90 #[.agg #[.int .i64 P, .int .i64 (K : Nat), .int .i64 C, .slice (some ⟨b0, 0, none⟩) (K * C) cc]] w fun e w' => ∃ v, e = .returned v ∧ RowsS w' w.heap.size w'.heap.size v (rowL C xs) K ∧ Ext w w' := by
  have HR := Lib.hid hr
  have HL := Lib.hid hl
  clear hr hl
  go_enter Try.func90, Try.ntmps90
  have A0_1 := Lib.hid (cells_new' w #[.int .i64 P, .int .i64 (K : Nat), .int .i64 C, .slice (some ⟨b0, 0, none⟩) (K * C) cc] 40 (w.heap.size) (by simp))
  have E_2 := Lib.hid ((Ext.refl w).alloc (.cells #[.int .i64 P, .int .i64 (K : Nat), .int .i64 C, .slice (some ⟨b0, 0, none⟩) (K * C) cc] 40))
  have G0 : Hid (RowsS (((w.alloc (.cells #[.int .i64 P, .int .i64 (K : Nat), .int .i64 C, .slice (some ⟨b0, 0, none⟩) (K * C) cc] 40))).alloc (.cells #[] 22)) w.heap.size (w.heap.size + 1) (.slice (some ⟨w.heap.size + 1, 0, none⟩) 0 0) (rowL C xs) 0) := by
    have := rowsS_lit (f := rowL C xs) (w.alloc (.cells #[.int .i64 P, .int .i64 (K : Nat), .int .i64 C, .slice (some ⟨b0, 0, none⟩) (K * C) cc] 40)) w.heap.size (w.heap.size + 1) (by simp)
    rw [Hid]; simpa using this
  have EA := Lib.hid (E_2.out.alloc (.cells #[] 22))
  have AA := Lib.hid (A0_1.out.ext ((Ext.refl _).alloc (.cells #[] 22)))
  clear E_2 A0_1
  go_wp2_with fail
  generalize hW1 : (((w.alloc (.cells #[.int .i64 P, .int .i64 (K : Nat), .int .i64 C, .slice (some ⟨b0, 0, none⟩) (K * C) cc] 40))).alloc (.cells #[] 22)) = W1 at *
  have hs1 : Hid (W1.heap.size = w.heap.size + 2) := by rw [Hid, ← hW1]; simp
  clear hW1
  go_loopw [3, 4] (fun z x wr => ∃ (i cv : Nat) (va : Option Addr), i ≤ K ∧ x = .int .i64 i ∧ z = .slice va i cv ∧ Hid (RowsS wr w.heap.size wr.heap.size (.slice va i cv) (rowL C xs) i) ∧ Hid (Cells wr w.heap.size [.int .i64 P, .int .i64 (K : Nat), .int .i64 C, .slice (some ⟨b0, 0, none⟩) (K * C) cc]) ∧ Hid (∀ z, (Value.slice va i cv).ownBlock = some z → w.heap.size < z) ∧ Hid (Ext w wr)) (fun _ x _ => K - (intOf x).toNat)
  case atStart => exact ⟨0, 0, _, by omega, rfl, rfl, G0.out.mono (by have := hs1.out; omega), AA, Lib.hid (fun z hz => by simp [Value.ownBlock] at hz; omega), EA⟩
  case round =>
    clear G0 AA EA
    obtain ⟨i, cv, va, hi, rfl, rfl, hG, hA, hne, hE⟩ := hrel
    have lA := hA.out.1
    have q0 := hA.out.2 0 _ rfl
    have q1 := hA.out.2 1 _ rfl
    have q2 := hA.out.2 2 _ rfl
    have q3 := hA.out.2 3 _ rfl
    by_cases hlt : i < K
    · have hrow := Nat.mul_le_mul_right C (show i + 1 ≤ K by omega)
      have HRW := Lib.hid hrow
      have HRR : Hid (Reads w (some ⟨b0, i * C, none⟩) C (rowL C xs i)) := by
        have h9 := reads_row (HR.out.reads HL.out) rfl hlt
        rw [Nat.zero_add] at h9
        exact h9
      have HLR : Hid ((rowL C xs i).length = C) := rowL_length HL.out hlt
      clear hrow
      go_wp2_with fail
      refine (l1RowQ_spec P K C i b0 0 (K * C) cc _ HRW.out hKC (by omega) hcc).mono ?_
      rintro e w2 ⟨rfl, h2⟩
      have hG2 := Lib.hid (hG.out.ext h2)
      have hA2 := Lib.hid (hA.out.ext h2)
      have hE2 := Lib.hid (hE.out.trans h2)
      have hsz := h2.le
      have hle2 := hE2.out.le
      have hvw : Hid (∀ z, (Value.slice va i cv).ownBlock = some z → w.heap.size < z ∧ z < wr.heap.size) := fun z hz => ⟨hne.out z hz, (hG.out.blk z hz).2⟩
      clear lA q0 q1 q2 q3 hG hA hE h2 hne
      go_wp2_with fail
      refine (l1Ints_spec (some ⟨b0, i * C, none⟩) C _ (rowL C xs i) _ (HRR.out.ext hE2.out) (by omega) (by simp)).mono ?_
      rintro e w3 ⟨b3, c3, rfl, hb3, hh3, h3, hcc3⟩
      have hG3 := Lib.hid (hG2.out.ext h3)
      have hA3 := Lib.hid (hA2.out.ext h3)
      have hE3 := Lib.hid (hE2.out.trans h3)
      have hsz3 := h3.le
      have hle3 := hE3.out.le
      have HROW : Hid (Own w3 w.heap.size w3.heap.size (some ⟨b3, 0, none⟩) C (rowL C xs i)) := by rw [Hid]; exact hh3.own (by omega) hh3.lt HLR.out
      have hbb : wr.heap.size ≤ b3 := by omega
      clear h3 hG2 hA2 hE2 hb3 hcc3 hh3
      go_wp2_with (at_builtin; refine wpList_appendRowS rfl (.tmp 12) (.tmp 17) rfl w.heap.size wr.heap.size (.slice va i cv) (rowL C xs) i b3 c3 1 w3.heap.size C rfl HLR.out rfl rfl hG3.out HROW.out hbb (by omega) hle3 ?_; intro v5 w5 hG5 hg5 hat; obtain ⟨a5, c5, hv5⟩ := hG5.shape; subst hv5; have HG5 := Lib.hid hG5; have HGR := Lib.hid hg5; have HAT := Lib.hid hat; clear hG5 hg5 hat)
      have hgs := HGR.out.size
      have A5 := Lib.hid (hA3.out.grown HGR.out (fun k hk => by have := hvw.out k hk; omega))
      have E5 := Lib.hid (hE3.out.grown HGR.out (fun k hk => by have := hvw.out k hk; omega))
      have NE5 : Hid (∀ z, (Value.slice a5 (i + 1) c5).ownBlock = some z → w.heap.size < z) := fun z hz => by
        rcases HAT.out with e9 | e9
        · rw [e9] at hz; exact (hvw.out z hz).1
        · rw [e9] at hz; simp at hz; omega
      exact ⟨⟨i + 1, c5, a5, by omega, by simp, rfl, HG5.out.mono hgs, A5, NE5, E5⟩, by simp [intOf]; omega⟩
    · obtain rfl : K = i := by omega
      go_wp2
      go_ret
      exact ⟨_, rfl, hG.out, hE.out⟩
end Go.Proofs.Ytapaopapgnfdkaa
