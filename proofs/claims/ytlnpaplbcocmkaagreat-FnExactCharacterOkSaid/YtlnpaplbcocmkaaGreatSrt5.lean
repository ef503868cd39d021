/-
  Roots sorted by the library.
-/
import Derived.Test.YtlnpaplbcocmkaaGreatCmp5
import Derived.Test.YtlnpaplbcocmkaaGreatShg
import Derived.Sort.Grow
namespace Go.Proofs.YtlnpaplbcocmkaaGreat
open Go.ChangeShapes Go.WideShapes Go.ChangeAt Go.RowKit
set_option linter.unusedVariables false
set_option linter.unusedSimpArgs false

/-- Rows that were appended one by one. -/
def RowsL (w : World) (base hi : Nat) (v : Value) (L : List (List Int)) : Prop := RowsS w base hi v (row L) L.length
section
open Go.Sort
variable {α : Type} [Inhabited α] {enc : α → Value}
theorem heap_sorted5 {w : World} {g n : Nat} {os : Array Obj} {cur : Array Value} {e : TypeId} {fr : Nat × Nat} (d : Array α) (hb : w.heap[g]? = some (.cells cur e fr)) :
    (grow (putRow enc (Sort.ahead w n) g 0 d) os).heap[g]? = some (.cells (putCells enc 0 d cur) e fr) := by
  have hg : g < w.heap.size := (Array.getElem?_eq_some_iff.1 hb).1
  rw [heap_grow_old _ _ (by simpa using hg)]
  simp [putRow, mapBlock, Sort.ahead, Array.getElem?_modify, hb, onCells]
theorem grownBy_sorted5 {w : World} {g n : Nat} {os : Array Obj} (d : Array α) : w.grownBy (grow (putRow enc (Sort.ahead w n) g 0 d) os) (some g) := by
  refine ⟨rfl, rfl, rfl, by simp, fun k hk hne => ?_⟩
  rw [heap_grow_old _ _ (by simpa using hk)]
  have : g ≠ k := fun e => hne (by rw [e])
  simp [putRow, mapBlock, Sort.ahead, Array.getElem?_modify, this]
theorem take_putCells5 (cur : Array Value) (d : Array α) (h : d.size ≤ cur.size) : (putCells enc 0 d cur).toList.take d.size = d.toList.map enc := by
  apply List.ext_getElem?
  intro j
  by_cases hj : j < d.size
  · rw [List.getElem?_take_of_lt hj, Array.getElem?_toList]
    simp [putCells, hj, show j < cur.size by omega]
  · rw [List.getElem?_take_eq_none (by omega), List.getElem?_eq_none (by simp; omega)]
end
theorem perm_range_lt {l : List Nat} {N : Nat} (h : l.Perm (List.range N)) {x : Nat} (hx : x ∈ l) : x < N := List.mem_range.1 (h.mem_iff.1 hx)
theorem map_row_range (L : List (List Int)) : (List.range L.length).map (row L) = L := by
  apply List.ext_getElem
  · simp
  · intro i h1 h2
    simp [row, List.getD_eq_getElem?_getD, h2]

set_option maxRecDepth 100000 in
set_option maxHeartbeats 1600000 in
theorem sort_rows (R base hi : Nat) (v : Value) (L M : List (List Int)) (w : World) (h : RowsL w base hi v L) (hh : hi ≤ w.heap.size) (h0 : 0 < L.length) (h9 : L.length ≤ 1024) (hR : R ≤ 1024) (hrow : ∀ x, x ∈ L → x.length = R ∧ ∀ e, -1000000 ≤ gi x e ∧ gi x e ≤ 1000000) (hM : M.Perm L) (hMs : M.Pairwise (fun a b => lessR b a = false)) :
    Calls Tryz.prog 65 #[v, .func (.func 165) #[] #[]] w fun e w' => e = .returned (.tuple #[]) ∧ w.grownBy w' v.ownBlock ∧ RowsP w' base v M := by
  obtain ⟨us, B, h1, h2, h3, h4⟩ := h
  obtain ⟨N, hN⟩ : ∃ N, L.length = N := ⟨_, rfl⟩
  rw [hN] at h1 h2 h3 h4 h0 h9
  rcases h1 with ⟨hl, ⟨e1, e2⟩ | ⟨g, cap, cur, rfl, hbase, hb, hn, hc, hcs, htk⟩⟩
  · omega
  have hg : g < w.heap.size := (Array.getElem?_eq_some_iff.1 hb).1
  rw [Nat.mul_one] at htk hcs
  let cl : Nat → Nat := fun i => min i (N - 1)
  have hcl : ∀ i, cl i < N := fun i => by show min i (N - 1) < N; omega
  have hcl2 : ∀ i, i < N → cl i = i := fun i hi => by show min i (N - 1) = i; omega
  let enc : Nat → Value := fun i => us.getD (cl i) (.slice none 0 0)
  have henc : ∀ i, ∃ c, enc i = .slice (some ⟨B (cl i), 0, none⟩) (row L (cl i)).length c ∧ Own w base hi (some ⟨B (cl i), 0, none⟩) (row L (cl i)).length (row L (cl i)) := fun i => by
    obtain ⟨c, x0, h6⟩ := h3 (cl i) (hcl i)
    exact ⟨c, by show us.getD (cl i) _ = _; rw [List.getD_eq_getElem?_getD, x0]; rfl, h6⟩
  have hOne : Go.Proofs.OneCell enc := fun x => by
    obtain ⟨c, e, _⟩ := henc x
    rw [e]; rfl
  let cf : Nat → Nat → Int := fun i j => cfR (row L (cl i)) (row L (cl j))
  have hlt : ∀ i j, Go.Proofs.ltOf cf i j = lessR (row L (cl i)) (row L (cl j)) := fun i j => cfR_less _ _
  have hlen : ∀ i, (row L (cl i)).length = R := fun i => (hrow _ (row_mem (by rw [hN]; exact hcl i))).1
  have hO : Go.Sort.SWO (Go.Proofs.ltOf cf) := ⟨fun x => by rw [hlt]; exact lessR_irrefl _, fun x y z a b => by rw [hlt] at *; exact lessR_trans a b, fun x y z a b => by rw [hlt] at *; exact lessR_ntrans (by rw [hlen, hlen]) (by rw [hlen, hlen]) a b⟩
  have hty : ∀ z, (some g : Option Nat) = some z → ∃ cur y, w.heap[z]? = some (.cells cur 22 y) := fun z hz => by
    injection hz with hz; subst hz; exact ⟨cur, _, hb⟩
  have eg : ∀ args w, (callFunc 165 args).run Tryz.prog w = .ok (.enter 165 args) w := enters_of Tryz.func165 (by kernel_rfl) rfl
  have hcmp : Go.Proofs.CmpLays1 Tryz.prog 165 #[] enc cf g 0 (Array.range N).size w := fun m os dk _ x y => by
    obtain ⟨c1, e1, o1⟩ := henc x
    obtain ⟨c2, e2, o2⟩ := henc y
    have hgw : w.grownBy (Go.Proofs.sortWorld enc w g 0 m dk os) (some g) := grownBy_sorted5 dk
    have p1 := (own_other o1 hgw hty).reads
    have p2 := (own_other o2 hgw hty).reads
    show Calls Tryz.prog 165 #[enc x, enc y] _ _
    rw [e1, e2]
    have hb1 := (hrow _ (row_mem (show cl x < L.length by rw [hN]; exact hcl x))).2
    have hb2 := (hrow _ (row_mem (show cl y < L.length by rw [hN]; exact hcl y))).2
    rw [hlen] at p1 p2 ⊢
    rw [hlen]
    refine (cmpRoots_fn R c1 c2 _ _ (row L (cl x)) (row L (cl y)) _ p1 p2 hR hb1 hb2).mono ?_
    rintro e w2 ⟨rfl, ob, rfl⟩
    exact ⟨rfl, 0, #[ob], by rw [Go.Sort.alloc_eq_grow]; rfl⟩
  have hH : Go.Sort.Holds enc w g 0 (Array.range N) := fun j hj => by
    have hj2 : j < N := by simpa using hj
    refine ⟨?_, frozen_of_row w g _ _ _ hb⟩
    rw [Nat.zero_add, cell_of_row w g j _ _ _ hb, ← Array.getElem?_toList]
    have e1 : (cur.toList.take N)[j]? = us[j]? := by rw [htk]
    rw [List.getElem?_take, if_pos hj2] at e1
    have e2 : (Array.range N)[j]! = j := by rw [getElem!_pos _ j hj]; simp
    rw [e1, e2]
    show _ = some (us.getD (cl j) _)
    rw [hcl2 j hj2, List.getD_eq_getElem?_getD, List.getElem?_eq_getElem (by omega)]
    rfl
  have hs := Tryz.sortRows_con enc hOne cf hO 165 #[] g 0 cap (Array.range N) w eg hcmp hH hg (by simp; omega)
  rw [show (Array.range N).size = N by simp] at hs
  refine hs.mono ?_
  rintro e w' ⟨rfl, d', n, os, hp, hsd, rfl⟩
  obtain ⟨hp1, _, hp3⟩ := hp
  have hsz : d'.size = N := by rw [hp1]; simp
  have hperm : d'.toList.Perm (List.range N) := by
    have e1 : d'.extract 0 N = d' := by rw [← hsz]; exact Array.extract_size
    have e2 : (Array.range N).extract 0 N = Array.range N := by
      have h8 : (Array.range N).size = N := by simp
      have h9 := Array.extract_size (xs := Array.range N)
      rwa [h8] at h9
    rw [e1, e2] at hp3
    simpa using hp3
  have hLp : (d'.toList.map (row L)).Perm L := by
    have := hperm.map (row L)
    rwa [← hN, map_row_range] at this
  have hpair : (d'.toList.map (row L)).Pairwise (fun a b => lessR b a = false) := by
    rw [List.pairwise_iff_getElem]
    intro i j hi hj hij
    have hi2 : i < N := by simpa [hsz] using hi
    have hj2 : j < N := by simpa [hsz] using hj
    have := hsd i j (Nat.zero_le _) hij hj2
    rw [hlt, getElem!_pos d' i (by omega), getElem!_pos d' j (by omega)] at this
    rw [hcl2 _ (perm_range_lt hperm (by simp)), hcl2 _ (perm_range_lt hperm (by simp))] at this
    simpa using this
  have hLM : d'.toList.map (row L) = M := sorted_one (R := R) _ _ (fun x hx => (hrow x (hLp.mem_iff.1 hx)).1) (hLp.trans hM.symm) hpair hMs
  have hML : M.length = N := by rw [← hLM]; simp [hsz]
  have hgw : w.grownBy (Go.Proofs.sortWorld enc w g 0 n d' os) (some g) := grownBy_sorted5 d'
  have hrM : ∀ i, i < N → row M i = row L (d'.toList.getD i 0) := fun i hi => by
    rw [← hLM]
    simp [row, List.getD_eq_getElem?_getD, hsz, hi]
  have hdi : ∀ i, i < N → d'.toList.getD i 0 < N := fun i hi => by
    rw [List.getD_eq_getElem?_getD, List.getElem?_eq_getElem (by simp [hsz, hi])]
    exact perm_range_lt hperm (List.getElem_mem _)
  refine ⟨rfl, hgw, d'.toList.map enc, fun i => B (d'.toList.getD i 0), ?_, by simp [hsz, hML], fun i hi => ?_, fun i j hi hj hne e => ?_⟩
  · rw [hML]
    refine ⟨by simp [hsz], .inr ⟨g, cap, _, rfl, hbase, heap_sorted5 d' hb, hn, hc, by simp [Go.Sort.putCells, hcs], ?_⟩⟩
    have := take_putCells5 (enc := enc) cur d' (by omega)
    rw [hsz] at this
    rw [Nat.mul_one]; exact this
  · have hi2 : i < N := by omega
    obtain ⟨c, e1, o1⟩ := henc (d'.toList.getD i 0)
    rw [hcl2 _ (hdi i hi2)] at e1 o1
    refine ⟨c, ?_, ?_⟩
    · rw [hrM i hi2, ← e1, List.getElem?_map, List.getElem?_eq_getElem (by simp [hsz, hi2])]
      simp [List.getD_eq_getElem?_getD, hsz, hi2]
    · rw [hrM i hi2]
      exact (own_other o1 hgw hty).mono (Nat.le_refl _) (Nat.le_trans hh hgw.size)
  · have hi2 : i < N := by omega
    have hj2 : j < N := by omega
    have hnd : d'.toList.Nodup := hperm.symm.nodup List.nodup_range
    have hne2 : d'.toList.getD i 0 ≠ d'.toList.getD j 0 := fun e => by
      rw [List.getD_eq_getElem?_getD, List.getD_eq_getElem?_getD, List.getElem?_eq_getElem (by simp [hsz, hi2]), List.getElem?_eq_getElem (by simp [hsz, hj2])] at e
      exact hne ((List.getElem_inj hnd).1 (by rw [Option.getD_some, Option.getD_some] at e; exact e))
    have e' : B (d'.toList.getD i 0) = B (d'.toList.getD j 0) := e
    rcases Nat.lt_or_gt_of_ne hne2 with h5 | h5
    · have := h4 _ _ h5 (hdi j hj2); omega
    · have := h4 _ _ h5 (hdi i hi2); omega
end Go.Proofs.YtlnpaplbcocmkaaGreat
