/-
  Two lists put one after the other by the library; the numbers of a wrapped Cartan matrix.
-/
import Derived.Test.YtlnpaplbcocmkaaGreatFmt
import Derived.Laws.AppendOwnNone
namespace Go.Proofs.YtlnpaplbcocmkaaGreat
open Go.ChangeShapes Go.WideShapes Go.ChangeAt Go.RowKit
set_option linter.unusedVariables false
set_option linter.unusedSimpArgs false

set_option maxRecDepth 100000 in
set_option maxHeartbeats 1600000 in
theorem grow_nil (n : Nat) (h0 : 0 < n) (hn : n ≤ 8) (w : World) : Calls Tryz.prog 174 #[.slice none 0 0, .int .i64 n] w fun e w' => ∃ g c, e = .returned (.slice (some ⟨g, 0, none⟩) 0 c) ∧ w'.ownsRow w.heap.size 3 1 (.slice (some ⟨g, 0, none⟩) 0 c) 0 [] ∧ Ext w w' := by
  obtain ⟨i0, hi0, hz0, hz1, hz2⟩ := info_parts Tryz.infoInt
  have hb8 : Tryz.t3.bytes = 8 := rfl
  have hk1 : ¬ (281474976710656 < (n : Int) * (Tryz.t3.bytes : Int)) := by rw [hb8]; omega
  have hk2 : ¬ (281474976710656 < Builtin.nextslicecap n 0 * Tryz.t3.bytes) := by rw [nextslicecap_zero h0, hb8]; omega
  have hk3 : ¬ n = 0 := by omega
  clear hb8
  go_enter Tryz.func174, Tryz.ntmps174
  go_wp2_with fail
  go_ret
  have h1 := grownCap_ge w n 0 3
  have h2 := grownCap_le_maxLen w n 0 3 (by unfold maxLen; omega)
  refine ⟨w.heap.size, _, rfl, ⟨by simp, .inr ⟨w.heap.size, grownCap w n 0 3, _, rfl, Nat.le_refl _, (heap_alloc_new w _), by omega, h2, ?_, by simp⟩⟩, ((Ext.refl w).alloc _).drew⟩
  simp [size_zeroCells]
  unfold grownCap at h1 ⊢
  omega

theorem reads_newsO {w : World} {b off n : Nat} {ys : List Int} (hr : Reads w (some ⟨b, off, none⟩) n ys) : ∀ (j : Nat) (u : Value), (ys.map (Value.int .i64))[j]? = some u → w.cell? ((⟨b, off, none⟩ : Addr).add j) = some u := by
  intro j u hu
  have hj : j < ys.length := by have := (List.getElem?_eq_some_iff.1 hu).1; simpa using this
  have hl := hr.1
  rcases hr.2 with h | ⟨b2, off2, h, hb2, hc2⟩
  · omega
  · simp at h
    obtain ⟨rfl, rfl⟩ := h
    rw [add_plain, hc2 j (by omega)]
    simp [hj] at hu
    simp [gi, hj, hu]
/-- What every slice is: as long as it holds, and of no room where it has no address. -/
def SlcOk (a : Option Addr) (n c : Nat) : Prop := n ≤ c ∧ c ≤ maxLen ∧ (a = none → c = 0)
/-- An address that is none only where the length is 0. -/
def Plain (a : Option Addr) (n : Nat) : Prop := (a = none ∧ n = 0) ∨ ∃ b off, a = some ⟨b, off, none⟩
theorem Plain.ofOwn {w : World} {lo hi n : Nat} {a : Option Addr} {xs : List Int} (h : Own w lo hi a n xs) : Plain a n := by
  rcases h.2 with h | ⟨b, rfl, _⟩
  · exact .inl h
  · exact .inr ⟨b, 0, rfl⟩
theorem Plain.ofReads {w : World} {n : Nat} {a : Option Addr} {xs : List Int} (h : Reads w a n xs) (h0 : 0 < n) : Plain a n := by
  rcases h.2 with h | ⟨b, off, rfl, _⟩
  · omega
  · exact .inr ⟨b, off, rfl⟩
set_option maxRecDepth 100000 in
set_option maxHeartbeats 3200000 in
theorem concat_any (g m n c1 c2 cg : Nat) (a1 a2 : Option Addr) (xs ys : List Int) (w : World) (q0 : w.cell? ⟨g, 0, none⟩ = some (.slice a1 m c1)) (q1 : w.cell? ⟨g, 1, none⟩ = some (.slice a2 n c2)) (hg : g < w.heap.size) (hr1 : Reads w a1 m xs) (hr2 : Reads w a2 n ys) (hp1 : Plain a1 m) (hp2 : Plain a2 n) (hm : m + n ≤ 8) (hcg : 2 ≤ cg) (hnil1 : a1 = none → c1 = 0) (hnil2 : a2 = none → c2 = 0) :
    Calls Tryz.prog 127 #[.slice (some ⟨g, 0, none⟩) 2 cg] w fun e w' => ∃ a c, e = .returned (.slice a (m + n) c) ∧ Own w' w.heap.size w'.heap.size a (m + n) (xs ++ ys) ∧ SlcOk a (m + n) c ∧ Ext w w' := by
  obtain ⟨i0, hi0, hz0, hz1, hz2⟩ := info_parts Tryz.infoInt
  have HR1 := Lib.hid hr1
  have HR2 := Lib.hid hr2
  have HM : Hid (xs.length = m) := hr1.1
  have HO : Hid (ys.length = n) := hr2.1
  have HP1 := Lib.hid hp1
  have HP2 := Lib.hid hp2
  have HN1 := Lib.hid hnil1
  have HN2 := Lib.hid hnil2
  have HQ : Hid ((∀ w', Ext w w' → w'.cell? ⟨g, 0, none⟩ = some (.slice a1 m c1)) ∧ ∀ w', Ext w w' → w'.cell? ⟨g, 1, none⟩ = some (.slice a2 n c2)) :=
    ⟨fun w' h => by rw [World.cell?_of_block (a := ⟨g, 0, none⟩) (h.block g hg)]; exact q0, fun w' h => by rw [World.cell?_of_block (a := ⟨g, 1, none⟩) (h.block g hg)]; exact q1⟩
  have hmz : ¬ ((m : Int) < 0) := by omega
  have hmz1 : ¬ ((m : Int) + (n : Int) < 0) := by omega
  have hm8 : m ≤ 8 := by omega
  have hn8 : n ≤ 8 := by omega
  clear hr1 hr2 hp1 hp2 hnil1 hnil2
  go_enter Tryz.func127, Tryz.ntmps127
  go_wp2_with fail
  go_loopw [11, 3, 5] (fun z s _ wr => ∃ i : Nat, z = .int .i64 i ∧ wr = w ∧ ((i = 0 ∧ s = .int .i64 0) ∨ (i = 1 ∧ s = .int .i64 m) ∨ (i = 2 ∧ s = .int .i64 ((m : Int) + (n : Int))))) (fun z _ _ _ => 2 - (intOf z).toNat)
  case atStart => exact ⟨0, rfl, rfl, .inl ⟨rfl, rfl⟩⟩
  case round =>
    obtain ⟨i, rfl, rfl, hs⟩ := hrel
    rcases hs with ⟨rfl, rfl⟩ | ⟨rfl, rfl⟩ | ⟨rfl, rfl⟩
    · go_wp2
      exact ⟨⟨1, by simp, by first | rfl | trivial, .inr (.inl ⟨rfl, by simp⟩)⟩, by simp [intOf]⟩
    · go_wp2
      exact ⟨⟨2, by simp, by first | rfl | trivial, .inr (.inr ⟨rfl, by simp⟩)⟩, by simp [intOf]⟩
    · clear q0 q1
      have HGR : Hid (Calls Tryz.prog 174 #[.slice none 0 0, .int .i64 ((m : Int) + (n : Int))] wr fun e w' => ∃ v, e = .returned v ∧ w'.ownsRow wr.heap.size 3 1 v 0 [] ∧ Ext wr w') := by
        by_cases h0 : m + n = 0
        · have e : (m : Int) + (n : Int) = 0 := by omega
          rw [e]
          clear h0 e
          go_enter Tryz.func174, Tryz.ntmps174
          go_wp2_with fail
          go_ret
          exact ⟨_, rfl, ⟨by simp, .inl ⟨rfl, rfl⟩⟩, by first | exact Ext.refl _ | exact (Ext.refl _).drew⟩
        · have h := grow_nil (m + n) (by omega) (by omega) wr
          rw [show ((m + n : Nat) : Int) = (m : Int) + (n : Int) by simp] at h
          exact h.mono (fun e w' ⟨g, c, h1, h2, h3⟩ => ⟨_, h1, h2, h3⟩)
      go_wp2_with fail
      refine HGR.out.mono ?_
      rintro e w2 ⟨v2, rfl, hown, hE2⟩
      have HV2 := Lib.hid hown
      have HE2 := Lib.hid hE2
      clear hown hE2 HGR
      obtain ⟨w, hw⟩ : ∃ wq : World, wq = wr := ⟨_, rfl⟩
      subst hw
      go_wp2_with fail
      go_loopw [27, 6, 8] (fun z v _ wr => ∃ i : Nat, i ≤ 2 ∧ z = .int .i64 i ∧ Hid (Ext w wr) ∧ ((i = 0 ∧ Hid (wr.ownsRow w.heap.size 3 1 v 0 (([] : List Int).map (Value.int .i64)))) ∨ (i = 1 ∧ Hid (wr.ownsRow w.heap.size 3 1 v m (xs.map (Value.int .i64)))) ∨ (i = 2 ∧ Hid (wr.ownsRow w.heap.size 3 1 v (m + n) ((xs ++ ys).map (Value.int .i64)))))) (fun z _ _ _ => 2 - (intOf z).toNat)
      case atStart => exact ⟨0, by omega, rfl, HE2, .inl ⟨rfl, HV2⟩⟩
      case round =>
        clear HV2 HE2
        obtain ⟨i, hi, rfl, hE, hs⟩ := hrel
        rcases hs with ⟨rfl, hV⟩ | ⟨rfl, hV⟩ | ⟨rfl, hV⟩
        · obtain ⟨va, cv, rfl⟩ := ownsRow_shape hV.out
          have hgl : g < wr.heap.size := Nat.lt_of_lt_of_le hg hE.out.le
          rcases HP1.out with ⟨h1, h2⟩ | ⟨b1, off, h1⟩
          · have hcc := HN1.out h1
            have hx : xs = [] := List.length_eq_zero_iff.1 (by rw [HM.out]; exact h2)
            have CQ := (HQ.out.1 _ hE.out)
            rw [h1, h2, hcc] at CQ
            have HFIN : Hid (wr.ownsRow w.heap.size 3 1 (.slice va 0 cv) m (xs.map (Value.int .i64))) := (by rw [hx, h2]; exact hV.out)
            clear HQ h2 hx h1 hcc
            go_wp2_with (at_builtin; refine wpList_append_own_none rfl (.tmp 31) (.tmp 32) 22 rfl w.heap.size 3 i0 1 Tryz.underlying22 hi0 (.slice va 0 cv) 0 (([] : List Int).map (Value.int .i64)) rfl hV.out rfl ?_)
            exact ⟨⟨1, by omega, by simp, hE, .inr (.inl ⟨rfl, HFIN⟩)⟩, by simp [intOf]⟩
          · have CQ := (HQ.out.1 _ hE.out)
            have HRD := HR1.out
            rw [h1] at CQ HRD
            clear HQ
            have hnews : ∀ (j : Nat) (u : Value), (xs.map (Value.int .i64))[j]? = some u → wr.cell? ((⟨b1, off, none⟩ : Addr).add j) = some u := reads_newsO (HRD.ext hE.out)
            have hb0 := World.ownsRow.lt hV.out
            clear HRD
            go_wp2_with (at_builtin; refine wpList_append_own _ rfl (.tmp 31) (.tmp 32) 22 rfl w.heap.size 3 i0 (.int .i64 0) 1 8 Tryz.underlying22 hi0 hz0 hz1 hz2 rfl (by decide) (.slice va 0 cv) 0 (([] : List Int).map (Value.int .i64)) rfl hV.out ⟨b1, off, none⟩ m c1 (xs.map (Value.int .i64)) rfl (by rw [List.length_map, HM.out, Nat.mul_one]) hnews (fun u hu => by obtain ⟨z, _, rfl⟩ := List.mem_map.1 hu; rfl) (by unfold maxLen; omega) (by omega) hE.out.le ?_; intro v3 w3 ho hg3 hnil; have HV3 := Lib.hid ho; have HG3 := Lib.hid hg3; clear ho hg3 hnil)
            have E3 : Hid (Ext w w3) := hE.out.grown HG3.out (fun z hz => by have := hb0 z hz; omega)
            exact ⟨⟨1, by omega, by simp, E3, .inr (.inl ⟨rfl, (by have h9 := HV3.out; simp only [List.map_nil, List.nil_append, Nat.zero_add] at h9; exact h9)⟩)⟩, by simp [intOf]⟩
        · obtain ⟨va, cv, rfl⟩ := ownsRow_shape hV.out
          have hgl : g < wr.heap.size := Nat.lt_of_lt_of_le hg hE.out.le
          rcases HP2.out with ⟨h1, h2⟩ | ⟨b1, off, h1⟩
          · have hcc := HN2.out h1
            have hx : ys = [] := List.length_eq_zero_iff.1 (by rw [HO.out]; exact h2)
            have CQ := (HQ.out.2 _ hE.out)
            rw [h1, h2, hcc] at CQ
            have HFIN : Hid (wr.ownsRow w.heap.size 3 1 (.slice va m cv) (m + n) ((xs ++ ys).map (Value.int .i64))) := (by rw [hx, List.append_nil, h2]; exact hV.out)
            clear HQ h2 hx h1 hcc
            go_wp2_with (at_builtin; refine wpList_append_own_none rfl (.tmp 31) (.tmp 32) 22 rfl w.heap.size 3 i0 1 Tryz.underlying22 hi0 (.slice va m cv) m (xs.map (Value.int .i64)) rfl hV.out rfl ?_)
            exact ⟨⟨2, by omega, by simp, hE, .inr (.inr ⟨rfl, HFIN⟩)⟩, by simp [intOf]⟩
          · have CQ := (HQ.out.2 _ hE.out)
            have HRD := HR2.out
            rw [h1] at CQ HRD
            clear HQ
            have hnews : ∀ (j : Nat) (u : Value), (ys.map (Value.int .i64))[j]? = some u → wr.cell? ((⟨b1, off, none⟩ : Addr).add j) = some u := reads_newsO (HRD.ext hE.out)
            have hb0 := World.ownsRow.lt hV.out
            clear HRD
            go_wp2_with (at_builtin; refine wpList_append_own _ rfl (.tmp 31) (.tmp 32) 22 rfl w.heap.size 3 i0 (.int .i64 0) 1 8 Tryz.underlying22 hi0 hz0 hz1 hz2 rfl (by decide) (.slice va m cv) m (xs.map (Value.int .i64)) rfl hV.out ⟨b1, off, none⟩ n c2 (ys.map (Value.int .i64)) rfl (by rw [List.length_map, HO.out, Nat.mul_one]) hnews (fun u hu => by obtain ⟨z, _, rfl⟩ := List.mem_map.1 hu; rfl) (by unfold maxLen; omega) (by omega) hE.out.le ?_; intro v3 w3 ho hg3 hnil; have HV3 := Lib.hid ho; have HG3 := Lib.hid hg3; clear ho hg3 hnil)
            have E3 : Hid (Ext w w3) := hE.out.grown HG3.out (fun z hz => by have := hb0 z hz; omega)
            exact ⟨⟨2, by omega, by simp, E3, .inr (.inr ⟨rfl, (by have h9 := HV3.out; rw [← List.map_append] at h9; exact h9)⟩)⟩, by simp [intOf]⟩
        · obtain ⟨va, cv, rfl⟩ := ownsRow_shape hV.out
          have hf : Hid (Own wr w.heap.size wr.heap.size va (m + n) (xs ++ ys) ∧ SlcOk va (m + n) cv) := by
            obtain ⟨a, cap, e, hnv, ho⟩ := Grows.reads2 hV.out
            injection e with e1 e2 e3
            subst e1; subst e3
            refine ⟨ho, ?_, ?_, fun h => (hnv h).2⟩
            · rcases hV.out.2 with ⟨e1, e2⟩ | ⟨g, cap, cur, e1, hb, hg, hn, hc, hs, ht⟩
              · omega
              · injection e1 with _ _ e4; omega
            · rcases hV.out.2 with ⟨e1, e2⟩ | ⟨g, cap, cur, e1, hb, hg, hn, hc, hs, ht⟩
              · injection e1 with _ _ e4; omega
              · injection e1 with _ _ e4; omega
          clear hV
          go_wp2
          go_ret
          exact ⟨va, cv, rfl, hf.out.1, hf.out.2, hE.out⟩
end Go.Proofs.YtlnpaplbcocmkaaGreat
