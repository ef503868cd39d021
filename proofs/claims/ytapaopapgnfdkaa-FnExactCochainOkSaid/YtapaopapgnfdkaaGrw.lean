import Derived.Test.YtapaopapgnfdkaaLst
import Derived.Maps.AppendAt
import Derived.WalkSpells
import Derived.Lib.AppendZerosOnto
namespace Go.Proofs.Ytapaopapgnfdkaa
open Go.ChangeShapes Go.WideShapes Go.ChangeAt Go.RowKit
set_option linter.unusedVariables false
set_option maxRecDepth 100000 in
set_option maxHeartbeats 1600000 in
theorem grow_nil (n : Nat) (h0 : 0 < n) (hn : n ≤ 8) (w : World) : Calls Try.prog 237 #[.slice none 0 0, .int .i64 n] w fun e w' => ∃ g c, e = .returned (.slice (some ⟨g, 0, none⟩) 0 c) ∧ w'.ownsRow w.heap.size 3 1 (.slice (some ⟨g, 0, none⟩) 0 c) 0 [] ∧ Ext w w' := by
  obtain ⟨i0, hi0, hz0, hz1, hz2⟩ := info_parts Try.infoInt
  have hb8 : Try.t3.bytes = 8 := rfl
  have hk1 : ¬ (281474976710656 < (n : Int) * (Try.t3.bytes : Int)) := by rw [hb8]; omega
  have hk2 : ¬ (281474976710656 < Builtin.nextslicecap n 0 * Try.t3.bytes) := by rw [nextslicecap_zero h0, hb8]; omega
  have hk3 : ¬ n = 0 := by omega
  clear hb8
  go_enter Try.func237, Try.ntmps237
  go_wp2_with fail
  go_ret
  have h1 := grownCap_ge w n 0 3
  have h2 := grownCap_le_maxLen w n 0 3 (by unfold maxLen; omega)
  refine ⟨w.heap.size, _, rfl, ⟨by simp, .inr ⟨w.heap.size, grownCap w n 0 3, _, rfl, Nat.le_refl _, (heap_alloc_new w _), by omega, h2, ?_, by simp⟩⟩, ((Ext.refl w).alloc _).drew⟩
  simp [size_zeroCells]
  unfold grownCap at h1 ⊢
  omega
theorem own_shape {w : World} {base n : Nat} {v : Value} {ys : List Value} {t : TypeId} (h : w.ownsRow base t 1 v n ys) : ∃ a c, v = .slice a n c := by
  rcases h.2 with ⟨e1, e2⟩ | ⟨g, cap, cur, e1, _⟩
  · exact ⟨none, 0, by rw [e1, e2]⟩
  · exact ⟨_, cap, e1⟩
theorem reads_news {w : World} {b n : Nat} {ys : List Int} (hr : Reads w (some ⟨b, 0, none⟩) n ys) : ∀ (j : Nat) (u : Value), (ys.map (Value.int .i64))[j]? = some u → w.cell? ((⟨b, 0, none⟩ : Addr).add j) = some u := by
  intro j u hu
  have hj : j < ys.length := by have := (List.getElem?_eq_some_iff.1 hu).1; simpa using this
  have hl := hr.1
  rcases hr.2 with h | ⟨b2, off, h, hb2, hc2⟩
  · omega
  · simp at h
    obtain ⟨rfl, rfl⟩ := h
    rw [add_plain, hc2 j (by omega)]
    simp [hj] at hu
    simp [gi, hj, hu]
set_option maxRecDepth 100000 in
set_option maxHeartbeats 3200000 in
theorem concat_two (g b1 b2 m c1 c2 cg : Nat) (xs : List Int) (b : Int) (w : World) (q0 : w.cell? ⟨g, 0, none⟩ = some (.slice (some ⟨b1, 0, none⟩) m c1)) (q1 : w.cell? ⟨g, 1, none⟩ = some (.slice (some ⟨b2, 0, none⟩) 1 c2)) (hg : g < w.heap.size) (hr1 : Reads w (some ⟨b1, 0, none⟩) m xs) (hr2 : Reads w (some ⟨b2, 0, none⟩) 1 [b]) (hm : m ≤ 7) (hcg : 2 ≤ cg) :
    Calls Try.prog 234 #[.slice (some ⟨g, 0, none⟩) 2 cg] w fun e w' => ∃ h c, e = .returned (.slice (some ⟨h, 0, none⟩) (m + 1) c) ∧ w.heap.size ≤ h ∧ h < w'.heap.size ∧ Has w' h (xs ++ [b]) ∧ Ext w w' := by
  obtain ⟨i0, hi0, hz0, hz1, hz2⟩ := info_parts Try.infoInt
  have HR1 := Lib.hid hr1
  have HR2 := Lib.hid hr2
  have HM : Hid (xs.length = m) := hr1.1
  have HO : Hid ([b].length = 1) := rfl
  have HQ : Hid ((∀ w', Ext w w' → w'.cell? ⟨g, 0, none⟩ = some (.slice (some ⟨b1, 0, none⟩) m c1)) ∧ ∀ w', Ext w w' → w'.cell? ⟨g, 1, none⟩ = some (.slice (some ⟨b2, 0, none⟩) 1 c2)) :=
    ⟨fun w' h => by rw [World.cell?_of_block (a := ⟨g, 0, none⟩) (h.block g hg)]; exact q0, fun w' h => by rw [World.cell?_of_block (a := ⟨g, 1, none⟩) (h.block g hg)]; exact q1⟩
  have hmz : ¬ ((m : Int) < 0) := by omega
  have hmz1 : ¬ ((m : Int) + 1 < 0) := by omega
  clear hr1 hr2
  go_enter Try.func234, Try.ntmps234
  go_wp2_with fail
  go_loopw [11, 3, 5] (fun z s _ wr => ∃ i : Nat, z = .int .i64 i ∧ wr = w ∧ ((i = 0 ∧ s = .int .i64 0) ∨ (i = 1 ∧ s = .int .i64 m) ∨ (i = 2 ∧ s = .int .i64 ((m : Int) + 1)))) (fun z _ _ _ => 2 - (intOf z).toNat)
  case atStart => exact ⟨0, rfl, rfl, .inl ⟨rfl, rfl⟩⟩
  case round =>
    obtain ⟨i, rfl, rfl, hs⟩ := hrel
    rcases hs with ⟨rfl, rfl⟩ | ⟨rfl, rfl⟩ | ⟨rfl, rfl⟩
    · go_wp2
      exact ⟨⟨1, by simp, by first | rfl | trivial, .inr (.inl ⟨rfl, by simp⟩)⟩, by simp [intOf]⟩
    · go_wp2
      exact ⟨⟨2, by simp, by first | rfl | trivial, .inr (.inr ⟨rfl, by simp⟩)⟩, by simp [intOf]⟩
    · clear q0 q1
      go_wp2_with fail
      have HGR := grow_nil (m + 1) (by omega) (by omega) wr
      rw [show ((m + 1 : Nat) : Int) = (m : Int) + 1 by simp] at HGR
      refine HGR.mono ?_
      rintro e w2 ⟨g2, cv2, rfl, hown, hE2⟩
      have HV2 := Lib.hid hown
      have HE2 := Lib.hid hE2
      clear hown hE2 HGR
      obtain ⟨w, hw⟩ : ∃ wq : World, wq = wr := ⟨_, rfl⟩
      subst hw
      go_wp2_with fail
      go_loopw [27, 6, 8] (fun z v _ wr => ∃ i : Nat, i ≤ 2 ∧ z = .int .i64 i ∧ Hid (Ext w wr) ∧ ((i = 0 ∧ Hid (wr.ownsRow w.heap.size 3 1 v 0 (([] : List Int).map (Value.int .i64)))) ∨ (i = 1 ∧ Hid (wr.ownsRow w.heap.size 3 1 v m (xs.map (Value.int .i64)))) ∨ (i = 2 ∧ Hid (wr.ownsRow w.heap.size 3 1 v (m + 1) ((xs ++ [b]).map (Value.int .i64)))))) (fun z _ _ _ => 2 - (intOf z).toNat)
      case atStart => exact ⟨0, by omega, rfl, HE2, .inl ⟨rfl, HV2⟩⟩
      case round =>
        clear HV2 HE2
        obtain ⟨i, hi, rfl, hE, hs⟩ := hrel
        rcases hs with ⟨rfl, hV⟩ | ⟨rfl, hV⟩ | ⟨rfl, hV⟩
        · obtain ⟨va, cv, rfl⟩ := own_shape hV.out
          have CQ0 := (HQ.out.1 _ hE.out)
          have CQ1 := (HQ.out.2 _ hE.out)
          have hgl : g < wr.heap.size := Nat.lt_of_lt_of_le hg hE.out.le
          have hnews : ∀ (j : Nat) (u : Value), (xs.map (Value.int .i64))[j]? = some u → wr.cell? ((⟨b1, 0, none⟩ : Addr).add j) = some u := reads_news (HR1.out.ext hE.out)
          have hb0 := World.ownsRow.lt hV.out
          go_wp2_with (at_builtin; refine wpList_append_own _ rfl (.tmp 31) (.tmp 32) 22 rfl w.heap.size 3 i0 (.int .i64 0) 1 8 Try.underlying22 hi0 hz0 hz1 hz2 rfl (by decide) (.slice va 0 cv) 0 (([] : List Int).map (Value.int .i64)) rfl hV.out ⟨b1, 0, none⟩ m c1 (xs.map (Value.int .i64)) rfl (by rw [List.length_map, HM.out, Nat.mul_one]) hnews (fun u hu => by obtain ⟨z, _, rfl⟩ := List.mem_map.1 hu; rfl) (by unfold maxLen; omega) (by omega) hE.out.le ?_; intro v3 w3 ho hg3 hnil; have HV3 := Lib.hid ho; have HG3 := Lib.hid hg3; clear ho hg3 hnil)
          have E3 : Hid (Ext w w3) := hE.out.grown HG3.out (fun z hz => by have := hb0 z hz; omega)
          exact ⟨⟨1, by omega, by simp, E3, .inr (.inl ⟨rfl, by have h9 := HV3.out; simp only [List.map_nil, List.nil_append, Nat.zero_add] at h9; exact h9⟩)⟩, by simp [intOf]⟩
        · obtain ⟨va, cv, rfl⟩ := own_shape hV.out
          have CQ0 := (HQ.out.1 _ hE.out)
          have CQ1 := (HQ.out.2 _ hE.out)
          have hgl : g < wr.heap.size := Nat.lt_of_lt_of_le hg hE.out.le
          have hnews : ∀ (j : Nat) (u : Value), ([b].map (Value.int .i64))[j]? = some u → wr.cell? ((⟨b2, 0, none⟩ : Addr).add j) = some u := reads_news (HR2.out.ext hE.out)
          have hb0 := World.ownsRow.lt hV.out
          go_wp2_with (at_builtin; refine wpList_append_own _ rfl (.tmp 31) (.tmp 32) 22 rfl w.heap.size 3 i0 (.int .i64 0) 1 8 Try.underlying22 hi0 hz0 hz1 hz2 rfl (by decide) (.slice va m cv) m (xs.map (Value.int .i64)) rfl hV.out ⟨b2, 0, none⟩ 1 c2 ([b].map (Value.int .i64)) rfl (by rw [List.length_map, HO.out, Nat.mul_one]) hnews (fun u hu => by obtain ⟨z, _, rfl⟩ := List.mem_map.1 hu; rfl) (by unfold maxLen; omega) (by omega) hE.out.le ?_; intro v3 w3 ho hg3 hnil; have HV3 := Lib.hid ho; have HG3 := Lib.hid hg3; clear ho hg3 hnil)
          have E3 : Hid (Ext w w3) := hE.out.grown HG3.out (fun z hz => by have := hb0 z hz; omega)
          exact ⟨⟨2, by omega, by simp, E3, .inr (.inr ⟨rfl, by have h9 := HV3.out; rw [← List.map_append] at h9; exact h9⟩)⟩, by simp [intOf]⟩
        · obtain ⟨va, cv, rfl⟩ := own_shape hV.out
          have hf : ∃ h, va = some ⟨h, 0, none⟩ ∧ h < wr.heap.size := by
            rcases hV.out.2 with ⟨e1, e2⟩ | ⟨h, cap, cur, e1, _, h5, _⟩
            · omega
            · injection e1 with e2 e3 e4
              exact ⟨h, e2, (Array.getElem?_eq_some_iff.1 h5).1⟩
          obtain ⟨h, rfl, hl⟩ := hf
          have HH := Lib.hid (Has.ofOwns hV.out)
          clear hV
          go_wp2
          go_ret
          exact ⟨h, cv, rfl, HH.out.2.1, hl, HH.out.1, hE.out⟩
end Go.Proofs.Ytapaopapgnfdkaa
