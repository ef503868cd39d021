/-
  The program's orbit: the first number below 0.
-/
import Derived.Test.YtlnpaplbcocmkaaGreatLs
import Derived.Test.YtlnpaplbcocmkaaGreatRev
import Derived.Maps.AppendAt
import Derived.WalkSpells
import Derived.Lib.AppendZerosOnto
namespace Go.Proofs.YtlnpaplbcocmkaaGreat
open Go.ChangeShapes Go.WideShapes Go.ChangeAt Go.RowKit
set_option linter.unusedVariables false
set_option linter.unusedSimpArgs false

/-- Where the first number below 0 stands, as the program says it. -/
def negZ (w : List Int) : Int := if negI w < w.length then negI w else -1
theorem negZ_at {w : List Int} {k : Nat} (hk : k < w.length) (h0 : ∀ e, e < k → 0 ≤ gi w e) (h : gi w k < 0) : negZ w = k := by
  have := negI_of hk h0 h
  rw [negZ, this, if_pos hk]
theorem negZ_none {w : List Int} (h0 : ∀ e, e < w.length → 0 ≤ gi w e) : negZ w = -1 := by
  rw [negZ, negI_none h0, if_neg (Nat.lt_irrefl _)]
theorem negZ_eq {w : List Int} {i : Nat} (hi : i < w.length) : (i : Int) = negZ w ↔ negI w = i := by
  rw [negZ]
  split <;> omega

/-- append of no numbers leaves a slice as it is. -/
theorem run_append_none {P : Program} (w : World) (t ty e : TypeId) (i : TypeInfo) (ht : P.underlying t = some (.slice e)) (hi : P.info? e = some i) (g n cap : Nat) (h : n ≤ cap) :
    (Builtin.append_ #[t, t] ty #[.slice (some ⟨g, 0, none⟩) n cap, .slice none 0 0]).run P w = .ok (.slice (some ⟨g, 0, none⟩) n cap) w := by
  simp [Builtin.append_, run_underlying ht, sizeOf, typeInfo, hi, Builtin.lenOf, h, run_firstCells_none]
  rfl
theorem wpList_append_none {P : Program} {w : World} {ops : Array Oper} {rest : List Oper} {o : Oper} {a : Act} {Q : Exit → Act → World → Prop} (hgd : o.guard = none) (s x : Operand) (t : TypeId)
    (ho : o.op = .call { callee := .builtin .append, args := #[s, x], argTypes := #[t, t] })
    (e : TypeId) (i : TypeInfo) (ht : P.underlying t = some (.slice e)) (hi : P.info? e = some i) (g n cap : Nat) (hn : n ≤ cap) (hs : a.eval s = .slice (some ⟨g, 0, none⟩) n cap) (hx : a.eval x = .slice none 0 0)
    (h : wpList P ops Q rest (a.put o.dst (.slice (some ⟨g, 0, none⟩) n cap)) w) : wpList P ops Q (o :: rest) a w := by
  refine wpList_plain hgd fun K hK => ?_
  have hr := run_append_none (P := P) w t o.type e i ht hi g n cap hn
  unfold Oper.wp execOp
  simp only [ho, resolve, invoke, builtin, Sem.run_bind, Sem.run_pure, Result.andThen_ok, List.map_toArray, List.map_cons, List.map_nil, hs, hx, hr]
  exact hK _ _ h

set_option maxRecDepth 100000 in
set_option maxHeartbeats 400000 in
theorem orbit_1 (x : Int) (q : Bool) (hq : decide (x < 0) = q) (w : World) : Calls Tryz.prog 126 #[.int .i64 x] w fun e w' => e = .returned (.bool q) ∧ Ext w w' := by
  go_enter Tryz.func126, Tryz.ntmps126
  go_wp2
  go_ret
  exact ⟨by rw [← hq]; rfl, Ext.refl _⟩
set_option maxRecDepth 100000 in
set_option maxHeartbeats 3200000 in
theorem indexNeg (m cx : Nat) (ax : Option Addr) (ys : List Int) (w : World) (hy : Reads w ax m ys) (hmm : m ≤ 1048576) :
    Calls Tryz.prog 125 #[.slice ax m cx, .func (.func 126) #[] #[]] w fun e w' => e = .returned (.int .i64 (negZ ys)) ∧ Ext w w' := by
  have HY := Lib.hid hy
  have HAT : Hid (∀ k, k < m → (∀ e, e < k → 0 ≤ gi ys e) → gi ys k < 0 → negZ ys = k) := fun k h1 h2 h3 => negZ_at (by rw [hy.len]; exact h1) h2 h3
  have HNO : Hid ((∀ e, e < m → 0 ≤ gi ys e) → negZ ys = -1) := fun h => negZ_none (by rw [hy.len]; exact h)
  obtain ⟨q, hq⟩ : ∃ q, negZ ys = q := ⟨_, rfl⟩
  rw [hq] at HAT HNO
  rw [hq]
  clear hy hq
  go_enter Tryz.func125, Tryz.ntmps125
  go_wp2_with fail
  go_loopw [8, 5] (fun z _ wr => ∃ e : Nat, e ≤ m ∧ z = .int .i64 e ∧ Hid (Ext w wr) ∧ Hid (∀ p, p < e → 0 ≤ gi ys p)) (fun z _ _ => m - (intOf z).toNat)
  case atStart => exact ⟨0, by omega, rfl, Ext.refl _, fun p h => by omega⟩
  case round =>
    obtain ⟨e, he, rfl, hE, hD⟩ := hrel
    by_cases hlt : e < m
    · obtain ⟨bx, ox, rfl, hbx, hxc⟩ := reads5 (HY.out.ext hE.out) (by omega)
      have hc := hxc e hlt
      have HA := Lib.hid (HAT.out e hlt hD.out)
      have HD2 : Hid (0 ≤ gi ys e → ∀ p, p < e + 1 → 0 ≤ gi ys p) := fun h p hp => by
        by_cases ep : p = e
        · subst ep; exact h
        · exact hD.out p (by omega)
      generalize gi ys e = x at *
      have hltI : (e : Int) < (m : Int) := by omega
      clear hxc hD
      rcases hin : decide (x < 0) with _ | _
      · have HFF := Lib.hid (HD2.out (by have := of_decide_eq_false hin; omega))
        have HIN := Lib.hid (orbit_1 x false hin)
        clear hin HA HD2
        go_wp2_with fail
        refine (HIN.out _).mono ?_
        rintro e' w' ⟨rfl, hE2⟩
        go_wp2
        exact ⟨⟨e + 1, by omega, by simp, hE.out.trans hE2, HFF⟩, by simp [intOf]; omega⟩
      · have HFF := Lib.hid (HA.out (of_decide_eq_true hin))
        have HIN := Lib.hid (orbit_1 x true hin)
        clear hin HA HD2
        go_wp2_with fail
        refine (HIN.out _).mono ?_
        rintro e' w' ⟨rfl, hE2⟩
        go_wp2
        go_ret
        exact ⟨by rw [HFF.out]; rfl, hE.out.trans hE2⟩
    · obtain rfl : m = e := by omega
      have HFF := Lib.hid (HNO.out hD.out)
      go_wp2
      go_ret
      exact ⟨by rw [HFF.out]; rfl, hE.out⟩
set_option maxRecDepth 100000 in
set_option maxHeartbeats 1600000 in
theorem grow_nil9 (n : Nat) (h0 : 0 < n) (hn : n ≤ 1000) (w : World) : Calls Tryz.prog 174 #[.slice none 0 0, .int .i64 n] w fun e w' => ∃ g c, e = .returned (.slice (some ⟨g, 0, none⟩) 0 c) ∧ w'.ownsRow w.heap.size 3 1 (.slice (some ⟨g, 0, none⟩) 0 c) 0 [] ∧ Ext w w' := by
  obtain ⟨i0, hi0, hz0, hz1, hz2⟩ := info_parts Tryz.infoInt
  have hb8 : Tryz.t3.bytes = 8 := rfl
  have hk1 : ¬ (281474976710656 < (n : Int) * (Tryz.t3.bytes : Int)) := by rw [hb8]; omega
  have hk2 : ¬ (281474976710656 < Builtin.nextslicecap n 0 * Tryz.t3.bytes) := by rw [nextslicecap_zero h0, hb8]; omega
  have hk3 : ¬ n = 0 := by omega
  clear hb8
  go_enter Tryz.func174, Tryz.ntmps174
  go_wp2_with fail
  go_ret
  have h1 := grownCap_ge w n 0 3
  have h2 := grownCap_le_maxLen w n 0 3 (by unfold maxLen; omega)
  refine ⟨w.heap.size, _, rfl, ⟨by simp, .inr ⟨w.heap.size, grownCap w n 0 3, _, rfl, Nat.le_refl _, (heap_alloc_new w _), by omega, h2, ?_, by simp⟩⟩, ((Ext.refl w).alloc _).drew⟩
  simp [size_zeroCells]
  unfold grownCap at h1 ⊢
  omega
theorem own_shape {w : World} {base n : Nat} {v : Value} {ys : List Value} {t : TypeId} (h : w.ownsRow base t 1 v n ys) : ∃ a c, v = .slice a n c := by
  rcases h.2 with ⟨e1, e2⟩ | ⟨g, cap, cur, e1, _⟩
  · exact ⟨none, 0, by rw [e1, e2]⟩
  · exact ⟨_, cap, e1⟩
theorem reads_news {w : World} {b n : Nat} {ys : List Int} (hr : Reads w (some ⟨b, 0, none⟩) n ys) : ∀ (j : Nat) (u : Value), (ys.map (Value.int .i64))[j]? = some u → w.cell? ((⟨b, 0, none⟩ : Addr).add j) = some u := by
  intro j u hu
  have hj : j < ys.length := by have := (List.getElem?_eq_some_iff.1 hu).1; simpa using this
  have hl := hr.1
  rcases hr.2 with h | ⟨b2, off, h, hb2, hc2⟩
  · omega
  · simp at h
    obtain ⟨rfl, rfl⟩ := h
    rw [add_plain, hc2 j (by omega)]
    simp [hj] at hu
    simp [gi, hj, hu]
set_option maxRecDepth 100000 in
set_option maxHeartbeats 3200000 in
theorem concat_cons (g b1 b2 m c1 c2 cg : Nat) (ys : List Int) (b : Int) (w : World) (q0 : w.cell? ⟨g, 0, none⟩ = some (.slice (some ⟨b1, 0, none⟩) 1 c1)) (q1 : w.cell? ⟨g, 1, none⟩ = some (.slice (some ⟨b2, 0, none⟩) m c2)) (hg : g < w.heap.size) (hr1 : Reads w (some ⟨b1, 0, none⟩) 1 [b]) (hr2 : Reads w (some ⟨b2, 0, none⟩) m ys) (hm : m ≤ 100) (hcg : 2 ≤ cg) :
    Calls Tryz.prog 127 #[.slice (some ⟨g, 0, none⟩) 2 cg] w fun e w' => ∃ h c, e = .returned (.slice (some ⟨h, 0, none⟩) (1 + m) c) ∧ w.heap.size ≤ h ∧ h < w'.heap.size ∧ Has w' h ([b] ++ ys) ∧ Ext w w' := by
  obtain ⟨i0, hi0, hz0, hz1, hz2⟩ := info_parts Tryz.infoInt
  have HR1 := Lib.hid hr1
  have HR2 := Lib.hid hr2
  have HM : Hid ([b].length = 1) := rfl
  have HO : Hid (ys.length = m) := hr2.1
  have HQ : Hid ((∀ w', Ext w w' → w'.cell? ⟨g, 0, none⟩ = some (.slice (some ⟨b1, 0, none⟩) 1 c1)) ∧ ∀ w', Ext w w' → w'.cell? ⟨g, 1, none⟩ = some (.slice (some ⟨b2, 0, none⟩) m c2)) :=
    ⟨fun w' h => by rw [World.cell?_of_block (a := ⟨g, 0, none⟩) (h.block g hg)]; exact q0, fun w' h => by rw [World.cell?_of_block (a := ⟨g, 1, none⟩) (h.block g hg)]; exact q1⟩
  have hmz : ¬ ((m : Int) < 0) := by omega
  have hmz1 : ¬ (1 + (m : Int) < 0) := by omega
  clear hr1 hr2
  go_enter Tryz.func127, Tryz.ntmps127
  go_wp2_with fail
  go_loopw [11, 3, 5] (fun z s _ wr => ∃ i : Nat, z = .int .i64 i ∧ wr = w ∧ ((i = 0 ∧ s = .int .i64 0) ∨ (i = 1 ∧ s = .int .i64 1) ∨ (i = 2 ∧ s = .int .i64 (1 + (m : Int))))) (fun z _ _ _ => 2 - (intOf z).toNat)
  case atStart => exact ⟨0, rfl, rfl, .inl ⟨rfl, rfl⟩⟩
  case round =>
    obtain ⟨i, rfl, rfl, hs⟩ := hrel
    rcases hs with ⟨rfl, rfl⟩ | ⟨rfl, rfl⟩ | ⟨rfl, rfl⟩
    · go_wp2
      exact ⟨⟨1, by simp, by first | rfl | trivial, .inr (.inl ⟨rfl, by simp⟩)⟩, by simp [intOf]⟩
    · go_wp2
      exact ⟨⟨2, by simp, by first | rfl | trivial, .inr (.inr ⟨rfl, by simp⟩)⟩, by simp [intOf]⟩
    · clear q0 q1
      go_wp2_with fail
      have HGR := grow_nil9 (1 + m) (by omega) (by omega) wr
      rw [show ((1 + m : Nat) : Int) = 1 + (m : Int) by simp] at HGR
      refine HGR.mono ?_
      rintro e w2 ⟨g2, cv2, rfl, hown, hE2⟩
      have HV2 := Lib.hid hown
      have HE2 := Lib.hid hE2
      clear hown hE2 HGR
      obtain ⟨w, hw⟩ : ∃ wq : World, wq = wr := ⟨_, rfl⟩
      subst hw
      go_wp2_with fail
      go_loopw [27, 6, 8] (fun z v _ wr => ∃ i : Nat, i ≤ 2 ∧ z = .int .i64 i ∧ Hid (Ext w wr) ∧ ((i = 0 ∧ Hid (wr.ownsRow w.heap.size 3 1 v 0 (([] : List Int).map (Value.int .i64)))) ∨ (i = 1 ∧ Hid (wr.ownsRow w.heap.size 3 1 v 1 ([b].map (Value.int .i64)))) ∨ (i = 2 ∧ Hid (wr.ownsRow w.heap.size 3 1 v (1 + m) (([b] ++ ys).map (Value.int .i64)))))) (fun z _ _ _ => 2 - (intOf z).toNat)
      case atStart => exact ⟨0, by omega, rfl, HE2, .inl ⟨rfl, HV2⟩⟩
      case round =>
        clear HV2 HE2
        obtain ⟨i, hi, rfl, hE, hs⟩ := hrel
        rcases hs with ⟨rfl, hV⟩ | ⟨rfl, hV⟩ | ⟨rfl, hV⟩
        · obtain ⟨va, cv, rfl⟩ := own_shape hV.out
          have CQ0 := (HQ.out.1 _ hE.out)
          have CQ1 := (HQ.out.2 _ hE.out)
          have hgl : g < wr.heap.size := Nat.lt_of_lt_of_le hg hE.out.le
          have hnews : ∀ (j : Nat) (u : Value), ([b].map (Value.int .i64))[j]? = some u → wr.cell? ((⟨b1, 0, none⟩ : Addr).add j) = some u := reads_news (HR1.out.ext hE.out)
          have hb0 := World.ownsRow.lt hV.out
          go_wp2_with (at_builtin; refine wpList_append_own _ rfl (.tmp 31) (.tmp 32) 22 rfl w.heap.size 3 i0 (.int .i64 0) 1 8 Tryz.underlying22 hi0 hz0 hz1 hz2 rfl (by decide) (.slice va 0 cv) 0 (([] : List Int).map (Value.int .i64)) rfl hV.out ⟨b1, 0, none⟩ 1 c1 ([b].map (Value.int .i64)) rfl (by rw [List.length_map, HM.out, Nat.mul_one]) hnews (fun u hu => by obtain ⟨z, _, rfl⟩ := List.mem_map.1 hu; rfl) (by unfold maxLen; omega) (by omega) hE.out.le ?_; intro v3 w3 ho hg3 hnil; have HV3 := Lib.hid ho; have HG3 := Lib.hid hg3; clear ho hg3 hnil)
          have E3 : Hid (Ext w w3) := hE.out.grown HG3.out (fun z hz => by have := hb0 z hz; omega)
          exact ⟨⟨1, by omega, by simp, E3, .inr (.inl ⟨rfl, by have h9 := HV3.out; simp only [List.map_nil, List.nil_append, Nat.zero_add] at h9; exact h9⟩)⟩, by simp [intOf]⟩
        · obtain ⟨va, cv, rfl⟩ := own_shape hV.out
          have CQ0 := (HQ.out.1 _ hE.out)
          have CQ1 := (HQ.out.2 _ hE.out)
          have hgl : g < wr.heap.size := Nat.lt_of_lt_of_le hg hE.out.le
          have hnews : ∀ (j : Nat) (u : Value), (ys.map (Value.int .i64))[j]? = some u → wr.cell? ((⟨b2, 0, none⟩ : Addr).add j) = some u := reads_news (HR2.out.ext hE.out)
          have hb0 := World.ownsRow.lt hV.out
          go_wp2_with (at_builtin; refine wpList_append_own _ rfl (.tmp 31) (.tmp 32) 22 rfl w.heap.size 3 i0 (.int .i64 0) 1 8 Tryz.underlying22 hi0 hz0 hz1 hz2 rfl (by decide) (.slice va 1 cv) 1 ([b].map (Value.int .i64)) rfl hV.out ⟨b2, 0, none⟩ m c2 (ys.map (Value.int .i64)) rfl (by rw [List.length_map, HO.out, Nat.mul_one]) hnews (fun u hu => by obtain ⟨z, _, rfl⟩ := List.mem_map.1 hu; rfl) (by unfold maxLen; omega) (by omega) hE.out.le ?_; intro v3 w3 ho hg3 hnil; have HV3 := Lib.hid ho; have HG3 := Lib.hid hg3; clear ho hg3 hnil)
          have E3 : Hid (Ext w w3) := hE.out.grown HG3.out (fun z hz => by have := hb0 z hz; omega)
          exact ⟨⟨2, by omega, by simp, E3, .inr (.inr ⟨rfl, by have h9 := HV3.out; rw [← List.map_append] at h9; exact h9⟩)⟩, by simp [intOf]⟩
        · obtain ⟨va, cv, rfl⟩ := own_shape hV.out
          have hf : ∃ h, va = some ⟨h, 0, none⟩ ∧ h < wr.heap.size := by
            rcases hV.out.2 with ⟨e1, e2⟩ | ⟨h, cap, cur, e1, _, h5, _⟩
            · omega
            · injection e1 with e2 e3 e4
              exact ⟨h, e2, (Array.getElem?_eq_some_iff.1 h5).1⟩
          obtain ⟨h, rfl, hl⟩ := hf
          have HH := Lib.hid (Has.ofOwns hV.out)
          clear hV
          go_wp2
          go_ret
          exact ⟨h, cv, rfl, HH.out.2.1, hl, HH.out.1, hE.out⟩
set_option maxRecDepth 100000 in
set_option maxHeartbeats 3200000 in
theorem concat_one (g b1 c1 cg : Nat) (b : Int) (w : World) (q0 : w.cell? ⟨g, 0, none⟩ = some (.slice (some ⟨b1, 0, none⟩) 1 c1)) (q1 : w.cell? ⟨g, 1, none⟩ = some (.slice none 0 0)) (hg : g < w.heap.size) (hr1 : Reads w (some ⟨b1, 0, none⟩) 1 [b]) (hcg : 2 ≤ cg) :
    Calls Tryz.prog 127 #[.slice (some ⟨g, 0, none⟩) 2 cg] w fun e w' => ∃ h c, e = .returned (.slice (some ⟨h, 0, none⟩) 1 c) ∧ w.heap.size ≤ h ∧ h < w'.heap.size ∧ Has w' h ([b]) ∧ Ext w w' := by
  obtain ⟨i0, hi0, hz0, hz1, hz2⟩ := info_parts Tryz.infoInt
  have HR1 := Lib.hid hr1
  have HM : Hid ([b].length = 1) := rfl
  have HQ : Hid ((∀ w', Ext w w' → w'.cell? ⟨g, 0, none⟩ = some (.slice (some ⟨b1, 0, none⟩) 1 c1)) ∧ ∀ w', Ext w w' → w'.cell? ⟨g, 1, none⟩ = some (.slice none 0 0)) :=
    ⟨fun w' h => by rw [World.cell?_of_block (a := ⟨g, 0, none⟩) (h.block g hg)]; exact q0, fun w' h => by rw [World.cell?_of_block (a := ⟨g, 1, none⟩) (h.block g hg)]; exact q1⟩
  clear hr1
  go_enter Tryz.func127, Tryz.ntmps127
  go_wp2_with fail
  go_loopw [11, 3, 5] (fun z s _ wr => ∃ i : Nat, z = .int .i64 i ∧ wr = w ∧ ((i = 0 ∧ s = .int .i64 0) ∨ (i = 1 ∧ s = .int .i64 1) ∨ (i = 2 ∧ s = .int .i64 1))) (fun z _ _ _ => 2 - (intOf z).toNat)
  case atStart => exact ⟨0, rfl, rfl, .inl ⟨rfl, rfl⟩⟩
  case round =>
    obtain ⟨i, rfl, rfl, hs⟩ := hrel
    rcases hs with ⟨rfl, rfl⟩ | ⟨rfl, rfl⟩ | ⟨rfl, rfl⟩
    · go_wp2
      exact ⟨⟨1, by simp, by first | rfl | trivial, .inr (.inl ⟨rfl, by simp⟩)⟩, by simp [intOf]⟩
    · go_wp2
      exact ⟨⟨2, by simp, by first | rfl | trivial, .inr (.inr ⟨rfl, by simp⟩)⟩, by simp [intOf]⟩
    · clear q0 q1
      go_wp2_with fail
      have HGR := grow_nil9 1 (by omega) (by omega) wr
      refine HGR.mono ?_
      rintro e w2 ⟨g2, cv2, rfl, hown, hE2⟩
      have HV2 := Lib.hid hown
      have HE2 := Lib.hid hE2
      clear hown hE2 HGR
      obtain ⟨w, hw⟩ : ∃ wq : World, wq = wr := ⟨_, rfl⟩
      subst hw
      go_wp2_with fail
      go_loopw [27, 6, 8] (fun z v _ wr => ∃ i : Nat, i ≤ 2 ∧ z = .int .i64 i ∧ Hid (Ext w wr) ∧ ((i = 0 ∧ Hid (wr.ownsRow w.heap.size 3 1 v 0 (([] : List Int).map (Value.int .i64)))) ∨ (i = 1 ∧ Hid (wr.ownsRow w.heap.size 3 1 v 1 ([b].map (Value.int .i64)))) ∨ (i = 2 ∧ Hid (wr.ownsRow w.heap.size 3 1 v 1 ([b].map (Value.int .i64)))))) (fun z _ _ _ => 2 - (intOf z).toNat)
      case atStart => exact ⟨0, by omega, rfl, HE2, .inl ⟨rfl, HV2⟩⟩
      case round =>
        clear HV2 HE2
        obtain ⟨i, hi, rfl, hE, hs⟩ := hrel
        rcases hs with ⟨rfl, hV⟩ | ⟨rfl, hV⟩ | ⟨rfl, hV⟩
        · obtain ⟨va, cv, rfl⟩ := own_shape hV.out
          have CQ0 := (HQ.out.1 _ hE.out)
          have CQ1 := (HQ.out.2 _ hE.out)
          have hgl : g < wr.heap.size := Nat.lt_of_lt_of_le hg hE.out.le
          have hnews : ∀ (j : Nat) (u : Value), ([b].map (Value.int .i64))[j]? = some u → wr.cell? ((⟨b1, 0, none⟩ : Addr).add j) = some u := reads_news (HR1.out.ext hE.out)
          have hb0 := World.ownsRow.lt hV.out
          go_wp2_with (at_builtin; refine wpList_append_own _ rfl (.tmp 31) (.tmp 32) 22 rfl w.heap.size 3 i0 (.int .i64 0) 1 8 Tryz.underlying22 hi0 hz0 hz1 hz2 rfl (by decide) (.slice va 0 cv) 0 (([] : List Int).map (Value.int .i64)) rfl hV.out ⟨b1, 0, none⟩ 1 c1 ([b].map (Value.int .i64)) rfl (by rw [List.length_map, HM.out, Nat.mul_one]) hnews (fun u hu => by obtain ⟨z, _, rfl⟩ := List.mem_map.1 hu; rfl) (by unfold maxLen; omega) (by omega) hE.out.le ?_; intro v3 w3 ho hg3 hnil; have HV3 := Lib.hid ho; have HG3 := Lib.hid hg3; clear ho hg3 hnil)
          have E3 : Hid (Ext w w3) := hE.out.grown HG3.out (fun z hz => by have := hb0 z hz; omega)
          exact ⟨⟨1, by omega, by simp, E3, .inr (.inl ⟨rfl, by have h9 := HV3.out; simp only [List.map_nil, List.nil_append, Nat.zero_add] at h9; exact h9⟩)⟩, by simp [intOf]⟩
        · obtain ⟨va, cv, rfl⟩ := own_shape hV.out
          have CQ0 := (HQ.out.1 _ hE.out)
          have CQ1 := (HQ.out.2 _ hE.out)
          have hgl : g < wr.heap.size := Nat.lt_of_lt_of_le hg hE.out.le
          obtain ⟨h9, e9, _, _, _⟩ := ownsRow_get hV.out (by omega)
          subst e9
          have hcap := (ownsRow_cap hV.out).1
          go_wp2_with (at_builtin; refine wpList_append_none rfl (.tmp 31) (.tmp 32) 22 rfl 3 i0 Tryz.underlying22 hi0 h9 1 cv hcap rfl rfl ?_)
          exact ⟨⟨2, by omega, by simp, hE, .inr (.inr ⟨rfl, hV⟩)⟩, by simp [intOf]⟩
        · obtain ⟨va, cv, rfl⟩ := own_shape hV.out
          have hf : ∃ h, va = some ⟨h, 0, none⟩ ∧ h < wr.heap.size := by
            rcases hV.out.2 with ⟨e1, e2⟩ | ⟨h, cap, cur, e1, _, h5, _⟩
            · omega
            · injection e1 with e2 e3 e4
              exact ⟨h, e2, (Array.getElem?_eq_some_iff.1 h5).1⟩
          obtain ⟨h, rfl, hl⟩ := hf
          have HH := Lib.hid (Has.ofOwns hV.out)
          clear hV
          go_wp2
          go_ret
          exact ⟨h, cv, rfl, HH.out.2.1, hl, HH.out.1, hE.out⟩
end Go.Proofs.YtlnpaplbcocmkaaGreat

/-
  The program's orbit in memory: a slice of structs of two slices.
-/
namespace Go.Proofs.YtlnpaplbcocmkaaGreat
open Go.ChangeShapes Go.WideShapes Go.ChangeAt Go.RowKit
set_option linter.unusedVariables false
set_option linter.unusedSimpArgs false

theorem Tryz.infoReached : (Tryz.prog.info? 72).map (fun i => (i.zero, i.size, i.bytes)) = some (some (.agg #[.slice none 0 0, .slice none 0 0]), 2, 48) := by kernel_rfl
def entO (l : List (List Int × List Int)) (k : Nat) : List Int × List Int := l.getD k ([], [])
theorem entO_lt {l : List (List Int × List Int)} {k : Nat} (h : k < l.length) : entO l k = l[k] := by simp [entO, List.getD_eq_getElem?_getD, h]
theorem entO_at {l : List (List Int × List Int)} {k : Nat} (h : k < l.length) : l[k]? = some (entO l k) := by rw [entO_lt h, List.getElem?_eq_getElem h]
theorem entO_app {l : List (List Int × List Int)} {e : List Int × List Int} {k : Nat} : entO (l ++ [e]) k = if k < l.length then entO l k else if k = l.length then e else ([], []) := by
  simp only [entO, List.getD_eq_getElem?_getD, List.getElem?_append]
  by_cases h : k < l.length
  · simp [h]
  · rw [if_neg h, if_neg h]
    by_cases e' : k = l.length
    · subst e'; simp
    · rw [if_neg e', List.getElem?_eq_none (by simp; omega)]; rfl
/-- A word of an entry: nil where it is empty. -/
def WordV (w : World) (lo B : Nat) (v : Value) (p : List Int) : Prop := (v = .slice none 0 0 ∧ p = []) ∨ ∃ c, v = .slice (some ⟨B, 0, none⟩) p.length c ∧ 0 < p.length ∧ Own w lo w.heap.size (some ⟨B, 0, none⟩) p.length p
theorem WordV.ext {w w' : World} {lo B : Nat} {v : Value} {p : List Int} (h : WordV w lo B v p) (hE : Ext w w') : WordV w' lo B v p := by
  rcases h with h | ⟨c, h1, h2, h3⟩
  · exact .inl h
  · exact .inr ⟨c, h1, h2, (h3.ext hE).mono (Nat.le_refl _) hE.le⟩
/-- The entries, with their blocks. -/
def OrbM (w : World) (lo : Nat) (v : Value) (l : List (List Int × List Int)) : Prop := ∃ (us : List Value) (B W : Nat → Nat), w.ownsRow lo 72 2 v l.length us ∧
  (∀ k, k < l.length → (∃ c, us[2 * k]? = some (.slice (some ⟨B k, 0, none⟩) (entO l k).1.length c)) ∧ Own w lo w.heap.size (some ⟨B k, 0, none⟩) (entO l k).1.length (entO l k).1 ∧ ∃ u, us[2 * k + 1]? = some u ∧ WordV w lo (W k) u (entO l k).2) ∧
  (∀ i j, i < l.length → j < l.length → i ≠ j → B i ≠ B j) ∧ ∀ i j, i < l.length → j < l.length → i ≠ j → (entO l i).2 ≠ [] → (entO l j).2 ≠ [] → W i ≠ W j
theorem OrbM.ext {w w' : World} {lo : Nat} {v : Value} {l : List (List Int × List Int)} (h : OrbM w lo v l) (hE : Ext w w') : OrbM w' lo v l := by
  obtain ⟨us, B, W, h1, h2, h3, h4⟩ := h
  refine ⟨us, B, W, ?_, fun k hk => ?_, h3, h4⟩
  · by_cases e : v.ownBlock = none
    · exact World.ownsRow.kept h1 (ext_grownBy hE none) (.inl e)
    · exact World.ownsRow.kept h1 (ext_grownBy hE none) (.inr e)
  · obtain ⟨h5, h6, u, h7, h8⟩ := h2 k hk
    exact ⟨h5, (h6.ext hE).mono (Nat.le_refl _) hE.le, u, h7, h8.ext hE⟩
theorem own_otherR {w w' : World} {lo hi : Nat} {a : Option Addr} {n : Nat} {xs : List Int} {r : Option Nat} (h : Own w lo hi a n xs) (hg : w.grownBy w' r) (hd : ∀ k, r = some k → ∃ cur z, w.heap[k]? = some (.cells cur 72 z)) : Own w' lo hi a n xs := by
  obtain ⟨h5, h6⟩ := h
  rcases h6 with h6 | ⟨b, e3, h7, h8, r9, h9, h10⟩
  · exact ⟨h5, .inl h6⟩
  · refine ⟨h5, .inr ⟨b, e3, h7, h8, r9, ?_, h10⟩⟩
    have hlt : b < w.heap.size := (Array.getElem?_eq_some_iff.1 h9).1
    rw [hg.block b hlt (fun e => ?_)]
    · exact h9
    · obtain ⟨cur2, z2, h11⟩ := hd b e.symm
      rw [h9] at h11
      injection h11 with h11
      injection h11 with h11 h12 h13
      exact absurd h12 (by decide)
theorem WordV.other {w w' : World} {lo B : Nat} {v : Value} {p : List Int} {r : Option Nat} (h : WordV w lo B v p) (hg : w.grownBy w' r) (hd : ∀ k, r = some k → ∃ cur z, w.heap[k]? = some (.cells cur 72 z)) : WordV w' lo B v p := by
  rcases h with h | ⟨c, h1, h2, h3⟩
  · exact .inl h
  · exact .inr ⟨c, h1, h2, (own_otherR h3 hg hd).mono (Nat.le_refl _) hg.size⟩
theorem OrbM.own_lt {w : World} {lo B n : Nat} {xs : List Int} (h : Own w lo w.heap.size (some ⟨B, 0, none⟩) n xs) : B < w.heap.size := by
  rcases h.2 with h | ⟨b, e, _, h2, _⟩
  · cases h.1
  · injection e with e; injection e with e; subst e; exact h2
theorem OrbM.len2 {w : World} {lo : Nat} {v : Value} {n : Nat} {us : List Value} (h : w.ownsRow lo 72 2 v n us) : us.length = 2 * n := by rw [h.1]; omega
theorem getE_two {us : List Value} {x y : Value} {n i : Nat} (h : us.length = 2 * n) : (us ++ [x, y])[i]? = if i < 2 * n then us[i]? else if i = 2 * n then some x else if i = 2 * n + 1 then some y else none := by
  rw [List.getElem?_append]
  by_cases h1 : i < 2 * n
  · rw [if_pos (by omega), if_pos h1]
  · rw [if_neg (by omega), if_neg h1]
    by_cases h2 : i = 2 * n
    · rw [if_pos h2, show i - us.length = 0 by omega]; rfl
    · by_cases h3 : i = 2 * n + 1
      · rw [if_neg h2, if_pos h3, show i - us.length = 1 by omega]; rfl
      · rw [if_neg h2, if_neg h3, List.getElem?_eq_none (by simp; omega)]
/-- One entry more. -/
theorem orbM_app {w0 w w' : World} {base b0 c0 W1 : Nat} {v' u : Value} {l : List (List Int × List Int)} {e : List Int × List Int} {us : List Value} {B W : Nat → Nat}
    (h2 : ∀ k, k < l.length → (∃ c, us[2 * k]? = some (.slice (some ⟨B k, 0, none⟩) (entO l k).1.length c)) ∧ Own w0 base w0.heap.size (some ⟨B k, 0, none⟩) (entO l k).1.length (entO l k).1 ∧ ∃ u, us[2 * k + 1]? = some u ∧ WordV w0 base (W k) u (entO l k).2)
    (h3 : ∀ i j, i < l.length → j < l.length → i ≠ j → B i ≠ B j) (h4 : ∀ i j, i < l.length → j < l.length → i ≠ j → (entO l i).2 ≠ [] → (entO l j).2 ≠ [] → W i ≠ W j)
    (hlen : us.length = 2 * l.length) (hE : Ext w0 w) (hb : w0.heap.size ≤ b0) (hB : Own w base w.heap.size (some ⟨b0, 0, none⟩) e.1.length e.1) (hW1 : w0.heap.size ≤ W1) (hW : WordV w base W1 u e.2)
    {r : Option Nat} (hg : w.grownBy w' r) (hd : ∀ k, r = some k → ∃ cur z, w.heap[k]? = some (.cells cur 72 z)) (ho : w'.ownsRow base 72 2 v' (l.length + 1) (us ++ [.slice (some ⟨b0, 0, none⟩) e.1.length c0, u])) : OrbM w' base v' (l ++ [e]) := by
  have hl : (l ++ [e]).length = l.length + 1 := by simp
  have hBlt : ∀ k, k < l.length → B k < w0.heap.size := fun k hk => OrbM.own_lt (h2 k hk).2.1
  have hWlt : ∀ k, k < l.length → (entO l k).2 ≠ [] → W k < w0.heap.size := fun k hk hne => by
    obtain ⟨_, _, u1, _, h5⟩ := h2 k hk
    rcases h5 with ⟨_, h5⟩ | ⟨c, _, _, h6⟩
    · exact absurd h5 hne
    · exact OrbM.own_lt h6
  refine ⟨us ++ [.slice (some ⟨b0, 0, none⟩) e.1.length c0, u], fun k => if k < l.length then B k else b0, fun k => if k < l.length then W k else W1, by rw [hl]; exact ho, fun k hk => ?_, fun i j hi hj hne => ?_, fun i j hi hj hne n1 n2 => ?_⟩
  · rw [hl] at hk
    rw [entO_app, getE_two hlen, getE_two hlen]
    by_cases h : k < l.length
    · simp only [if_pos h, if_pos (show 2 * k < 2 * l.length by omega), if_pos (show 2 * k + 1 < 2 * l.length by omega)]
      obtain ⟨h5, h6, u1, h7, h8⟩ := h2 k h
      exact ⟨h5, (own_otherR (h6.ext hE) hg hd).mono (Nat.le_refl _) (Nat.le_trans hE.le hg.size), u1, h7, (h8.ext hE).other hg hd⟩
    · obtain rfl : k = l.length := by omega
      simp only [if_neg h, if_neg (show ¬ 2 * l.length < 2 * l.length by omega), if_neg (show ¬ 2 * l.length + 1 < 2 * l.length by omega), if_neg (show ¬ 2 * l.length + 1 = 2 * l.length by omega), if_true]
      exact ⟨⟨c0, rfl⟩, (own_otherR hB hg hd).mono (Nat.le_refl _) hg.size, u, rfl, hW.other hg hd⟩
  · rw [hl] at hi hj
    simp only []
    by_cases h5 : i < l.length
    · by_cases h6 : j < l.length
      · rw [if_pos h5, if_pos h6]; exact h3 i j h5 h6 hne
      · rw [if_pos h5, if_neg h6]; have := hBlt i h5; omega
    · by_cases h6 : j < l.length
      · rw [if_neg h5, if_pos h6]; have := hBlt j h6; omega
      · omega
  · rw [hl] at hi hj
    rw [entO_app] at n1 n2
    simp only []
    by_cases h5 : i < l.length
    · rw [if_pos h5] at n1
      by_cases h6 : j < l.length
      · rw [if_pos h6] at n2
        rw [if_pos h5, if_pos h6]; exact h4 i j h5 h6 hne n1 n2
      · rw [if_pos h5, if_neg h6]; have := hWlt i h5 n1; omega
    · by_cases h6 : j < l.length
      · rw [if_pos h6] at n2
        rw [if_neg h5, if_pos h6]; have := hWlt j h6 n2; omega
      · omega
theorem OrbM.typ {w : World} {lo : Nat} {v : Value} {l : List (List Int × List Int)} (h : OrbM w lo v l) : ∀ z, v.ownBlock = some z → ∃ cur y, w.heap[z]? = some (.cells cur 72 y) := by
  intro z hz
  obtain ⟨us, B, W, h1, _⟩ := h
  rcases h1.2 with ⟨e1, _⟩ | ⟨g, cap, cur, e1, _, hg, _⟩
  · subst e1; simp [Value.ownBlock] at hz
  · subst e1
    simp [Value.ownBlock] at hz
    subst hz
    exact ⟨cur, _, hg⟩
/-- append of one entry. -/
theorem wpList_appendOrb {w0 w : World} {ops : Array Oper} {rest : List Oper} {o : Oper} {a : Act} {Q : Exit → Act → World → Prop} (hgd : o.guard = none) (s x : Operand)
    (ho : o.op = .call { callee := .builtin .append, args := #[s, x], argTypes := #[67, 67] })
    (base : Nat) (v u : Value) (l : List (List Int × List Int)) (y p : List Int) (b0 c0 W1 R c g : Nat) (hg0 : g = w.heap.size) (hR : y.length = R) (hs : a.eval s = v) (hx : a.eval x = .slice (some ⟨g, 0, none⟩) 1 c)
    (hown : OrbM w0 base v l) (hE : Ext w0 w) (hb : w0.heap.size ≤ b0) (hB : Own w base w.heap.size (some ⟨b0, 0, none⟩) R y) (hW1 : w0.heap.size ≤ W1) (hW : WordV w base W1 u p) (hu : u.oneCell' = true) (hm : l.length + 1 ≤ 1048577) (hbase : base ≤ w.heap.size)
    (h : ∀ v' w', OrbM w' base v' (l ++ [(y, p)]) → w.grownBy w' v.ownBlock → (v'.ownBlock = v.ownBlock ∨ v'.ownBlock = some (w.heap.size + 1)) → wpList Tryz.prog ops Q rest (a.put o.dst v') w') : wpList Tryz.prog ops Q (o :: rest) a (w.alloc (.cells #[.slice (some ⟨b0, 0, none⟩) R c0, u] 72)) := by
  subst hg0 hR
  obtain ⟨i0, hi0, hz0, hz1, hz2⟩ := info_parts Tryz.infoReached
  obtain ⟨us, B, W, h1, h2, h3, h4⟩ := hown
  have hE2 := hE.trans ((Ext.refl w).alloc (.cells #[.slice (some ⟨b0, 0, none⟩) y.length c0, u] 72))
  have X := (Ext.refl w).alloc (.cells #[.slice (some ⟨b0, 0, none⟩) y.length c0, u] 72)
  have h1' : (w.alloc (.cells #[.slice (some ⟨b0, 0, none⟩) y.length c0, u] 72)).ownsRow base 72 2 v l.length us := by
    by_cases e : v.ownBlock = none
    · exact World.ownsRow.kept h1 (ext_grownBy hE2 none) (.inl e)
    · exact World.ownsRow.kept h1 (ext_grownBy hE2 none) (.inr e)
  refine Go.wpList_append_own_at _ hgd s x 67 ho base 72 i0 (.agg #[.slice none 0 0, .slice none 0 0]) 2 48 Tryz.underlying67 hi0 hz0 hz1 hz2 rfl (by decide) v l.length us hs h1' ⟨w.heap.size, 0, none⟩ 1 c [.slice (some ⟨b0, 0, none⟩) y.length c0, u] hx rfl (fun j z hz => ?_) (fun z hz => by simp at hz; rcases hz with e9 | e9 <;> rw [e9] <;> first | rfl | exact hu) (by unfold maxLen; omega) (by omega) (by simp; omega) (fun v' w' g1 g2 _ g3 => h v' w' ?_ (grownBy_alloc g2) (by simpa using g3))
  · have hj : j < 2 := by have := (List.getElem?_eq_some_iff.1 hz).1; simpa using this
    rw [add_plain, World.cell?_alloc_at _ _ _ _ rfl]
    rcases (show j = 0 ∨ j = 1 by omega) with rfl | rfl
    · simp at hz; subst hz; rfl
    · simp at hz; subst hz; rfl
  · have hty : ∀ z, v.ownBlock = some z → ∃ cur y9, (w.alloc (.cells #[.slice (some ⟨b0, 0, none⟩) y.length c0, u] 72)).heap[z]? = some (.cells cur 72 y9) := by
      intro z hz
      rcases h1'.2 with ⟨e1, _⟩ | ⟨g, cap, cur, e1, _, hg, _⟩
      · subst e1; simp [Value.ownBlock] at hz
      · subst e1
        simp [Value.ownBlock] at hz
        subst hz
        exact ⟨cur, _, hg⟩
    exact orbM_app (e := (y, p)) h2 h3 h4 (OrbM.len2 h1) hE2 hb ((hB.ext X).mono (Nat.le_refl _) X.le) hW1 (hW.ext X) g2 hty g1
end Go.Proofs.YtlnpaplbcocmkaaGreat

/-
  The program's orbit.
-/
namespace Go.Proofs.YtlnpaplbcocmkaaGreat
open Go.ChangeShapes Go.WideShapes Go.ChangeAt Go.RowKit
set_option linter.unusedVariables false
set_option linter.unusedSimpArgs false

theorem orbM_one {w : World} {base bd cd R : Nat} {d : List Int} (hR : d.length = R) (hd : Own w base w.heap.size (some ⟨bd, 0, none⟩) R d) (hb : base ≤ w.heap.size) : OrbM (w.alloc (.cells #[.slice (some ⟨bd, 0, none⟩) R cd, .slice none 0 0] 72)) base (.slice (some ⟨w.heap.size, 0, none⟩) 1 1) [(d, [])] := by
  subst hR
  have X := (Ext.refl w).alloc (.cells #[.slice (some ⟨bd, 0, none⟩) d.length cd, .slice none 0 0] 72)
  refine ⟨[.slice (some ⟨bd, 0, none⟩) d.length cd, .slice none 0 0], fun _ => bd, fun _ => 0, World.ownsRow_lit w #[.slice (some ⟨bd, 0, none⟩) d.length cd, .slice none 0 0] 1 hb (by unfold maxLen; omega) (by simp), fun k hk => ?_, fun i j hi hj hne => ?_, fun i j hi hj hne => ?_⟩
  · obtain rfl : k = 0 := by simpa using hk
    exact ⟨⟨cd, rfl⟩, (hd.ext X).mono (Nat.le_refl _) X.le, _, rfl, .inl ⟨rfl, rfl⟩⟩
  · simp at hi hj; omega
  · simp at hi hj; omega
theorem OrbM.shape {w : World} {lo : Nat} {v : Value} {l : List (List Int × List Int)} (h : OrbM w lo v l) (h0 : 0 < l.length) : ∃ g c, v = .slice (some ⟨g, 0, none⟩) l.length c ∧ lo ≤ g ∧ g < w.heap.size ∧ ∀ k, k < l.length → ∃ B W c u, w.cell? ⟨g, k * 2, none⟩ = some (.slice (some ⟨B, 0, none⟩) (entO l k).1.length c) ∧ w.cell? ⟨g, k * 2 + 1, none⟩ = some u ∧ Own w lo w.heap.size (some ⟨B, 0, none⟩) (entO l k).1.length (entO l k).1 ∧ WordV w lo W u (entO l k).2 := by
  obtain ⟨us, B, W, h1, h2, h3, h4⟩ := h
  rcases h1.2 with ⟨e1, e2⟩ | ⟨g, cap, cur, e1, hb, hg, hn, hc, hcs, htk⟩
  · omega
  · refine ⟨g, cap, e1, hb, (Array.getElem?_eq_some_iff.1 hg).1, fun k hk => ?_⟩
    obtain ⟨⟨c, h5⟩, h6, u, h7, h8⟩ := h2 k hk
    have key : ∀ j x, j < l.length * 2 → us[j]? = some x → w.cell? ⟨g, j, none⟩ = some x := fun j x hj hx => by
      rw [cell_of_row w g j _ _ _ hg, ← Array.getElem?_toList]
      have : (cur.toList.take (l.length * 2))[j]? = us[j]? := by rw [htk]
      rw [List.getElem?_take, if_pos hj] at this
      rw [this, hx]
    exact ⟨B k, W k, c, u, key _ _ (by omega) (by rw [Nat.mul_comm]; exact h5), key _ _ (by omega) (by rw [Nat.mul_comm]; exact h7), h6, h8⟩

set_option maxRecDepth 100000 in
set_option maxHeartbeats 12800000 in
theorem orbit_impl (BC R da od n cD bd cd base : Nat) (v2 v3 : Value) (xs d : List Int) (w : World) (hB : Cells w BC [.int .i64 (R : Nat), .slice (some ⟨da, od, none⟩) n cD, v2, v3]) (hr : Reads w (some ⟨da, od, none⟩) n xs) (hn : n = R * R) (hR0 : 1 ≤ R) (hR : R ≤ 4) (hxb : ∀ e, -3 ≤ gi xs e ∧ gi xs e ≤ 3) (hdl : d.length = R) (hd : Own w base w.heap.size (some ⟨bd, 0, none⟩) R d) (hbase : base ≤ w.heap.size)
    (hO : ∀ k, k ≤ (orbL xs R d k).length → (orbL xs R d k).length ≤ 390625 ∧ ∀ c, c ∈ orbL xs R d k → c.1.length = R ∧ (∀ e, -1000000 ≤ gi c.1 e ∧ gi c.1 e ≤ 1000000) ∧ c.2.length ≤ 24) :
    Calls Tryz.prog 86 #[.pointer (some ⟨BC, 0, none⟩), .slice (some ⟨bd, 0, none⟩) R cd] w fun e w' => ∃ g c N, e = .returned (.slice (some ⟨g, 0, none⟩) N c) ∧ (orbL xs R d N).length = N ∧ OrbM w' base (.slice (some ⟨g, 0, none⟩) N c) (orbL xs R d N) ∧ Ext w w' := by
  have HN := Lib.hid hn
  have HR := Lib.hid hr
  have HXB := Lib.hid hxb
  have HB := Lib.hid hB
  have HO := Lib.hid hO
  have HM0 : Hid (OrbM (w.alloc (.cells #[.slice (some ⟨bd, 0, none⟩) R cd, .slice none 0 0] 72)) base (.slice (some ⟨w.heap.size, 0, none⟩) 1 1) (orbL xs R d 0)) := orbM_one hdl hd hbase
  have HL0 : Hid ((orbL xs R d 0).length = 1) := rfl
  have X0 := Lib.hid ((Ext.refl w).alloc (.cells #[.slice (some ⟨bd, 0, none⟩) R cd, .slice none 0 0] 72))
  have HSC : Hid (∀ k, k < (orbL xs R d k).length → orbL xs R d (k + 1) = orbL xs R d k ++ chl xs R (entO (orbL xs R d k) k) R) := fun k hk => by rw [orbL, entO_at hk]
  obtain ⟨L, hL⟩ : ∃ L, orbL xs R d = L := ⟨_, rfl⟩
  rw [hL] at HO HM0 HL0 HSC ⊢
  clear hr hn hxb hB hO hd hdl hL
  go_enter Tryz.func86, Tryz.ntmps86
  go_wp2_with fail
  go_loopw [6, 5, 7, 8, 9] (fun z v _ _ _ wr => ∃ (k cv g : Nat), k ≤ (L k).length ∧ z = .int .i64 k ∧ v = .slice (some ⟨g, 0, none⟩) (L k).length cv ∧ Hid (OrbM wr base (.slice (some ⟨g, 0, none⟩) (L k).length cv) (L k)) ∧ Hid (Ext w wr) ∧ w.heap.size ≤ g) (fun z _ _ _ _ _ => 390626 - (intOf z).toNat)
  case atStart => exact ⟨0, 1, w.heap.size, by omega, rfl, by rw [HL0.out], by rw [HL0.out]; exact HM0, X0, Nat.le_refl _⟩
  case round =>
    clear HM0 X0 HL0
    obtain ⟨k, cv, g, hk, rfl, rfl, hM, hE, hgw⟩ := hrel
    by_cases hlt : k < (L k).length
    · have hltI : (k : Int) < ((L k).length : Int) := by omega
      obtain ⟨g1, c1, e1, hg1, hlg, hcell⟩ := hM.out.shape (by omega)
      injection e1 with e1 _ e2
      injection e1 with e1
      injection e1 with e1
      subst e1
      subst e2
      obtain ⟨bk, wk, ck, u, hq0, hq1, hown, hword⟩ := hcell k hlt
      obtain ⟨hk1, hk2⟩ := HO.out k hk
      have hmem := hk2 (entO (L k) k) (by rw [entO_lt hlt]; exact List.getElem_mem hlt)
      rw [hmem.1] at hq0 hown
      obtain ⟨ua, un, uc, rfl⟩ : ∃ ua un uc, u = .slice ua un uc := by
        rcases hword with ⟨e1, _⟩ | ⟨c, e1, _⟩
        · exact ⟨_, _, _, e1⟩
        · exact ⟨_, _, _, e1⟩
      have lB := (HB.out.ext hE.out).1
      have p0 := (HB.out.ext hE.out).2 0 _ rfl
      clear hcell hk2
      have HCH : Hid (∀ i, chl xs R (entO (L k) k) (i + 1) = chl xs R (entO (L k) k) i ++ (if negI (turnM xs R i (entO (L k) k).1) = i then [(turnM xs R i (entO (L k) k).1, (i : Int) :: (entO (L k) k).2)] else [])) := fun i => rfl
      have HNX := Lib.hid (HSC.out k hlt)
      have HLN1 : Hid (k + 1 ≤ (L (k + 1)).length) := by rw [Hid, HNX.out]; simp; omega
      obtain ⟨y, hy⟩ : ∃ y, (entO (L k) k).1 = y := ⟨_, rfl⟩
      obtain ⟨pw, hpw⟩ : ∃ pw, (entO (L k) k).2 = pw := ⟨_, rfl⟩
      obtain ⟨S, hS⟩ : ∃ S : Nat → List (List Int × List Int), ∀ i, L k ++ chl xs R (entO (L k) k) i = S i := ⟨_, fun _ => rfl⟩
      have HS0 : Hid (L k = S 0) := by rw [Hid, ← hS]; simp [chl]
      have HSR : Hid (L (k + 1) = S R) := by rw [Hid, ← hS]; exact HNX.out
      have HSS : Hid (∀ i, S (i + 1) = if negI (turnM xs R i y) = i then S i ++ [(turnM xs R i y, (i : Int) :: pw)] else S i) := fun i => by
        rw [← hS, ← hS, HCH.out i, hy, hpw]
        split <;> simp
      rw [hy] at hown hmem
      rw [hpw] at hword hmem
      have HSL : Hid (∀ i, i ≤ R → (S i).length ≤ (S 0).length + i) := fun i => by
        induction i with
        | zero => intro _; omega
        | succ i ih =>
          intro h
          have := ih (by omega)
          rw [HSS.out i]
          split
          · simp; omega
          · omega
      have hlk : (L k).length = (S 0).length := by rw [← HS0.out]
      have HM1 : Hid (OrbM wr base (.slice (some ⟨g, 0, none⟩) (S 0).length cv) (S 0)) := by rw [← hlk, ← HS0.out]; exact hM.out
      have HOWN := Lib.hid hown
      have HWORD := Lib.hid hword
      have HMEM := Lib.hid hmem
      have HEQ := Lib.hid hlk
      have hk400 : (S 0).length ≤ 390625 := by rw [← hlk]; exact hk1
      have HR1 := Lib.hid (HR.out.ext hE.out)
      have HB1 := Lib.hid (HB.out.ext hE.out)
      have HBX := Lib.hid (cells_new wr #[.slice (some ⟨bk, 0, none⟩) R ck, .slice ua un uc] 72)
      have X1 := Lib.hid ((Ext.refl wr).alloc (.cells #[.slice (some ⟨bk, 0, none⟩) R ck, .slice ua un uc] 72))
      clear hown hword hmem hy hpw hS HCH HNX hM hk1 hlk
      rw [HEQ.out] at hltI ⊢
      go_wp2_with fail
      have HM2 := Lib.hid (HM1.out.ext X1.out)
      have HOW1 := Lib.hid ((HOWN.out.ext X1.out).mono (Nat.le_refl _) X1.out.le)
      have HWO1 := Lib.hid (HWORD.out.ext X1.out)
      have hFg : wr.heap.size ≠ g := by omega
      have HEW := Lib.hid (hE.out.trans X1.out)
      obtain ⟨W1, hW1⟩ : ∃ W1, wr.alloc (.cells #[.slice (some ⟨bk, 0, none⟩) R ck, .slice ua un uc] 72) = W1 := ⟨_, rfl⟩
      rw [hW1] at HBX X1 HM2 HOW1 HWO1 HEW ⊢
      clear hW1 HM1 HOWN HWORD HR1 HB1
      obtain ⟨wo, rfl⟩ : ∃ wo : World, wo = wr := ⟨_, rfl⟩
      go_loopw [28, 5, 8, 9] (fun z v _ _ wr => ∃ (i cv g : Nat), i ≤ R ∧ z = .int .i64 i ∧ v = .slice (some ⟨g, 0, none⟩) (S i).length cv ∧ Hid (OrbM wr base (.slice (some ⟨g, 0, none⟩) (S i).length cv) (S i)) ∧ Hid (Ext w wr) ∧ w.heap.size ≤ g ∧ wo.heap.size ≠ g ∧ Hid (Cells wr wo.heap.size [.slice (some ⟨bk, 0, none⟩) R ck, .slice ua un uc]) ∧ Hid (Own wr base wr.heap.size (some ⟨bk, 0, none⟩) R y) ∧ Hid (WordV wr base wk (.slice ua un uc) pw)) (fun z _ _ _ _ => R - (intOf z).toNat)
      case atStart => exact ⟨0, cv, g, by omega, rfl, rfl, HM2, HEW, hgw, hFg, HBX, HOW1, HWO1⟩
      case round =>
        clear HM2 HEW hgw hFg HBX HOW1 HWO1
        obtain ⟨i, cv, g, hi, rfl, rfl, hM, hW, hgw, hFg, HBX, HOWN, HWORD⟩ := hrel
        have hSi := HSL.out i hi
        by_cases hli : i < R
        · have hliI : (i : Int) < (R : Int) := by omega
          have lF := HBX.out.1
          have f0 := HBX.out.2 0 _ rfl
          have f1 := HBX.out.2 1 _ rfl
          have HTU := Lib.hid (turned_impl BC R da od n cD R ck i v2 v3 xs y _ wr (HB.out.ext hW.out) (HR.out.ext hW.out) HN.out hR0 hR HOWN.out.reads rfl hli HXB.out HMEM.out.2.1)
          go_wp2_with fail
          refine HTU.out.mono ?_
          rintro e w2 ⟨b2, c2, rfl, hc2, hb2, hb22, hh2, hE2⟩
          have HH2 := Lib.hid hh2
          have HE2 := Lib.hid hE2
          have HIX := Lib.hid (indexNeg R c2 (some ⟨b2, 0, none⟩) (turnM xs R i y) w2 (hh2.reads (turnM_len _ _ _ _)) (by omega))
          have HNZ : Hid ((i : Int) = negZ (turnM xs R i y) ↔ negI (turnM xs R i y) = i) := negZ_eq (by rw [turnM_len]; exact hli)
          have HSi := Lib.hid (HSS.out i)
          obtain ⟨q, hq⟩ : ∃ q, negZ (turnM xs R i y) = q := ⟨_, rfl⟩
          rw [hq] at HIX HNZ
          clear hh2 hE2 hq HTU
          go_wp2_with fail
          refine HIX.out.mono ?_
          rintro e w3 ⟨rfl, hE3⟩
          have HE3 := Lib.hid (HE2.out.trans hE3)
          have HE23 := Lib.hid hE3
          by_cases hneg : negI (turnM xs R i y) = i
          · have hz : q = (i : Int) := (HNZ.out.2 hneg).symm
            have HS1 : Hid (S (i + 1) = S i ++ [(turnM xs R i y, (i : Int) :: pw)]) := by rw [Hid, HSi.out, if_pos hneg]
            subst hz
            clear hneg HNZ HSi HIX hE3
            have hf0 := (HBX.out.ext HE3.out).2 1 _ rfl
            have lF3 := (HBX.out.ext HE3.out).1
            clear lF f0 f1
            have hE5 : Ext w3 ((w3.alloc (.cells #[.int .i64 (i : Int)] 3)).alloc (.cells #[.slice (some ⟨w3.heap.size, 0, none⟩) 1 1, .slice ua un uc] 22)) := ((Ext.refl w3).alloc _).alloc _
            have hWD := HWORD.out.ext (HE3.out.trans hE5)
            have hone : Reads ((w3.alloc (.cells #[.int .i64 (i : Int)] 3)).alloc (.cells #[.slice (some ⟨w3.heap.size, 0, none⟩) 1 1, .slice ua un uc] 22)) (some ⟨w3.heap.size, 0, none⟩) 1 [(i : Int)] := ((Has.new w3 [(i : Int)]).ext ((Ext.refl _).alloc _)).reads rfl
            have hlp := HMEM.out.2.2
            have HCC : Hid (Calls Tryz.prog 127 #[.slice (some ⟨w3.heap.size + 1, 0, none⟩) 2 2] ((w3.alloc (.cells #[.int .i64 (i : Int)] 3)).alloc (.cells #[.slice (some ⟨w3.heap.size, 0, none⟩) 1 1, .slice ua un uc] 22)) fun e w' => ∃ h c, e = .returned (.slice (some ⟨h, 0, none⟩) (pw.length + 1) c) ∧ w3.heap.size ≤ h ∧ h < w'.heap.size ∧ Has w' h ((i : Int) :: pw) ∧ Ext ((w3.alloc (.cells #[.int .i64 (i : Int)] 3)).alloc (.cells #[.slice (some ⟨w3.heap.size, 0, none⟩) 1 1, .slice ua un uc] 22)) w') := by
              have q0 : World.cell? ((w3.alloc (.cells #[.int .i64 (i : Int)] 3)).alloc (.cells #[.slice (some ⟨w3.heap.size, 0, none⟩) 1 1, .slice ua un uc] 22)) ⟨w3.heap.size + 1, 0, none⟩ = some (.slice (some ⟨w3.heap.size, 0, none⟩) 1 1) := by
                have := (cells_new (w3.alloc (.cells #[.int .i64 (i : Int)] 3)) #[.slice (some ⟨w3.heap.size, 0, none⟩) 1 1, .slice ua un uc] 22).2 0 _ rfl
                rwa [World.size_alloc] at this
              have q1 : World.cell? ((w3.alloc (.cells #[.int .i64 (i : Int)] 3)).alloc (.cells #[.slice (some ⟨w3.heap.size, 0, none⟩) 1 1, .slice ua un uc] 22)) ⟨w3.heap.size + 1, 1, none⟩ = some (.slice ua un uc) := by
                have := (cells_new (w3.alloc (.cells #[.int .i64 (i : Int)] 3)) #[.slice (some ⟨w3.heap.size, 0, none⟩) 1 1, .slice ua un uc] 22).2 1 _ rfl
                rwa [World.size_alloc] at this
              have hg2 : w3.heap.size + 1 < ((w3.alloc (.cells #[.int .i64 (i : Int)] 3)).alloc (.cells #[.slice (some ⟨w3.heap.size, 0, none⟩) 1 1, .slice ua un uc] 22)).heap.size := by simp
              rcases hWD with ⟨e1, e2⟩ | ⟨c9, e1, e2, e3⟩
              · injection e1 with e1 e4 e5
                subst e1 e4 e5 e2
                refine (concat_one (w3.heap.size + 1) w3.heap.size 1 2 i _ q0 q1 hg2 hone (by omega)).mono ?_
                rintro e w4 ⟨h, c, rfl, h1, h2, h3, h4⟩
                exact ⟨h, c, rfl, Nat.le_trans hE5.le h1, h2, h3, h4⟩
              · injection e1 with e1 e4 e5
                subst e1 e4 e5
                refine (concat_cons (w3.heap.size + 1) w3.heap.size wk pw.length 1 _ 2 pw i _ q0 q1 hg2 hone e3.reads (by omega) (by omega)).mono ?_
                rintro e w4 ⟨h, c, rfl, h1, h2, h3, h4⟩
                exact ⟨h, c, by rw [Nat.add_comm 1], Nat.le_trans hE5.le h1, h2, h3, h4⟩
            have HE5 := Lib.hid hE5
            clear hE5 hWD hone
            go_wp2_with fail
            refine HCC.out.mono ?_
            rintro e w4 ⟨h, c, rfl, hh1, hh2, hh3, hE4⟩
            have HE6 := Lib.hid (HE3.out.trans (HE5.out.trans hE4))
            have hbs : base ≤ w4.heap.size := by have := hW.out.le; have := HE6.out.le; omega
            have HE24 := Lib.hid (HE23.out.trans (HE5.out.trans hE4))
            have hb24 := HE24.out.le
            have hb34 := HE3.out.le
            have hbw := hW.out.le
            clear HCC
            go_wp2_with (at_builtin; refine wpList_appendOrb (w0 := wr) rfl (.tmp 40) (.tmp 49) rfl base (.slice (some ⟨g, 0, none⟩) (S i).length cv) (.slice (some ⟨h, 0, none⟩) (pw.length + 1) c) (S i) (turnM xs R i y) ((i : Int) :: pw) b2 c2 h R 1 w4.heap.size rfl (turnM_len _ _ _ _) rfl rfl hM.out HE6.out hb2 ((HH2.out.ext HE24.out).own (by omega) (by omega) (turnM_len _ _ _ _)) (by omega) (.inr ⟨c, rfl, Nat.succ_pos _, hh3.own (by omega) hh2 rfl⟩) rfl (by omega) hbs ?_; intro v5 w5 hM5 hg5 hv6; have HM5 := Lib.hid hM5; have HG5 := Lib.hid hg5; have HV6 := Lib.hid hv6; clear hM5 hg5 hv6)
            rw [← HS1.out] at HM5
            obtain ⟨g5, c5, hv5, _, _, _⟩ := HM5.out.shape (by rw [HS1.out]; simp)
            rw [hv5] at HM5 HV6
            have hg56 : g5 = g ∨ g5 = w4.heap.size + 1 := by
              rcases HV6.out with h | h
              · left; simpa [Value.ownBlock] using h
              · right; simpa [Value.ownBlock] using h
            have HTY := (hM.out.ext HE6.out).typ
            have hFlt := HBX.out.1
            exact ⟨⟨i + 1, c5, g5, by omega, by simp, hv5, HM5, (hW.out.trans HE6.out).grown HG5.out (fun z hz => by simp [Value.ownBlock] at hz; omega), by omega, by omega, (HBX.out.ext HE6.out).grown HG5.out (fun z hz => by simp [Value.ownBlock] at hz; omega), (own_otherR ((HOWN.out.ext HE6.out).mono (Nat.le_refl _) HE6.out.le) HG5.out HTY).mono (Nat.le_refl _) HG5.out.size, (HWORD.out.ext HE6.out).other HG5.out HTY⟩, by simp [intOf]; omega⟩
          · have hz : ¬ (i : Int) = q := fun h => hneg (HNZ.out.1 h)
            have hzb : ((i : Int) == q) = false := by simpa using hz
            have HS1 : Hid (S (i + 1) = S i) := by rw [Hid, HSi.out, if_neg hneg]
            have HM3 : Hid (OrbM w3 base (.slice (some ⟨g, 0, none⟩) (S (i + 1)).length cv) (S (i + 1))) := by rw [HS1.out]; exact hM.out.ext HE3.out
            clear hneg HNZ HSi HIX hE3
            go_wp2
            exact ⟨⟨i + 1, cv, g, by omega, by simp, by rw [HS1.out], HM3, hW.out.trans HE3.out, hgw, hFg, HBX.out.ext HE3.out, (HOWN.out.ext HE3.out).mono (Nat.le_refl _) HE3.out.le, HWORD.out.ext HE3.out⟩, by simp [intOf]; omega⟩
        · obtain rfl : R = i := by omega
          have hSl := HSL.out R (Nat.le_refl _)
          have HM3 : Hid (OrbM wr base (.slice (some ⟨g, 0, none⟩) (L (k + 1)).length cv) (L (k + 1))) := by rw [HSR.out]; exact hM.out
          go_wp2
          exact ⟨⟨k + 1, cv, g, HLN1.out, by simp, by rw [HSR.out], HM3, hW.out, hgw⟩, by simp [intOf]; omega⟩
    · have hkN : (L k).length = k := by omega
      have HKN := Lib.hid hkN
      go_wp2
      go_ret
      exact ⟨g, cv, k, by rw [HKN.out]; rfl, HKN.out, by rw [HKN.out] at hM; exact hM.out, hE.out⟩
end Go.Proofs.YtlnpaplbcocmkaaGreat

/-
  The elements and their number, by the program.
-/
namespace Go.Proofs.YtlnpaplbcocmkaaGreat
open Go.ChangeShapes Go.WideShapes Go.ChangeAt Go.RowKit
set_option linter.unusedVariables false
set_option linter.unusedSimpArgs false

theorem filt_lt (n : Nat) : ∀ l : List (List Int × List Int), (l.filter fun c => decide (c.2.length < n + 1)).length = (l.filter fun c => decide (c.2.length < n)).length + (l.filter fun c => c.2.length == n).length
  | [] => rfl
  | c :: l => by
    have ih := filt_lt n l
    simp only [List.filter_cons]
    by_cases h1 : c.2.length < n
    · rw [if_pos (decide_eq_true (show c.2.length < n + 1 by omega)), if_pos (decide_eq_true h1), if_neg (show ¬ (c.2.length == n) = true by simp; omega)]
      simp only [List.length_cons]; omega
    · by_cases h2 : c.2.length = n
      · rw [if_pos (decide_eq_true (show c.2.length < n + 1 by omega)), if_neg (by simpa using h1), if_pos (show (c.2.length == n) = true by simpa using h2)]
        simp only [List.length_cons]; omega
      · rw [if_neg (show ¬ decide (c.2.length < n + 1) = true by simp; omega), if_neg (by simpa using h1), if_neg (show ¬ (c.2.length == n) = true by simpa using h2)]
        exact ih
theorem orb_count {xs : List Int} {R k : Nat} {l : List (List Int × List Int)} (h : CoOk xs R) (ho : OrbOk xs R (List.replicate R 1) k l) (hk : k = l.length) : ∀ n, (l.filter fun c => decide (c.2.length < n)).length = sumA xs R n
  | 0 => by simp [sumA]
  | n + 1 => by
    rw [filt_lt, orb_count h ho hk n, sumA, ← (lev_orb h ho hk n).length_eq, List.length_map]
theorem levN_nil {xs : List Int} {R : Nat} (h : CoOk xs R) (h24 : (posR (trn xs R) R).length ≤ 24) : levA xs R (levN xs R) = [] := by
  have h1 : levN xs R < (List.range 26).length := by
    rw [levN]
    exact List.findIdx_lt_length_of_exists ⟨25, by simp, by rw [lev_bnd h (by omega)]; rfl⟩
  have h2 := List.findIdx_getElem (xs := List.range 26) (p := fun k => (levA xs R k).isEmpty) (w := h1)
  have e : (List.range 26)[levN xs R]'h1 = levN xs R := by simp
  have h3 : (levA xs R ((List.range 26)[levN xs R]'h1)).isEmpty = true := h2
  rw [e] at h3
  exact List.isEmpty_iff.1 h3
theorem orb_short {xs : List Int} {R k : Nat} {l : List (List Int × List Int)} (h : CoOk xs R) (h24 : (posR (trn xs R) R).length ≤ 24) (ho : OrbOk xs R (List.replicate R 1) k l) (hk : k = l.length) : ∀ c, c ∈ l → c.2.length < levN xs R := by
  intro c hc
  apply Classical.byContradiction
  intro hn
  have h1 := lev_end h (levN_nil h h24) c.2.length (by omega)
  obtain ⟨h2, h3⟩ := orb_img h ho c hc
  have := ((levA_ok h c.2.length).2 c.1).2 ⟨h2, h3⟩
  rw [h1] at this
  cases this
theorem orb_sum {xs : List Int} {R k : Nat} {l : List (List Int × List Int)} (h : CoOk xs R) (h24 : (posR (trn xs R) R).length ≤ 24) (ho : OrbOk xs R (List.replicate R 1) k l) (hk : k = l.length) : l.length = sumA xs R (levN xs R) := by
  rw [← orb_count h ho hk, List.filter_eq_self.2 (fun c hc => decide_eq_true (orb_short h h24 ho hk c hc))]
theorem ones_nn (R : Nat) : ∀ k, 0 ≤ gi (List.replicate R (1 : Int)) k := by
  intro k
  simp only [gi, List.getD_eq_getElem?_getD, List.getElem?_replicate]
  split <;> simp
set_option maxRecDepth 100000 in
set_option maxHeartbeats 3200000 in
theorem elements_impl (BC R da od n cD : Nat) (v2 v3 : Value) (xs : List Int) (w : World) (hB : Cells w BC [.int .i64 (R : Nat), .slice (some ⟨da, od, none⟩) n cD, v2, v3]) (hr : Reads w (some ⟨da, od, none⟩) n xs) (hn : n = R * R) (hR0 : 1 ≤ R) (hR : R ≤ 4) (hxb : ∀ e, -3 ≤ gi xs e ∧ gi xs e ≤ 3) (hco : CoOk xs R) (h24 : (posR (trn xs R) R).length ≤ 24) :
    Calls Tryz.prog 61 #[.pointer (some ⟨BC, 0, none⟩)] w fun e w' => ∃ g c l, e = .returned (.slice (some ⟨g, 0, none⟩) l.length c) ∧ OrbOk xs R (List.replicate R 1) l.length l ∧ OrbM w' w.heap.size (.slice (some ⟨g, 0, none⟩) l.length c) l ∧ Ext w w' := by
  have HB := Lib.hid hB
  have HR := Lib.hid hr
  have HN := Lib.hid hn
  have HXB := Lib.hid hxb
  have HOK := Lib.hid (orb_ok hco (ones_nn R) (by simp))
  have HO : Hid (∀ k, k ≤ (orbL xs R (List.replicate R 1) k).length → (orbL xs R (List.replicate R 1) k).length ≤ 390625 ∧ ∀ c, c ∈ orbL xs R (List.replicate R 1) k → c.1.length = R ∧ (∀ e, -1000000 ≤ gi c.1 e ∧ gi c.1 e ≤ 1000000) ∧ c.2.length ≤ 24) := fun k hk => by
    have ho := HOK.out k hk
    refine ⟨orb_bnd hR hco ho, fun c hc => ?_⟩
    obtain ⟨h1, h2⟩ := orb_img hco ho c hc
    refine ⟨h1.len, fun e => by have := img_bnd hco h1 e; omega, ?_⟩
    have : negC (posR (trn xs R) R) R c.1 ≤ (posR (trn xs R) R).length := List.countP_le_length
    omega
  clear hB hr hn hxb hco h24
  go_enter Tryz.func61, Tryz.ntmps61
  go_wp2_with fail
  refine (ones_impl BC R da od n cD v2 v3 w HB.out hR0 hR).mono ?_
  rintro e w2 ⟨b, rfl, hb, hb2, hh, hE⟩
  have HE := Lib.hid hE
  have HC := Lib.hid (orbit_impl BC R da od n cD b R w.heap.size v2 v3 xs (List.replicate R 1) w2 (HB.out.ext hE) (HR.out.ext hE) HN.out hR0 hR HXB.out (by simp) (hh.own hb hb2 (by simp)) hE.le HO.out)
  clear hE hh
  go_wp2_with fail
  refine HC.out.mono ?_
  rintro e w3 ⟨g, c, N, rfl, hN, hM, hE3⟩
  have HL := Lib.hid hN
  have HM := Lib.hid hM
  have E3 := Lib.hid (HE.out.trans hE3)
  clear hN hM hE3
  go_wp2
  go_ret
  refine ⟨g, c, orbL xs R (List.replicate R 1) N, by rw [HL.out]; rfl, ?_, by rw [HL.out]; exact HM.out, E3.out⟩
  have := HOK.out N (by rw [HL.out]; exact Nat.le_refl _)
  rw [HL.out]; exact this
set_option maxRecDepth 100000 in
set_option maxHeartbeats 6400000 in
theorem weylOrder_impl {R : Int} {a0 oa n : Nat} {l : List Int} {w : World} {i : Int} (hT : Reads w (some ⟨a0, oa, none⟩) n l) (hm0 : n ≤ 1048576) (hM : woO R l = i) :
    Calls Tryz.prog 18 #[.agg #[.int .i64 R, .slice (some ⟨a0, oa, none⟩) n n]] w fun e w' => e = .returned (.int .i64 i) ∧ Ext w w' := by
  subst hM
  have HT := Lib.hid hT
  rcases hG : carG R l with _ | v
  · have HF : Hid (woO R l = 0) := by rw [Hid, woO, hG]
    clear hT
    go_enter Tryz.func18, Tryz.ntmps18
    go_wp2_with fail
    refine (wrapCartan_no (HT.out.ext ((Ext.refl w).alloc _)) hm0 hG).mono ?_
    rintro e w2 ⟨rfl, hE⟩
    go_wp2
    go_ret
    exact ⟨by rw [HF.out]; rfl, ((Ext.refl w).alloc _).trans hE⟩
  · obtain ⟨K, rfl, hK1, hK4, hlK, ht⟩ := carG_some hG
    have hnK : Hid (n = K * K) := by rw [Hid, ← hT.len]; exact hlK
    obtain ⟨hh, hWOK⟩ := wOk_tab hK1 hK4 ht
    have HWX := Lib.hid hWOK.xb
    have HCO := Lib.hid (coOk_tab hK1 hK4 ht)
    have H24 := Lib.hid (co24_tab hK1 hK4 ht)
    have HF : Hid (woO K l = (sumA l K (levN l K) : Nat)) := by rw [Hid, woO, hG]; rfl
    clear hWOK hT
    go_enter Tryz.func18, Tryz.ntmps18
    go_wp2_with fail
    refine (wrapCartan_yes (HT.out.ext ((Ext.refl w).alloc _)) hK1 hK4 ht hlK).mono ?_
    rintro e w2 ⟨B, LB, ns, rfl, hns, hW⟩
    have HE2 := Lib.hid (((Ext.refl w).alloc _).trans hW.ext)
    obtain ⟨xa, xn, xc, hbox, hstr⟩ := hW.box
    have HBX := Lib.hid hbox
    clear hW hns hbox hstr
    go_wp2_with fail
    refine (elements_impl B K a0 oa n n _ _ l w2 HBX.out (HT.out.ext HE2.out) hnK.out hK1 hK4 HWX.out HCO.out H24.out).mono ?_
    rintro e w3 ⟨g, c, L, rfl, hO, hM, h3⟩
    have HE3 := Lib.hid (HE2.out.trans h3)
    have HS : Hid (L.length = sumA l K (levN l K)) := orb_sum HCO.out H24.out hO rfl
    clear hO hM h3
    go_wp2
    go_ret
    exact ⟨by rw [HF.out, ← HS.out]; rfl, HE3.out⟩
end Go.Proofs.YtlnpaplbcocmkaaGreat
