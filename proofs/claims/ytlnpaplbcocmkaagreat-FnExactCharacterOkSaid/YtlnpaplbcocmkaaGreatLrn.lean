/-
  A part is known by its family: its name and its lengths are written down.
-/
import Derived.Test.YtlnpaplbcocmkaaGreatCon
namespace Go.Proofs.YtlnpaplbcocmkaaGreat
open Go.ChangeShapes Go.WideShapes Go.ChangeAt Go.RowKit
set_option linter.unusedVariables false
set_option linter.unusedSimpArgs false

theorem Tryz.infoStr : (Tryz.prog.info? 9).map (fun i => (i.zero, i.size, i.bytes)) = some (some (.string ByteArray.empty), 1, 16) := by kernel_rfl
/-- append of one string, as a step of a region, with what is known of the block. -/
theorem step_appendS {ops : Array Oper} {o : Oper} {a : Act} {w : World} {K : Act → World → Prop} {Q : Exit → Act → World → Prop} {E : Prop} (hgd : o.guard = none) (s x : Operand)
    (ho : o.op = .call { callee := .builtin .append, args := #[s, x], argTypes := #[110, 110] }) (base : Nat)
    (v : Value) (n : Nat) (xs : List Value) (y : ByteArray) (c g : Nat) (hs : a.eval s = v) (hx : a.eval x = .slice (some ⟨g, 0, none⟩) 1 c) (hown : w.ownsRow base 9 1 v n xs) (hy : w.cell? ⟨g, 0, none⟩ = some (.string y)) (hb : n + 1 ≤ 1048577) (hbase : base ≤ w.heap.size)
    (h : ∀ v' w', w'.ownsRow base 9 1 v' (n + 1) (xs ++ [.string y]) → w.grownBy w' v.ownBlock → (v'.ownBlock = v.ownBlock ∨ v'.ownBlock = some w.heap.size) → K (a.put o.dst v') w') :
    if Region.wanted o (yielded ops a.tmps) = true then Oper.wp Tryz.prog o a w K Q else E := by
  obtain ⟨i0, hi, hz0, hz1, hz2⟩ := info_parts Tryz.infoStr
  have hw : Region.wanted o (yielded ops a.tmps) = true := by simp [Region.wanted, hgd]
  rw [if_pos hw]
  obtain ⟨v', w', hr, h2, h3, h4, h5⟩ := run_append_own_at (P := Tryz.prog) w base 110 o.type 9 i0 (.string ByteArray.empty) 1 16 Tryz.underlying110 hi hz0 hz1 hz2 rfl (by decide) v n xs hown ⟨g, 0, none⟩ 1 c [.string y] rfl (fun j u hu => by
    obtain rfl : j = 0 := by have := (List.getElem?_eq_some_iff.1 hu).1; simp at this; omega
    simp at hu
    subst hu
    exact hy) (fun u hu => by simp at hu; subst hu; rfl) (by unfold maxLen; omega) (by omega) hbase
  unfold Oper.wp execOp
  simp only [ho, resolve, invoke, builtin, Sem.run_bind, Sem.run_pure, Result.andThen_ok, List.map_toArray, List.map_cons, List.map_nil, hs, hx, hr]
  exact h v' w' (by simpa using h2) h3 h5
/-- The names of families, as values. -/
def nmV (ns : List Nat) : List Value := ns.map fun k => .string (nmS k)
/-- A wrapped Cartan matrix under way, in a call that began in W. -/
structure CarW (W w : World) (B LB R : Nat) (da nv : Value) (ns : List Nat) (ls : List Int) : Prop where
  box : Cells w B [.int .i64 (R : Nat), da, nv, .slice (some ⟨LB, 0, none⟩) R R]
  len : Has w LB ls
  nam : w.ownsRow W.heap.size 9 1 nv ns.length (nmV ns)
  ext : Ext W w
  loB : W.heap.size ≤ B
  loL : W.heap.size ≤ LB
  neL : B ≠ LB
  ne : ∀ z, nv.ownBlock = some z → z ≠ B ∧ z ≠ LB
theorem CarW.step {W w w' : World} {B LB R : Nat} {da nv : Value} {ns : List Nat} {ls : List Int} (h : CarW W w B LB R da nv ns ls) (hE : Ext w w') : CarW W w' B LB R da nv ns ls :=
  ⟨h.box.ext hE, h.len.ext hE, ownsRow_ext h.nam hE, h.ext.trans hE, h.loB, h.loL, h.neL, h.ne⟩
theorem ownsRow_ne {w w' : World} {base n b : Nat} {t : TypeId} {v : Value} {vs : List Value} (h : w.ownsRow base t 1 v n vs) (hg : w.grownBy w' (some b)) (hne : ∀ z, v.ownBlock = some z → z ≠ b) : w'.ownsRow base t 1 v n vs := by
  obtain ⟨h1, h2⟩ := h
  refine ⟨h1, ?_⟩
  rcases h2 with h2 | ⟨g, cap, cur, rfl, h3, h4, h5⟩
  · exact .inl h2
  · refine .inr ⟨g, cap, cur, rfl, h3, ?_, h5⟩
    rw [hg.block g (Array.getElem?_eq_some_iff.1 h4).1 (fun e => hne g rfl (by injection e))]
    exact h4
theorem CarW.setLen {W w : World} {B LB R : Nat} {da nv : Value} {ns : List Nat} {ls : List Int} (h : CarW W w B LB R da nv ns ls) (j : Nat) (hj : j < ls.length) (v : Int) : CarW W (w.setCell ⟨LB, j, none⟩ (.int .i64 v)) B LB R da nv ns (ls.set j v) :=
  have hg := grownBy_set (p := ⟨LB, j, none⟩) (grownBy_refl w (some LB)) rfl (.int .i64 v)
  ⟨h.box.grown hg (fun k hk => by simp at hk; have := h.neL; omega), h.len.set j hj v, ownsRow_ne h.nam hg (fun z hz => (h.ne z hz).2), h.ext.setCell (p := ⟨LB, j, none⟩) h.loL _, h.loB, h.loL, h.neL, h.ne⟩
theorem Has.grNe {w w' : World} {b : Nat} {xs : List Int} {row : Option Nat} (h : Has w b xs) (hg : w.grownBy w' row) (hne : row ≠ some b) : Has w' b xs := by
  obtain ⟨r, h1, h2⟩ := h
  exact ⟨r, by rw [hg.block b (Array.getElem?_eq_some_iff.1 h1).1 (fun e => hne e.symm)]; exact h1, h2⟩
/-- A name more: the slice grown, then stored into the box. -/
theorem CarW.name {W w w2 : World} {B LB R : Nat} {da nv v2 : Value} {ns : List Nat} {ls : List Int} {k : Nat} (h : CarW W w B LB R da nv ns ls)
    (hG : w2.ownsRow W.heap.size 9 1 v2 (ns.length + 1) (nmV ns ++ [.string (nmS k)])) (hg : w.grownBy w2 nv.ownBlock) (hn : v2.ownBlock = nv.ownBlock ∨ v2.ownBlock = some w.heap.size) : CarW W (w2.setCell ⟨B, 2, none⟩ v2) B LB R da v2 (ns ++ [k]) ls := by
  have hlo := World.ownsRow.lt h.nam
  have hne : ∀ z, v2.ownBlock = some z → z ≠ B ∧ z ≠ LB := fun z hz => by
    rcases hn with e | e
    · exact h.ne z (e ▸ hz)
    · rw [e] at hz
      injection hz with hz
      have := h.box.1; have := h.len.lt
      omega
  have hgs := grownBy_set (p := ⟨B, 2, none⟩) (grownBy_refl w2 (some B)) rfl v2
  refine ⟨(h.box.grown hg (fun z hz => (h.ne z hz).1)).put 2 (by simp) v2, (h.len.grNe hg (fun e => (h.ne LB e).2 rfl)).setOther (p := ⟨B, 2, none⟩) h.neL v2, ?_, (h.ext.grown hg (fun z hz => (hlo z hz).1)).setCell (p := ⟨B, 2, none⟩) h.loB _, h.loB, h.loL, h.neL, hne⟩
  have := ownsRow_ne hG hgs (fun z hz => (hne z hz).1)
  simpa [nmV] using this
theorem Reads.grownNe {w w' : World} {a : Option Addr} {n : Nat} {xs : List Int} (h : Reads w a n xs) {row : Option Nat} (hg : w.grownBy w' row) (hd : ∀ z, blk a = some z → row ≠ some z) : Reads w' a n xs := by
  refine ⟨h.1, ?_⟩
  rcases h.2 with h | ⟨b, off, rfl, hlt, hc⟩
  · exact .inl h
  · refine .inr ⟨b, off, rfl, Nat.lt_of_lt_of_le hlt hg.size, fun j hj => ?_⟩
    rw [World.cell?_of_block (w := w) (hg.block b hlt (fun e => hd b rfl e.symm))]
    exact hc j hj
theorem learnM_none {xs : List Int} {R : Nat} {rows : List Nat} (h : ∀ k, k < 12 → (if frk k = rows.length then (orderM k xs R rows.length [] rows).map (fun σ => (k, σ)) else none) = none) : learnM xs R rows = none := by
  rw [learnM, List.findSome?_eq_none_iff]
  exact fun k hk => h k (List.mem_range.1 hk)
theorem learnM_some {xs : List Int} {R : Nat} {rows σ : List Nat} {k : Nat} (hk : k < 12) (h0 : ∀ p, p < k → (if frk p = rows.length then (orderM p xs R rows.length [] rows).map (fun σ => (p, σ)) else none) = none) (h1 : frk k = rows.length) (h2 : orderM k xs R rows.length [] rows = some σ) : learnM xs R rows = some (k, σ) := by
  rw [learnM, List.findSome?_eq_some_iff]
  refine ⟨List.range k, k, List.range' (k + 1) (11 - k), ?_, by rw [if_pos h1, h2]; rfl, fun p hp => h0 p (List.mem_range.1 hp)⟩
  rw [List.range_eq_range', List.range_eq_range', show 12 = k + ((11 - k) + 1) by omega, ← List.range'_append_1, Nat.zero_add, List.range'_succ]

set_option maxRecDepth 100000 in
set_option maxHeartbeats 6400000 in
theorem learnPart_impl (W : World) (B LB R d0 od n cD : Nat) (nv : Value) (ns : List Nat) (ls xs : List Int) (a : Option Addr) (m c : Nat) (rows : List Nat) (w : World) (hK : CarW W w B LB R (.slice (some ⟨d0, od, none⟩) n cD) nv ns ls) (hl : ls.length = R) (hr : Reads W (some ⟨d0, od, none⟩) n xs) (hn : n = R * R) (hR : R ≤ 4) (hns : ns.length ≤ 4)
    (hrow : Reads w a m (rI rows)) (hs : SlcOk a m c) (hm : rows.length = m) (hm4 : m ≤ 4) (hx : ∀ x, x ∈ rows → x < R) :
    Calls Tryz.prog 98 #[.pointer (some ⟨B, 0, none⟩), .slice a m c] w fun e w' => (learnM xs R rows = none ∧ e = .returned (.bool false) ∧ Ext w w') ∨ ∃ k σ nv', learnM xs R rows = some (k, σ) ∧ e = .returned (.bool true) ∧ CarW W w' B LB R (.slice (some ⟨d0, od, none⟩) n cD) nv' (ns ++ [k]) (slF k σ ls σ.length) := by
  have HK := Lib.hid hK
  have HL := Lib.hid hl
  have HRW := Lib.hid hrow
  have HS := Lib.hid hs
  have HX := Lib.hid hx
  have HM := Lib.hid hm
  have HOL : Hid (∀ k, k < 12 → ∀ w1, Ext w w1 → Calls Tryz.prog 145 #[.pointer (some ⟨B, 0, none⟩), .iface (famU k) (famW k), .slice none 0 0, .slice a m c] w1 (OrdPost w1 none (orderM k xs R m [] rows))) := fun k hk w1 h1 => by
    obtain ⟨gr, gb, gn, vr, vb, vn, hF⟩ := famOk k hk
    exact orderLike_impl B R d0 od n cD _ _ xs hF w hK.box (hr.ext hK.ext) hn hR m [] rows none a 0 c w1 h1 hm (by simpa using hm4) (fun x hx2 => hx x (by simpa using hx2)) (reads_nil _ _) (.inl ⟨rfl, rfl⟩) (fun _ => rfl) (hrow.ext h1) hs
  have HFK : Hid (∀ k, k < 12 → ∃ gr gb gn vr vb vn, FamOk k (famU k) (famW k) gr gb gn vr vb vn) := famOk
  have HLI : Hid (∀ k, k < 12 → ∀ (i : Nat), i ≤ 8 → ∀ w, Calls Tryz.prog 146 #[.iface (famU k) (famW k), .int .i64 i] w fun e w' => e = .returned (.int .i64 (lenM k i)) ∧ Ext w w') := lengthIn_impl
  have HNO : Hid ((∀ k, k < 12 → (if frk k = m then (orderM k xs R m [] rows).map (fun σ => (k, σ)) else none) = none) → learnM xs R rows = none) := fun h => learnM_none (by rw [hm]; exact h)
  have HYES : Hid (∀ σ k, k < 12 → (∀ p, p < k → (if frk p = m then (orderM p xs R m [] rows).map (fun σ => (p, σ)) else none) = none) → frk k = m → orderM k xs R m [] rows = some σ → learnM xs R rows = some (k, σ) ∧ σ.length = m ∧ ∀ x, x ∈ σ → x < R) := fun σ k h1 h2 h3 h4 => by
    refine ⟨learnM_some h1 (by rw [hm]; exact h2) (by rw [hm]; exact h3) (by rw [hm]; exact h4), ?_, ?_⟩
    · have h5 := (orderM_ok k xs R m [] rows σ hm h4).2
      rw [← hm, ← h5.length_eq]; simp
    · intro x hx2
      have h5 := (orderM_ok k xs R m [] rows σ hm h4).2
      exact hx x (by have := h5.mem_iff.2 hx2; simpa using this)
  have HNS := Lib.hid hns
  clear hK hl hrow hs hx hm hr hn hns
  go_enter Tryz.func98, Tryz.ntmps98
  go_wp2_with fail
  refine (families_impl _).mono ?_
  rintro e w2 ⟨g, cg, rfl, hg, hfam, h2⟩
  have HG := Lib.hid hg
  have HFM := Lib.hid hfam
  have E2 := Lib.hid h2
  clear hg hfam h2
  go_wp2_with fail
  go_loopw [13, 6, 7, 8, 9, 10] (fun z _ _ _ _ _ wr => ∃ i : Nat, i ≤ 12 ∧ z = .int .i64 i ∧ Hid (Ext w2 wr) ∧ Hid (∀ p, p < i → (if frk p = m then (orderM p xs R m [] rows).map (fun σ => (p, σ)) else none) = none)) (fun z _ _ _ _ _ _ => 12 - (intOf z).toNat)
  case atStart => exact ⟨0, by omega, rfl, Ext.refl w2, fun p h => by omega⟩
  case round =>
    obtain ⟨i, hi, rfl, hE, hD⟩ := hrel
    by_cases hlt : i < 12
    · have c0 : wr.cell? ⟨g, i, none⟩ = some (.iface (famU i) (famW i)) := (hE.out.cells g i HG.out).trans (HFM.out i hlt)
      have hgl : g < wr.heap.size := Nat.lt_of_lt_of_le HG.out hE.out.le
      obtain ⟨gr, gb, gn, vr, vb, vn, hF⟩ := HFK.out i hlt
      have HOI := Lib.hid (HOL.out i hlt)
      have HLK := Lib.hid (HLI.out i hlt)
      have HYI := Lib.hid (fun σ => HYES.out σ i hlt hD.out)
      have mr := hF.mr
      have er := hF.er
      have mn := hF.mn
      have en := hF.en
      have HCR := Lib.hid hF.cr
      have HCN := Lib.hid hF.cn
      clear hF
      generalize famU i = u at *
      generalize famW i = vv at *
      by_cases hfr : frk i = m
      · rw [hfr] at HCR
        have HFR := Lib.hid hfr
        clear hfr
        go_wp2_with ((refine (HCR.out _).mono ?_); rintro e w3 ⟨rfl, h3⟩)
        have X3 := Lib.hid ((E2.out.trans hE.out).trans h3)
        have Y3 := Lib.hid (hE.out.trans h3)
        clear h3 hE c0 hgl
        refine (HOI.out _ X3.out).mono ?_
        rintro e w4 ⟨h4, hres⟩
        have X4 := Lib.hid (X3.out.trans h4)
        have Y4 := Lib.hid (Y3.out.trans h4)
        clear h4 Y3
        rcases hres with ⟨hno, rfl⟩ | ⟨σ, a5, c5, hyes, rfl, hr5, hf5⟩
        · have hD3 : Hid (∀ p, p < i + 1 → (if frk p = m then (orderM p xs R m [] rows).map (fun σ => (p, σ)) else none) = none) := fun p hp => by
            by_cases e : p = i
            · subst e; rw [hno]; simp
            · exact hD.out p (by omega)
          clear hno hD HYI X3
          go_wp2
          exact ⟨⟨i + 1, by omega, by simp, Y4, hD3⟩, by simp [intOf]; omega⟩
        · obtain ⟨hy1, hy2, hy3⟩ := HYI.out σ HFR.out hyes
          have HY1 := Lib.hid hy1
          have HY3 := Lib.hid hy3
          have HY2 := Lib.hid hy2
          have HR5 := Lib.hid hr5
          rw [hy2] at HR5 ⊢
          have K4 := Lib.hid (HK.out.step X4.out)
          have K3 := Lib.hid (HK.out.step X3.out)
          have HNA : Hid (∀ z, blk a5 = some z → z ≠ LB ∧ z ≠ B ∧ nv.ownBlock ≠ some z) := fun z hz => by
            have h9 : w3.heap.size ≤ z := by
              rcases hf5 with e | e
              · rw [e] at hz; cases hz
              · exact e z hz
            have := K3.out.len.lt
            have := K3.out.box.1
            exact ⟨by omega, by omega, fun e => by have := (World.ownsRow.lt K3.out.nam z e).2; omega⟩
          have HNL := HNS.out
          have hnl : Hid (ns.length + 1 ≤ 1048577) := by rw [Hid]; omega
          have HBW : Hid (W.heap.size ≤ w4.heap.size) := K4.out.ext.le
          have lB := K4.out.box.1
          have q2 := K4.out.box.2 2 _ rfl
          clear hy1 hy2 hy3 hr5 hf5 hyes HYI HOI hD HCR mr er HNL X4 Y4 X3 K3
          go_wp2_with fail
          clear lB q2
          have lB := K4.out.box.1
          have q2 := K4.out.box.2 2 _ rfl
          go_region_law (first
            | ((rw [if_pos (by simp [Region.wanted])]); go_simp; (refine (HCN.out _).mono ?_); rintro e w5 ⟨rfl, h5⟩; have K5 := K4.out.step ((Ext.refl _).drew.trans h5); have l5 := K5.box.1; have q52 := K5.box.2 2 _ rfl; dsimp only)
            | (refine step_appendS rfl (.tmp 35) (.tmp 38) rfl W.heap.size nv ns.length (nmV ns) (nmS i) 1 w5.heap.size rfl rfl (ownsRow_ext K5.nam ((Ext.refl _).alloc _)) ((cells_new w5 #[.string (nmS i)] 9).2 0 _ rfl) hnl.out (Nat.le_trans K5.ext.le (by simp)) ?_; intro v6 w6 hG6 hg6 hn6; obtain ⟨a6, c6, rfl⟩ := ownsRow_shape hG6; have K6 := CarW.name (K5.step ((Ext.refl _).alloc (.cells #[.string (nmS i)] 9))) hG6 hg6 hn6; have B6 := (K5.box.ext ((Ext.refl _).alloc (.cells #[.string (nmS i)] 9))).grown hg6 (fun z hz => (K5.ne z hz).1); have l6 := B6.1; have f6 := B6.3; have q60 := B6.2 2 _ rfl))
          all_goals
            have KN := Lib.hid K6
            have R6 : Hid (Reads (w6.setCell ⟨B, 2, none⟩ (.slice a6 (ns.length + 1) c6)) a5 m (rI σ)) := by
              have r5 := HR5.out.ext (((Ext.refl _).drew.trans h5).alloc (.cells #[.string (nmS i)] 9))
              have r6 := r5.grownNe hg6 (fun z hz => (HNA.out z hz).2.2)
              exact r6.grownNe (grownBy_set (p := ⟨B, 2, none⟩) (grownBy_refl _ _) rfl _) (fun z hz e => (HNA.out z hz).2.1 (by injection e with e; exact e.symm))
            have HLN : Hid (ls.length = R) := HL
            clear K6 B6 l6 f6 q60 hG6 hg6 hn6 K5 h5 l5 q52 K4 lB q2
            go_wp2_with fail
            go_loopw [44, 9, 10] (fun z _ _ wr => ∃ j : Nat, j ≤ m ∧ z = .int .i64 j ∧ Hid (CarW W wr B LB R (.slice (some ⟨d0, od, none⟩) n cD) (.slice a6 (ns.length + 1) c6) (ns ++ [i]) (slF i σ ls j)) ∧ Hid (Reads wr a5 m (rI σ))) (fun z _ _ _ => m - (intOf z).toNat)
            case atStart => exact ⟨0, by omega, rfl, KN, R6⟩
            case round =>
              clear KN R6
              obtain ⟨j, hj, rfl, hC, hRd⟩ := hrel
              by_cases hjm : j < m
              · obtain ⟨b0, o0, rfl⟩ : ∃ b0 o0, a5 = some ⟨b0, o0, none⟩ := by
                  rcases hRd.out.2 with h | ⟨b3, o3, h, _⟩
                  · omega
                  · exact ⟨b3, o3, h⟩
                have c0 : wr.cell? ⟨b0, o0 + j, none⟩ = some (.int .i64 (ni σ j : Nat)) := by
                  rcases hRd.out.2 with h | ⟨b3, o3, h, hb3, hc3⟩
                  · omega
                  · simp only [Option.some.injEq, Addr.mk.injEq, and_true] at h
                    obtain ⟨rfl, rfl⟩ := h
                    rw [← gi_rI]; exact hc3 j hjm
                have hrj : ni σ j < R := HY3.out _ (ni_mem (by rw [HY2.out]; exact hjm))
                have HSL : Hid (slF i σ ls (j + 1) = (slF i σ ls j).set (ni σ j) (lenM i (j + 1))) := by rw [Hid, slF]
                have HSN : Hid ((slF i σ ls j).length = R) := by rw [Hid, slF_length]; exact HLN.out
                obtain ⟨r, hr⟩ : ∃ r, ni σ j = r := ⟨_, rfl⟩
                rw [hr] at c0 hrj HSL
                obtain ⟨L, hL⟩ : ∃ L, slF i σ ls j = L := ⟨_, rfl⟩
                rw [hL] at hC HSL HSN
                have HLJ := Lib.hid (fun w => HLK.out (j + 1) (by omega) w)
                rw [show ((j + 1 : Nat) : Int) = (j : Int) + 1 by simp] at HLJ
                generalize lenM i (j + 1) = lv at *
                clear hr hL
                have lB := hC.out.box.1
                have q3 := hC.out.box.2 3 _ rfl
                have hrR : (r : Int) < (R : Int) := by omega
                have hwj : IntKind.i64.wrap ((j : Int) + 1) = (j : Int) + 1 := IntWalk.i64_in _ ⟨by omega, by omega⟩
                have hb0l : b0 < wr.heap.size := by
                  rcases hRd.out.2 with h | ⟨b3, o3, h, hb3, hc3⟩
                  · omega
                  · simp only [Option.some.injEq, Addr.mk.injEq, and_true] at h
                    obtain ⟨rfl, rfl⟩ := h; exact hb3
                go_wp2_with fail
                go_region_with (go_at_call 146; (with_reducible refine (HLJ.out _).mono ?_); rintro e w7 ⟨rfl, h7⟩; have K7 := hC.out.step ((Ext.refl _).drew.trans h7); have l7 := K7.box.1; have q73 := K7.box.2 3 _ rfl; have x7 := K7.len.cell r (by rw [HSN.out]; exact hrj); have f7 := K7.len.free r; have y7 := K7.len.lt)
                all_goals
                  have K8 := Lib.hid (K7.setLen r (by rw [HSN.out]; exact hrj) lv)
                  rw [← HSL.out] at K8
                  have R8 := Lib.hid ((hRd.out.ext ((Ext.refl _).drew.trans h7)).grownNe (grownBy_set (p := ⟨LB, r, none⟩) (grownBy_refl _ _) rfl (.int .i64 lv)) (fun z hz e => (HNA.out z hz).1 (by injection e with e; exact e.symm)))
                  clear K7 l7 q73 x7 f7 y7 h7 hC hRd lB q3 c0 hb0l
                  go_wp2
                  exact ⟨⟨j + 1, by omega, by simp, K8, R8⟩, by simp [intOf]; omega⟩
              · obtain rfl : m = j := by omega
                go_wp2
                go_ret
                exact .inr ⟨i, σ, _, HY1.out, rfl, by rw [HY2.out]; exact hC.out⟩
      · have hfb : (((frk i : Nat) : Int) == (m : Int)) = false := by simp; omega
        have hD3 : Hid (∀ p, p < i + 1 → (if frk p = m then (orderM p xs R m [] rows).map (fun σ => (p, σ)) else none) = none) := fun p hp => by
          by_cases e : p = i
          · subst e; rw [if_neg hfr]
          · exact hD.out p (by omega)
        clear hfr hD HYI HOI
        go_wp2_with ((refine (HCR.out _).mono ?_); rintro e w3 ⟨rfl, h3⟩)
        exact ⟨⟨i + 1, by omega, by simp, hE.out.trans h3, hD3⟩, by simp [intOf]; omega⟩
    · obtain rfl : i = 12 := by omega
      have HF := Lib.hid (HNO.out hD.out)
      go_wp2
      go_ret
      exact .inl ⟨HF.out, rfl, E2.out.trans hE.out⟩
end Go.Proofs.YtlnpaplbcocmkaaGreat
