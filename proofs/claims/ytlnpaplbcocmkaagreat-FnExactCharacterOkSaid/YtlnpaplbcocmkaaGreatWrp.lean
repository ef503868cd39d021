/-
  A Cartan matrix is wrapped: the program's text.
-/
import Derived.Test.YtlnpaplbcocmkaaGreatNam
namespace Go.Proofs.YtlnpaplbcocmkaaGreat
open Go.ChangeShapes Go.WideShapes Go.ChangeAt Go.RowKit
set_option linter.unusedVariables false
set_option linter.unusedSimpArgs false

theorem wrapS_stop {xs : List Int} {R i : Nat} (h : wrapS xs R i = none) : ∀ d, wrapS xs R (i + d) = none
  | 0 => h
  | d + 1 => by rw [← Nat.add_assoc, wrapS, wrapS_stop h d]
theorem wrapS_names {xs : List Int} {R : Nat} : ∀ i ns ls, wrapS xs R i = some (ns, ls) → ns.length ≤ i ∧ ls.length = R ∧ ∀ k, k ∈ ns → k < 12
  | 0, ns, ls, h => by cases h; simp
  | i + 1, ns, ls, h => by
    rw [wrapS] at h
    rcases h1 : wrapS xs R i with _ | ⟨n1, l1⟩
    · rw [h1] at h; cases h
    · rw [h1] at h
      simp only at h
      obtain ⟨a1, a2, a3⟩ := wrapS_names i n1 l1 h1
      split at h
      · rcases h3 : learnM xs R (conn (bx xs R) R i) with _ | ⟨k, σ⟩
        · rw [h3] at h; cases h
        · rw [h3] at h
          cases h
          refine ⟨by simp; omega, by rw [slF_length, a2], fun q hq => ?_⟩
          rcases List.mem_append.1 hq with h | h
          · exact a3 q h
          · rw [List.mem_singleton] at h; subst h; exact (learnM_ok h3).1
      · cases h; exact ⟨by omega, a2, a3⟩
theorem wrapS_pos {xs : List Int} {R : Nat} {ns : List Nat} {ls : List Int} (h0 : 0 < R) (h : wrapS xs R R = some (ns, ls)) : 0 < ns.length := by
  have key : ∀ i ns ls, wrapS xs R i = some (ns, ls) → ns = [] → ls = List.replicate R 0 ∧ i = 0 := by
    intro i
    induction i with
    | zero => intro ns ls h _; cases h; exact ⟨rfl, rfl⟩
    | succ i ih =>
      intro ns ls h hn
      rw [wrapS] at h
      rcases h1 : wrapS xs R i with _ | ⟨n1, l1⟩
      · rw [h1] at h; cases h
      · rw [h1] at h
        simp only at h
        split at h
        · rcases h3 : learnM xs R (conn (bx xs R) R i) with _ | ⟨k, σ⟩
          · rw [h3] at h; cases h
          · rw [h3] at h
            cases h
            simp at hn
        · next h2 =>
          cases h
          obtain ⟨e1, e2⟩ := ih _ _ h1 hn
          subst e2
          exfalso; apply h2
          rw [e1]; simp [gi, h0]
  rcases ns with _ | ⟨k, t⟩
  · have := (key R [] ls h rfl).2; omega
  · simp
/-- A wrapped Cartan matrix: its box, its lengths, its names. -/
structure Wrapped (W w : World) (B LB R : Nat) (da : Value) (ns : List Nat) (ls : List Int) : Prop where
  box : ∃ a n c, Cells w B [.int .i64 (R : Nat), da, .slice a n c, .slice (some ⟨LB, 0, none⟩) R R] ∧ StrR w a n ((sortN ns).map nmS)
  len : Has w LB ls
  ext : Ext W w
  loB : W.heap.size ≤ B
  loL : W.heap.size ≤ LB
  neL : B ≠ LB

set_option maxRecDepth 100000 in
set_option maxHeartbeats 1600000 in
theorem wrapCartan_bad (R : Int) (d0 od n : Nat) (w : World) (hm : n ≤ 1048576) (h : ¬ (1 ≤ R ∧ R ≤ 4 ∧ (n : Int) = R * R)) :
    Calls Tryz.prog 60 #[.agg #[.int .i64 R, .slice (some ⟨d0, od, none⟩) n n]] w fun e w' => e = .returned (.tuple #[.pointer none, .bool false]) ∧ Ext w w' := by
  by_cases h1 : R < 1
  · clear h
    go_enter Tryz.func60, Tryz.ntmps60
    go_wp2
    go_ret2
    exact ⟨rfl, (Ext.refl w).alloc _⟩
  · by_cases h2 : 4 < R
    · clear h
      go_enter Tryz.func60, Tryz.ntmps60
      go_wp2
      go_ret2
      exact ⟨rfl, (Ext.refl w).alloc _⟩
    · obtain ⟨R, rfl⟩ := Int.eq_ofNat_of_zero_le (show 0 ≤ R by omega)
      have hRR : R * R ≤ 16 := sq4 (by omega)
      have e1 : (R : Int) * (R : Int) = ((R * R : Nat) : Int) := by simp
      have hw : IntKind.i64.wrap ((R : Int) * (R : Int)) = (R : Int) * (R : Int) := IntWalk.i64_in _ ⟨by rw [e1]; omega, by rw [e1]; omega⟩
      have hne : ((n : Int) == (R : Int) * (R : Int)) = false := by
        rw [beq_eq_false_iff_ne]; intro e; exact h ⟨by omega, by omega, e⟩
      clear h e1 hRR
      go_enter Tryz.func60, Tryz.ntmps60
      go_wp2
      go_ret2
      exact ⟨rfl, (Ext.refl w).alloc _⟩
set_option maxRecDepth 100000 in
set_option maxHeartbeats 6400000 in
theorem wrapCartan_impl (R d0 od n : Nat) (xs : List Int) (w : World) (hr : Reads w (some ⟨d0, od, none⟩) n xs) (hn : n = R * R) (hR0 : 1 ≤ R) (hR : R ≤ 4) :
    Calls Tryz.prog 60 #[.agg #[.int .i64 (R : Nat), .slice (some ⟨d0, od, none⟩) n n]] w fun e w' => (wrapS xs R R = none ∧ e = .returned (.tuple #[.pointer none, .bool false]) ∧ Ext w w') ∨ ∃ B LB ns ls, wrapS xs R R = some (ns, ls) ∧ e = .returned (.tuple #[.pointer (some ⟨B, 0, none⟩), .bool true]) ∧ Wrapped w w' B LB R (.slice (some ⟨d0, od, none⟩) n n) ns ls := by
  have HR := Lib.hid hr
  have HN := Lib.hid hn
  have hRR : R * R ≤ 16 := sq4 hR
  have e1 : (R : Int) * (R : Int) = ((R * R : Nat) : Int) := by simp
  have hw : IntKind.i64.wrap ((R : Int) * (R : Int)) = (R : Int) * (R : Int) := IntWalk.i64_in _ ⟨by rw [e1]; omega, by rw [e1]; omega⟩
  have heq : ((n : Int) == (R : Int) * (R : Int)) = true := by rw [beq_iff_eq, e1, hn]
  have hnq : ((n : Int) != (R : Int) * (R : Int)) = false := by rw [bne, heq]; rfl
  have hx1 : ¬ ((R : Int) < 1) := by omega
  have hx2 : ¬ (4 < (R : Int)) := by omega
  have hx3 : decide ((R : Int) < 1) = false := by simp; omega
  have hx4 : decide (4 < (R : Int)) = false := by simp; omega
  have hmk := make_intsz (R : Int) (by omega) (by omega)
  simp only [Int.toNat_natCast] at hmk
  have HST := Lib.hid (fun i (h : wrapS xs R i = none) (hi : i ≤ R) => show wrapS xs R R = none by
    have := wrapS_stop h (R - i); rwa [show i + (R - i) = R by omega] at this)
  have HNM := Lib.hid (fun i ns ls => wrapS_names (xs := xs) (R := R) i ns ls)
  have HPOS := Lib.hid (fun ns ls => wrapS_pos (xs := xs) (R := R) (ns := ns) (ls := ls) (by omega))
  have HCX := Lib.hid (conn_bx xs R hR)
  have HSS : Hid (∀ i ns ls, wrapS xs R i = some (ns, ls) → (gi ls i ≠ 0 → wrapS xs R (i + 1) = some (ns, ls)) ∧ (gi ls i = 0 → (learnM xs R (conn (bx xs R) R i) = none → wrapS xs R (i + 1) = none) ∧ ∀ k σ, learnM xs R (conn (bx xs R) R i) = some (k, σ) → wrapS xs R (i + 1) = some (ns ++ [k], slF k σ ls σ.length))) := fun i ns ls h => by
    refine ⟨fun h1 => by rw [wrapS, h]; simp only; rw [if_neg h1], fun h1 => ⟨fun h2 => by rw [wrapS, h]; simp only; rw [if_pos h1, h2], fun k σ h2 => by rw [wrapS, h]; simp only; rw [if_pos h1, h2]⟩⟩
  have E1 := Lib.hid ((Ext.refl w).alloc (.cells #[.int .i64 (R : Nat), .slice (some ⟨d0, od, none⟩) n n] 27))
  have C1 := Lib.hid (cells_new w #[.int .i64 (R : Nat), .slice (some ⟨d0, od, none⟩) n n] 27)
  clear hr hn e1 hRR
  go_enter Tryz.func60, Tryz.ntmps60
  go_wp2_with fail
  generalize (w.alloc (.cells #[.int .i64 (R : Nat), .slice (some ⟨d0, od, none⟩) n n] 27)) = W1 at *
  have l1 := C1.out.1
  have q0 := C1.out.2 0 _ rfl
  have q1 := C1.out.2 1 _ rfl
  go_region_held3 (fun w' => Ext W1 w' ∧ (∀ b o, b < W1.heap.size → w'.cell? ⟨b, o, none⟩ = W1.cell? ⟨b, o, none⟩)) (first | assumption | (refine ext2 ?_; with_reducible repeat (first | exact Ext.refl _ | exact And.left ‹Ext W1 _ ∧ _› | refine Ext.drew ?_ | refine Ext.drewN ?_ _ | refine Ext.alloc ?_ _))) (fail)
  all_goals
    have K0 : Hid (CarW w ((W1.alloc (.cells (ints (List.replicate R 0)) 3)).alloc (.cells #[.int .i64 (R : Nat), .slice (some ⟨d0, od, none⟩) n n, .slice none 0 0, .slice (some ⟨W1.heap.size, 0, none⟩) R R] 114)).drew (W1.heap.size + 1) W1.heap.size R (.slice (some ⟨d0, od, none⟩) n n) (.slice none 0 0) [] (List.replicate R 0)) := by
      have hq := cells_new' (W1.alloc (.cells (ints (List.replicate R 0)) 3)) #[.int .i64 (R : Nat), .slice (some ⟨d0, od, none⟩) n n, .slice none 0 0, .slice (some ⟨W1.heap.size, 0, none⟩) R R] 114 (W1.heap.size + 1) (by simp)
      refine ⟨hq.ext (Ext.refl _).drew, ((Has.new W1 (List.replicate R 0)).alloc _).ext (Ext.refl _).drew, ⟨rfl, .inl ⟨rfl, rfl⟩⟩, ((E1.out.alloc _).alloc _).drew, Nat.le_trans E1.out.le (by omega), E1.out.le, by omega, fun z hz => by cases hz⟩
    have X0 : Hid (Ext W1 ((W1.alloc (.cells (ints (List.replicate R 0)) 3)).alloc (.cells #[.int .i64 (R : Nat), .slice (some ⟨d0, od, none⟩) n n, .slice none 0 0, .slice (some ⟨W1.heap.size, 0, none⟩) R R] 114)).drew) := (((Ext.refl W1).alloc _).alloc _).drew
    have C2 := Lib.hid (C1.out.ext X0.out)
    clear l1 q0 q1 C1
    generalize ((W1.alloc (.cells (ints (List.replicate R 0)) 3)).alloc (.cells #[.int .i64 (R : Nat), .slice (some ⟨d0, od, none⟩) n n, .slice none 0 0, .slice (some ⟨W1.heap.size, 0, none⟩) R R] 114)).drew = W2 at *
    try clear hHeld
    obtain ⟨LB, hLB⟩ : ∃ LB, W1.heap.size = LB := ⟨_, rfl⟩
    rw [hLB] at K0 ⊢
    clear hLB X0
    have l2 := C2.out.1
    have q0 := C2.out.2 0 _ rfl
    go_wp2_with fail
    clear l2 q0 C2
    go_loopw [33, 5] (fun z _ wr => ∃ (i : Nat) (nv : Value) (ns : List Nat) (ls : List Int), i ≤ R ∧ z = .int .i64 i ∧ Hid (wrapS xs R i = some (ns, ls)) ∧ Hid (CarW w wr (LB + 1) LB R (.slice (some ⟨d0, od, none⟩) n n) nv ns ls)) (fun z _ _ => R - (intOf z).toNat)
    case atStart => exact ⟨0, _, [], List.replicate R 0, by omega, rfl, rfl, K0⟩
    case round =>
      clear K0
      obtain ⟨i, nv, ns, ls, hi, rfl, hS, hK⟩ := hrel
      obtain ⟨hn1, hn2, hn3⟩ := HNM.out i ns ls hS.out
      obtain ⟨va, cv, rfl⟩ := ownsRow_shape hK.out.nam
      by_cases hlt : i < R
      · obtain ⟨hSA, hSB⟩ := HSS.out i ns ls hS.out
        have lB := hK.out.box.1
        have q3 := hK.out.box.2 3 _ rfl
        have lL := hK.out.len.lt
        have x0 := hK.out.len.cell i (by omega)
        have hltI : (i : Int) < (R : Int) := by omega
        by_cases hz : gi ls i = 0
        · obtain ⟨hS1, hS2⟩ := hSB hz
          have HS1 := Lib.hid hS1
          have HS2 := Lib.hid hS2
          have hz1 : (gi ls i == 0) = true := by simpa using hz
          have hz2 : (gi ls i != 0) = false := by rw [bne, hz1]; rfl
          have HPL := Lib.hid (HCX.out.lt i hlt)
          have HLN := Lib.hid (HCX.out.len i hlt)
          clear hSA hSB hS1 hS2
          go_wp2_with fail
          refine (connectedWith_impl (LB + 1) R d0 od n n _ _ xs i _ hK.out.box (HR.out.ext hK.out.ext) HN.out hR hlt).mono ?_
          rintro e w3 ⟨a3, c3, rfl, ho3, hs3, h3⟩
          have K3 := Lib.hid (hK.out.step h3)
          have HO3 := Lib.hid ho3
          have HS3 := Lib.hid hs3
          obtain ⟨rows, hrows⟩ : ∃ rows, conn (bx xs R) R i = rows := ⟨_, rfl⟩
          rw [hrows] at HS1 HS2 HPL HLN HO3 HS3 ⊢
          obtain ⟨m, hm⟩ : ∃ m, rows.length = m := ⟨_, rfl⟩
          have HM := Lib.hid hm
          rw [hm] at HLN HO3 HS3 ⊢
          clear ho3 hs3 h3 hK lB q3 lL x0 hrows hm hz hz1 hz2
          go_wp2_with fail
          refine (learnPart_impl w (LB + 1) LB R d0 od n n _ ns ls xs a3 m c3 rows _ K3.out (by omega) HR.out HN.out hR (by omega) HO3.out.reads HS3.out HM.out (Nat.le_trans HLN.out hR) (fun x hx => HPL.out x hx)).mono ?_
          rintro e w4 (⟨hno, rfl, h4⟩ | ⟨k, σ, nv', hyes, rfl, K4⟩)
          · have HF := Lib.hid (HST.out (i + 1) (HS1.out hno) hlt)
            have E4 := Lib.hid (K3.out.ext.trans h4)
            clear hno h4 K3 HO3 HS1 HS2
            go_wp2
            go_ret2
            exact .inl ⟨HF.out, rfl, E4.out⟩
          · have HF := Lib.hid (HS2.out k σ hyes)
            have K5 := Lib.hid K4
            clear hyes K4 K3 HO3 HS1 HS2
            go_wp2
            exact ⟨⟨i + 1, nv', _, _, by omega, by simp, HF, K5⟩, by simp [intOf]; omega⟩
        · have HF := Lib.hid (hSA hz)
          have hz1 : (gi ls i == 0) = false := by simpa using hz
          clear hSA hSB
          go_wp2
          exact ⟨⟨i + 1, _, ns, ls, by omega, by simp, HF, hK⟩, by simp [intOf]; omega⟩
      · obtain rfl : R = i := by omega
        have hpos := HPOS.out ns ls hS.out
        have lB := hK.out.box.1
        have q2 := hK.out.box.2 2 _ rfl
        have hn4 := Lib.hid hn3
        obtain ⟨nn, hnn⟩ : ∃ nn, ns.length = nn := ⟨_, rfl⟩
        have HNN := Lib.hid hnn
        have HNAM : Hid (wr.ownsRow w.heap.size 9 1 (.slice va nn cv) nn (nmV ns)) := by rw [Hid, ← hnn]; exact hK.out.nam
        rw [hnn] at q2 hpos hn1
        clear hn3
        go_wp2_with fail
        refine (sort_names w va nn cv ns wr HNAM.out HNN.out hpos (by omega) hn4.out).mono ?_
        rintro e w5 ⟨rfl, hg5, hs5⟩
        have W5 : Hid (Wrapped w w5 (LB + 1) LB R (.slice (some ⟨d0, od, none⟩) n n) ns ls) := by
          have hne := hK.out.ne
          have hlo := World.ownsRow.lt hK.out.nam
          rw [HNN.out] at hne hlo
          have hbox := hK.out.box
          rw [HNN.out] at hbox
          exact ⟨⟨va, nn, cv, hbox.grown hg5 (fun z hz => (hne z hz).1), hs5⟩, hK.out.len.grNe hg5 (fun e => (hne LB e).2 rfl), hK.out.ext.grown hg5 (fun z hz => (hlo z hz).1), hK.out.loB, hK.out.loL, hK.out.neL⟩
        clear hg5 hs5 hK lB q2 HNAM
        go_wp2
        go_ret2
        exact .inr ⟨LB + 1, LB, ns, ls, hS.out, rfl, W5.out⟩
end Go.Proofs.YtlnpaplbcocmkaaGreat
