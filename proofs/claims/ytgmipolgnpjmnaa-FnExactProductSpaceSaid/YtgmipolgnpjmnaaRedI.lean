/-
  The reduction of the program.
-/
import Derived.Test.YtgmipolgnpjmnaaClear
import Derived.Test.YtgmipolgnpjmnaaCopy
import Derived.Deep.DeepCutAuto
namespace Go.Proofs.Ytgmipolgnpjmnaa
open Go.RowKit
set_option linter.unusedVariables false

/-- Numbers of columns, as integers. -/
def pvI (pv : List Nat) : List Int := pv.map fun x : Nat => (x : Int)
theorem pvI_length (pv : List Nat) : (pvI pv).length = pv.length := by simp [pvI]
theorem gi_pvI (pv : List Nat) (i : Nat) : gi (pvI pv) i = ((pv.getD i 0 : Nat) : Int) := by
  simp only [gi, pvI, List.getD_eq_getElem?_getD, List.getElem?_map]
  cases pv[i]? <;> rfl
theorem pvI_snoc (pv : List Nat) (c : Nat) : pvI (pv ++ [c]) = pvI pv ++ [(c : Int)] := by simp [pvI]
/-- A slice of integers of the call's own that is appended to: its block lies from base on. -/
def Grows (w : World) (base : Nat) (v : Value) (n : Nat) (xs : List Int) : Prop := w.ownsRow base 3 1 v n (xs.map (Value.int .i64))
theorem Grows.len {w : World} {base n : Nat} {v : Value} {xs : List Int} (h : Grows w base v n xs) : xs.length = n := by
  have := h.1
  simpa using this
theorem Grows.shape {w : World} {base n : Nat} {v : Value} {xs : List Int} (h : Grows w base v n xs) : ∃ a cap, v = .slice a n cap ∧ Own w base w.heap.size a n xs := by
  rcases h.2 with ⟨h1, h2⟩ | ⟨g, cap, cur, h1, hb, hg, hn, hc, hs, ht⟩
  · subst h1; subst h2
    exact ⟨none, 0, rfl, h.len, .inl ⟨rfl, rfl⟩⟩
  · subst h1
    have hlt := (Array.getElem?_eq_some_iff.1 hg).1
    refine ⟨_, cap, rfl, h.len, .inr ⟨g, rfl, hb, hlt, cur, hg, ?_, ?_⟩⟩
    · rw [h.len]; omega
    · rw [h.len]; simpa using ht
theorem Grows.blk {w : World} {base n : Nat} {v : Value} {xs : List Int} (h : Grows w base v n xs) : ∀ k, v.ownBlock = some k → base ≤ k ∧ k < w.heap.size := World.ownsRow.lt h
theorem Grows.ext {w w' : World} {base n : Nat} {v : Value} {xs : List Int} (h : Grows w base v n xs) (hE : Ext w w') : Grows w' base v n xs := by
  by_cases e : v.ownBlock = none
  · exact World.ownsRow.kept h (ext_grownBy hE none) (.inl e)
  · exact World.ownsRow.kept h (ext_grownBy hE none) (.inr e)
theorem Grows.grown {w w' : World} {base n b : Nat} {v : Value} {xs : List Int} (h : Grows w base v n xs) (hg : w.grownBy w' (some b)) (hb : b < base) : Grows w' base v n xs := by
  refine World.ownsRow.kept h hg ?_
  by_cases e : v.ownBlock = none
  · exact .inl e
  · refine .inr (fun e2 => ?_)
    have := (h.blk b e2).1
    omega
theorem Has.grownOther {w w' : World} {b : Nat} {xs : List Int} {row : Option Nat} (h : Has w b xs) (hg : w.grownBy w' row) (hne : ∀ k, row = some k → k ≠ b) : Has w' b xs := by
  obtain ⟨r, h, h1⟩ := h
  exact ⟨r, by rw [hg.block b (Array.getElem?_eq_some_iff.1 h).1 (fun e => hne b e.symm rfl)]; exact h, h1⟩
theorem grownBy_far {w w1 w2 : World} {r r2 : Option Nat} (h : w.grownBy w1 r) (h' : w1.grownBy w2 r2) (hf : ∀ k, r2 = some k → w.heap.size ≤ k) : w.grownBy w2 r :=
  ⟨h'.os.trans h.os, h'.tape.trans h.tape, h'.output.trans h.output, Nat.le_trans h.size h'.size, fun k hk hne => (h'.block k (Nat.lt_of_lt_of_le hk h.size) (fun e => by have := hf k e.symm; omega)).trans (h.block k hk hne)⟩
theorem InP.other {w wr wr' : World} {B b : Nat} {vs : List Value} {l : List Int} {row : Option Nat} (h : InP w wr B b vs l) (hg : wr.grownBy wr' row) (hf : ∀ k, row = some k → w.heap.size ≤ k ∧ k ≠ b ∧ k ≠ B) : InP w wr' B b vs l :=
  ⟨h.box.grown hg (fun k hk => (hf k hk).2.2), h.has.grownOther hg (fun k hk => (hf k hk).2.1), grownBy_far h.gr hg (fun k hk => (hf k hk).1), h.ne⟩
/-- 'make([]int, 0, n)'. -/
theorem make_cap (z : Int) (h0 : 0 ≤ z) (h1 : z ≤ 1048576) (w : World) :
    (Instr.makeSlice 22 (.int .i64 0) (.int .i64 z)).run Try.prog w = .ok (.slice (some ⟨w.heap.size, 0, none⟩) 0 z.toNat) (w.alloc (.cells (ints (List.replicate z.toNat 0)) 3)) := by
  obtain ⟨i0, hi, hz0, hz1, hz2⟩ := info_parts Try.infoInt
  have h := run_make (P := Try.prog) w 22 3 i0 (.int .i64 0) Try.underlying22 hi hz0 .i64 .i64 0 z (by omega) (by omega) (by rw [hz2]; omega) (by omega)
  simp only [hz1, Nat.mul_one] at h
  rw [h]
  have : (Value.int IntKind.i64 0).cells = #[Value.int .i64 0] := rfl
  rw [this, madeCells_ints]
  rfl
theorem grows_made (w : World) (base k : Nat) (hb : base ≤ w.heap.size) (hk : k ≤ 1048576) : Grows (w.alloc (.cells (ints (List.replicate k 0)) 3)) base (.slice (some ⟨w.heap.size, 0, none⟩) 0 k) 0 [] :=
  World.ownsRow_made w (ints (List.replicate k 0)) k hb (by unfold maxLen; omega) (by simp [ints_size])

set_option maxRecDepth 100000 in
set_option maxHeartbeats 6400000 in
theorem reduceRows_impl (P : Int) (R C wd b n : Nat) (l : List Int) (w : World) (hh : Has w b l) (hl : l.length = n) (hn : n = R * C) (hb : n ≤ 1048576) (hwd : wd ≤ C) (hR : R ≤ 1048576) (hC : C ≤ 1048576) (hp : 2 ≤ P) (hp2 : P ≤ 10007) (hx : Res l P) :
    Calls Try.prog 118 #[.agg #[.int .i64 P, .int .i64 R, .int .i64 C, .slice (some ⟨b, 0, none⟩) n n], .int .i64 wd] w fun e w' => ∃ a cap, e = .returned (.tuple #[.slice a (redTo P R C l wd).pv.length cap, .int .i64 (redTo P R C l wd).d]) ∧ Own w' w.heap.size w'.heap.size a (redTo P R C l wd).pv.length (pvI (redTo P R C l wd).pv) ∧ Has w' b (redTo P R C l wd).m ∧ w.grownBy w' (some b) := by
  obtain ⟨i0, hi, hz0, hz1, hz2⟩ := info_parts Try.infoInt
  have HL := Lib.hid hl
  have HX := Lib.hid hx
  have HN := Lib.hid hn
  have hbw := hh.lt
  have L0 : Hid (InP w (w.alloc (.cells #[.int .i64 P, .int .i64 R, .int .i64 C, .slice (some ⟨b, 0, none⟩) n n] 36)) w.heap.size b [.int .i64 P, .int .i64 R, .int .i64 C, .slice (some ⟨b, 0, none⟩) n n] l) :=
    ⟨cells_new _ _ _, hh.alloc _, ext_grownBy ((Ext.refl w).alloc _) _, by omega⟩
  have hsz : w.heap.size + 1 ≤ (w.alloc (.cells #[.int .i64 P, .int .i64 R, .int .i64 C, .slice (some ⟨b, 0, none⟩) n n] 36)).heap.size := by simp
  clear hl hx hn hh
  go_enter Try.func118, Try.ntmps118
  go_upto_region 1 with fail
  generalize hW : w.alloc (.cells #[.int .i64 P, .int .i64 R, .int .i64 C, .slice (some ⟨b, 0, none⟩) n n] 36) = W at L0 hsz ⊢
  clear hW
  have lA := L0.out.box.1
  have q1 := L0.out.box.2 1 _ rfl
  have hk1 := make_cap (R : Int) (by omega) (by omega)
  have hk2 := make_cap (wd : Int) (by omega) (by omega)
  go_cut [6] (fun v wx => Hid (Grows wx (w.heap.size + 1) v 0 []) ∧ Hid (Ext W wx))
  case first =>
    go_wp2
    all_goals (go_meet; exact ⟨grows_made _ _ _ hsz (by omega), (Ext.refl _).alloc _⟩)
  case rest =>
    obtain ⟨hG, hE⟩ := hcut
    have L1 := Lib.hid (L0.out.step hE.out)
    clear L0 lA q1 hk1 hk2 hE
    go_wp2_with fail
    go_loopw [6, 7, 17, 8, 9, 10] (fun v f z _ _ _ wr => ∃ c : Nat, c ≤ wd ∧ z = .int .i64 c ∧ f = .int .i64 (redTo P R C l c).d ∧ Hid (InP w wr w.heap.size b [.int .i64 P, .int .i64 R, .int .i64 C, .slice (some ⟨b, 0, none⟩) n n] (redTo P R C l c).m) ∧ Hid (Grows wr (w.heap.size + 1) v (redTo P R C l c).pv.length (pvI (redTo P R C l c).pv))) (fun _ _ z _ _ _ _ => wd - (intOf z).toNat)
    case atStart => exact ⟨0, by omega, rfl, rfl, L1, hG⟩
    case round =>
      obtain ⟨c, hc, rfl, rfl, L, G⟩ := hrel
      by_cases hlt : c < wd
      · have hs1 := redTo_pv (P := P) (R := R) (C := C) (xs := l) c
        have hd := redTo_d (R := R) (C := C) (xs := l) hp c
        have HLm : Hid ((redTo P R C l c).m.length = n) := by rw [Hid, redTo_length]; exact HL.out
        have HXm : Hid (Res (redTo P R C l c).m P) := redTo_res hp HX.out c
        have HS : Hid (redTo P R C l (c + 1) = colS P R C c (redTo P R C l c)) := rfl
        obtain ⟨a, cap, rfl, hO⟩ := G.out.shape
        generalize redTo P R C l c = s at L G HLm HXm HS hs1 hd hO ⊢
        obtain ⟨hs1, hs2, hs3⟩ := hs1
        obtain ⟨hd0, hd1⟩ := hd
        have HO := Lib.hid hO
        clear hs3 hO
        have lA := L.out.box.1
        have q0 := L.out.box.2 0 _ rfl
        have q1 := L.out.box.2 1 _ rfl
        have q2 := L.out.box.2 2 _ rfl
        have q3 := L.out.box.2 3 _ rfl
        go_wp2_with fail
        refine (nonzeroRow_impl P R C c s.pv.length b 0 n _ s.m wr (L.out.has.reads HLm.out) HN.out hb (by omega) hs2 hR).mono ?_
        rintro e w1 ⟨rfl, h1⟩
        clear lA q0 q1 q2 q3
        have L1 := Lib.hid (L.out.step h1)
        have G1 := Lib.hid (G.out.ext h1)
        clear L G h1 HO
        by_cases hfz : fnz s.m C c R s.pv.length = R
        · have hnz : nzR s.m C c R s.pv.length = -1 := by rw [nzR, if_pos hfz]
          have HSE : Hid (redTo P R C l (c + 1) = s) := by rw [Hid, HS.out, colS, if_pos hfz]
          rw [hnz]
          clear hfz hnz
          go_wp2
          exact ⟨⟨c + 1, by omega, by simp, by rw [HSE.out], by rw [HSE.out]; exact L1, by rw [HSE.out]; exact G1⟩, by simp [intOf]; omega⟩
        · have hk1 := fnz_ge (l := s.m) (C := C) (c := c) hs2
          have hk2 : fnz s.m C c R s.pv.length < R := by have := fnz_le (l := s.m) (C := C) (c := c) (R := R) (k := s.pv.length); omega
          have hnz : nzR s.m C c R s.pv.length = ((fnz s.m C c R s.pv.length : Nat) : Int) := by rw [nzR, if_neg hfz]
          have HSE : Hid (redTo P R C l (c + 1) = colP P R C c (fnz s.m C c R s.pv.length) s) := by rw [Hid, HS.out, colS, if_neg hfz]
          rw [hnz]
          clear hfz hnz
          generalize fnz s.m C c R s.pv.length = k at hk1 hk2 HSE ⊢
          have htop : s.pv.length < R := by omega
          have HM : Hid ((swTo (s.pv.length * C) (k * C) s.m C).length = n) := by rw [Hid, swTo_length]; exact HLm.out
          have HXM : Hid (Res (swTo (s.pv.length * C) (k * C) s.m C) P) := swTo_res _ _ _ _ (by omega) HXm.out _
          have lA := L1.out.box.1
          have q0 := L1.out.box.2 0 _ rfl
          have q1 := L1.out.box.2 1 _ rfl
          have q2 := L1.out.box.2 2 _ rfl
          have q3 := L1.out.box.2 3 _ rfl
          go_upto_if 30 with fail
          go_cut [7] (fun f wx => f = .int .i64 (if k = s.pv.length then s.d else P - s.d) ∧ Hid (InP w wx w.heap.size b [.int .i64 P, .int .i64 R, .int .i64 C, .slice (some ⟨b, 0, none⟩) n n] (swTo (s.pv.length * C) (k * C) s.m C)) ∧ Hid (Grows wx (w.heap.size + 1) (.slice a s.pv.length cap) s.pv.length (pvI s.pv)))
          case first =>
            by_cases hkt : k = s.pv.length
            · subst hkt
              have HL2 : Hid (InP w w1 w.heap.size b [.int .i64 P, .int .i64 R, .int .i64 C, .slice (some ⟨b, 0, none⟩) n n] (swTo (s.pv.length * C) (s.pv.length * C) s.m C)) := by rw [swTo_self (n := C) _ _ (by rw [HLm.out, HN.out]; exact row_lt htop) _ (Nat.le_refl _)]; exact L1
              go_wp2
              go_meet
              exact ⟨by simp, HL2, G1⟩
            · have HF := Lib.hid hkt
              have hkt2 : s.pv.length < k := by omega
              have hne : k ≠ s.pv.length := hkt
              clear hkt
              go_wp2_with fail
              refine (exchangeRows_impl P R C k s.pv.length b n s.m w1 L1.out.has HLm.out HN.out hb hk2 htop hne hR).mono ?_
              rintro e w2 ⟨rfl, hh2, hg2⟩
              have L2 := Lib.hid (L1.out.row hh2 hg2)
              have G2 := Lib.hid (G1.out.grown hg2 (by omega))
              clear lA q0 q1 q2 q3 L1 G1 hh2 hg2 hne
              have lA := L2.out.box.1
              have q0 := L2.out.box.2 0 _ rfl
              go_wp2
              go_meet
              exact ⟨by rw [if_neg HF.out], L2, G2⟩
          case rest =>
            obtain ⟨rfl, L2, G2⟩ := hcut
            have hf : 0 ≤ (if k = s.pv.length then s.d else P - s.d) ∧ (if k = s.pv.length then s.d else P - s.d) ≤ P := by split <;> omega
            obtain ⟨hf0, hf1⟩ := hf
            have HPV : Hid (redTo P R C l (c + 1) = ⟨clTo P C s.pv.length c (scTo P (inv (gi (swTo (s.pv.length * C) (k * C) s.m C) (s.pv.length * C + c)) P) (s.pv.length * C) (swTo (s.pv.length * C) (k * C) s.m C) C) R, s.pv ++ [c], (if k = s.pv.length then s.d else P - s.d) * gi (swTo (s.pv.length * C) (k * C) s.m C) (s.pv.length * C + c) % P⟩) := HSE.out
            generalize (if k = s.pv.length then s.d else P - s.d) = f at hf0 hf1 HPV ⊢
            generalize swTo (s.pv.length * C) (k * C) s.m C = m1 at HM HXM L2 HPV
            clear lA q0 q1 q2 q3 L1 G1 HSE hk1 hk2
            generalize hgt : s.pv.length = t at htop G2 HPV hs1 hs2 ⊢
            have HGT := Lib.hid hgt
            have hcC : c < C := by omega
            have hpl := place_lt htop hcC
            have x1 := L2.out.has.cell (t * C + c) (by rw [HM.out, HN.out]; exact hpl)
            obtain ⟨y0, y1⟩ := HXM.out (t * C + c) (by rw [HM.out, HN.out]; exact hpl)
            have e1 : (t : Int) * (C : Int) = ((t * C : Nat) : Int) := by simp
            have g1 : 0 ≤ (t : Int) * (C : Int) := by rw [e1]; omega
            have g2 : (t : Int) * (C : Int) + (c : Int) < (n : Int) := by rw [e1, HN.out]; omega
            have g3 : 0 ≤ (t : Int) * (C : Int) + (c : Int) := by omega
            have p0 := Int.mul_nonneg hf0 y0
            have p1 : f * gi m1 (t * C + c) ≤ 100140049 := by
              have h1 : f * gi m1 (t * C + c) ≤ 10007 * gi m1 (t * C + c) := Int.mul_le_mul_of_nonneg_right (by omega) y0
              omega
            clear hgt e1 hpl
            have lA := L2.out.box.1
            have q0 := L2.out.box.2 0 _ rfl
            have q1 := L2.out.box.2 1 _ rfl
            have q2 := L2.out.box.2 2 _ rfl
            have q3 := L2.out.box.2 3 _ rfl
            go_wp2_with fail
            go_region
            go_wp2_with fail
            refine (clearColumn_impl P R C t c b n m1 _ L2.out.drew.has HM.out HN.out hb htop hcC hR hp hp2 HXM.out).mono ?_
            rintro e w3 ⟨rfl, hh3, hg3⟩
            have L3 := Lib.hid (L2.out.drew.row hh3 hg3)
            have G3 := Lib.hid ((G2.out.ext (Ext.refl _).drew).grown hg3 (by omega))
            have HLB : Hid (w.heap.size < w3.heap.size) := L3.out.box.1
            clear lA q0 q1 q2 q3 x1 L2 G2 hh3 hg3
            go_wp2_with (at_builtin; refine wpList_append_own _ rfl _ _ 22 rfl (w.heap.size + 1) 3 i0 (.int .i64 0) 1 8 Try.underlying22 hi hz0 hz1 hz2 rfl (by decide) _ _ _ rfl (G3.out.alloc _) ⟨w3.heap.size, 0, none⟩ 1 1 [.int .i64 c] rfl rfl ?c1 ?c2 ?c3 ?c4 ?c5 ?_)
            case c1 =>
              intro j u hu
              obtain rfl : j = 0 := by have := (List.getElem?_eq_some_iff.1 hu).1; simp at this; omega
              simp at hu
              subst hu
              rw [show (⟨w3.heap.size, 0, none⟩ : Addr).add 0 = ⟨w3.heap.size, 0, none⟩ from rfl, World.cell?_alloc_at _ _ _ _ rfl]
              rfl
            case c2 => intro u hu; simp at hu; subst hu; rfl
            case c3 => unfold maxLen; omega
            case c4 => omega
            case c5 => have := HLB.out; simp; omega
            intro v' w4 ho hg hnil
            have hg' : w3.grownBy w4 (Value.slice a t cap).ownBlock := ⟨hg.os, hg.tape, hg.output, Nat.le_trans (by simp) hg.size, fun k hk hne => (hg.block k (by simp; omega) hne).trans (((Ext.refl w3).alloc _).block k hk)⟩
            have L4 : Hid (InP w w4 w.heap.size b [.int .i64 P, .int .i64 R, .int .i64 C, .slice (some ⟨b, 0, none⟩) n n] (redTo P R C l (c + 1)).m) := by
              rw [HPV.out]
              exact L3.out.other hg' (fun k hk => by have := G3.out.blk k hk; omega)
            have G4 : Hid (Grows w4 (w.heap.size + 1) v' (redTo P R C l (c + 1)).pv.length (pvI (redTo P R C l (c + 1)).pv)) := by
              rw [HPV.out]
              simp only [Grows, pvI_snoc, List.map_append, List.length_append, List.length_singleton, List.map_cons, List.map_nil, HGT.out]
              exact ho
            have hd : Hid ((redTo P R C l (c + 1)).d = f * gi m1 (t * C + c) % P) := by rw [Hid, HPV.out]
            clear ho hg hg' hnil L3 G3
            go_wp2
            exact ⟨⟨c + 1, by omega, by simp, by rw [hd.out], L4, G4⟩, by simp [intOf]; omega⟩
      · obtain rfl : wd = c := by omega
        obtain ⟨a, cap, rfl, hO⟩ := G.out.shape
        have HO := Lib.hid (hO.mono (Nat.le_succ _) (Nat.le_refl _))
        clear hO
        go_wp2
        go_ret2
        exact ⟨a, cap, rfl, HO.out, L.out.has, L.out.gr⟩
end Go.Proofs.Ytgmipolgnpjmnaa
