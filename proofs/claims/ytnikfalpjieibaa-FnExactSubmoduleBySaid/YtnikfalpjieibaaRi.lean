/-
  The reduction of the program.
-/
import Derived.Test.YtnikfalpjieibaaNc
import Derived.Test.YtnikfalpjieibaaMz
import Derived.Deep.DeepCutAuto
import Derived.Laws.CopyOwn
import Derived.BigQuiet
import Derived.Deep.QuietTactic
import Derived.Deep.RegionLaw
namespace Go.Proofs.Ytnikfalpjieibaa
open Go.RowKit
set_option linter.unusedVariables false

/-- Numbers of columns, as integers. -/
def pvI (pv : List Nat) : List Int := pv.map fun x : Nat => (x : Int)
theorem pvI_length (pv : List Nat) : (pvI pv).length = pv.length := by simp [pvI]
theorem gi_pvI (pv : List Nat) (i : Nat) : gi (pvI pv) i = ((pv.getD i 0 : Nat) : Int) := by
  simp only [gi, pvI, List.getD_eq_getElem?_getD, List.getElem?_map]
  cases pv[i]? <;> rfl
theorem pvI_snoc (pv : List Nat) (c : Nat) : pvI (pv ++ [c]) = pvI pv ++ [(c : Int)] := by simp [pvI]
/-- A slice of integers of the call's own that is appended to: its block lies from base on. -/
def Grows (w : World) (base : Nat) (v : Value) (n : Nat) (xs : List Int) : Prop := w.ownsRow base 3 1 v n (xs.map (Value.int .i64))
theorem Grows.len {w : World} {base n : Nat} {v : Value} {xs : List Int} (h : Grows w base v n xs) : xs.length = n := by
  have := h.1
  simpa using this
theorem Grows.shape {w : World} {base n : Nat} {v : Value} {xs : List Int} (h : Grows w base v n xs) : ∃ a cap, v = .slice a n cap ∧ Own w base w.heap.size a n xs := by
  rcases h.2 with ⟨h1, h2⟩ | ⟨g, cap, cur, h1, hb, hg, hn, hc, hs, ht⟩
  · subst h1; subst h2
    exact ⟨none, 0, rfl, h.len, .inl ⟨rfl, rfl⟩⟩
  · subst h1
    have hlt := (Array.getElem?_eq_some_iff.1 hg).1
    refine ⟨_, cap, rfl, h.len, .inr ⟨g, rfl, hb, hlt, cur, hg, ?_, ?_⟩⟩
    · rw [h.len]; omega
    · rw [h.len]; simpa using ht
theorem Grows.blk {w : World} {base n : Nat} {v : Value} {xs : List Int} (h : Grows w base v n xs) : ∀ k, v.ownBlock = some k → base ≤ k ∧ k < w.heap.size := World.ownsRow.lt h
theorem Grows.ext {w w' : World} {base n : Nat} {v : Value} {xs : List Int} (h : Grows w base v n xs) (hE : Ext w w') : Grows w' base v n xs := by
  by_cases e : v.ownBlock = none
  · exact World.ownsRow.kept h (ext_grownBy hE none) (.inl e)
  · exact World.ownsRow.kept h (ext_grownBy hE none) (.inr e)
theorem Grows.grown {w w' : World} {base n b : Nat} {v : Value} {xs : List Int} (h : Grows w base v n xs) (hg : w.grownBy w' (some b)) (hb : b < base) : Grows w' base v n xs := by
  refine World.ownsRow.kept h hg ?_
  by_cases e : v.ownBlock = none
  · exact .inl e
  · refine .inr (fun e2 => ?_)
    have := (h.blk b e2).1
    omega
theorem Has.grownOther {w w' : World} {b : Nat} {xs : List Int} {row : Option Nat} (h : Has w b xs) (hg : w.grownBy w' row) (hne : ∀ k, row = some k → k ≠ b) : Has w' b xs := by
  obtain ⟨r, h, h1⟩ := h
  exact ⟨r, by rw [hg.block b (Array.getElem?_eq_some_iff.1 h).1 (fun e => hne b e.symm rfl)]; exact h, h1⟩
theorem grownBy_far {w w1 w2 : World} {r r2 : Option Nat} (h : w.grownBy w1 r) (h' : w1.grownBy w2 r2) (hf : ∀ k, r2 = some k → w.heap.size ≤ k) : w.grownBy w2 r :=
  ⟨h'.os.trans h.os, h'.tape.trans h.tape, h'.output.trans h.output, Nat.le_trans h.size h'.size, fun k hk hne => (h'.block k (Nat.lt_of_lt_of_le hk h.size) (fun e => by have := hf k e.symm; omega)).trans (h.block k hk hne)⟩
theorem InP.other {w wr wr' : World} {B b : Nat} {vs : List Value} {l : List Int} {row : Option Nat} (h : InP w wr B b vs l) (hg : wr.grownBy wr' row) (hf : ∀ k, row = some k → w.heap.size ≤ k ∧ k ≠ b ∧ k ≠ B) : InP w wr' B b vs l :=
  ⟨h.box.grown hg (fun k hk => (hf k hk).2.2), h.has.grownOther hg (fun k hk => (hf k hk).2.1), grownBy_far h.gr hg (fun k hk => (hf k hk).1), h.ne⟩
/-- 'make([]int, 0, n)'. -/
theorem make_cap (z : Int) (h0 : 0 ≤ z) (h1 : z ≤ 1048576) (w : World) :
    (Instr.makeSlice 22 (.int .i64 0) (.int .i64 z)).run Try.prog w = .ok (.slice (some ⟨w.heap.size, 0, none⟩) 0 z.toNat) (w.alloc (.cells (ints (List.replicate z.toNat 0)) 3)) := by
  obtain ⟨i0, hi, hz0, hz1, hz2⟩ := info_parts Try.infoInt
  have h := run_make (P := Try.prog) w 22 3 i0 (.int .i64 0) Try.underlying22 hi hz0 .i64 .i64 0 z (by omega) (by omega) (by rw [hz2]; omega) (by omega)
  simp only [hz1, Nat.mul_one] at h
  rw [h]
  have : (Value.int IntKind.i64 0).cells = #[Value.int .i64 0] := rfl
  rw [this, madeCells_ints]
  rfl
theorem grows_made (w : World) (base k : Nat) (hb : base ≤ w.heap.size) (hk : k ≤ 1048576) : Grows (w.alloc (.cells (ints (List.replicate k 0)) 3)) base (.slice (some ⟨w.heap.size, 0, none⟩) 0 k) 0 [] :=
  World.ownsRow_made w (ints (List.replicate k 0)) k hb (by unfold maxLen; omega) (by simp [ints_size])

set_option maxRecDepth 100000 in
set_option maxHeartbeats 6400000 in
theorem reduceRows_impl (P : Int) (R C wd b n : Nat) (l : List Int) (w : World) (hh : Has w b l) (hl : l.length = n) (hn : n = R * C) (hb : n ≤ 1048576) (hwd : wd ≤ C) (hR : R ≤ 1048576) (hC : C ≤ 1048576) (hp : 2 ≤ P) (hp2 : P ≤ 10007) (hx : Res l P) :
    Calls Try.prog 134 #[.agg #[.int .i64 P, .int .i64 R, .int .i64 C, .slice (some ⟨b, 0, none⟩) n n], .int .i64 wd] w fun e w' => ∃ a cap, e = .returned (.tuple #[.slice a (redTo P R C l wd).pv.length cap, .int .i64 (redTo P R C l wd).d]) ∧ Own w' w.heap.size w'.heap.size a (redTo P R C l wd).pv.length (pvI (redTo P R C l wd).pv) ∧ Has w' b (redTo P R C l wd).m ∧ w.grownBy w' (some b) := by
  obtain ⟨i0, hi, hz0, hz1, hz2⟩ := info_parts Try.infoInt
  have HL := Lib.hid hl
  have HX := Lib.hid hx
  have HN := Lib.hid hn
  have hbw := hh.lt
  have L0 : Hid (InP w (w.alloc (.cells #[.int .i64 P, .int .i64 R, .int .i64 C, .slice (some ⟨b, 0, none⟩) n n] 37)) w.heap.size b [.int .i64 P, .int .i64 R, .int .i64 C, .slice (some ⟨b, 0, none⟩) n n] l) :=
    ⟨cells_new _ _ _, hh.alloc _, ext_grownBy ((Ext.refl w).alloc _) _, by omega⟩
  have hsz : w.heap.size + 1 ≤ (w.alloc (.cells #[.int .i64 P, .int .i64 R, .int .i64 C, .slice (some ⟨b, 0, none⟩) n n] 37)).heap.size := by simp
  clear hl hx hn hh
  go_enter Try.func134, Try.ntmps134
  go_upto_region 1 with fail
  generalize hW : w.alloc (.cells #[.int .i64 P, .int .i64 R, .int .i64 C, .slice (some ⟨b, 0, none⟩) n n] 37) = W at L0 hsz ⊢
  clear hW
  have lA := L0.out.box.1
  have q1 := L0.out.box.2 1 _ rfl
  have hk1 := make_cap (R : Int) (by omega) (by omega)
  have hk2 := make_cap (wd : Int) (by omega) (by omega)
  go_cut [6] (fun v wx => Hid (Grows wx (w.heap.size + 1) v 0 []) ∧ Hid (Ext W wx))
  case first =>
    go_wp2
    all_goals (go_meet; exact ⟨grows_made _ _ _ hsz (by omega), (Ext.refl _).alloc _⟩)
  case rest =>
    obtain ⟨hG, hE⟩ := hcut
    have L1 := Lib.hid (L0.out.step hE.out)
    clear L0 lA q1 hk1 hk2 hE
    go_wp2_with fail
    go_loopw [6, 7, 17, 8, 9, 10] (fun v f z _ _ _ wr => ∃ c : Nat, c ≤ wd ∧ z = .int .i64 c ∧ f = .int .i64 (redTo P R C l c).d ∧ Hid (InP w wr w.heap.size b [.int .i64 P, .int .i64 R, .int .i64 C, .slice (some ⟨b, 0, none⟩) n n] (redTo P R C l c).m) ∧ Hid (Grows wr (w.heap.size + 1) v (redTo P R C l c).pv.length (pvI (redTo P R C l c).pv))) (fun _ _ z _ _ _ _ => wd - (intOf z).toNat)
    case atStart => exact ⟨0, by omega, rfl, rfl, L1, hG⟩
    case round =>
      obtain ⟨c, hc, rfl, rfl, L, G⟩ := hrel
      by_cases hlt : c < wd
      · have hs1 := redTo_pv (P := P) (R := R) (C := C) (xs := l) c
        have hd := redTo_d (R := R) (C := C) (xs := l) hp c
        have HLm : Hid ((redTo P R C l c).m.length = n) := by rw [Hid, redTo_length]; exact HL.out
        have HXm : Hid (Res (redTo P R C l c).m P) := redTo_res hp HX.out c
        have HS : Hid (redTo P R C l (c + 1) = colS P R C c (redTo P R C l c)) := rfl
        obtain ⟨a, cap, rfl, hO⟩ := G.out.shape
        generalize redTo P R C l c = s at L G HLm HXm HS hs1 hd hO ⊢
        obtain ⟨hs1, hs2, hs3⟩ := hs1
        obtain ⟨hd0, hd1⟩ := hd
        have HO := Lib.hid hO
        clear hs3 hO
        have lA := L.out.box.1
        have q0 := L.out.box.2 0 _ rfl
        have q1 := L.out.box.2 1 _ rfl
        have q2 := L.out.box.2 2 _ rfl
        have q3 := L.out.box.2 3 _ rfl
        go_wp2_with fail
        refine (nonzeroRow_impl P R C c s.pv.length b 0 n _ s.m wr (L.out.has.reads HLm.out) HN.out hb (by omega) hs2 hR).mono ?_
        rintro e w1 ⟨rfl, h1⟩
        clear lA q0 q1 q2 q3
        have L1 := Lib.hid (L.out.step h1)
        have G1 := Lib.hid (G.out.ext h1)
        clear L G h1 HO
        by_cases hfz : fnz s.m C c R s.pv.length = R
        · have hnz : nzR s.m C c R s.pv.length = -1 := by rw [nzR, if_pos hfz]
          have HSE : Hid (redTo P R C l (c + 1) = s) := by rw [Hid, HS.out, colS, if_pos hfz]
          rw [hnz]
          clear hfz hnz
          go_wp2
          exact ⟨⟨c + 1, by omega, by simp, by rw [HSE.out], by rw [HSE.out]; exact L1, by rw [HSE.out]; exact G1⟩, by simp [intOf]; omega⟩
        · have hk1 := fnz_ge (l := s.m) (C := C) (c := c) hs2
          have hk2 : fnz s.m C c R s.pv.length < R := by have := fnz_le (l := s.m) (C := C) (c := c) (R := R) (k := s.pv.length); omega
          have hnz : nzR s.m C c R s.pv.length = ((fnz s.m C c R s.pv.length : Nat) : Int) := by rw [nzR, if_neg hfz]
          have HSE : Hid (redTo P R C l (c + 1) = colP P R C c (fnz s.m C c R s.pv.length) s) := by rw [Hid, HS.out, colS, if_neg hfz]
          rw [hnz]
          clear hfz hnz
          generalize fnz s.m C c R s.pv.length = k at hk1 hk2 HSE ⊢
          have htop : s.pv.length < R := by omega
          have HM : Hid ((swTo (s.pv.length * C) (k * C) s.m C).length = n) := by rw [Hid, swTo_length]; exact HLm.out
          have HXM : Hid (Res (swTo (s.pv.length * C) (k * C) s.m C) P) := swTo_res _ _ _ _ (by omega) HXm.out _
          have lA := L1.out.box.1
          have q0 := L1.out.box.2 0 _ rfl
          have q1 := L1.out.box.2 1 _ rfl
          have q2 := L1.out.box.2 2 _ rfl
          have q3 := L1.out.box.2 3 _ rfl
          go_upto_if 30 with fail
          go_cut [7] (fun f wx => f = .int .i64 (if k = s.pv.length then s.d else P - s.d) ∧ Hid (InP w wx w.heap.size b [.int .i64 P, .int .i64 R, .int .i64 C, .slice (some ⟨b, 0, none⟩) n n] (swTo (s.pv.length * C) (k * C) s.m C)) ∧ Hid (Grows wx (w.heap.size + 1) (.slice a s.pv.length cap) s.pv.length (pvI s.pv)))
          case first =>
            by_cases hkt : k = s.pv.length
            · subst hkt
              have HL2 : Hid (InP w w1 w.heap.size b [.int .i64 P, .int .i64 R, .int .i64 C, .slice (some ⟨b, 0, none⟩) n n] (swTo (s.pv.length * C) (s.pv.length * C) s.m C)) := by rw [swTo_self (n := C) _ _ (by rw [HLm.out, HN.out]; exact row_lt htop) _ (Nat.le_refl _)]; exact L1
              go_wp2
              go_meet
              exact ⟨by simp, HL2, G1⟩
            · have HF := Lib.hid hkt
              have hkt2 : s.pv.length < k := by omega
              have hne : k ≠ s.pv.length := hkt
              clear hkt
              go_wp2_with fail
              refine (exchangeRows_impl P R C k s.pv.length b n s.m w1 L1.out.has HLm.out HN.out hb hk2 htop hne hR).mono ?_
              rintro e w2 ⟨rfl, hh2, hg2⟩
              have L2 := Lib.hid (L1.out.row hh2 hg2)
              have G2 := Lib.hid (G1.out.grown hg2 (by omega))
              clear lA q0 q1 q2 q3 L1 G1 hh2 hg2 hne
              have lA := L2.out.box.1
              have q0 := L2.out.box.2 0 _ rfl
              go_wp2
              go_meet
              exact ⟨by rw [if_neg HF.out], L2, G2⟩
          case rest =>
            obtain ⟨rfl, L2, G2⟩ := hcut
            have hf : 0 ≤ (if k = s.pv.length then s.d else P - s.d) ∧ (if k = s.pv.length then s.d else P - s.d) ≤ P := by split <;> omega
            obtain ⟨hf0, hf1⟩ := hf
            have HPV : Hid (redTo P R C l (c + 1) = ⟨clTo P C s.pv.length c (scTo P (inv (gi (swTo (s.pv.length * C) (k * C) s.m C) (s.pv.length * C + c)) P) (s.pv.length * C) (swTo (s.pv.length * C) (k * C) s.m C) C) R, s.pv ++ [c], (if k = s.pv.length then s.d else P - s.d) * gi (swTo (s.pv.length * C) (k * C) s.m C) (s.pv.length * C + c) % P⟩) := HSE.out
            generalize (if k = s.pv.length then s.d else P - s.d) = f at hf0 hf1 HPV ⊢
            generalize swTo (s.pv.length * C) (k * C) s.m C = m1 at HM HXM L2 HPV
            clear lA q0 q1 q2 q3 L1 G1 HSE hk1 hk2
            generalize hgt : s.pv.length = t at htop G2 HPV hs1 hs2 ⊢
            have HGT := Lib.hid hgt
            have hcC : c < C := by omega
            have hpl := place_lt htop hcC
            have x1 := L2.out.has.cell (t * C + c) (by rw [HM.out, HN.out]; exact hpl)
            obtain ⟨y0, y1⟩ := HXM.out (t * C + c) (by rw [HM.out, HN.out]; exact hpl)
            have e1 : (t : Int) * (C : Int) = ((t * C : Nat) : Int) := by simp
            have g1 : 0 ≤ (t : Int) * (C : Int) := by rw [e1]; omega
            have g2 : (t : Int) * (C : Int) + (c : Int) < (n : Int) := by rw [e1, HN.out]; omega
            have g3 : 0 ≤ (t : Int) * (C : Int) + (c : Int) := by omega
            have p0 := Int.mul_nonneg hf0 y0
            have p1 : f * gi m1 (t * C + c) ≤ 100140049 := by
              have h1 : f * gi m1 (t * C + c) ≤ 10007 * gi m1 (t * C + c) := Int.mul_le_mul_of_nonneg_right (by omega) y0
              omega
            clear hgt e1 hpl
            have lA := L2.out.box.1
            have q0 := L2.out.box.2 0 _ rfl
            have q1 := L2.out.box.2 1 _ rfl
            have q2 := L2.out.box.2 2 _ rfl
            have q3 := L2.out.box.2 3 _ rfl
            go_wp2_with fail
            go_region
            go_wp2_with fail
            refine (clearColumn_impl P R C t c b n m1 _ L2.out.drew.has HM.out HN.out hb htop hcC hR hp hp2 HXM.out).mono ?_
            rintro e w3 ⟨rfl, hh3, hg3⟩
            have L3 := Lib.hid (L2.out.drew.row hh3 hg3)
            have G3 := Lib.hid ((G2.out.ext (Ext.refl _).drew).grown hg3 (by omega))
            have HLB : Hid (w.heap.size < w3.heap.size) := L3.out.box.1
            clear lA q0 q1 q2 q3 x1 L2 G2 hh3 hg3
            go_wp2_with (at_builtin; refine wpList_append_own _ rfl _ _ 22 rfl (w.heap.size + 1) 3 i0 (.int .i64 0) 1 8 Try.underlying22 hi hz0 hz1 hz2 rfl (by decide) _ _ _ rfl (G3.out.alloc _) ⟨w3.heap.size, 0, none⟩ 1 1 [.int .i64 c] rfl rfl ?c1 ?c2 ?c3 ?c4 ?c5 ?_)
            case c1 =>
              intro j u hu
              obtain rfl : j = 0 := by have := (List.getElem?_eq_some_iff.1 hu).1; simp at this; omega
              simp at hu
              subst hu
              rw [show (⟨w3.heap.size, 0, none⟩ : Addr).add 0 = ⟨w3.heap.size, 0, none⟩ from rfl, World.cell?_alloc_at _ _ _ _ rfl]
              rfl
            case c2 => intro u hu; simp at hu; subst hu; rfl
            case c3 => unfold maxLen; omega
            case c4 => omega
            case c5 => have := HLB.out; simp; omega
            intro v' w4 ho hg hnil
            have hg' : w3.grownBy w4 (Value.slice a t cap).ownBlock := ⟨hg.os, hg.tape, hg.output, Nat.le_trans (by simp) hg.size, fun k hk hne => (hg.block k (by simp; omega) hne).trans (((Ext.refl w3).alloc _).block k hk)⟩
            have L4 : Hid (InP w w4 w.heap.size b [.int .i64 P, .int .i64 R, .int .i64 C, .slice (some ⟨b, 0, none⟩) n n] (redTo P R C l (c + 1)).m) := by
              rw [HPV.out]
              exact L3.out.other hg' (fun k hk => by have := G3.out.blk k hk; omega)
            have G4 : Hid (Grows w4 (w.heap.size + 1) v' (redTo P R C l (c + 1)).pv.length (pvI (redTo P R C l (c + 1)).pv)) := by
              rw [HPV.out]
              simp only [Grows, pvI_snoc, List.map_append, List.length_append, List.length_singleton, List.map_cons, List.map_nil, HGT.out]
              exact ho
            have hd : Hid ((redTo P R C l (c + 1)).d = f * gi m1 (t * C + c) % P) := by rw [Hid, HPV.out]
            clear ho hg hg' hnil L3 G3
            go_wp2
            exact ⟨⟨c + 1, by omega, by simp, by rw [hd.out], L4, G4⟩, by simp [intOf]; omega⟩
      · obtain rfl : wd = c := by omega
        obtain ⟨a, cap, rfl, hO⟩ := G.out.shape
        have HO := Lib.hid (hO.mono (Nat.le_succ _) (Nat.le_refl _))
        clear hO
        go_wp2
        go_ret2
        exact ⟨a, cap, rfl, HO.out, L.out.has, L.out.gr⟩
end Go.Proofs.Ytnikfalpjieibaa

/-
  The builtin copy over slices of integers, and copies of matrices in the program.
-/
namespace Go.Proofs.Ytnikfalpjieibaa
open Go.ChangeShapes Go.WideShapes Go.ChangeAt Go.RowKit
set_option linter.unusedVariables false

/-- cs laid over l from off on. -/
def spl (l : List Int) (off : Nat) (cs : List Int) : List Int := l.take off ++ (cs ++ l.drop (off + cs.length))
theorem spl_length (l : List Int) (off : Nat) (cs : List Int) (h : off + cs.length ≤ l.length) : (spl l off cs).length = l.length := by
  simp only [spl, List.length_append, List.length_take, List.length_drop]; omega
theorem gi_spl (l : List Int) (off : Nat) (cs : List Int) (h : off + cs.length ≤ l.length) (k : Nat) : gi (spl l off cs) k = if off ≤ k ∧ k < off + cs.length then gi cs (k - off) else gi l k := by
  have ht : (l.take off).length = off := by simp; omega
  unfold spl
  by_cases h1 : k < off
  · rw [gi_append_l (by omega), gi_take _ _ _ h1, if_neg (by omega)]
  · rw [gi_append_r (by omega), ht]
    by_cases h2 : k - off < cs.length
    · rw [gi_append_l h2, if_pos (by omega)]
    · rw [gi_append_r (by omega), gi_drop, if_neg (by omega)]
      congr 1; omega
theorem spl_nil (l : List Int) (off : Nat) : spl l off [] = l := by simp [spl]
theorem Has.setRow {w : World} {b : Nat} {l : List Int} (h : Has w b l) (off : Nat) (cs : List Int) (hf : off + cs.length ≤ l.length) :
    ∃ cur, w.heap[b]? = some (.cells cur 3 (0, 0)) ∧ off + (cs.map (Value.int .i64)).length ≤ cur.size ∧ Has (w.setRow b (cur.toList.take off ++ (cs.map (Value.int .i64) ++ cur.toList.drop (off + (cs.map (Value.int .i64)).length))).toArray) b (spl l off cs) ∧ w.grownBy (w.setRow b (cur.toList.take off ++ (cs.map (Value.int .i64) ++ cur.toList.drop (off + (cs.map (Value.int .i64)).length))).toArray) (some b) := by
  obtain ⟨cur, h1, h2, h3⟩ := h
  have hsz : cur.toList.length = cur.size := by simp
  refine ⟨cur, h1, by simp; omega, ⟨_, setRow_heap w b _ _ _ _ h1, ?_, ?_⟩, ⟨rfl, rfl, rfl, by simp [World.setRow], fun k hk hne => setRow_other w b k _ (fun e => hne (by rw [e]))⟩⟩
  · rw [spl_length _ _ _ hf]; simp; omega
  · rw [spl_length _ _ _ hf]
    apply List.ext_getElem?
    intro k
    have h3k : ∀ i : Nat, (cur.toList.take l.length)[i]? = (l.map (Value.int .i64))[i]? := fun i => congrArg (fun z : List Value => z[i]?) h3
    simp only [List.getElem?_take, List.getElem?_map] at h3k
    simp only [List.getElem?_take, List.getElem?_map, spl, List.getElem?_append, List.length_take, List.length_map, List.getElem?_drop, hsz]
    have e1 : min off cur.size = off := by omega
    have e2 : min off l.length = off := by omega
    rw [e1, e2]
    by_cases a1 : k < off
    · have := h3k k
      rw [if_pos (by omega)] at this
      simp [a1, show k < l.length by omega, this]
    · by_cases a2 : k - off < cs.length
      · simp [a1, a2, show k < l.length by omega]
      · by_cases a3 : k < l.length
        · have e4 : off + cs.length + (k - off - cs.length) = k := by omega
          have := h3k k
          rw [if_pos a3] at this
          simp [a1, a2, a3, e4, this]
        · have e5 : l.length ≤ off + cs.length + (k - off - cs.length) := by omega
          simp [a1, a2, a3, List.getElem?_eq_none e5]

/-- The builtin copy: what is read is laid over what is written. -/
theorem wpList_copyM {w : World} {ops : Array Oper} {rest : List Oper} {o : Oper} {a : Act} {Q : Exit → Act → World → Prop} (hgd : o.guard = none) (d s : Operand)
    (ho : o.op = .call { callee := .builtin .copy, args := #[d, s], argTypes := #[22, 22] })
    (b off dLen dCap : Nat) (sp : Option Addr) (sLen sCap : Nat) (hd : a.eval d = .slice (some ⟨b, off, none⟩) dLen dCap) (hs : a.eval s = .slice sp sLen sCap)
    (l ys : List Int) (hh : Has w b l) (hy : Reads w sp sLen ys) (k : Nat) (hk : min sLen dLen = k) (hf : off + k ≤ l.length)
    (h : ∀ w', Has w' b (spl l off (ys.take k)) → w.grownBy w' (some b) → wpList Try.prog ops Q rest (a.put o.dst (goInt ((k : Nat) : Int))) w') : wpList Try.prog ops Q (o :: rest) a w := by
  have hsz : (Try.prog.info? 3).map (·.size) = some 1 := by kernel_rfl
  by_cases h0 : k = 0
  · subst h0
    exact wpList_copy_nothing hgd d s _ _ ho 3 Try.underlying22 hsz _ sp dLen dCap sLen sCap hd hs hk (h w (by simpa [spl_nil] using hh) (grownBy_refl _ _))
  · have hl := hy.1
    have hlen : (ys.take k).length = k := by rw [List.length_take, hl]; omega
    obtain ⟨cur, h1, h2, h3, h4⟩ := hh.setRow off (ys.take k) (by rw [hlen]; exact hf)
    rcases hy.2 with hz | ⟨b', off', rfl, hb', hc'⟩
    · omega
    · have h5 := h _ h3 h4
      have e : ((ys.take k).map (Value.int .i64)).length = k := by rw [List.length_map, hlen]
      have e2 : goInt ((k : Nat) : Int) = goInt ((((ys.take k).map (Value.int .i64)).length : Nat) : Int) := by rw [e]
      rw [e2] at h5
      refine wpList_copy_own hgd d s _ _ ho 3 Try.underlying22 hsz b off dLen dCap ⟨b', off', none⟩ sLen sCap hd hs cur 3 h1 ((ys.take k).map (Value.int .i64)) (by rw [e]; exact hk.symm) (fun j v hv => ?_) h2 (fun v hv => ?_) h5
      · have hj : j < k := by have := (List.getElem?_eq_some_iff.1 hv).1; simp [hl] at this; omega
        rw [show (⟨b', off', none⟩ : Addr).add j = ⟨b', off' + j, none⟩ from add_plain .., hc' j (by omega)]
        simp [hj] at hv
        obtain ⟨x, hx, rfl⟩ := hv
        simp [gi, List.getD_eq_getElem?_getD, hx]
      · obtain ⟨z, _, rfl⟩ := List.mem_map.1 hv; rfl
end Go.Proofs.Ytnikfalpjieibaa

/-
  Copies and spans of matrices in the program.
-/
namespace Go.Proofs.Ytnikfalpjieibaa
open Go.ChangeShapes Go.WideShapes Go.ChangeAt Go.RowKit
set_option linter.unusedVariables false

theorem spl_all (l xs : List Int) (h : xs.length = l.length) : spl l 0 xs = xs := by
  simp [spl, h]
theorem prodN (R C n : Nat) (hn : n = R * C) (hb : n ≤ 1048576) : 0 ≤ (R : Int) * (C : Int) ∧ (R : Int) * (C : Int) ≤ 1048576 ∧ ((R : Int) * (C : Int)).toNat = n := by
  rw [← Int.natCast_mul, Int.toNat_natCast, ← hn]; omega

set_option maxRecDepth 100000 in
set_option maxHeartbeats 3200000 in
theorem copyMatrix_impl (P : Int) (R C n c : Nat) (a : Option Addr) (xs : List Int) (w : World) (hr : Reads w a n xs) (hn : n = R * C) (hb : n ≤ 1048576) :
    Calls Try.prog 64 #[.agg #[.int .i64 P, .int .i64 R, .int .i64 C, .slice a n c]] w fun e w' => ∃ b, e = .returned (.agg #[.int .i64 P, .int .i64 R, .int .i64 C, .slice (some ⟨b, 0, none⟩) n n]) ∧ w.heap.size ≤ b ∧ b < w'.heap.size ∧ Has w' b xs ∧ Ext w w' := by
  have HR := Lib.hid hr
  obtain ⟨g0, g1, g2⟩ := prodN R C n hn hb
  have G2 := Lib.hid g2
  have HL : Hid (xs.length = n) := hr.1
  clear hr hn g2
  go_enter Try.func64, Try.ntmps64
  have A0_1 := Lib.hid ((cells_new' w #[.int .i64 P, .int .i64 R, .int .i64 C, .slice a n c] 37 (w.heap.size) (by simp)).ext ((Ext.refl _).alloc (.cells #[.int .i64 0, .int .i64 0, .int .i64 0, .slice none 0 0] 37)))
  have R_2 := Lib.hid (cells_new' (w.alloc (.cells #[.int .i64 P, .int .i64 R, .int .i64 C, .slice a n c] 37)) #[.int .i64 0, .int .i64 0, .int .i64 0, .slice none 0 0] 37 (w.heap.size + 1) (by simp))
  have E_3 := Lib.hid (((Ext.refl w).alloc (.cells #[.int .i64 P, .int .i64 R, .int .i64 C, .slice a n c] 37)).alloc (.cells #[.int .i64 0, .int .i64 0, .int .i64 0, .slice none 0 0] 37))
  have lA0 := A0_1.out.1
  have qA00 := A0_1.out.2 0 _ rfl
  have qA01 := A0_1.out.2 1 _ rfl
  have qA02 := A0_1.out.2 2 _ rfl
  have qA03 := A0_1.out.2 3 _ rfl
  try simp only [World.size_alloc] at lA0
  go_wp2_with fail
  refine (zeros_impl _ _ _ _ g0 g1).mono ?_
  rintro e w_4 ⟨b, rfl, hb1, hb2, hh, h_4⟩
  clear lA0 qA00 qA01 qA02 qA03
  rw [G2.out] at hh ⊢
  have hb3 : w.heap.size + 1 + 1 ≤ b := by simp only [World.size_alloc] at hb1; omega
  have A0_5 := Lib.hid (A0_1.out.ext h_4)
  clear A0_1
  have R_6 := Lib.hid (R_2.out.ext h_4)
  clear R_2
  have E_7 := Lib.hid (E_3.out.trans h_4)
  clear E_3
  clear hb1
  have H0 := Lib.hid (hh.alloc (.cells #[.int .i64 P, .int .i64 R, .int .i64 C, .slice (some ⟨b, 0, none⟩) n n] 37))
  clear hh h_4
  have P_8 := (Ext.refl w_4).alloc (.cells #[.int .i64 P, .int .i64 R, .int .i64 C, .slice (some ⟨b, 0, none⟩) n n] 37)
  have A0_9 := Lib.hid (A0_5.out.ext P_8)
  clear A0_5
  have R_10 := Lib.hid (R_6.out.ext P_8)
  clear R_6
  have E_11 := Lib.hid (E_7.out.trans P_8)
  clear E_7
  clear P_8
  have M_12 := Lib.hid (cells_new w_4 #[.int .i64 P, .int .i64 R, .int .i64 C, .slice (some ⟨b, 0, none⟩) n n] 37)
  have hR0 := Lib.hid (HR.out.ext E_11.out)
  have hne : b ≠ w_4.heap.size := by omega
  have lA0 := A0_9.out.1
  have qA00 := A0_9.out.2 0 _ rfl
  have qA01 := A0_9.out.2 1 _ rfl
  have qA02 := A0_9.out.2 2 _ rfl
  have qA03 := A0_9.out.2 3 _ rfl
  have lM := M_12.out.1
  have qM0 := M_12.out.2 0 _ rfl
  have qM1 := M_12.out.2 1 _ rfl
  have qM2 := M_12.out.2 2 _ rfl
  have qM3 := M_12.out.2 3 _ rfl
  try simp only [World.size_alloc] at lA0 lM
  go_wp2_with (refine wpList_copyM rfl (.tmp 12) (.tmp 14) rfl b 0 n n a n c rfl rfl (List.replicate n 0) xs H0.out hR0.out n (Nat.min_self n) (by simp) ?_)
  intro w2 hh2 hg2
  clear lA0 qA00 qA01 qA02 qA03 lM qM0 qM1 qM2 qM3
  rw [List.take_of_length_le (by rw [HL.out]; exact Nat.le_refl _), spl_all _ _ (by rw [HL.out]; simp)] at hh2
  have M2 := Lib.hid (M_12.out.grown hg2 (fun k hk => by simp at hk; omega))
  have R2 := Lib.hid (R_10.out.grown hg2 (fun k hk => by simp at hk; omega))
  have E2 := Lib.hid (E_11.out.grown hg2 (fun k hk => by simp at hk; omega))
  have HH := Lib.hid hh2
  clear hh2 hg2
  have lM := M2.out.1
  have qM0 := M2.out.2 0 _ rfl
  have qM1 := M2.out.2 1 _ rfl
  have qM2 := M2.out.2 2 _ rfl
  have qM3 := M2.out.2 3 _ rfl
  have qR0 := R2.out.2 0 _ rfl
  have qR1 := R2.out.2 1 _ rfl
  have qR2 := R2.out.2 2 _ rfl
  have qR3 := R2.out.2 3 _ rfl
  have tR := R2.out.3
  have lR := R2.out.1
  go_wp2
  refine bodyPost_ret (v := .agg #[.int .i64 P, .int .i64 R, .int .i64 C, .slice (some ⟨b, 0, none⟩) n n]) (by simp [results, Try.results64, go_sem, qR0, qR1, qR2, qR3]) rfl ⟨b, rfl, by omega, ?_, ?_, ?_⟩
  · have := HH.out.lt; simpa using this
  · repeat with_reducible (first | exact HH.out | refine Has.setOther ?_ (by simp <;> omega) _)
  · exact ext4 E2.out (by omega) _ _ _ _

theorem redM_k {P : Int} {R C : Nat} {xs : List Int} : (redM P R C xs).pv.length ≤ R ∧ (redM P R C xs).pv.length ≤ C := ⟨(redTo_pv C).2.1, (redTo_pv C).1⟩
set_option maxRecDepth 100000 in
set_option maxHeartbeats 6400000 in
theorem span_impl (P : Int) (R C n c : Nat) (a : Option Addr) (xs : List Int) (w : World) (hr : Reads w a n xs) (hn : n = R * C) (hb : n ≤ 1048576) (hR : R ≤ 1048576) (hC : C ≤ 1048576) (hp : 2 ≤ P) (hp2 : P ≤ 10007) (hx : Res xs P) :
    Calls Try.prog 116 #[.agg #[.int .i64 P, .int .i64 R, .int .i64 C, .slice a n c]] w fun e w' => ∃ b, e = .returned (.agg #[.int .i64 P, .int .i64 ((redM P R C xs).pv.length : Nat), .int .i64 C, .slice (some ⟨b, 0, none⟩) ((redM P R C xs).pv.length * C) ((redM P R C xs).pv.length * C)]) ∧ w.heap.size ≤ b ∧ b < w'.heap.size ∧ Has w' b (spanL P R C xs) ∧ Ext w w' := by
  have HR := Lib.hid hr
  have HN := Lib.hid hn
  have HL : Hid (xs.length = n) := hr.1
  have HX := Lib.hid hx
  clear hr hx
  obtain ⟨k1, k2⟩ := redM_k (P := P) (R := R) (C := C) (xs := xs)
  have hk : (redM P R C xs).pv.length * C ≤ n := by rw [hn]; exact Nat.mul_le_mul_right C k1
  clear hn
  have HK : Hid (spanL P R C xs = (redM P R C xs).m.take ((redM P R C xs).pv.length * C)) := rfl
  have HLm : Hid ((redM P R C xs).m.length = n) := by rw [Hid, redM, redTo_length]; exact HL.out
  obtain ⟨g0, g1, g2⟩ := prodN (redM P R C xs).pv.length C _ rfl (Nat.le_trans hk hb)
  have G2 := Lib.hid g2
  clear g2
  go_enter Try.func116, Try.ntmps116
  have A0_1 := Lib.hid ((cells_new' w #[.int .i64 P, .int .i64 R, .int .i64 C, .slice a n c] 37 (w.heap.size) (by simp)).ext ((Ext.refl _).alloc (.cells #[.int .i64 0, .int .i64 0, .int .i64 0, .slice none 0 0] 37)))
  have R_2 := Lib.hid (cells_new' (w.alloc (.cells #[.int .i64 P, .int .i64 R, .int .i64 C, .slice a n c] 37)) #[.int .i64 0, .int .i64 0, .int .i64 0, .slice none 0 0] 37 (w.heap.size + 1) (by simp))
  have E_3 := Lib.hid (((Ext.refl w).alloc (.cells #[.int .i64 P, .int .i64 R, .int .i64 C, .slice a n c] 37)).alloc (.cells #[.int .i64 0, .int .i64 0, .int .i64 0, .slice none 0 0] 37))
  have hRw : Hid (w.heap.size + 1 < ((w.alloc (.cells #[.int .i64 P, .int .i64 R, .int .i64 C, .slice a n c] 37)).alloc (.cells #[.int .i64 0, .int .i64 0, .int .i64 0, .slice none 0 0] 37)).heap.size) := by simp [Hid]
  have lA0 := A0_1.out.1
  have qA00 := A0_1.out.2 0 _ rfl
  have qA01 := A0_1.out.2 1 _ rfl
  have qA02 := A0_1.out.2 2 _ rfl
  have qA03 := A0_1.out.2 3 _ rfl
  try simp only [World.size_alloc] at lA0
  go_wp2_with fail
  refine (copyMatrix_impl P R C n c a xs _ (HR.out.ext E_3.out) HN.out hb).mono ?_
  rintro e w_4 ⟨b1, rfl, hb1, hb2, hh, h_4⟩
  clear lA0 qA00 qA01 qA02 qA03
  have hb3 : w.heap.size + 1 + 1 ≤ b1 := by simp only [World.size_alloc] at hb1; omega
  have A0_5 := Lib.hid (A0_1.out.ext h_4)
  clear A0_1
  have R_6 := Lib.hid (R_2.out.ext h_4)
  clear R_2
  have E_7 := Lib.hid (E_3.out.trans h_4)
  clear E_3
  have H0 := Lib.hid (hh.alloc (.cells #[.int .i64 P, .int .i64 R, .int .i64 C, .slice (some ⟨b1, 0, none⟩) n n] 37))
  clear hh h_4 hb1
  have P_8 := (Ext.refl w_4).alloc (.cells #[.int .i64 P, .int .i64 R, .int .i64 C, .slice (some ⟨b1, 0, none⟩) n n] 37)
  have A0_9 := Lib.hid (A0_5.out.ext P_8)
  clear A0_5
  have R_10 := Lib.hid (R_6.out.ext P_8)
  clear R_6
  have E_11 := Lib.hid (E_7.out.trans P_8)
  clear E_7
  clear P_8
  have M_12 := Lib.hid (cells_new w_4 #[.int .i64 P, .int .i64 R, .int .i64 C, .slice (some ⟨b1, 0, none⟩) n n] 37)
  go_upto_region 2 with fail
  generalize hW1 : (w_4.alloc (.cells #[.int .i64 P, .int .i64 R, .int .i64 C, .slice (some ⟨b1, 0, none⟩) n n] 37)) = W1 at *
  clear hW1
  have MB : Hid (b1 < w_4.heap.size) := hb2
  clear hb2
  generalize w_4.heap.size = B1 at *
  have lM := M_12.out.1
  have qM0 := M_12.out.2 0 _ rfl
  have qM1 := M_12.out.2 1 _ rfl
  have qM2 := M_12.out.2 2 _ rfl
  have qM3 := M_12.out.2 3 _ rfl
  try simp only [World.size_alloc] at lM
  go_wp2_with fail
  refine (reduceRows_impl P R C C b1 n xs W1 H0.out HL.out HN.out hb (Nat.le_refl _) hR hC hp hp2 HX.out).mono ?_
  rintro e w_13 ⟨pa, cap, rfl, hpo, hh, hg⟩
  clear lM qM0 qM1 qM2 qM3
  change Has w_13 b1 (redM P R C xs).m at hh
  change Own w_13 W1.heap.size w_13.heap.size pa (redM P R C xs).pv.length (pvI (redM P R C xs).pv) at hpo
  have hd : redTo P R C xs C = redM P R C xs := rfl
  rw [hd]
  clear hd
  have A0_14 := Lib.hid (A0_9.out.grown hg (fun k hk => by simp at hk; have := MB.out; omega))
  clear A0_9
  have R_15 := Lib.hid (R_10.out.grown hg (fun k hk => by simp at hk; have := MB.out; omega))
  clear R_10
  have M_16 := Lib.hid (M_12.out.grown hg (fun k hk => by simp at hk; have := MB.out; omega))
  clear M_12
  have E_17 := Lib.hid (E_11.out.grown hg (fun k hk => by simp at hk; have := MB.out; omega))
  clear E_11
  clear H0
  have lA0 := A0_14.out.1
  have qA00 := A0_14.out.2 0 _ rfl
  have qA01 := A0_14.out.2 1 _ rfl
  have qA02 := A0_14.out.2 2 _ rfl
  have qA03 := A0_14.out.2 3 _ rfl
  try simp only [World.size_alloc] at lA0
  go_wp2_with fail
  refine (zeros_impl _ _ _ _ g0 g1).mono ?_
  rintro e w_18 ⟨b, rfl, hb1, hb2, hz, h_18⟩
  clear lA0 qA00 qA01 qA02 qA03
  rw [G2.out] at hz ⊢
  have hmn : Hid (w_13.heap.size ≤ b) := hb1
  clear hb1
  have hbw : Hid (b1 < w_13.heap.size) := hh.lt
  have hM0 : Hid (B1 < w_13.heap.size) := M_16.out.1
  have hR1 : Hid (w.heap.size + 1 < w_13.heap.size) := R_15.out.1
  have A0_19 := Lib.hid (A0_14.out.ext h_18)
  clear A0_14
  have R_20 := Lib.hid (R_15.out.ext h_18)
  clear R_15
  have M_21 := Lib.hid (M_16.out.ext h_18)
  clear M_16
  have E_22 := Lib.hid (E_17.out.trans h_18)
  clear E_17
  have Z0 := Lib.hid (hz.alloc (.cells #[.int .i64 P, .int .i64 ((redM P R C xs).pv.length : Nat), .int .i64 C, .slice (some ⟨b, 0, none⟩) ((redM P R C xs).pv.length * C) ((redM P R C xs).pv.length * C)] 37))
  have HM := Lib.hid ((hh.ext h_18).alloc (.cells #[.int .i64 P, .int .i64 ((redM P R C xs).pv.length : Nat), .int .i64 C, .slice (some ⟨b, 0, none⟩) ((redM P R C xs).pv.length * C) ((redM P R C xs).pv.length * C)] 37))
  clear hz hh h_18 hg hpo
  have P_23 := (Ext.refl w_18).alloc (.cells #[.int .i64 P, .int .i64 ((redM P R C xs).pv.length : Nat), .int .i64 C, .slice (some ⟨b, 0, none⟩) ((redM P R C xs).pv.length * C) ((redM P R C xs).pv.length * C)] 37)
  have A0_24 := Lib.hid (A0_19.out.ext P_23)
  clear A0_19
  have R_25 := Lib.hid (R_20.out.ext P_23)
  clear R_20
  have M_26 := Lib.hid (M_21.out.ext P_23)
  clear M_21
  have E_27 := Lib.hid (E_22.out.trans P_23)
  clear E_22
  clear P_23
  have S_28 := Lib.hid (cells_new w_18 #[.int .i64 P, .int .i64 ((redM P R C xs).pv.length : Nat), .int .i64 C, .slice (some ⟨b, 0, none⟩) ((redM P R C xs).pv.length * C) ((redM P R C xs).pv.length * C)] 37)
  generalize (redM P R C xs).m = mm at HM HLm HK
  generalize hkk : (redM P R C xs).pv.length = k at *
  have HKK := Lib.hid hkk
  clear hkk
  go_upto_region 4 with fail
  generalize hW2 : w_18.alloc _ = W2 at *
  clear hW2
  have SBd : Hid (b < w_18.heap.size) := hb2
  clear hb2
  generalize w_18.heap.size = B2 at *
  have lM := M_26.out.1
  have qM0 := M_26.out.2 0 _ rfl
  have qM1 := M_26.out.2 1 _ rfl
  have qM2 := M_26.out.2 2 _ rfl
  have qM3 := M_26.out.2 3 _ rfl
  have lS := S_28.out.1
  have qS0 := S_28.out.2 0 _ rfl
  have qS1 := S_28.out.2 1 _ rfl
  have qS2 := S_28.out.2 2 _ rfl
  have qS3 := S_28.out.2 3 _ rfl
  try simp only [World.size_alloc] at lM lS
  go_wp2_with (refine wpList_copyM rfl (.tmp 24) (.tmp 26) rfl b 0 (k * C) (k * C) (some ⟨b1, 0, none⟩) n n rfl rfl (List.replicate (k * C) 0) mm Z0.out (HM.out.reads HLm.out) (k * C) (Nat.min_eq_right hk) (by simp) ?_)
  intro w2 hh2 hg2
  clear lM qM0 qM1 qM2 qM3 lS qS0 qS1 qS2 qS3
  rw [spl_all _ _ (by have := HLm.out; simp; omega), ← HK.out] at hh2
  have A0_29 := Lib.hid (A0_24.out.grown hg2 (fun k hk => by simp at hk; have := SBd.out; have := MB.out; have := hmn.out; have := hM0.out; have := hR1.out; omega))
  clear A0_24
  have R_30 := Lib.hid (R_25.out.grown hg2 (fun k hk => by simp at hk; have := SBd.out; have := MB.out; have := hmn.out; have := hM0.out; have := hR1.out; omega))
  clear R_25
  have M_31 := Lib.hid (M_26.out.grown hg2 (fun k hk => by simp at hk; have := SBd.out; have := MB.out; have := hmn.out; have := hM0.out; have := hR1.out; omega))
  clear M_26
  have S_32 := Lib.hid (S_28.out.grown hg2 (fun k hk => by simp at hk; have := SBd.out; have := MB.out; have := hmn.out; have := hM0.out; have := hR1.out; omega))
  clear S_28
  have E_33 := Lib.hid (E_27.out.grown hg2 (fun k hk => by simp at hk; have := SBd.out; have := MB.out; have := hmn.out; have := hM0.out; have := hR1.out; omega))
  clear E_27
  have HH := Lib.hid hh2
  clear hh2 hg2 Z0 HM
  have lS := S_32.out.1
  have qS0 := S_32.out.2 0 _ rfl
  have qS1 := S_32.out.2 1 _ rfl
  have qS2 := S_32.out.2 2 _ rfl
  have qS3 := S_32.out.2 3 _ rfl
  have lR := R_30.out.1
  have qR0 := R_30.out.2 0 _ rfl
  have qR1 := R_30.out.2 1 _ rfl
  have qR2 := R_30.out.2 2 _ rfl
  have qR3 := R_30.out.2 3 _ rfl
  have tR := R_30.out.3
  try simp only [World.size_alloc] at lS lR
  have lR := R_30.out.1
  go_wp2
  refine bodyPost_ret (v := .agg #[.int .i64 P, .int .i64 (k : Nat), .int .i64 C, .slice (some ⟨b, 0, none⟩) (k * C) (k * C)]) (by simp [results, Try.results116, go_sem, qR0, qR1, qR2, qR3]) rfl ⟨b, by rw [HKK.out], by have := SBd.out; have := MB.out; have := hmn.out; have := hM0.out; have := hR1.out; omega, ?_, ?_, ?_⟩
  · have := HH.out.lt; simpa using this
  · have := SBd.out; have := MB.out; have := hmn.out; have := hM0.out; have := hR1.out; 
    repeat with_reducible (first | exact HH.out | refine Has.setOther ?_ (by simp <;> omega) _)
  · exact ext4 E_33.out (by omega) _ _ _ _
end Go.Proofs.Ytnikfalpjieibaa

/-
  The first place of a number in a list: the specification's, and the library's Index and Contains at integers.
-/
namespace Go.Proofs.Ytnikfalpjieibaa
open Go.RowKit
set_option linter.unusedVariables false

theorem first_mem {l : List Nat} {x : Nat} (h : x ∈ l) : ∃ q, q < l.length ∧ l.getD q 0 = x ∧ ∀ i, i < q → l.getD i 0 ≠ x := by
  induction l with
  | nil => simp at h
  | cons a l ih =>
    by_cases e : a = x
    · exact ⟨0, by simp, by simpa using e, fun i hi => by omega⟩
    · have : x ∈ l := by
        rcases List.mem_cons.1 h with h1 | h1
        · exact absurd h1.symm e
        · exact h1
      obtain ⟨q, h1, h2, h3⟩ := ih this
      refine ⟨q + 1, by simpa using h1, by simpa using h2, fun i hi => ?_⟩
      cases i with
      | zero => simpa using e
      | succ i => simpa using h3 i (by omega)
theorem not_first {l : List Nat} {x : Nat} (h : x ∉ l) : ∀ i, i < l.length → l.getD i 0 ≠ x := fun i hi e => h (by
  rw [← e, List.getD_eq_getElem?_getD, List.getElem?_eq_getElem hi]; simp)
theorem pv_first {pv : List Nat} {c : Nat} (h : c ∈ pv) : ∃ q, q < pv.length ∧ gi (pvI pv) q = c ∧ ∀ i, i < q → gi (pvI pv) i ≠ c := by
  obtain ⟨q, h1, h2, h3⟩ := first_mem h
  refine ⟨q, h1, by rw [gi_pvI, h2], fun i hi e => h3 i hi ?_⟩
  rw [gi_pvI] at e; omega
theorem pv_none {pv : List Nat} {c : Nat} (h : c ∉ pv) : ∀ i, i < pv.length → gi (pvI pv) i ≠ c := fun i hi e => not_first h i hi (by rw [gi_pvI] at e; omega)

/-- Where the search ends: q is the first place with x, or the length. -/
def FirstAt (xs : List Int) (x : Int) (n q : Nat) : Prop := q ≤ n ∧ (q < n → gi xs q = x) ∧ ∀ i, i < q → gi xs i ≠ x
def fndR (n q : Nat) : Int := if q < n then (q : Int) else -1
theorem firstAt_step {xs : List Int} {x : Int} {n q k : Nat} (h : FirstAt xs x n q) (hk : k ≤ q) (hlt : k < n) : (gi xs k = x → k = q) ∧ (gi xs k ≠ x → k + 1 ≤ q) := by
  obtain ⟨h1, h2, h3⟩ := h
  constructor
  · intro e
    apply Classical.byContradiction
    intro hne
    exact h3 k (by omega) e
  · intro e
    apply Classical.byContradiction
    intro hne
    obtain rfl : k = q := by omega
    exact e (h2 hlt)
theorem pv_firstAt (pv : List Nat) (c : Nat) : ∃ q, FirstAt (pvI pv) c pv.length q ∧ (q < pv.length ↔ c ∈ pv) := by
  by_cases h : c ∈ pv
  · obtain ⟨q, h1, h2, h3⟩ := pv_first h
    exact ⟨q, ⟨by omega, fun _ => h2, h3⟩, ⟨fun _ => h, fun _ => h1⟩⟩
  · exact ⟨pv.length, ⟨Nat.le_refl _, fun h => by omega, fun i hi => pv_none h i hi⟩, ⟨fun h => by omega, fun h2 => absurd h2 h⟩⟩

end Go.Proofs.Ytnikfalpjieibaa

/-
  Slices that are appended to: integers one at a time and many at once; lists of rows; the specification's matrix of some rows.
-/
namespace Go.Proofs.Ytnikfalpjieibaa
open Go.ChangeShapes Go.WideShapes Go.ChangeAt Go.RowKit
set_option linter.unusedVariables false

theorem Grows.reads2 {w : World} {base n : Nat} {v : Value} {xs : List Int} (h : Grows w base v n xs) : ∃ a cap, v = .slice a n cap ∧ (a = none → n = 0 ∧ cap = 0) ∧ Own w base w.heap.size a n xs := by
  have hl : xs.length = n := h.len
  rcases h.2 with ⟨h1, h2⟩ | ⟨g, cap, cur, h1, hb, hg, hn, hc, hs, ht⟩
  · subst h1; subst h2
    exact ⟨none, 0, rfl, fun _ => ⟨rfl, rfl⟩, ⟨hl, .inl ⟨rfl, rfl⟩⟩⟩
  · subst h1
    have hh : Has w g xs := ⟨cur, hg, by omega, by rw [hl]; simpa using ht⟩
    exact ⟨_, cap, rfl, fun h => by simp at h, ⟨hl, .inr ⟨g, rfl, hb, hh.lt, hh⟩⟩⟩
theorem grows_lit (w : World) (base : Nat) (hb : base ≤ w.heap.size) : Grows (w.alloc (.cells #[] 3)) base (.slice (some ⟨w.heap.size, 0, none⟩) 0 0) 0 [] :=
  World.ownsRow_lit w #[] 0 hb (by unfold maxLen; omega) (by simp)
theorem Grows.extAfter {w w0 w' : World} {base n : Nat} {v : Value} {xs : List Int} (h : Grows w base v n xs) (hg : w.grownBy w' v.ownBlock) (hE : Ext w0 w) (hb : w0.heap.size ≤ base) : Ext w0 w' :=
  hE.grown hg (fun k hk => Nat.le_trans hb (h.blk k hk).1)
theorem grownBy_alloc {w w' : World} {o : Obj} {row : Option Nat} (hg : (w.alloc o).grownBy w' row) : w.grownBy w' row :=
  ⟨hg.os, hg.tape, hg.output, Nat.le_trans (by simp) hg.size, fun k hk hne => (hg.block k (by simp; omega) hne).trans (((Ext.refl w).alloc _).block k hk)⟩

/-- append of one integer. -/
theorem wpList_append1 {w : World} {ops : Array Oper} {rest : List Oper} {o : Oper} {a : Act} {Q : Exit → Act → World → Prop} (hgd : o.guard = none) (s x : Operand)
    (ho : o.op = .call { callee := .builtin .append, args := #[s, x], argTypes := #[22, 22] })
    (base : Nat) (v : Value) (n : Nat) (xs : List Int) (y : Int) (c : Nat) (hs : a.eval s = v) (hx : a.eval x = .slice (some ⟨w.heap.size, 0, none⟩) 1 c) (hown : Grows w base v n xs) (hb : n + 1 ≤ 1048577) (hbase : base ≤ w.heap.size)
    (h : ∀ v' w', Grows w' base v' (n + 1) (xs ++ [y]) → w.grownBy w' v.ownBlock → wpList Try.prog ops Q rest (a.put o.dst v') w') : wpList Try.prog ops Q (o :: rest) a (w.alloc (.cells #[.int .i64 y] 3)) := by
  obtain ⟨i0, hi, hz0, hz1, hz2⟩ := info_parts Try.infoInt
  refine wpList_append_own _ hgd s x 22 ho base 3 i0 (.int .i64 0) 1 8 Try.underlying22 hi hz0 hz1 hz2 rfl (by decide) v n (xs.map (Value.int .i64)) hs (Grows.ext hown ((Ext.refl w).alloc _)) ⟨w.heap.size, 0, none⟩ 1 c [.int .i64 y] hx rfl (fun j u hu => ?_) (fun u hu => by simp at hu; subst hu; rfl) (by unfold maxLen; omega) (by omega) (by simp; omega) (fun v' w' h1 h2 _ => h v' w' (by simpa [Grows] using h1) (grownBy_alloc h2))
  obtain rfl : j = 0 := by have := (List.getElem?_eq_some_iff.1 hu).1; simp at this; omega
  simp at hu
  subst hu
  rw [show (⟨w.heap.size, 0, none⟩ : Addr).add 0 = ⟨w.heap.size, 0, none⟩ from rfl, World.cell?_alloc_at _ _ _ _ rfl]
  rfl
/-- append of a list, as a step of a region. -/
theorem step_appendG {ops : Array Oper} {o : Oper} {a : Act} {w : World} {K : Act → World → Prop} {Q : Exit → Act → World → Prop} {E : Prop} (hgd : o.guard = none) (s x : Operand)
    (ho : o.op = .call { callee := .builtin .append, args := #[s, x], argTypes := #[22, 22] }) {base : Nat}
    (v : Value) (n : Nat) (xs : List Int) (hs : a.eval s = v) (hown : Grows w base v n xs) (sp : Option Addr) (m c : Nat) (ys : List Int) (hx : a.eval x = .slice sp m c) (hy : Reads w sp m ys) (hb : n + m ≤ 1048576) (hbase : base ≤ w.heap.size)
    (h : ∀ v' w', Grows w' base v' (n + m) (xs ++ ys) → w.grownBy w' v.ownBlock → (v' = .slice none 0 0 ↔ v = .slice none 0 0 ∧ m = 0) → K (a.put o.dst v') w') (hsp : ∃ ad, sp = some ad) :
    if Region.wanted o (yielded ops a.tmps) = true then Oper.wp Try.prog o a w K Q else E := by
  obtain ⟨ad, rfl⟩ := hsp
  obtain ⟨i0, hi, hz0, hz1, hz2⟩ := info_parts Try.infoInt
  have hw : Region.wanted o (yielded ops a.tmps) = true := by simp [Region.wanted, hgd]
  rw [if_pos hw]
  refine wp_append_own w s x 22 ho base 3 i0 (.int .i64 0) 1 8 Try.underlying22 hi hz0 hz1 hz2 rfl (by decide) v n (xs.map (Value.int .i64)) hs hown ad m c (ys.map (Value.int .i64)) hx (by simpa using hy.1) (fun j u hu => ?_) (fun u hu => by obtain ⟨z, _, rfl⟩ := List.mem_map.1 hu; rfl) (by unfold maxLen; omega) (by omega) hbase (fun v' w' h1 h2 h3 => h v' w' (by rw [Grows, List.map_append]; exact h1) h2 h3)
  have hj : j < m := by have := (List.getElem?_eq_some_iff.1 hu).1; simp [hy.1] at this; omega
  rcases hy.2 with h0 | ⟨b, off, h0, hb', hc⟩
  · omega
  · simp only [Option.some.injEq] at h0
    subst h0
    rw [show (⟨b, off, none⟩ : Addr).add j = ⟨b, off + j, none⟩ from add_plain .., hc j hj]
    simp at hu
    obtain ⟨z, hz, rfl⟩ := hu
    simp [gi, List.getD_eq_getElem?_getD, hz]

/-! Lists of rows. -/
theorem Try.infoInts : (Try.prog.info? 22).map (fun i => (i.zero, i.size, i.bytes)) = some (some (.slice none 0 0), 1, 24) := by kernel_rfl
def row (rs : List (List Int)) (i : Nat) : List Int := rs.getD i []
theorem row_snoc (rs : List (List Int)) (x : List Int) (i : Nat) : row (rs ++ [x]) i = if i < rs.length then row rs i else if i = rs.length then x else [] := by
  unfold row
  simp only [List.getD_eq_getElem?_getD, List.getElem?_append]
  by_cases h : i < rs.length
  · simp [h]
  · by_cases h2 : i = rs.length
    · subst h2; simp
    · have : 1 ≤ i - rs.length := by omega
      rw [if_neg h, if_neg h, if_neg h2, List.getElem?_eq_none (by simpa using this)]; rfl
/-- The values are slices of the call's own, from lo on, that show the rows. -/
def RowVals (w : World) (lo : Nat) (vs : List Value) (rs : List (List Int)) : Prop :=
  vs.length = rs.length ∧ ∀ i, i < rs.length → ∃ b n c, vs[i]? = some (.slice (some ⟨b, 0, none⟩) n c) ∧ Own w lo w.heap.size (some ⟨b, 0, none⟩) n (row rs i)
/-- A slice of rows of the call's own. -/
def RowsG (w : World) (base : Nat) (v : Value) (rs : List (List Int)) : Prop := ∃ vs, w.ownsRow base 22 1 v rs.length vs ∧ RowVals w base vs rs
theorem own_other {w w' : World} {lo hi : Nat} {a : Option Addr} {n : Nat} {xs : List Int} {row : Option Nat} (h : Own w lo hi a n xs) (hg : w.grownBy w' row) (hd : ∀ k, row = some k → ∃ cur z, w.heap[k]? = some (.cells cur 22 z)) : Own w' lo hi a n xs := by
  obtain ⟨h1, h2⟩ := h
  rcases h2 with h2 | ⟨b, rfl, h3, h4, r, h2, h5⟩
  · exact ⟨h1, .inl h2⟩
  · refine ⟨h1, .inr ⟨b, rfl, h3, h4, r, ?_, h5⟩⟩
    rw [hg.block b (Array.getElem?_eq_some_iff.1 h2).1 (fun e => by
      obtain ⟨cur, z, hk⟩ := hd b e.symm
      rw [h2] at hk
      simp at hk)]
    exact h2
theorem RowsG.blk {w : World} {base : Nat} {v : Value} {rs : List (List Int)} (h : RowsG w base v rs) : ∀ k, v.ownBlock = some k → base ≤ k ∧ k < w.heap.size := by
  obtain ⟨vs, h, _⟩ := h
  exact World.ownsRow.lt h
theorem RowsG.ext {w w' : World} {base : Nat} {v : Value} {rs : List (List Int)} (h : RowsG w base v rs) (hE : Ext w w') : RowsG w' base v rs := by
  obtain ⟨vs, h1, h2, h3⟩ := h
  refine ⟨vs, ?_, h2, fun i hi => ?_⟩
  · by_cases e : v.ownBlock = none
    · exact World.ownsRow.kept h1 (ext_grownBy hE none) (.inl e)
    · exact World.ownsRow.kept h1 (ext_grownBy hE none) (.inr e)
  · obtain ⟨b, n, c, h4, h6⟩ := h3 i hi
    exact ⟨b, n, c, h4, (h6.ext hE).mono (Nat.le_refl _) hE.le⟩
theorem RowsG.shape {w : World} {base : Nat} {v : Value} {rs : List (List Int)} (h : RowsG w base v rs) : ∃ a cap, v = .slice a rs.length cap ∧ (0 < rs.length → ∃ g, a = some ⟨g, 0, none⟩ ∧ g < w.heap.size ∧ ∀ i, i < rs.length → ∃ b' n' c', w.cell? ⟨g, i, none⟩ = some (.slice (some ⟨b', 0, none⟩) n' c') ∧ Own w base w.heap.size (some ⟨b', 0, none⟩) n' (row rs i)) := by
  obtain ⟨vs, h1, h2, h3⟩ := h
  rcases h1.2 with ⟨e1, e2⟩ | ⟨g, cap, cur, e1, hb, hg, hn, hc, hs, ht⟩
  · refine ⟨none, 0, ?_, fun h => by omega⟩
    rw [e1, e2]
  · refine ⟨_, cap, e1, fun _ => ⟨g, rfl, (Array.getElem?_eq_some_iff.1 hg).1, fun i hi => ?_⟩⟩
    obtain ⟨b', n', c', h4, h6⟩ := h3 i hi
    refine ⟨b', n', c', ?_, h6⟩
    rw [cell_of_row w g i _ _ _ hg, ← Array.getElem?_toList]
    have : (cur.toList.take (rs.length * 1))[i]? = vs[i]? := by rw [ht]
    rw [List.getElem?_take, if_pos (by omega)] at this
    rw [this, h4]
theorem RowsG.get {w : World} {base k cap : Nat} {a : Option Addr} {rs : List (List Int)} (h : RowsG w base (.slice a k cap) rs) : k = rs.length ∧ ∀ i, i < k → ∃ g, a = some ⟨g, 0, none⟩ ∧ g < w.heap.size ∧ ∃ b' n' c', w.cell? ⟨g, i, none⟩ = some (.slice (some ⟨b', 0, none⟩) n' c') ∧ Own w base w.heap.size (some ⟨b', 0, none⟩) n' (row rs i) := by
  obtain ⟨a2, cap2, e, hs⟩ := h.shape
  injection e with e1 e2 e3
  subst e1
  refine ⟨e2, fun i hi => ?_⟩
  obtain ⟨g, h1, h2, h3⟩ := hs (by omega)
  exact ⟨g, h1, h2, h3 i (by omega)⟩
theorem rows_lit (w : World) (base : Nat) (hb : base ≤ w.heap.size) : RowsG (w.alloc (.cells #[] 22)) base (.slice (some ⟨w.heap.size, 0, none⟩) 0 0) [] :=
  ⟨[], World.ownsRow_lit w #[] 0 hb (by unfold maxLen; omega) (by simp), rfl, fun i hi => by simp at hi⟩
/-- append of one row. -/
theorem wpList_appendRow {w : World} {ops : Array Oper} {rest : List Oper} {o : Oper} {a : Act} {Q : Exit → Act → World → Prop} (hgd : o.guard = none) (s x : Operand)
    (ho : o.op = .call { callee := .builtin .append, args := #[s, x], argTypes := #[102, 102] })
    (base : Nat) (v : Value) (rs : List (List Int)) (b0 m c0 : Nat) (ys : List Int) (c : Nat) (hs : a.eval s = v) (hx : a.eval x = .slice (some ⟨w.heap.size, 0, none⟩) 1 c) (hown : RowsG w base v rs) (hrow : Own w base w.heap.size (some ⟨b0, 0, none⟩) m ys) (hb : rs.length + 1 ≤ 1048577) (hbase : base ≤ w.heap.size)
    (h : ∀ v' w', RowsG w' base v' (rs ++ [ys]) → w.grownBy w' v.ownBlock → wpList Try.prog ops Q rest (a.put o.dst v') w') : wpList Try.prog ops Q (o :: rest) a (w.alloc (.cells #[.slice (some ⟨b0, 0, none⟩) m c0] 22)) := by
  obtain ⟨i0, hi, hz0, hz1, hz2⟩ := info_parts Try.infoInts
  obtain ⟨vs, h1, h2, h3⟩ := RowsG.ext hown ((Ext.refl w).alloc (.cells #[.slice (some ⟨b0, 0, none⟩) m c0] 22))
  have hrow2 := (hrow.ext ((Ext.refl w).alloc (.cells #[.slice (some ⟨b0, 0, none⟩) m c0] 22))).mono (Nat.le_refl _) (show w.heap.size ≤ (w.alloc (.cells #[.slice (some ⟨b0, 0, none⟩) m c0] 22)).heap.size by simp)
  refine wpList_append_own _ hgd s x 102 ho base 22 i0 (.slice none 0 0) 1 24 Try.underlying102 hi hz0 hz1 hz2 rfl (by decide) v rs.length vs hs h1 ⟨w.heap.size, 0, none⟩ 1 c [.slice (some ⟨b0, 0, none⟩) m c0] hx rfl (fun j u hu => ?_) (fun u hu => by simp at hu; subst hu; rfl) (by unfold maxLen; omega) (by omega) (by simp; omega) (fun v' w' g1 g2 _ => h v' w' ?_ (grownBy_alloc g2))
  · obtain rfl : j = 0 := by have := (List.getElem?_eq_some_iff.1 hu).1; simp at this; omega
    simp at hu
    subst hu
    rw [show (⟨w.heap.size, 0, none⟩ : Addr).add 0 = ⟨w.heap.size, 0, none⟩ from rfl, World.cell?_alloc_at _ _ _ _ rfl]
    rfl
  · have hty : ∀ k, v.ownBlock = some k → ∃ cur z, (w.alloc (.cells #[.slice (some ⟨b0, 0, none⟩) m c0] 22)).heap[k]? = some (.cells cur 22 z) := by
      intro k hk
      rcases h1.2 with ⟨e1, _⟩ | ⟨g, cap, cur, e1, _, hg, _⟩
      · subst e1; simp [Value.ownBlock] at hk
      · subst e1
        simp [Value.ownBlock] at hk
        subst hk
        exact ⟨cur, _, hg⟩
    refine ⟨vs ++ [.slice (some ⟨b0, 0, none⟩) m c0], by simpa using g1, by simp [h2], fun i hi => ?_⟩
    rw [row_snoc]
    by_cases e : i < rs.length
    · obtain ⟨b', n', c', h4, h6⟩ := h3 i e
      refine ⟨b', n', c', by rw [List.getElem?_append_left (by omega)]; exact h4, ?_⟩
      rw [if_pos e]
      exact (own_other h6 g2 hty).mono (Nat.le_refl _) g2.size
    · have e2 : i = rs.length := by simp at hi; omega
      subst e2
      refine ⟨b0, m, c0, by rw [List.getElem?_append_right (by omega)]; simp [h2], ?_⟩
      rw [if_neg e, if_pos rfl]
      exact (own_other hrow2 g2 hty).mono (Nat.le_refl _) g2.size
theorem flatten_snoc (rs : List (List Int)) (i : Nat) (hi : i < rs.length) : (rs.take (i + 1)).flatten = (rs.take i).flatten ++ row rs i := by
  rw [List.take_succ_eq_append_getElem hi, List.flatten_append]
  simp [row, List.getD_eq_getElem?_getD, hi]
theorem flatten_le (rs : List (List Int)) (i : Nat) : (rs.take i).flatten.length ≤ rs.flatten.length := by
  have : rs = rs.take i ++ rs.drop i := (List.take_append_drop i rs).symm
  have h2 : rs.flatten = (rs.take i).flatten ++ (rs.drop i).flatten := by rw [← List.flatten_append, ← this]
  rw [h2, List.length_append]; omega
end Go.Proofs.Ytnikfalpjieibaa

/-
  The specification's matrix of some rows.
-/
namespace Go.Proofs.Ytnikfalpjieibaa
open Go.ChangeShapes Go.WideShapes Go.ChangeAt Go.RowKit
set_option linter.unusedVariables false

/-- A box with a matrix, whole. -/
def BoxM (w : World) (B : Nat) (vs : List Value) : Prop := w.heap[B]? = some (.cells vs.toArray 37 (0, 0))
theorem BoxM.cells {w : World} {B : Nat} {vs : List Value} (h : BoxM w B vs) : Cells w B vs :=
  ⟨(Array.getElem?_eq_some_iff.1 h).1, fun j v hv => by rw [cell_of_row w B j _ _ _ h]; simpa using hv, fun j => frozen_of_row w B j _ _ h⟩
theorem BoxM.ext {w w' : World} {B : Nat} {vs : List Value} (h : BoxM w B vs) (hE : Ext w w') : BoxM w' B vs := (hE.block B (Array.getElem?_eq_some_iff.1 h).1).trans h
theorem BoxM.grown {w w' : World} {B : Nat} {vs : List Value} (h : BoxM w B vs) {row : Option Nat} (hg : w.grownBy w' row) (hne : row ≠ some B) : BoxM w' B vs := (hg.block B (Array.getElem?_eq_some_iff.1 h).1 (fun e => hne e.symm)).trans h
theorem BoxM.put {w : World} {B : Nat} {vs : List Value} (h : BoxM w B vs) (j : Nat) (v : Value) : BoxM (w.setCell ⟨B, j, none⟩ v) B (vs.set j v) := by
  have := heap_setCell_same w B j _ _ v h
  rw [BoxM, this]
  simp
theorem boxM_new (w : World) (vs : List Value) : BoxM (w.alloc (.cells vs.toArray 37)) w.heap.size vs := heap_alloc_new w _
theorem Grows.neBox {w : World} {base n B : Nat} {v : Value} {xs : List Int} {vs : List Value} (h : Grows w base v n xs) (hB : BoxM w B vs) : v.ownBlock ≠ some B := by
  rcases h.2 with ⟨h1, _⟩ | ⟨g, cap, cur, h1, _, hg, _⟩
  · subst h1; simp [Value.ownBlock]
  · subst h1
    intro e
    simp [Value.ownBlock] at e
    subst e
    rw [BoxM, hg] at hB
    simp at hB
theorem Grows.put {w : World} {base n B : Nat} {v : Value} {xs : List Int} {vs : List Value} (h : Grows w base v n xs) (hB : BoxM w B vs) (j : Nat) (u : Value) : Grows (w.setCell ⟨B, j, none⟩ u) base v n xs := by
  refine World.ownsRow.kept h (row := some B) (grownBy_set (p := ⟨B, j, none⟩) (grownBy_refl w (some B)) rfl u) (.inr (h.neBox hB))

def RowsPost (w : World) (P : Int) (C k : Nat) (l : List Int) (e : Ending) (w' : World) : Prop := ∃ a c, e = .returned (.agg #[.int .i64 P, .int .i64 k, .int .i64 C, .slice a l.length c]) ∧ (a = none → l.length = 0 ∧ c = 0) ∧ Own w' w.heap.size w'.heap.size a l.length l ∧ Ext w w'
set_option maxRecDepth 100000 in
set_option maxHeartbeats 6400000 in
theorem l1Rows_spec (P : Int) (C k base cap : Nat) (a : Option Addr) (rs : List (List Int)) (w : World) (h : RowsG w base (.slice a k cap) rs) (hkb : k ≤ 1048576) (hb : rs.flatten.length ≤ 1048576) :
    Calls Try.prog 103 #[.int .i64 P, .int .i64 C, .slice a k cap] w (RowsPost w P C k rs.flatten) := by
  have HRS := Lib.hid h
  have HK : Hid (k = rs.length) := h.get.1
  have HB := Lib.hid hb
  clear h hb
  have R0 := Lib.hid ((cells_new' w #[.int .i64 0, .int .i64 0, .int .i64 0, .slice none 0 0] 37 w.heap.size rfl).ext (((Ext.refl (w.alloc (.cells #[.int .i64 0, .int .i64 0, .int .i64 0, .slice none 0 0] 37))).alloc (.cells #[] 3)).alloc (.cells #[.int .i64 P, .int .i64 k, .int .i64 C, .slice (some ⟨w.heap.size + 1, 0, none⟩) 0 0] 37)))
  have G0 : Hid (Grows (((w.alloc (.cells #[.int .i64 0, .int .i64 0, .int .i64 0, .slice none 0 0] 37)).alloc (.cells #[] 3)).alloc (.cells #[.int .i64 P, .int .i64 k, .int .i64 C, .slice (some ⟨w.heap.size + 1, 0, none⟩) 0 0] 37)) (w.heap.size + 1) (.slice (some ⟨w.heap.size + 1, 0, none⟩) 0 0) (rs.take 0).flatten.length (rs.take 0).flatten) := by
    have := (grows_lit (w.alloc (.cells #[.int .i64 0, .int .i64 0, .int .i64 0, .slice none 0 0] 37)) (w.heap.size + 1) (by simp)).ext ((Ext.refl _).alloc (.cells #[.int .i64 P, .int .i64 k, .int .i64 C, .slice (some ⟨w.heap.size + 1, 0, none⟩) 0 0] 37))
    rw [Hid]; simpa using this
  have B0 : Hid (BoxM (((w.alloc (.cells #[.int .i64 0, .int .i64 0, .int .i64 0, .slice none 0 0] 37)).alloc (.cells #[] 3)).alloc (.cells #[.int .i64 P, .int .i64 k, .int .i64 C, .slice (some ⟨w.heap.size + 1, 0, none⟩) 0 0] 37)) (w.heap.size + 1 + 1) [.int .i64 P, .int .i64 k, .int .i64 C, .slice (some ⟨w.heap.size + 1, 0, none⟩) 0 0]) := by
    have := boxM_new ((w.alloc (.cells #[.int .i64 0, .int .i64 0, .int .i64 0, .slice none 0 0] 37)).alloc (.cells #[] 3)) [.int .i64 P, .int .i64 k, .int .i64 C, .slice (some ⟨w.heap.size + 1, 0, none⟩) 0 0]
    rw [Hid]; simpa using this
  have E0 := Lib.hid ((((Ext.refl w).alloc (.cells #[.int .i64 0, .int .i64 0, .int .i64 0, .slice none 0 0] 37)).alloc (.cells #[] 3)).alloc (.cells #[.int .i64 P, .int .i64 k, .int .i64 C, .slice (some ⟨w.heap.size + 1, 0, none⟩) 0 0] 37))
  go_enter Try.func103, Try.ntmps103
  go_wp2_with fail
  generalize (((w.alloc (.cells #[.int .i64 0, .int .i64 0, .int .i64 0, .slice none 0 0] 37)).alloc (.cells #[] 3)).alloc (.cells #[.int .i64 P, .int .i64 k, .int .i64 C, .slice (some ⟨w.heap.size + 1, 0, none⟩) 0 0] 37)) = W1 at *
  go_loopw [8] (fun z wr => ∃ (i : Nat) (v : Value), i ≤ k ∧ z = .int .i64 i ∧ Hid (Cells wr w.heap.size [.int .i64 0, .int .i64 0, .int .i64 0, .slice none 0 0]) ∧ Hid (BoxM wr (w.heap.size + 1 + 1) [.int .i64 P, .int .i64 k, .int .i64 C, v]) ∧ Hid (Grows wr (w.heap.size + 1) v (rs.take i).flatten.length (rs.take i).flatten) ∧ Hid (Ext w wr)) (fun z _ => k - (intOf z).toNat)
  case atStart => exact ⟨0, _, by omega, rfl, R0, B0, G0, E0⟩
  case round =>
    clear R0 B0 G0 E0
    obtain ⟨i, v, hi, rfl, hR, hB, hG, hE⟩ := hrel
    by_cases hlt : i < k
    · obtain ⟨g, rfl, hg, b', n', c', hc, ho⟩ := HRS.out.get.2 i hlt
      have HRow := Lib.hid (ho.reads.ext hE.out)
      have x1 := (hE.out.cells g i hg).trans hc
      have hg2 : g < wr.heap.size := Nat.lt_of_lt_of_le hg hE.out.le
      have hlen := Lib.hid ho.len
      have HF := Lib.hid (flatten_snoc rs i (by rw [← HK.out]; exact hlt))
      have hfl := flatten_le rs (i + 1)
      rw [HF.out, List.length_append, hlen.out] at hfl
      have HFL := Lib.hid (Nat.le_trans hfl HB.out)
      clear hc ho hg hfl
      have BC := hB.out.cells
      have lB := BC.1
      have q0 := BC.2 0 _ rfl
      have q1 := BC.2 1 _ rfl
      have q2 := BC.2 2 _ rfl
      have q3 := BC.2 3 _ rfl
      have tB := BC.3
      clear BC
      obtain ⟨av, cv, rfl, hv1, hv2⟩ := hG.out.reads2
      clear hv1 hv2
      generalize hxs : (rs.take i).flatten = L at *
      have HXS := Lib.hid hxs
      clear hxs
      go_wp2_with fail
      go_region_law (refine step_appendG rfl (.tmp 22) (.tmp 26) rfl (base := w.heap.size + 1) (.slice av L.length cv) L.length L rfl (hG.out.ext (Ext.refl _).drew) (some ⟨b', 0, none⟩) n' c' (row rs i) rfl (HRow.out.ext (Ext.refl _).drew) HFL.out (by have := hE.out.le; have := lB; simp; omega) ?_ ⟨_, rfl⟩; intro v2 w2 hG2 hg2 hn2; obtain ⟨a2, cap2, rfl, hv2, ho2⟩ := hG2.reads2; have HG2 := Lib.hid hG2; clear hv2 ho2 hn2 hG2; have B2 := (BoxM.ext hB.out (Ext.refl _).drew).grown hg2 (Grows.neBox (hG.out.ext (Ext.refl _).drew) (BoxM.ext hB.out (Ext.refl _).drew)); have l2 := B2.cells.1; have y3 := B2.cells.2 3 _ rfl; have f3 := B2.cells.3 3)
      all_goals
        have hob := fun z (hz : (Value.slice av L.length cv).ownBlock = some z) => hG.out.blk z hz
        have B3 := Lib.hid (B2.put 3 (.slice a2 (L.length + n') cap2))
        have G3 := Lib.hid (HG2.out.put B2 3 (.slice a2 (L.length + n') cap2))
        have R3 : Hid (Cells (w2.setCell ⟨w.heap.size + 1 + 1, 3, none⟩ (.slice a2 (L.length + n') cap2)) w.heap.size [.int .i64 0, .int .i64 0, .int .i64 0, .slice none 0 0]) :=
          ((hR.out.ext (Ext.refl _).drew).grown hg2 (fun z hz => by have := hob z hz; omega)).grown (grownBy_set (p := ⟨w.heap.size + 1 + 1, 3, none⟩) (grownBy_refl _ (some (w.heap.size + 1 + 1))) rfl _) (fun z hz => by simp at hz; omega)
        have E3 : Hid (Ext w (w2.setCell ⟨w.heap.size + 1 + 1, 3, none⟩ (.slice a2 (L.length + n') cap2))) :=
          ((hE.out.trans (Ext.refl _).drew).grown hg2 (fun z hz => by have := hob z hz; omega)).setCell (p := ⟨w.heap.size + 1 + 1, 3, none⟩) (by simp; omega) _
        have HG4 : Hid (Grows (w2.setCell ⟨w.heap.size + 1 + 1, 3, none⟩ (.slice a2 (L.length + n') cap2)) (w.heap.size + 1) (.slice a2 (L.length + n') cap2) (rs.take (i + 1)).flatten.length (rs.take (i + 1)).flatten) := by
          rw [HF.out, List.length_append, hlen.out]; exact G3.out
        clear hob hG hB hR hE hg2 HG2 B2 l2 y3 f3 lB q0 q1 q2 q3 tB G3 HRow x1
        go_wp2
        exact ⟨⟨i + 1, _, by omega, by simp, R3, B3, HG4, E3⟩, by simp [intOf]; omega⟩
    · obtain rfl : k = i := by omega
      obtain ⟨av, cv, rfl, hnv, ho⟩ := hG.out.reads2
      have hfl : (rs.take k).flatten = rs.flatten := by rw [HK.out, List.take_length]
      rw [hfl] at hB hG hnv ho
      have HNV := Lib.hid hnv
      have HO := Lib.hid ho
      clear hfl hnv ho
      have BC := hB.out.cells
      have lB := BC.1
      have q0 := BC.2 0 _ rfl
      have q1 := BC.2 1 _ rfl
      have q2 := BC.2 2 _ rfl
      have q3 := BC.2 3 _ rfl
      have f0 := hR.out.2 0 _ rfl
      have f1 := hR.out.2 1 _ rfl
      have f2 := hR.out.2 2 _ rfl
      have f3 := hR.out.2 3 _ rfl
      have t0 := hR.out.3
      clear BC
      go_wp2
      refine bodyPost_ret (v := .agg #[.int .i64 P, .int .i64 k, .int .i64 C, .slice av rs.flatten.length cv]) (by simp [results, Try.results103, go_sem, f0, f1, f2, f3]) rfl ⟨av, cv, rfl, HNV.out, ?_, ?_⟩
      · exact Own.mono (own4 HO.out (by omega) _ _ _ _) (by omega) (by simp)
      · exact ext4 hE.out (by omega) _ _ _ _
end Go.Proofs.Ytnikfalpjieibaa
