/-
  Characters of a Cartan matrix, by the program: wrapCharacters for one list.
-/
import Derived.Test.YtlnpaplbcocmkaaGreatChi
import Derived.Test.YtlnpaplbcocmkaaGreatRs5
namespace Go.Proofs.YtlnpaplbcocmkaaGreat
open Go.ChangeShapes Go.WideShapes Go.ChangeAt Go.RowKit
set_option linter.unusedVariables false
set_option linter.unusedSimpArgs false

set_option maxRecDepth 100000 in
set_option maxHeartbeats 1600000 in
theorem wrapCh_1 (F S B R da od n cD ax ox m cx : Nat) (v1 v2 v3 : Value) (ys : List (List Int × Int)) (w : World) (hF : Cells w F [.pointer (some ⟨S, 0, none⟩)]) (hS : Cells w S [.pointer (some ⟨B, 0, none⟩), v1]) (hB : Cells w B [.int .i64 (R : Nat), .slice (some ⟨da, od, none⟩) n cD, v2, v3]) (hy : TrmR w (some ⟨ax, ox, none⟩) m ys) (hrl : 1 ≤ R ∧ ∀ j, j < m → (tmR ys j).length ≤ 1048576) (hR : R ≤ 4) (hmm : m ≤ 1048576) :
    Calls Tryz.prog 123 #[.slice (some ⟨ax, ox, none⟩) m cx, .pointer (some ⟨F, 0, none⟩)] w fun e w' => e = .returned (.bool (!chB R ys)) ∧ Ext w w' := by
  have HC := Lib.hid (hasCharacter_impl B R da od n cD ax ox m cx v2 v3 ys w hB hy hrl hR hmm)
  have lF := hF.1
  have f0 := hF.2 0 _ rfl
  have lS := hS.1
  have s0 := hS.2 0 _ rfl
  clear hF hS hB hy
  go_enter Tryz.func123, Tryz.ntmps123
  go_wp2_with fail
  refine HC.out.mono ?_
  rintro e w2 ⟨rfl, hE⟩
  go_wp2
  go_ret
  exact ⟨rfl, hE⟩
set_option maxRecDepth 100000 in
set_option maxHeartbeats 3200000 in
theorem indexChR (F S B R da od n cD g c ax ox m cx : Nat) (v1 v2 v3 : Value) (ys : List (List Int × Int)) (w : World) (hg : w.cell? ⟨g, 0, none⟩ = some (.slice (some ⟨ax, ox, none⟩) m cx)) (hgl : g < w.heap.size) (hF : Cells w F [.pointer (some ⟨S, 0, none⟩)]) (hS : Cells w S [.pointer (some ⟨B, 0, none⟩), v1]) (hB : Cells w B [.int .i64 (R : Nat), .slice (some ⟨da, od, none⟩) n cD, v2, v3]) (hy : TrmR w (some ⟨ax, ox, none⟩) m ys) (hrl : 1 ≤ R ∧ ∀ j, j < m → (tmR ys j).length ≤ 1048576) (hR : R ≤ 4) (hmm : m ≤ 1048576) :
    Calls Tryz.prog 173 #[.slice (some ⟨g, 0, none⟩) 1 c, .func (.func 123) #[] #[.pointer (some ⟨F, 0, none⟩)]] w fun e w' => ∃ z : Int, e = .returned (.int .i64 z) ∧ (decide (0 ≤ z) = !chB R ys) ∧ Ext w w' := by
  have HG := Lib.hid hg
  have HC := Lib.hid (fun w1 (h : Ext w w1) => wrapCh_1 F S B R da od n cD ax ox m cx v1 v2 v3 ys w1 (hF.ext h) (hS.ext h) (hB.ext h) (hy.ext h) hrl hR hmm)
  obtain ⟨q, hq⟩ : ∃ q, chB R ys = q := ⟨_, rfl⟩
  rw [hq] at HC ⊢
  clear hg hF hS hB hy hq
  go_enter Tryz.func173, Tryz.ntmps173
  go_wp2_with fail
  go_loopw [8, 5] (fun z _ wr => ∃ e : Nat, e ≤ 1 ∧ z = .int .i64 e ∧ Hid (Ext w wr) ∧ Hid (0 < e → q = true)) (fun z _ _ => 1 - (intOf z).toNat)
  case atStart => exact ⟨0, by omega, rfl, Ext.refl _, fun h => absurd h (Nat.lt_irrefl _)⟩
  case round =>
    obtain ⟨e, he, rfl, hE, hD⟩ := hrel
    by_cases hlt : e < 1
    · obtain rfl : e = 0 := by omega
      have hc := (hE.out.cells g 0 hgl).trans HG.out
      have lg := Nat.lt_of_lt_of_le hgl hE.out.le
      have HCC := Lib.hid (HC.out wr hE.out)
      cases q
      · go_wp2_with fail
        refine HCC.out.mono ?_
        rintro e' w' ⟨rfl, h5⟩
        go_wp2
        go_ret
        exact ⟨0, rfl, rfl, hE.out.trans h5⟩
      · go_wp2_with fail
        refine HCC.out.mono ?_
        rintro e' w' ⟨rfl, h5⟩
        have HE5 := Lib.hid (hE.out.trans h5)
        go_wp2
        exact ⟨⟨1, by omega, by simp, HE5, by first | exact fun _ => rfl | exact fun _ => trivial | trivial⟩, by simp [intOf]⟩
    · obtain rfl : e = 1 := by omega
      have HF := hD.out (by omega)
      subst HF
      go_wp2
      go_ret
      exact ⟨-1, rfl, by first | rfl | decide | omega, hE.out⟩
set_option maxRecDepth 100000 in
set_option maxHeartbeats 1600000 in
theorem containsChR (F S B R da od n cD g c ax ox m cx : Nat) (v1 v2 v3 : Value) (ys : List (List Int × Int)) (w : World) (hg : w.cell? ⟨g, 0, none⟩ = some (.slice (some ⟨ax, ox, none⟩) m cx)) (hgl : g < w.heap.size) (hF : Cells w F [.pointer (some ⟨S, 0, none⟩)]) (hS : Cells w S [.pointer (some ⟨B, 0, none⟩), v1]) (hB : Cells w B [.int .i64 (R : Nat), .slice (some ⟨da, od, none⟩) n cD, v2, v3]) (hy : TrmR w (some ⟨ax, ox, none⟩) m ys) (hrl : 1 ≤ R ∧ ∀ j, j < m → (tmR ys j).length ≤ 1048576) (hR : R ≤ 4) (hmm : m ≤ 1048576) :
    Calls Tryz.prog 122 #[.slice (some ⟨g, 0, none⟩) 1 c, .func (.func 123) #[] #[.pointer (some ⟨F, 0, none⟩)]] w fun e w' => e = .returned (.bool (!chB R ys)) ∧ Ext w w' := by
  have HC := Lib.hid (indexChR F S B R da od n cD g c ax ox m cx v1 v2 v3 ys w hg hgl hF hS hB hy hrl hR hmm)
  clear hg hF hS hB hy
  go_enter Tryz.func122, Tryz.ntmps122
  go_wp2_with fail
  refine HC.out.mono ?_
  rintro e w2 ⟨z, rfl, hz, hE⟩
  have HZ := Lib.hid hz
  clear hz
  go_wp2
  go_ret
  exact ⟨ret_bool HZ.out, hE⟩
set_option maxRecDepth 100000 in
set_option maxHeartbeats 1600000 in
theorem wrapCharacters_no {R : Int} {a0 oa n : Nat} {v1 : Value} {l : List Int} {w : World} (hT : Reads w (some ⟨a0, oa, none⟩) n l) (hm0 : n ≤ 1048576) (hG : carG R l = none) :
    Calls Tryz.prog 82 #[.agg #[.int .i64 R, .slice (some ⟨a0, oa, none⟩) n n], v1] w fun e w' => e = .returned (.tuple #[.pointer none, .bool false]) ∧ Ext w w' := by
  have HT := Lib.hid hT
  clear hT
  go_enter Tryz.func82, Tryz.ntmps82
  go_wp2_with fail
  refine (wrapRoots_no (HT.out.ext ((Ext.refl w).alloc _)) hm0 hG).mono ?_
  rintro e w2 ⟨rfl, hE⟩
  go_wp2
  go_ret2
  exact ⟨rfl, (((Ext.refl w).alloc _).trans hE).alloc _⟩
set_option maxRecDepth 100000 in
set_option maxHeartbeats 3200000 in
theorem wrapCharacters_yes {K a0 oa n g c ax ox m cx : Nat} {l : List Int} {ys : List (List Int × Int)} {v : List Nat × List Int} {w : World} (hT : Reads w (some ⟨a0, oa, none⟩) n l) (hK1 : 1 ≤ K) (hK4 : K ≤ 4) (hG : tabGet K l = some v) (hl : l.length = K * K) (hok : RootsOk l v.2 K) (hlo : LenOk l v.2 K) (hg : w.cell? ⟨g, 0, none⟩ = some (.slice (some ⟨ax, ox, none⟩) m cx)) (hgl : g < w.heap.size) (hy : TrmR w (some ⟨ax, ox, none⟩) m ys) (hrl : 1 ≤ K ∧ ∀ j, j < m → (tmR ys j).length ≤ 1048576) (hmm : m ≤ 1048576) :
    Calls Tryz.prog 82 #[.agg #[.int .i64 (K : Nat), .slice (some ⟨a0, oa, none⟩) n n], .slice (some ⟨g, 0, none⟩) 1 c] w fun e w' => (chB K ys = false ∧ e = .returned (.tuple #[.pointer none, .bool false]) ∧ Ext w w') ∨ (chB K ys = true ∧ ∃ S B LB ns gr cr, e = .returned (.tuple #[.pointer (some ⟨S, 0, none⟩), .bool true]) ∧ sortN ns = v.1 ∧ RSys w w' S B LB K (.slice (some ⟨a0, oa, none⟩) n n) ns v.2 gr cr (posR l K)) := by
  have HT := Lib.hid hT
  have HG := Lib.hid hg
  have HY := Lib.hid hy
  have HRL := Lib.hid hrl
  have X0 := Lib.hid ((Ext.refl w).alloc (.cells #[.int .i64 (K : Nat), .slice (some ⟨a0, oa, none⟩) n n] 27))
  clear hT hg hy
  go_enter Tryz.func82, Tryz.ntmps82
  go_wp2_with fail
  refine (wrapRoots_yes (HT.out.ext X0.out) hK1 hK4 hG hl hok hlo).mono ?_
  rintro e w2 ⟨S, B, LB, ns, gr, cr, rfl, hns, hS⟩
  have HS := Lib.hid (hS.low X0.out)
  have HNS := Lib.hid hns
  have XF := Lib.hid ((Ext.refl w2).alloc (.cells #[.pointer (some ⟨S, 0, none⟩)] 80))
  have HF := Lib.hid (cells_new w2 #[.pointer (some ⟨S, 0, none⟩)] 80)
  obtain ⟨xa, xn, xc, hbox, hstr⟩ := hS.wr.box
  have HBX := Lib.hid hbox
  have HSB := Lib.hid hS.box
  clear hS hns hbox hstr
  have HCH := Lib.hid (containsChR w2.heap.size S B K a0 oa n n g c ax ox m cx _ _ _ ys _ ((((HS.out.wr.ext.trans XF.out)).cells g 0 hgl).trans HG.out) (Nat.lt_of_lt_of_le hgl (HS.out.wr.ext.trans XF.out).le) HF.out (HSB.out.ext XF.out) (HBX.out.ext XF.out) (HY.out.ext (HS.out.wr.ext.trans XF.out)) HRL.out hK4 hmm)
  have lF := HF.out.1
  have f0 := HF.out.2 0 _ rfl
  rcases hh : chB K ys with _ | _
  · rw [hh] at HCH
    go_wp2_with fail
    refine HCH.out.mono ?_
    rintro e w3 ⟨rfl, h3⟩
    go_wp2
    go_ret2
    exact .inl ⟨hh, rfl, (HS.out.wr.ext.trans XF.out).trans h3⟩
  · rw [hh] at HCH
    go_wp2_with fail
    refine HCH.out.mono ?_
    rintro e w3 ⟨rfl, h3⟩
    have f3 := (HF.out.ext h3).2 0 _ rfl
    have l3 := (HF.out.ext h3).1
    clear f0 lF
    go_wp2
    go_ret2
    exact .inr ⟨hh, S, B, LB, ns, gr, cr, rfl, HNS.out, (HS.out.step XF.out).step h3⟩
end Go.Proofs.YtlnpaplbcocmkaaGreat
