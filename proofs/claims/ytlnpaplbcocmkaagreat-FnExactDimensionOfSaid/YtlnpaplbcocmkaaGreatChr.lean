/-
  CharacterOk and DimensionOf, in both texts.
-/
import Derived.Test.YtlnpaplbcocmkaaGreatChk
import Derived.Test.YtlnpaplbcocmkaaGreatWch
namespace Go.Proofs.YtlnpaplbcocmkaaGreat
open Go.ChangeShapes Go.WideShapes Go.ChangeAt Go.RowKit
set_option linter.unusedVariables false
set_option linter.unusedSimpArgs false

def chO (R : Int) (l : List Int) (ts : List (List Int × Int)) : Bool := match carG R l with
  | some _ => chB R.toNat ts
  | none => false
set_option maxRecDepth 100000 in
set_option maxHeartbeats 1600000 in
theorem characterOk_spec {R : Int} {a0 oa n b1 o1 n1 : Nat} {l : List Int} {ts : List (List Int × Int)} {w : World} {i : Bool} (hT : Reads w (some ⟨a0, oa, none⟩) n l) (hm0 : n ≤ 1048576) (hx : TrmR w (some ⟨b1, o1, none⟩) n1 ts) (hm1 : n1 ≤ 1048576) (hl : ∀ j, j < n1 → (tmR ts j).length ≤ 1048576) (hM : chO R l ts = i) :
    Calls Tryz.prog 37 #[.agg #[.int .i64 R, .slice (some ⟨a0, oa, none⟩) n n], .slice (some ⟨b1, o1, none⟩) n1 n1] w fun e w' => e = .returned (.bool i) ∧ Ext w w' := by
  subst hM
  have HT := Lib.hid hT
  have HY := Lib.hid hx
  have HRL := Lib.hid hl
  rcases hG : carG R l with _ | v
  · have HF : Hid (chO R l ts = false) := by rw [Hid, chO, hG]
    clear hT hx
    go_enter Tryz.func37, Tryz.ntmps37
    go_wp2_with fail
    refine (isCartan_no (HT.out.ext ((Ext.refl w).alloc _)) hm0 hG).mono ?_
    rintro e w2 ⟨rfl, hE⟩
    go_wp2
    go_ret
    exact ⟨ret_bool HF.out.symm, ((Ext.refl w).alloc _).trans hE⟩
  · obtain ⟨K, rfl, hK1, hK4, hlK, ht⟩ := carG_some hG
    have HF : Hid (chO K l ts = chB K ts) := by rw [Hid, chO, hG]; rfl
    clear hT hx
    go_enter Tryz.func37, Tryz.ntmps37
    go_wp2_with fail
    refine (isCartan_yes (HT.out.ext ((Ext.refl w).alloc _)) hm0 hG).mono ?_
    rintro e w2 ⟨rfl, hE⟩
    have HE := Lib.hid (((Ext.refl w).alloc _).trans hE)
    have HBX := Lib.hid ((cells_new w #[.int .i64 (K : Nat), .slice (some ⟨a0, oa, none⟩) n n] 27).ext hE)
    have lB := HBX.out.1
    have q0 := HBX.out.2 0 _ rfl
    have q1 := HBX.out.2 1 _ rfl
    clear hE
    go_wp2_with fail
    refine (l8Ok_spec K a0 oa n n b1 o1 n1 n1 ts _ (HY.out.ext HE.out) ⟨hK1, HRL.out⟩ hK4 hm1).mono ?_
    rintro e w3 ⟨rfl, h3⟩
    go_wp2
    go_ret
    exact ⟨ret_bool HF.out.symm, HE.out.trans h3⟩

set_option maxRecDepth 100000 in
set_option maxHeartbeats 1600000 in
theorem characterOk_impl {R : Int} {a0 oa n b1 o1 n1 : Nat} {l : List Int} {ts : List (List Int × Int)} {w : World} {i : Bool} (hT : Reads w (some ⟨a0, oa, none⟩) n l) (hm0 : n ≤ 1048576) (hx : TrmR w (some ⟨b1, o1, none⟩) n1 ts) (hm1 : n1 ≤ 1048576) (hl : ∀ j, j < n1 → (tmR ts j).length ≤ 1048576) (hM : chO R l ts = i) :
    Calls Tryz.prog 39 #[.agg #[.int .i64 R, .slice (some ⟨a0, oa, none⟩) n n], .slice (some ⟨b1, o1, none⟩) n1 n1] w fun e w' => e = .returned (.bool i) ∧ Ext w w' := by
  subst hM
  have HT := Lib.hid hT
  have HY := Lib.hid hx
  have HRL := Lib.hid hl
  rcases hG : carG R l with _ | v
  · have HF : Hid (chO R l ts = false) := by rw [Hid, chO, hG]
    clear hT hx
    have X0 := Lib.hid (((Ext.refl w).alloc (.cells #[.int .i64 R, .slice (some ⟨a0, oa, none⟩) n n] 27)).alloc (.cells #[.slice (some ⟨b1, o1, none⟩) n1 n1] 47))
    go_enter Tryz.func39, Tryz.ntmps39
    go_wp2_with fail
    refine (wrapCharacters_no (HT.out.ext X0.out) hm0 hG).mono ?_
    rintro e w2 ⟨rfl, hE⟩
    go_wp2
    go_ret
    exact ⟨ret_bool HF.out.symm, X0.out.trans hE⟩
  · obtain ⟨K, rfl, hK1, hK4, hlK, ht⟩ := carG_some hG
    have HLO := Lib.hid (lenOk_tab (by omega) hK4 ht)
    have HRO := Lib.hid (rootsOk_tab (by omega) hK4 ht)
    have HF : Hid (chO K l ts = chB K ts) := by rw [Hid, chO, hG]; rfl
    have X1 := Lib.hid (((Ext.refl w).alloc (.cells #[.int .i64 (K : Nat), .slice (some ⟨a0, oa, none⟩) n n] 27)).alloc (.cells #[.slice (some ⟨b1, o1, none⟩) n1 n1] 47))
    have HCN := Lib.hid (cells_new (w.alloc (.cells #[.int .i64 (K : Nat), .slice (some ⟨a0, oa, none⟩) n n] 27)) #[.slice (some ⟨b1, o1, none⟩) n1 n1] 47)
    have hsz : (w.alloc (.cells #[.int .i64 (K : Nat), .slice (some ⟨a0, oa, none⟩) n n] 27)).heap.size = w.heap.size + 1 := by simp
    have hc9 := HCN.out.2 0 _ rfl
    have hc8 := HCN.out.1
    rw [hsz] at hc9 hc8
    have HWH := Lib.hid (wrapCharacters_yes (g := w.heap.size + 1) (c := 1) (HT.out.ext X1.out) hK1 hK4 ht hlK HRO.out HLO.out hc9 hc8 (HY.out.ext X1.out) ⟨hK1, HRL.out⟩ hm1)
    clear hT hx hc9 hc8 hsz
    go_enter Tryz.func39, Tryz.ntmps39
    go_wp2_with fail
    refine HWH.out.mono ?_
    rintro e w2 (⟨h1, rfl, hE⟩ | ⟨h1, S, B, LB, ns, gr, cr, rfl, hns, hS⟩)
    · have HQ : Hid (chO K l ts = false) := by rw [Hid, HF.out]; exact h1
      go_wp2
      go_ret
      exact ⟨ret_bool HQ.out.symm, X1.out.trans hE⟩
    · have HQ : Hid (chO K l ts = true) := by rw [Hid, HF.out]; exact h1
      go_wp2
      go_ret
      exact ⟨ret_bool HQ.out.symm, X1.out.trans hS.wr.ext⟩
end Go.Proofs.YtlnpaplbcocmkaaGreat
