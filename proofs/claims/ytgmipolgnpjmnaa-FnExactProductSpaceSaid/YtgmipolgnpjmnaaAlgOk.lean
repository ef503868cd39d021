/-
  Whether an algebra is valid, in the specification.
-/
import Derived.Test.YtgmipolgnpjmnaaAlgS
namespace Go.Proofs.Ytgmipolgnpjmnaa
open Go.ChangeShapes Go.WideShapes Go.ChangeAt Go.RowKit
set_option linter.unusedVariables false

/-- The sum that the specification reckons for three basis elements. -/
def spJ (P : Int) (D : Nat) (l : List Int) (i j k : Nat) : List Int := plusL P D (plusL P D (brL P D l (rowT D l i j) (basL D k)) (brL P D l (rowT D l j k) (basL D i))) (brL P D l (rowT D l k i) (basL D j))
theorem gi_brT {P : Int} {D : Nat} {l : List Int} {x y b m : Nat} (hb : b < D) (hm : m < D) : gi (brL P D l (rowT D l x y) (basL D b)) m = adN D l (tb D l x y) b m % P := by
  rw [brL, gi_map D _ hm, brN_bas _ hb]
  congr 1
  exact sumN_congr (fun c hc => by rw [gi_rowT hc])
theorem gi_spJ {P : Int} {D : Nat} {l : List Int} {i j k m : Nat} (hi : i < D) (hj : j < D) (hk : k < D) (hm : m < D) : gi (spJ P D l i j k) m = jacN D l i j k m % P := by
  rw [spJ, gi_plusL hm, gi_plusL hm, gi_brT hk hm, gi_brT hi hm, gi_brT hj hm, jacN]
  exact ((((Eqm.emod _).trans ((Eqm.emod _).add (Eqm.emod _))).add (Eqm.emod _))).to_emod
noncomputable def jacSB (P : Int) (D : Nat) (l : List Int) : Bool := @decide (JacS P D l) (Classical.propDecidable _)
theorem jacSB_true {P : Int} {D : Nat} {l : List Int} (h : JacS P D l) : jacSB P D l = true := by simp [jacSB, h]
theorem jacSB_false {P : Int} {D : Nat} {l : List Int} (h : ¬ JacS P D l) : jacSB P D l = false := by simp [jacSB, h]
theorem plusL_res {P : Int} {D : Nat} {xs ys : List Int} (hp : 0 < P) : Res (plusL P D xs ys) P := fun k hk => by
  rw [plusL_length] at hk
  rw [gi_plusL hk]
  exact ⟨Int.emod_nonneg _ (by omega), Int.emod_lt_of_pos _ hp⟩
theorem basL_length {D k : Nat} : (basL D k).length = D := by simp [basL]
theorem basL_res {P : Int} {D k : Nat} (hp : 2 ≤ P) : Res (basL D k) P := res_set _ _ _ _ (res_zero _ hp) (by omega) (by omega)
def BrP (w : World) (P : Int) (D : Nat) (l xs ys : List Int) (e : Ending) (w' : World) : Prop := BrPost w P D l xs ys e w'

set_option maxRecDepth 100000 in
set_option maxHeartbeats 6400000 in
theorem l2Jacobi_spec (P : Int) (D a0 oa n d : Nat) (l : List Int) (w : World) (hT : Reads w (some ⟨a0, oa, none⟩) n l) (hD : D ≤ 28) (hn : n = D * D * D) (hd : n ≤ d) (hd2 : d ≤ maxLen) (hp : 2 ≤ P) (hp2 : P ≤ 10007) (hl : Res l P) :
    Calls Try.prog 108 #[.agg #[.int .i64 P, .int .i64 D, .slice (some ⟨a0, oa, none⟩) n d]] w fun e w' => e = .returned (.bool (jacSB P D l)) ∧ Ext w w' := by
  have HT := Lib.hid hT
  have HN := Lib.hid hn
  have HRL := Lib.hid hl
  have HD2 := Lib.hid hd2
  have A0 := Lib.hid (cells_new w #[.int .i64 P, .int .i64 D, .slice (some ⟨a0, oa, none⟩) n d] 26)
  have E0 := Lib.hid ((Ext.refl w).alloc (.cells #[.int .i64 P, .int .i64 D, .slice (some ⟨a0, oa, none⟩) n d] 26))
  have E1 := Lib.hid (Ext.refl (w.alloc (.cells #[.int .i64 P, .int .i64 D, .slice (some ⟨a0, oa, none⟩) n d] 26)))
  have lA := A0.out.1
  have q1 := A0.out.2 1 _ rfl
  clear hT hn hl hd2
  go_enter Try.func108, Try.ntmps108
  go_wp2_with fail
  clear lA q1
  generalize w.alloc (.cells #[.int .i64 P, .int .i64 D, .slice (some ⟨a0, oa, none⟩) n d] 26) = W1 at *
  go_loopw [4, 5, 6, 7] (fun z _ _ _ wr => ∃ i : Nat, i ≤ D ∧ z = .int .i64 i ∧ Hid (Ext W1 wr) ∧ Hid (∀ x, x < i → ∀ j k, x < j → j < k → k < D → ∀ m, m < D → jacN D l x j k m % P = 0)) (fun z _ _ _ _ => D - (intOf z).toNat)
  case atStart => exact ⟨0, by omega, rfl, E1, fun x hx => by omega⟩
  case round =>
    clear E1
    obtain ⟨i, hi, rfl, hE, hF⟩ := hrel
    by_cases hlt : i < D
    · go_wp2_with fail
      go_loopw [5, 6, 7] (fun z _ _ wr => ∃ j : Nat, i < j ∧ j ≤ D ∧ z = .int .i64 j ∧ Hid (Ext W1 wr) ∧ Hid (∀ x, i < x → x < j → ∀ k, x < k → k < D → ∀ m, m < D → jacN D l i x k m % P = 0)) (fun z _ _ _ => D - (intOf z).toNat)
      case atStart => exact ⟨i + 1, by omega, by omega, by simp, hE, fun x h1 h2 => by omega⟩
      case round =>
        clear hE
        obtain ⟨j, hj0, hj, rfl, hE, hG⟩ := hrel
        by_cases hlt2 : j < D
        · go_wp2_with fail
          go_loopw [6, 7] (fun z _ wr => ∃ k : Nat, j < k ∧ k ≤ D ∧ z = .int .i64 k ∧ Hid (Ext W1 wr) ∧ Hid (∀ x, j < x → x < k → ∀ m, m < D → jacN D l i j x m % P = 0)) (fun z _ _ => D - (intOf z).toNat)
          case atStart => exact ⟨j + 1, by omega, by omega, by simp, hE, fun x h1 h2 => by omega⟩
          case round =>
            clear hE
            obtain ⟨k, hk0, hk, rfl, hE, hK⟩ := hrel
            by_cases hlt3 : k < D
            · have HTRwr := Lib.hid (HT.out.ext (E0.out.trans hE.out))
              have AW := A0.out.ext hE.out
              have lA := AW.1
              have q0 := AW.2 0 _ rfl
              have q1 := AW.2 1 _ rfl
              have q2 := AW.2 2 _ rfl
              clear AW
              go_wp2_with fail
              go_region_held3 (fun w' => Ext wr w' ∧ (∀ b o, b < wr.heap.size → w'.cell? ⟨b, o, none⟩ = wr.cell? ⟨b, o, none⟩)) (first | assumption | (with_reducible exact ext2 (Ext.trans (And.left ‹Ext wr _ ∧ _›) ‹Ext _ _›)) | (refine ext2 ?_; with_reducible repeat (first | exact Ext.refl _ | refine Ext.drew ?_))) (first
                | (go_at_call 94; with_reducible refine (l2Row_spec P D a0 oa n d i j _ hD HN.out hd HD2.out hlt hlt2).mono ?_; rintro e wak ⟨rfl, hak⟩)
                | (go_at_call 136; with_reducible refine (l2Basis_spec D k _ hD hlt3).mono ?_; rintro e wbk ⟨bbk, rfl, hhk, hbk⟩)
                | (go_at_call 95; (with_reducible refine (l2Bracket_spec P D a0 oa n d _ _ _ _ l (rowT D l i j) (basL D k) _ (HTRwr.out.ext (And.left ‹Ext wr _ ∧ _›)) ((rowT_reads HTRwr.out HN.out hlt hlt2).ext (And.left ‹Ext wr _ ∧ _›)) (Has.reads (Has.ext hhk (by with_reducible first | exact Ext.refl _ | exact hak)) basL_length) hD HN.out hp hp2 HRL.out (rowT_res (by omega) HRL.out _ _) (basL_res hp)).mono ?_); rintro e wck ⟨bck, rfl, hlok, hck, hEk⟩))
              have hx1 := (And.left ‹Ext wr wck ∧ _›)
              have hE1 := Lib.hid (hE.out.trans hx1)
              have HX1 := Lib.hid hck
              have HTRwck := Lib.hid (HTRwr.out.ext hx1)
              clear hx1 hck hE hhk hbk hak hEk HTRwr lA q0 q1 q2 hlok
              have AW := A0.out.ext hE1.out
              have lA := AW.1
              have q0 := AW.2 0 _ rfl
              have q1 := AW.2 1 _ rfl
              have q2 := AW.2 2 _ rfl
              clear AW
              go_wp2_with fail
              go_region_held3 (fun w' => Ext wck w' ∧ (∀ b o, b < wck.heap.size → w'.cell? ⟨b, o, none⟩ = wck.cell? ⟨b, o, none⟩)) (first | assumption | (with_reducible exact ext2 (Ext.trans (And.left ‹Ext wck _ ∧ _›) ‹Ext _ _›)) | (refine ext2 ?_; with_reducible repeat (first | exact Ext.refl _ | refine Ext.drew ?_))) (first
                | (go_at_call 94; with_reducible refine (l2Row_spec P D a0 oa n d j k _ hD HN.out hd HD2.out hlt2 hlt3).mono ?_; rintro e wai ⟨rfl, hai⟩)
                | (go_at_call 136; with_reducible refine (l2Basis_spec D i _ hD hlt).mono ?_; rintro e wbi ⟨bbi, rfl, hhi, hbi⟩)
                | (go_at_call 95; (with_reducible refine (l2Bracket_spec P D a0 oa n d _ _ _ _ l (rowT D l j k) (basL D i) _ (HTRwck.out.ext (And.left ‹Ext wck _ ∧ _›)) ((rowT_reads HTRwck.out HN.out hlt2 hlt3).ext (And.left ‹Ext wck _ ∧ _›)) (Has.reads (Has.ext hhi (by with_reducible first | exact Ext.refl _ | exact hai)) basL_length) hD HN.out hp hp2 HRL.out (rowT_res (by omega) HRL.out _ _) (basL_res hp)).mono ?_); rintro e wci ⟨bci, rfl, hloi, hci, hEi⟩)
                | (go_at_call 141; (with_reducible refine (l2Plus_spec P D _ _ _ _ _ (brL P D l (rowT D l j k) (basL D i)) _ (Has.reads (Has.ext HX1.out (And.left ‹Ext wck _ ∧ _›)) brL_length) (Has.reads hci brL_length) hD hp hp2 (brL_res (by omega)) (brL_res (by omega))).mono ?_); rintro e wdi ⟨bdi, rfl, hdi, hdEi⟩))
              have hx1 := (And.left ‹Ext wck wdi ∧ _›)
              have hE2 := Lib.hid (hE1.out.trans hx1)
              have HX2 := Lib.hid hdi
              have HTRwdi := Lib.hid (HTRwck.out.ext hx1)
              clear hx1 hdi hE1 hhi hbi hai hEi hci hdEi HX1 HTRwck lA q0 q1 q2 hloi
              have AW := A0.out.ext hE2.out
              have lA := AW.1
              have q0 := AW.2 0 _ rfl
              have q1 := AW.2 1 _ rfl
              have q2 := AW.2 2 _ rfl
              clear AW
              go_wp2_with fail
              go_region_held3 (fun w' => Ext wdi w' ∧ (∀ b o, b < wdi.heap.size → w'.cell? ⟨b, o, none⟩ = wdi.cell? ⟨b, o, none⟩)) (first | assumption | (with_reducible exact ext2 (Ext.trans (And.left ‹Ext wdi _ ∧ _›) ‹Ext _ _›)) | (refine ext2 ?_; with_reducible repeat (first | exact Ext.refl _ | refine Ext.drew ?_))) (first
                | (go_at_call 94; with_reducible refine (l2Row_spec P D a0 oa n d k i _ hD HN.out hd HD2.out hlt3 hlt).mono ?_; rintro e waj ⟨rfl, haj⟩)
                | (go_at_call 136; with_reducible refine (l2Basis_spec D j _ hD hlt2).mono ?_; rintro e wbj ⟨bbj, rfl, hhj, hbj⟩)
                | (go_at_call 95; (with_reducible refine (l2Bracket_spec P D a0 oa n d _ _ _ _ l (rowT D l k i) (basL D j) _ (HTRwdi.out.ext (And.left ‹Ext wdi _ ∧ _›)) ((rowT_reads HTRwdi.out HN.out hlt3 hlt).ext (And.left ‹Ext wdi _ ∧ _›)) (Has.reads (Has.ext hhj (by with_reducible first | exact Ext.refl _ | exact haj)) basL_length) hD HN.out hp hp2 HRL.out (rowT_res (by omega) HRL.out _ _) (basL_res hp)).mono ?_); rintro e wcj ⟨bcj, rfl, hloj, hcj, hEj⟩)
                | (go_at_call 141; (with_reducible refine (l2Plus_spec P D _ _ _ _ _ (brL P D l (rowT D l k i) (basL D j)) _ (Has.reads (Has.ext HX2.out (And.left ‹Ext wdi _ ∧ _›)) plusL_length) (Has.reads hcj brL_length) hD hp hp2 (plusL_res (by omega)) (brL_res (by omega))).mono ?_); rintro e wdj ⟨bdj, rfl, hdj, hdEj⟩))
              have hx1 := (And.left ‹Ext wdi wdj ∧ _›)
              have hE3 := Lib.hid (hE2.out.trans hx1)
              have HX3 : Hid (Has wdj bdj (spJ P D l i j k)) := hdj
              have HSL : Hid ((spJ P D l i j k).length = D) := plusL_length
              have HGI : Hid (∀ m, m < D → gi (spJ P D l i j k) m = jacN D l i j k m % P) := fun m hm => gi_spJ hlt hlt2 hlt3 hm
              clear hx1 hdj hE2 hhj hbj haj hEj hcj hdEj HX2 HTRwdi lA q0 q1 q2 hloj
              go_wp2_with fail
              refine (l1IsZero_spec _ D _ (spJ P D l i j k) _ (HX3.out.reads HSL.out) (by unfold maxLen; omega)).mono ?_
              rintro e w' ⟨rfl, rfl⟩
              rcases hok : zeroB (spJ P D l i j k) with _ | _
              · have HF2 : Hid (jacSB P D l = false) := jacSB_false (fun h => by
                  have : fz (spJ P D l i j k) 0 = (spJ P D l i j k).length := (fz_all _).2 (fun m hm => by rw [HSL.out] at hm; rw [HGI.out m hm]; exact h i j k hj0 hk0 hlt3 m hm)
                  simp only [zeroB, decide_eq_false_iff_not] at hok
                  exact hok this)
                have HEE := Lib.hid (E0.out.trans hE3.out)
                clear hok hE3
                go_wp2
                go_ret
                exact ⟨ret_bool HF2.out.symm, HEE.out⟩
              · have HK2 : Hid (∀ x, j < x → x < k + 1 → ∀ m, m < D → jacN D l i j x m % P = 0) := fun x h1 h2 m hm => by
                  by_cases e : x = k
                  · subst e
                    simp only [zeroB, decide_eq_true_eq] at hok
                    have := (fz_all _).1 hok m (by rw [HSL.out]; exact hm)
                    rwa [HGI.out m hm] at this
                  · exact hK.out x h1 (by omega) m hm
                clear hok hK
                go_wp2
                exact ⟨⟨k + 1, by omega, by omega, by simp, hE3, HK2⟩, by simp [intOf]; omega⟩
            · obtain rfl : D = k := by omega
              have HG2 : Hid (∀ x, i < x → x < j + 1 → ∀ k, x < k → k < D → ∀ m, m < D → jacN D l i x k m % P = 0) := fun x h1 h2 k h3 h4 m hm => by
                by_cases e : x = j
                · subst e; exact hK.out k h3 h4 m hm
                · exact hG.out x h1 (by omega) k h3 h4 m hm
              clear hK hG
              go_wp2
              exact ⟨⟨j + 1, by omega, by omega, by simp, hE, HG2⟩, by simp [intOf]; omega⟩
        · obtain rfl : D = j := by omega
          have HG2 : Hid (∀ x, x < i + 1 → ∀ j k, x < j → j < k → k < D → ∀ m, m < D → jacN D l x j k m % P = 0) := fun x h1 j k h2 h3 h4 m hm => by
            by_cases e : x = i
            · subst e; exact hG.out j h2 (by omega) k h3 h4 m hm
            · exact hF.out x (by omega) j k h2 h3 h4 m hm
          clear hG hF
          go_wp2
          exact ⟨⟨i + 1, by omega, by simp, hE, HG2⟩, by simp [intOf]; omega⟩
    · obtain rfl : D = i := by omega
      have HF2 : Hid (jacSB P D l = true) := jacSB_true (fun i j k h1 h2 h3 m hm => hF.out i (by omega) j k h1 h2 h3 m hm)
      have HEE := Lib.hid (E0.out.trans hE.out)
      clear hF hE
      go_wp2
      go_ret
      exact ⟨ret_bool HF2.out.symm, HEE.out⟩
end Go.Proofs.Ytgmipolgnpjmnaa
