/-
  The matrix of the brackets with one element, in the program.
-/
import Derived.Test.YtapaopapgnfdkaaLi
import Derived.Test.YtapaopapgnfdkaaTm
import Derived.Test.YtapaopapgnfdkaaRs
import Derived.Test.YtapaopapgnfdkaaMz
namespace Go.Proofs.Ytapaopapgnfdkaa
open Go.ChangeShapes Go.WideShapes Go.ChangeAt Go.RowKit
set_option linter.unusedVariables false

/-- The first k terms of the brackets of x with each basis element, row by row. -/
def adTo (P : Int) (D : Nat) (l xs : List Int) (k : Nat) : List Int := (List.range (D * D)).map fun q => (sumN k fun c => gi xs c * gi l (c * (D * D) + q)) % P
section
variable {P : Int} {D : Nat} {l xs : List Int}
theorem adTo_length (k : Nat) : (adTo P D l xs k).length = D * D := by simp [adTo]
theorem gi_adTo (k : Nat) {q : Nat} (hq : q < D * D) : gi (adTo P D l xs k) q = (sumN k fun c => gi xs c * gi l (c * (D * D) + q)) % P := gi_map (D * D) _ hq
theorem adTo_zero : adTo P D l xs 0 = List.replicate (D * D) 0 := by
  refine ext_gi (by rw [adTo_length, List.length_replicate]) (fun q hq => ?_)
  rw [adTo_length] at hq
  rw [gi_adTo 0 hq, gi_repl]; simp [sumN]
theorem adTo_res (hp : 0 < P) (k : Nat) : Res (adTo P D l xs k) P := fun q hq => by
  rw [adTo_length] at hq
  rw [gi_adTo k hq]
  exact ⟨Int.emod_nonneg _ (by omega), Int.emod_lt_of_pos _ hp⟩
theorem adTo_succ (k : Nat) : axL P (gi xs k) l 0 (k * (D * D)) (D * D) (adTo P D l xs k) = adTo P D l xs (k + 1) := by
  refine ext_gi (by rw [axL_length, adTo_length, adTo_length]) (fun q hq => ?_)
  rw [axL_length, adTo_length] at hq
  by_cases h : gi xs k = 0
  · rw [axL, if_pos h, gi_adTo k hq, gi_adTo (k + 1) hq, sumN, h]; simp
  · rw [axL, if_neg h]
    have h1 := gi_axTo_in P (gi xs k) 0 (k * (D * D)) (D * D) (adTo P D l xs k) l (by rw [adTo_length]; omega) q (D * D) hq (Nat.le_refl _)
    simp only [Nat.zero_add] at h1
    rw [h1, gi_adTo k hq, gi_adTo (k + 1) hq, sumN]
    exact Int.emod_add_emod _ _ _
theorem ad_place {j m : Nat} (hj : j < D) (hm : m < D) : j * D + m < D * D := by
  have := Nat.mul_le_mul_right D (show j + 1 ≤ D by omega)
  rw [Nat.add_mul] at this; omega
theorem adTo_row {j m : Nat} (hj : j < D) (hm : m < D) : gi (adTo P D l xs D) (j * D + m) = adN D l (gi xs) j m % P := by
  rw [gi_adTo D (ad_place hj hm), adN]
  congr 1
  refine sumN_congr (fun c _ => ?_)
  rw [tb, Nat.add_mul, Nat.mul_assoc, Nat.add_assoc]
theorem ad_lt {k : Nat} (hk : k < D) : k * (D * D) + D * D ≤ D * D * D := by
  have := Nat.mul_le_mul_right (D * D) (show k + 1 ≤ D by omega)
  rw [Nat.add_mul, Nat.one_mul] at this
  rw [Nat.mul_assoc]; exact this
end

set_option maxRecDepth 100000 in
set_option maxHeartbeats 1600000 in
theorem adjointTo_impl (P : Int) (D B a0 oa n d i : Nat) (w : World) (hc : Cells w B [.int .i64 P, .int .i64 D, .slice (some ⟨a0, oa, none⟩) n d]) (hD : D ≤ 28) (hn : n = D * D * D) (hd : n ≤ d) (hd2 : d ≤ maxLen) (hi : i < D) :
    Calls Try.prog 208 #[.pointer (some ⟨B, 0, none⟩), .int .i64 i] w fun e w' => e = .returned (.agg #[.int .i64 P, .int .i64 D, .int .i64 D, .slice (some ⟨a0, oa + i * (D * D), none⟩) (D * D) (d - i * (D * D))]) ∧ Ext w w' := by
  have h3 := ad_lt hi
  have h28 := cube28 hD
  have h27 : D * D ≤ 784 := Nat.mul_le_mul hD hD
  rw [← hn] at h3 h28
  unfold maxLen at hd2
  have e1 : (D : Int) * (D : Int) = ((D * D : Nat) : Int) := by simp
  have e2 : (i : Int) * ((D : Int) * (D : Int)) = ((i * (D * D) : Nat) : Int) := by simp
  have e3 : ((i : Int) + 1) * ((D : Int) * (D : Int)) = ((i * (D * D) + D * D : Nat) : Int) := by rw [Int.add_mul, e2]; simp
  have hD0 : 0 < D * D := Nat.mul_pos (by omega) (by omega)
  have g1 : 0 ≤ (D : Int) * (D : Int) := by rw [e1]; omega
  have g2 : (D : Int) * (D : Int) ≤ 784 := by rw [e1]; omega
  have g3 : 0 ≤ (i : Int) * ((D : Int) * (D : Int)) := by rw [e2]; omega
  have g4 : (i : Int) * ((D : Int) * (D : Int)) ≤ 21952 := by rw [e2]; omega
  have g5 : 0 ≤ ((i : Int) + 1) * ((D : Int) * (D : Int)) := by rw [e3]; omega
  have g6 : ((i : Int) + 1) * ((D : Int) * (D : Int)) ≤ 21952 := by rw [e3]; omega
  have g7 : ((i : Int) + 1) * ((D : Int) * (D : Int)) ≤ (d : Int) := by rw [e3]; omega
  have g8 : (i : Int) * ((D : Int) * (D : Int)) ≤ ((i : Int) + 1) * ((D : Int) * (D : Int)) := by rw [e2, e3]; omega
  have g9 : (i : Int) * ((D : Int) * (D : Int)) < (d : Int) := by rw [e2]; omega
  have HF : Hid ((((i : Int) + 1) * ((D : Int) * (D : Int))).toNat - ((i : Int) * ((D : Int) * (D : Int))).toNat = D * D ∧ ((i : Int) * ((D : Int) * (D : Int))).toNat = i * (D * D)) := by
    refine ⟨?_, ?_⟩
    · rw [e3, e2]; omega
    · rw [e2]; omega
  have HF3 : Hid ((((i : Int) + 1) * ((D : Int) * (D : Int))).toNat - i * (D * D) = D * D) := by rw [Hid, e3]; omega
  have gne : ¬ d = ((i : Int) * ((D : Int) * (D : Int))).toNat := by omega
  have v1 : IntKind.i64.wrap ((D : Int) * (D : Int)) = (D : Int) * (D : Int) := IntWalk.i64_in _ ⟨by omega, by omega⟩
  have v0 : IntKind.i64.wrap ((i : Int) + 1) = (i : Int) + 1 := IntWalk.i64_in _ ⟨by omega, by omega⟩
  have v2 : IntKind.i64.wrap ((i : Int) * ((D : Int) * (D : Int))) = (i : Int) * ((D : Int) * (D : Int)) := IntWalk.i64_in _ ⟨by omega, by omega⟩
  have v3 : IntKind.i64.wrap (((i : Int) + 1) * ((D : Int) * (D : Int))) = ((i : Int) + 1) * ((D : Int) * (D : Int)) := IntWalk.i64_in _ ⟨by omega, by omega⟩
  have HC := Lib.hid hc
  have lB := hc.1
  have q0 := hc.2 0 _ rfl
  have q1 := hc.2 1 _ rfl
  have q2 := hc.2 2 _ rfl
  have HE0 := Lib.hid (Ext.refl w)
  clear e1 e2 e3 hn h3 h28 hc
  go_enter Try.func208, Try.ntmps208
  go_wp2_with fail
  go_quiet (fail)
  go_wp2_with fail
  go_region_held3 (fun w' => Ext w w' ∧ (∀ b o, b < w.heap.size → w'.cell? ⟨b, o, none⟩ = w.cell? ⟨b, o, none⟩)) ((refine ext2 ?_; with_reducible repeat (first | exact Ext.refl _ | exact And.left ‹Ext w _ ∧ _› | refine Ext.drew ?_ | refine Ext.drewN ?_ _ | refine Ext.alloc ?_ _ | refine Ext.setCell ?_ (by simp <;> omega) _))) (fail)
  go_wp2_with fail
  simp only [HF.out.2, HF3.out]
  refine bodyPost_ret (v := .agg #[.int .i64 P, .int .i64 D, .int .i64 D, .slice (some ⟨a0, oa + i * (D * D), none⟩) (D * D) (d - i * (D * D))]) (by simp [results, Try.results208, go_sem]) rfl ⟨rfl, ?_⟩
  with_reducible repeat (first | exact Ext.refl _ | refine Ext.drew ?_ | refine Ext.drewN ?_ _ | refine Ext.alloc ?_ _ | refine Ext.setCell ?_ (by simp <;> omega) _)

set_option maxRecDepth 100000 in
theorem run_fieldM (v0 v1 v2 v3 : Value) (w : World) : (Instr.field 40 (.agg #[v0, v1, v2, v3]) 3).run Try.prog w = .ok v3 w := by rfl
set_option maxRecDepth 100000 in
set_option maxHeartbeats 3200000 in
theorem adjoint_impl (P : Int) (D B a0 oa n d b' o' c' : Nat) (l xs : List Int) (w : World) (hc : Cells w B [.int .i64 P, .int .i64 D, .slice (some ⟨a0, oa, none⟩) n d]) (hD : D ≤ 28) (hn : n = D * D * D) (hd : n ≤ d) (hd2 : d ≤ maxLen)
    (hT : Reads w (some ⟨a0, oa, none⟩) n l) (hX : Reads w (some ⟨b', o', none⟩) D xs) (hp : 2 ≤ P) (hp2 : P ≤ 10007) (hl : Res l P) (hx : Res xs P) :
    Calls Try.prog 145 #[.pointer (some ⟨B, 0, none⟩), .slice (some ⟨b', o', none⟩) D c'] w fun e w' => ∃ b, e = .returned (.agg #[.int .i64 P, .int .i64 D, .int .i64 D, .slice (some ⟨b, 0, none⟩) (D * D) (D * D)]) ∧ w.heap.size ≤ b ∧ b < w'.heap.size ∧ Has w' b (adTo P D l xs D) ∧ Ext w w' := by
  have HC := Lib.hid hc
  have HN := Lib.hid hn
  have HT := Lib.hid hT
  have HX := Lib.hid hX
  have HRX := Lib.hid hx
  have HRL := Lib.hid hl
  have HD2 := Lib.hid hd2
  have e1 : (D : Int) * (D : Int) = ((D * D : Nat) : Int) := by simp
  have h27 : D * D ≤ 784 := Nat.mul_le_mul hD hD
  have g0 : 0 ≤ (D : Int) * (D : Int) := by rw [e1]; omega
  have g1 : (D : Int) * (D : Int) ≤ 1048576 := by rw [e1]; omega
  have E1 : Hid (((D : Int) * (D : Int)).toNat = D * D) := by rw [Hid, e1, Int.toNat_natCast]
  clear hc hn hT hX hx hl hd2 e1
  have M0 := Lib.hid (cells_new w #[.int .i64 0, .int .i64 0, .int .i64 0, .slice none 0 0] 40)
  have E0 := Lib.hid ((Ext.refl w).alloc (.cells #[.int .i64 0, .int .i64 0, .int .i64 0, .slice none 0 0] 40))
  have AW := HC.out.ext E0.out
  have lB := AW.1
  have q0 := AW.2 0 _ rfl
  have q1 := AW.2 1 _ rfl
  have hsz : (w.alloc (.cells #[.int .i64 0, .int .i64 0, .int .i64 0, .slice none 0 0] 40)).heap.size = w.heap.size + 1 := by simp
  have HSZ := Lib.hid hsz
  clear AW hsz
  go_enter Try.func145, Try.ntmps145
  go_upto_region 1 with fail
  generalize w.alloc (.cells #[.int .i64 0, .int .i64 0, .int .i64 0, .slice none 0 0] 40) = W0 at *
  go_cut [5] (fun s5 wx => ∃ ZB b, s5 = .pointer (some ⟨ZB, 0, none⟩) ∧ Hid (Loc W0 wx ZB b [.int .i64 P, .int .i64 D, .int .i64 D, .slice (some ⟨b, 0, none⟩) (D * D) (D * D)] (adTo P D l xs 0)) ∧ W0.heap.size ≤ ZB)
  case first =>
    go_region_held3 (fun w' => Ext W0 w' ∧ (∀ b o, b < W0.heap.size → w'.cell? ⟨b, o, none⟩ = W0.cell? ⟨b, o, none⟩)) ((first | (with_reducible exact ext2 (Ext.trans (And.left ‹Ext W0 _ ∧ _›) ‹Ext _ _›)) | (refine ext2 ?_; with_reducible repeat (first | exact Ext.refl _ | exact And.left ‹Ext W0 _ ∧ _› | exact Ext.trans (Ext.drew (Ext.refl _)) ‹Ext _ _› | exact Ext.trans (Ext.alloc (Ext.drew (Ext.refl _)) _) ‹Ext _ _› | exact Ext.trans (Ext.drew (Ext.alloc (Ext.refl _) _)) ‹Ext _ _› | refine Ext.drew ?_ | refine Ext.drewN ?_ _ | refine Ext.alloc ?_ _ | refine Ext.setCell ?_ (by simp <;> omega) _)))) ((go_at_call 66; refine (zeros_impl _ _ _ _ g0 g1).mono ?_; rintro e w1 ⟨b, rfl, hb1, hb2, hh, h1⟩; have c1 := h1.cells; have f1 := h1.frees; have y1 := h1.le; have x1 := fun k hk => Nat.lt_of_lt_of_le (n := k) hk h1.le; (try simp only [World.size_drew] at y1 x1 hb1); (try simp only [World.size_alloc] at y1 x1 hb1); (try simp only [World.size_drew] at y1 x1 hb1)))
    all_goals (go_wp2_with fail; go_meet; rw [E1.out] at hh ⊢; first
      | exact ⟨w1.heap.size, b, rfl, ⟨cells_new _ _ _, by rw [adTo_zero]; exact hh.alloc _, And.left ‹Ext W0 _ ∧ _›, by omega, by simp; omega, by omega⟩, by omega⟩
      | exact ⟨W0.heap.size, b, rfl, ⟨early4 (lo := 0) ((((cells_new W0 _ _).ext (Ext.drew (Ext.refl _)))).ext h1), by rw [adTo_zero]; repeat with_reducible (first | exact hh | refine Has.setOther ?_ (by simp <;> omega) _), And.left ‹Ext W0 _ ∧ _›, by omega, by simp; omega, by omega⟩, by omega⟩)
  case rest =>
    obtain ⟨ZB, b, rfl, L0, hZB⟩ := hcut
    have hW : w.heap.size + 1 ≤ ZB ∧ w.heap.size + 1 ≤ b := by have := HSZ.out; have := L0.out.lo; omega
    have HW := Lib.hid hW
    clear lB q0 q1 hZB hW
    go_wp2_with fail
    go_loopw [26, 6, 7] (fun z _ _ wr => ∃ k : Nat, k ≤ D ∧ z = .int .i64 k ∧ Hid (Loc W0 wr ZB b [.int .i64 P, .int .i64 D, .int .i64 D, .slice (some ⟨b, 0, none⟩) (D * D) (D * D)] (adTo P D l xs k))) (fun z _ _ _ => D - (intOf z).toNat)
    case atStart => exact ⟨0, by omega, rfl, L0⟩
    case round =>
      clear L0
      obtain ⟨k, hk, rfl, L⟩ := hrel
      by_cases hlt : k < D
      · obtain ⟨hxb, x1⟩ := reads_at (HX.out.ext (E0.out.trans L.out.ext)) hlt
        obtain ⟨y0, y1⟩ := HRX.out k (by rw [HX.out.1]; exact hlt)
        have hpl := ad_lt hlt
        rw [← HN.out] at hpl
        have HPL := Lib.hid hpl
        have hfd := run_fieldM
        have hD0 : 0 < D * D := Nat.mul_pos (by omega) (by omega)
        have HTa := Lib.hid (reads_at HT.out (show k * (D * D) < n by omega)).1
        have MB := HC.out.ext (E0.out.trans L.out.ext)
        have lB := MB.1
        have q0 := MB.2 0 _ rfl
        have lZ := L.out.box.1
        have p3 := L.out.box.2 3 _ rfl
        have nZ : ZB ≠ b := L.out.ne
        have nB : B ≠ b := by have := HC.out.1; have := HW.out; omega
        have hTb : Hid (a0 ≠ b) := by have := HTa.out; have := HW.out; show a0 ≠ b; omega
        have HS := Lib.hid (adTo_succ (P := P) (D := D) (l := l) (xs := xs) k)
        have HRA := Lib.hid (adTo_res (P := P) (D := D) (l := l) (xs := xs) (show 0 < P by omega) k)
        clear MB hpl hD0
        go_wp2_with fail
        go_region_held3 (fun w' => wr.grownBy w' (some b) ∧ ∀ B o, B ≠ b → B < wr.heap.size → w'.cell? ⟨B, o, none⟩ = wr.cell? ⟨B, o, none⟩) (first | exact keptB_refl _ _ | exact keptB_drew | (with_reducible exact keptB_call ‹wr.grownBy _ (some b) ∧ _› ‹Ext _ _›) | (with_reducible exact keptB_grown ‹wr.grownBy _ (some b) ∧ _› ‹World.grownBy _ _ (some b)›)) (first
          | (go_at_call 208; refine (adjointTo_impl P D B a0 oa n d k _ (HC.out.ext (E0.out.trans (L.out.step (Ext.refl _).drew).ext)) hD HN.out hd HD2.out hlt).mono ?_; rintro e w3 ⟨rfl, h3⟩)
          | (go_at_call 187; refine (addToRow_impl b 0 (D * D) _ (gi xs k) a0 (oa + k * (D * D)) _ l (k * (D * D)) P (adTo P D l xs k) w3 ((L.out.step (Ext.refl _).drew).step h3).has (by omega) (by rw [adTo_length]; omega) (fun wz l' hg hz ho hll j hj => by
                rw [Nat.add_assoc]
                exact (reads_at (grown_reads (HT.out.ext (E0.out.trans ((L.out.step (Ext.refl _).drew).step h3).ext)) hg hTb.out) (by have := HPL.out; omega)).2) hp hp2 y0 y1 (fun j hj => HRA.out _ (by rw [adTo_length]; omega)) (fun j hj => HRL.out _ (by rw [HT.out.1]; have := HPL.out; omega))).mono ?_; rintro e w4 ⟨rfl, hh4, hg4⟩))
        rw [HS.out] at hh4
        have N : Hid (Loc W0 w4 ZB b [.int .i64 P, .int .i64 D, .int .i64 D, .slice (some ⟨b, 0, none⟩) (D * D) (D * D)] (adTo P D l xs (k + 1))) := (((L.out.step (Ext.refl _).drew).step h3).row hh4 hg4)
        clear L h3 hh4 hg4 lB q0 lZ p3 x1 hxb
        go_wp2
        exact ⟨⟨k + 1, by omega, by simp, N⟩, by simp [intOf]; omega⟩
      · obtain rfl : k = D := by omega
        have M4 := M0.out.ext L.out.ext
        have f0 := M4.2 0 _ rfl
        have f1 := M4.2 1 _ rfl
        have f2 := M4.2 2 _ rfl
        have f3 := M4.2 3 _ rfl
        have t0 := M4.3
        have p0 := L.out.box.2 0 _ rfl
        have p1 := L.out.box.2 1 _ rfl
        have p2 := L.out.box.2 2 _ rfl
        have p3 := L.out.box.2 3 _ rfl
        have hle := L.out.ext.le
        have hsz := HSZ.out
        go_wp2
        refine bodyPost_ret (v := .agg #[.int .i64 P, .int .i64 k, .int .i64 k, .slice (some ⟨b, 0, none⟩) (k * k) (k * k)]) (by simp [results, Try.results145, go_sem, f0, f1, f2, f3]) rfl ⟨b, rfl, by have := HW.out; omega, ?_, ?_, ?_⟩
        · have := L.out.lt; simpa using this
        · have := HW.out
          repeat with_reducible (first | exact L.out.has | refine Has.setOther ?_ (by simp <;> omega) _)
        · exact ext4 (E0.out.trans L.out.ext) (Nat.le_refl _) _ _ _ _
end Go.Proofs.Ytapaopapgnfdkaa
