/-
  Modules: IsModule of both texts.
-/
import Derived.Test.YtnikfalpjieibaaMd4
import Derived.Test.YtnikfalpjieibaaMs1
import Derived.Test.YtnikfalpjieibaaAlgOk2
namespace Go.Proofs.Ytnikfalpjieibaa
open Go.ChangeShapes Go.WideShapes Go.ChangeAt Go.RowKit
open List (getElem_toArray getElem_cons_succ getElem_cons_zero setIfInBounds_toArray set_cons_succ set_cons_zero)
set_option linter.unusedVariables false
set_option linter.unusedSimpArgs false

set_option maxRecDepth 100000 in
set_option maxHeartbeats 12800000 in
theorem isModule_spec {P D : Int} {a0 oa n g k : Nat} {l : List Int} {ms : List Mat} {w : World} {q : Bool} (hT : Reads w (some ⟨a0, oa, none⟩) n l) (hn : n ≤ 1048576) (hm : MatsI w g k ms) (hk : k ≤ 1048576) (hM : modB P D l ms = q) :
    Calls Try.prog 14 #[.agg #[.int .i64 P, .int .i64 D, .slice (some ⟨a0, oa, none⟩) n n], .slice (some ⟨g, 0, none⟩) k k] w fun e w' => e = .returned (.bool q) ∧ Ext w w' := by
  have HT := Lib.hid hT
  have HM := Lib.hid hm
  have HML := Lib.hid hm.1
  have HLN := Lib.hid hT.1
  have A0 := Lib.hid (cells_new w #[.int .i64 P, .int .i64 D, .slice (some ⟨a0, oa, none⟩) n n] 29)
  have E0 := Lib.hid ((Ext.refl w).alloc (.cells #[.int .i64 P, .int .i64 D, .slice (some ⟨a0, oa, none⟩) n n] 29))
  have lA := A0.out.1
  have q0 := A0.out.2 0 _ rfl
  have q1 := A0.out.2 1 _ rfl
  have q2 := A0.out.2 2 _ rfl
  clear hm
  rcases h0 : algB P D l with _ | _
  · have HF := Lib.hid (hM.symm.trans (mod_noalg (ms := ms) h0))
    have H0 := Lib.hid h0
    clear h0 hM hT
    go_enter Try.func14, Try.ntmps14
    go_wp2_with fail
    refine (algebraOk_spec (HT.out.ext E0.out) hn H0.out).mono ?_
    rintro e w1 ⟨rfl, h1⟩
    go_wp2
    go_ret
    exact ⟨ret_bool HF.out.symm, E0.out.trans h1⟩
  obtain ⟨D, rfl, hA⟩ := algB_parts h0 hT.1
  have HA := Lib.hid hA
  have H0 := Lib.hid h0
  have hD := hA.dim
  have hp := isP_lo hA.pr
  have hp2 := isP_hi hA.pr
  clear hA h0 hT
  by_cases hz : D = 0
  · have HF := Lib.hid (hM.symm.trans (mod_nodim (P := P) (l := l) (ms := ms) (show (D : Int) = 0 by omega)))
    have hz1 : ((D : Int) == 0) = true := by simp [hz]
    clear hz hM
    go_enter Try.func14, Try.ntmps14
    go_wp2_with fail
    refine (algebraOk_spec (HT.out.ext E0.out) hn H0.out).mono ?_
    rintro e w1 ⟨rfl, h1⟩
    have A1 := Lib.hid (A0.out.ext h1)
    have E1 := Lib.hid (E0.out.trans h1)
    clear lA q0 q1 q2 h1
    have lA := A1.out.1
    have q0 := A1.out.2 0 _ rfl
    have q1 := A1.out.2 1 _ rfl
    have q2 := A1.out.2 2 _ rfl
    go_wp2
    go_ret
    exact ⟨ret_bool HF.out.symm, E1.out⟩
  have hz1 : ((D : Int) == 0) = false := by simp [hz]
  by_cases hkd : k = D
  case neg =>
    have HF := Lib.hid (hM.symm.trans (mod_nocnt (P := P) (l := l) (ms := ms) (D := (D : Int)) (by rw [HML.out]; omega)))
    have hk1 : ((k : Int) != (D : Int)) = true := by simp; omega
    clear hz hM hkd
    go_enter Try.func14, Try.ntmps14
    go_wp2_with fail
    refine (algebraOk_spec (HT.out.ext E0.out) hn H0.out).mono ?_
    rintro e w1 ⟨rfl, h1⟩
    have A1 := Lib.hid (A0.out.ext h1)
    have E1 := Lib.hid (E0.out.trans h1)
    clear lA q0 q1 q2 h1
    have lA := A1.out.1
    have q0 := A1.out.2 0 _ rfl
    have q1 := A1.out.2 1 _ rfl
    have q2 := A1.out.2 2 _ rfl
    go_wp2
    go_ret
    exact ⟨ret_bool HF.out.symm, E1.out⟩
  subst hkd
  have hk0 : 0 < k := by omega
  have hk0I : (0 : Int) < (k : Int) := by omega
  have hk1 : ((k : Int) != (k : Int)) = false := by simp
  have HNM : Hid (∀ i, i < k → ¬ SpI P ms i → q = false) := fun i hi h => hM.symm.trans (mod_nomat hi h)
  have HNL : Hid (∀ S : Nat, mt ms 0 = ⟨P, S, S, (mt ms 0).d⟩ → ∀ i j, j < i → i < k → ¬ LawI P k S l ms i j → q = false) := fun S h i j hj hi hl => hM.symm.trans (mod_nolaw hk0 h hj hi hl)
  have HYS : Hid (∀ S : Nat, S ≤ 30 → (∀ i, i < k → mok P S S (mt ms i).d = true ∧ mt ms i = ⟨P, S, S, (mt ms i).d⟩) → (∀ i j, j < i → i < k → LawI P k S l ms i j) → q = true) := fun S hS h2 h3 => hM.symm.trans (mod_yes HLN.out H0.out hk0 HML.out hS h2 h3).1
  clear hz hM
  go_enter Try.func14, Try.ntmps14
  go_wp2_with fail
  refine (algebraOk_spec (HT.out.ext E0.out) hn H0.out).mono ?_
  rintro e w1 ⟨rfl, h1⟩
  have A1 := Lib.hid (A0.out.ext h1)
  have E1 := Lib.hid (E0.out.trans h1)
  clear lA q0 q1 q2 h1
  have lA := A1.out.1
  have q0 := A1.out.2 0 _ rfl
  have q1 := A1.out.2 1 _ rfl
  have q2 := A1.out.2 2 _ rfl
  go_wp2_with fail
  clear lA q0 q1 q2 hk1 hz1
  go_loopw [5] (fun z wr => ∃ i : Nat, i ≤ k ∧ z = .int .i64 i ∧ Hid (Cells wr w.heap.size [.int .i64 P, .int .i64 k, .slice (some ⟨a0, oa, none⟩) n n]) ∧ Hid (Ext w wr) ∧ Hid (∀ j, j < i → SpI P ms j)) (fun z _ => k - (intOf z).toNat)
  case atStart => exact ⟨0, by omega, rfl, A1, E1, fun j hj => by omega⟩
  case round =>
    clear A1 E1
    obtain ⟨i, hi, rfl, A1, hE, hS⟩ := hrel
    by_cases hlt : i < k
    · have lA := A1.out.1
      have q0 := A1.out.2 0 _ rfl
      have HW := HM.out.ext hE.out
      have hgl := HW.lt
      obtain ⟨b, hc0, hc1, hc2, hc3, hrd⟩ := HW.get i hlt
      obtain ⟨b9, _, hd1, _⟩ := HW.get 0 hk0
      have hsh := HW.short hlt
      have HC := Lib.hid (fun w1 (h : Ext wr w1) => matrixOk_spec (mt ms i).p (mt ms i).r (mt ms i).c (some ⟨b, 0, none⟩) _ (mt ms i).d.length (mt ms i).d w1 (hrd.ext h) (by unfold maxLen; omega))
      have HSq : Hid (SpI P ms i = (mok (mt ms i).p (mt ms i).r (mt ms i).c (mt ms i).d = true ∧ (mt ms i).p = P ∧ (mt ms i).r = (mt ms i).c ∧ (mt ms i).r = (mt ms 0).r ∧ (mt ms i).r ≤ 30)) := rfl
      have HN := Lib.hid (HNM.out i hlt)
      have HNX : Hid (SpI P ms i → ∀ j, j < i + 1 → SpI P ms j) := fun h j hj => by
        by_cases e : j = i
        · subst e; exact h
        · exact hS.out j (by omega)
      clear HW hrd hsh hS
      obtain ⟨sq, hsq⟩ : ∃ sq, SpI P ms i = sq := ⟨_, rfl⟩
      rw [hsq] at HSq HN HNX
      clear hsq
      generalize mok (mt ms i).p (mt ms i).r (mt ms i).c (mt ms i).d = mq at HSq HC
      generalize hDL : (mt ms i).d.length = dl at *
      clear hDL
      generalize (mt ms i).p = pi at *
      generalize (mt ms i).r = ri at *
      generalize (mt ms i).c = ci at *
      generalize (mt ms 0).r = r0 at *
      rcases mq with _ | _
      · skip
        skip
        go_wp2_with fail
        refine wp_region_held_drew (S := (fun w' => Ext wr w' ∧ (∀ b o, b < wr.heap.size → w'.cell? ⟨b, o, none⟩ = wr.cell? ⟨b, o, none⟩))) (by kernel_rfl) (ext2 (Ext.refl wr).drew) (fun hHeld => ?_)
        refine wpAnyH_take (i := 0) (v := ?v9) rfl (by kernel_rfl) (by kernel_rfl) (by kernel_rfl) (fun _ _ _ h => h) (Or.inl ⟨by rfl, ?hy9⟩) hHeld ?rest9
        case hy9 => (intro wz hSw; (try dsimp only at hSw); go_simp; (try with_reducible rfl))
        (try simp only [Act.put, getElem_toArray, getElem_cons_succ, getElem_cons_zero]); (try simp only [setIfInBounds_toArray, set_cons_succ, set_cons_zero])
        refine wpAnyH_take (i := 1) (v := ?v10) rfl (by kernel_rfl) (by kernel_rfl) (by kernel_rfl) (fun _ _ _ h => h) (Or.inl ⟨by rfl, ?hy10⟩) hHeld ?rest10
        case hy10 => (intro wz hSw; (try dsimp only at hSw); go_simp; (try with_reducible rfl))
        (try simp only [Act.put, getElem_toArray, getElem_cons_succ, getElem_cons_zero]); (try simp only [setIfInBounds_toArray, set_cons_succ, set_cons_zero])
        refine wpAnyH_take (i := 2) (v := ?v11) rfl (by kernel_rfl) (by kernel_rfl) (by kernel_rfl) (fun _ _ _ h => h) (Or.inl ⟨by rfl, ?hy11⟩) hHeld ?rest11
        case hy11 => (intro wz hSw; (try dsimp only at hSw); go_simp; (try with_reducible rfl))
        (try simp only [Act.put, getElem_toArray, getElem_cons_succ, getElem_cons_zero]); (try simp only [setIfInBounds_toArray, set_cons_succ, set_cons_zero])
        refine wpAnyH_take (i := 3) (v := ?v12) rfl (by kernel_rfl) (by kernel_rfl) (by kernel_rfl) (fun _ _ _ h => h) (Or.inl ⟨by rfl, ?hy12⟩) hHeld ?rest12
        case hy12 => (intro wz hSw; (try dsimp only at hSw); go_simp; (try with_reducible rfl))
        (try simp only [Act.put, getElem_toArray, getElem_cons_succ, getElem_cons_zero]); (try simp only [setIfInBounds_toArray, set_cons_succ, set_cons_zero])
        refine wpAnyH_ready (rs := [4]) (by kernel_rfl) (by simp) ?_
        refine AllReadyH.cons rfl (fun K' hK => ?_) AllReadyH.nil
        go_simp
        refine (HC.out _ (And.left hHeld)).mono ?_
        rintro e w2 ⟨rfl, h2⟩
        have X2 := (And.left hHeld).trans h2
        dsimp only
        refine hK.out _ _ (ext2 X2) (fun hHeld => ?_)
        clear hK
        refine wpAnyH_take (i := 5) (v := ?v13) rfl (by kernel_rfl) (by kernel_rfl) (by kernel_rfl) (fun _ _ _ h => h) (Or.inl ⟨by rfl, ?hy13⟩) hHeld ?rest13
        case hy13 => (intro wz hSw; (try dsimp only at hSw); go_simp; (try with_reducible rfl))
        (try simp only [Act.put, getElem_toArray, getElem_cons_succ, getElem_cons_zero]); (try simp only [setIfInBounds_toArray, set_cons_succ, set_cons_zero])
        refine wpAnyH_take (i := 6) (v := ?v14) rfl (by kernel_rfl) (by kernel_rfl) (by kernel_rfl) (fun _ _ _ h => h) (Or.inl ⟨by rfl, ?hy14⟩) hHeld ?rest14
        case hy14 => (intro wz hSw; (try dsimp only at hSw); go_simp; (try with_reducible rfl))
        (try simp only [Act.put, getElem_toArray, getElem_cons_succ, getElem_cons_zero]); (try simp only [setIfInBounds_toArray, set_cons_succ, set_cons_zero])
        refine wpAnyH_take (i := 7) (v := undef) rfl (by kernel_rfl) (by kernel_rfl) (by kernel_rfl) (fun _ _ _ h => h) (Or.inr ⟨by rfl, rfl⟩) hHeld ?rest15
        (try simp only [Act.put, getElem_toArray, getElem_cons_succ, getElem_cons_zero]); (try simp only [setIfInBounds_toArray, set_cons_succ, set_cons_zero])
        refine wpAnyH_take (i := 8) (v := undef) rfl (by kernel_rfl) (by kernel_rfl) (by kernel_rfl) (fun _ _ _ h => h) (Or.inr ⟨by rfl, rfl⟩) hHeld ?rest16
        (try simp only [Act.put, getElem_toArray, getElem_cons_succ, getElem_cons_zero]); (try simp only [setIfInBounds_toArray, set_cons_succ, set_cons_zero])
        refine wpAnyH_take (i := 9) (v := undef) rfl (by kernel_rfl) (by kernel_rfl) (by kernel_rfl) (fun _ _ _ h => h) (Or.inr ⟨by rfl, rfl⟩) hHeld ?rest17
        (try simp only [Act.put, getElem_toArray, getElem_cons_succ, getElem_cons_zero]); (try simp only [setIfInBounds_toArray, set_cons_succ, set_cons_zero])
        refine wpAnyH_take (i := 10) (v := undef) rfl (by kernel_rfl) (by kernel_rfl) (by kernel_rfl) (fun _ _ _ h => h) (Or.inr ⟨by rfl, rfl⟩) hHeld ?rest18
        (try simp only [Act.put, getElem_toArray, getElem_cons_succ, getElem_cons_zero]); (try simp only [setIfInBounds_toArray, set_cons_succ, set_cons_zero])
        refine wpAnyH_take (i := 11) (v := undef) rfl (by kernel_rfl) (by kernel_rfl) (by kernel_rfl) (fun _ _ _ h => h) (Or.inr ⟨by rfl, rfl⟩) hHeld ?rest19
        (try simp only [Act.put, getElem_toArray, getElem_cons_succ, getElem_cons_zero]); (try simp only [setIfInBounds_toArray, set_cons_succ, set_cons_zero])
        refine wpAnyH_take (i := 12) (v := undef) rfl (by kernel_rfl) (by kernel_rfl) (by kernel_rfl) (fun _ _ _ h => h) (Or.inr ⟨by rfl, rfl⟩) hHeld ?rest20
        (try simp only [Act.put, getElem_toArray, getElem_cons_succ, getElem_cons_zero]); (try simp only [setIfInBounds_toArray, set_cons_succ, set_cons_zero])
        refine wpAnyH_take (i := 13) (v := undef) rfl (by kernel_rfl) (by kernel_rfl) (by kernel_rfl) (fun _ _ _ h => h) (Or.inr ⟨by rfl, rfl⟩) hHeld ?rest21
        (try simp only [Act.put, getElem_toArray, getElem_cons_succ, getElem_cons_zero]); (try simp only [setIfInBounds_toArray, set_cons_succ, set_cons_zero])
        refine wpAnyH_take (i := 14) (v := undef) rfl (by kernel_rfl) (by kernel_rfl) (by kernel_rfl) (fun _ _ _ h => h) (Or.inr ⟨by rfl, rfl⟩) hHeld ?rest22
        (try simp only [Act.put, getElem_toArray, getElem_cons_succ, getElem_cons_zero]); (try simp only [setIfInBounds_toArray, set_cons_succ, set_cons_zero])
        refine wpAnyH_take (i := 15) (v := ?v23) rfl (by kernel_rfl) (by kernel_rfl) (by kernel_rfl) (fun _ _ _ h => h) (Or.inl ⟨by rfl, ?hy23⟩) hHeld ?rest23
        case hy23 => (intro wz hSw; (try dsimp only at hSw); go_simp; (try with_reducible rfl))
        (try simp only [Act.put, getElem_toArray, getElem_cons_succ, getElem_cons_zero]); (try simp only [setIfInBounds_toArray, set_cons_succ, set_cons_zero])
        refine wpAnyH_take (i := 16) (v := ?v24) rfl (by kernel_rfl) (by kernel_rfl) (by kernel_rfl) (fun _ _ _ h => h) (Or.inl ⟨by rfl, ?hy24⟩) hHeld ?rest24
        case hy24 => (intro wz hSw; (try dsimp only at hSw); go_simp; (try with_reducible rfl))
        (try simp only [Act.put, getElem_toArray, getElem_cons_succ, getElem_cons_zero]); (try simp only [setIfInBounds_toArray, set_cons_succ, set_cons_zero])
        refine wpAnyH_take (i := 17) (v := undef) rfl (by kernel_rfl) (by kernel_rfl) (by kernel_rfl) (fun _ _ _ h => h) (Or.inr ⟨by rfl, rfl⟩) hHeld ?rest25
        (try simp only [Act.put, getElem_toArray, getElem_cons_succ, getElem_cons_zero]); (try simp only [setIfInBounds_toArray, set_cons_succ, set_cons_zero])
        refine wpAnyH_take (i := 18) (v := undef) rfl (by kernel_rfl) (by kernel_rfl) (by kernel_rfl) (fun _ _ _ h => h) (Or.inr ⟨by rfl, rfl⟩) hHeld ?rest26
        (try simp only [Act.put, getElem_toArray, getElem_cons_succ, getElem_cons_zero]); (try simp only [setIfInBounds_toArray, set_cons_succ, set_cons_zero])
        refine wpAnyH_take (i := 19) (v := undef) rfl (by kernel_rfl) (by kernel_rfl) (by kernel_rfl) (fun _ _ _ h => h) (Or.inr ⟨by rfl, rfl⟩) hHeld ?rest27
        (try simp only [Act.put, getElem_toArray, getElem_cons_succ, getElem_cons_zero]); (try simp only [setIfInBounds_toArray, set_cons_succ, set_cons_zero])
        refine wpAnyH_take (i := 20) (v := undef) rfl (by kernel_rfl) (by kernel_rfl) (by kernel_rfl) (fun _ _ _ h => h) (Or.inr ⟨by rfl, rfl⟩) hHeld ?rest28
        (try simp only [Act.put, getElem_toArray, getElem_cons_succ, getElem_cons_zero]); (try simp only [setIfInBounds_toArray, set_cons_succ, set_cons_zero])
        refine wpAnyH_take (i := 21) (v := undef) rfl (by kernel_rfl) (by kernel_rfl) (by kernel_rfl) (fun _ _ _ h => h) (Or.inr ⟨by rfl, rfl⟩) hHeld ?rest29
        (try simp only [Act.put, getElem_toArray, getElem_cons_succ, getElem_cons_zero]); (try simp only [setIfInBounds_toArray, set_cons_succ, set_cons_zero])
        refine wpAnyH_take (i := 22) (v := undef) rfl (by kernel_rfl) (by kernel_rfl) (by kernel_rfl) (fun _ _ _ h => h) (Or.inr ⟨by rfl, rfl⟩) hHeld ?rest30
        (try simp only [Act.put, getElem_toArray, getElem_cons_succ, getElem_cons_zero]); (try simp only [setIfInBounds_toArray, set_cons_succ, set_cons_zero])
        refine wpAnyH_take (i := 23) (v := undef) rfl (by kernel_rfl) (by kernel_rfl) (by kernel_rfl) (fun _ _ _ h => h) (Or.inr ⟨by rfl, rfl⟩) hHeld ?rest31
        (try simp only [Act.put, getElem_toArray, getElem_cons_succ, getElem_cons_zero]); (try simp only [setIfInBounds_toArray, set_cons_succ, set_cons_zero])
        refine wpAnyH_take (i := 24) (v := undef) rfl (by kernel_rfl) (by kernel_rfl) (by kernel_rfl) (fun _ _ _ h => h) (Or.inr ⟨by rfl, rfl⟩) hHeld ?rest32
        (try simp only [Act.put, getElem_toArray, getElem_cons_succ, getElem_cons_zero]); (try simp only [setIfInBounds_toArray, set_cons_succ, set_cons_zero])
        refine wpAnyH_take (i := 25) (v := undef) rfl (by kernel_rfl) (by kernel_rfl) (by kernel_rfl) (fun _ _ _ h => h) (Or.inr ⟨by rfl, rfl⟩) hHeld ?rest33
        (try simp only [Act.put, getElem_toArray, getElem_cons_succ, getElem_cons_zero]); (try simp only [setIfInBounds_toArray, set_cons_succ, set_cons_zero])
        refine wpAnyH_take (i := 26) (v := undef) rfl (by kernel_rfl) (by kernel_rfl) (by kernel_rfl) (fun _ _ _ h => h) (Or.inr ⟨by rfl, rfl⟩) hHeld ?rest34
        (try simp only [Act.put, getElem_toArray, getElem_cons_succ, getElem_cons_zero]); (try simp only [setIfInBounds_toArray, set_cons_succ, set_cons_zero])
        refine wpAnyH_take (i := 27) (v := undef) rfl (by kernel_rfl) (by kernel_rfl) (by kernel_rfl) (fun _ _ _ h => h) (Or.inr ⟨by rfl, rfl⟩) hHeld ?rest35
        (try simp only [Act.put, getElem_toArray, getElem_cons_succ, getElem_cons_zero]); (try simp only [setIfInBounds_toArray, set_cons_succ, set_cons_zero])
        refine wpAnyH_take (i := 28) (v := ?v36) rfl (by kernel_rfl) (by kernel_rfl) (by kernel_rfl) (fun _ _ _ h => h) (Or.inl ⟨by rfl, ?hy36⟩) hHeld ?rest36
        case hy36 => (intro wz hSw; (try dsimp only at hSw); go_simp; (try with_reducible rfl))
        (try simp only [Act.put, getElem_toArray, getElem_cons_succ, getElem_cons_zero]); (try simp only [setIfInBounds_toArray, set_cons_succ, set_cons_zero])
        refine wpAnyH_take (i := 29) (v := ?v37) rfl (by kernel_rfl) (by kernel_rfl) (by kernel_rfl) (fun _ _ _ h => h) (Or.inl ⟨by rfl, ?hy37⟩) hHeld ?rest37
        case hy37 => (intro wz hSw; (try dsimp only at hSw); go_simp; (try with_reducible rfl))
        (try simp only [Act.put, getElem_toArray, getElem_cons_succ, getElem_cons_zero]); (try simp only [setIfInBounds_toArray, set_cons_succ, set_cons_zero])
        refine wpAnyH_take (i := 30) (v := undef) rfl (by kernel_rfl) (by kernel_rfl) (by kernel_rfl) (fun _ _ _ h => h) (Or.inr ⟨by rfl, rfl⟩) hHeld ?rest38
        (try simp only [Act.put, getElem_toArray, getElem_cons_succ, getElem_cons_zero]); (try simp only [setIfInBounds_toArray, set_cons_succ, set_cons_zero])
        refine wpAnyH_take (i := 31) (v := undef) rfl (by kernel_rfl) (by kernel_rfl) (by kernel_rfl) (fun _ _ _ h => h) (Or.inr ⟨by rfl, rfl⟩) hHeld ?rest39
        (try simp only [Act.put, getElem_toArray, getElem_cons_succ, getElem_cons_zero]); (try simp only [setIfInBounds_toArray, set_cons_succ, set_cons_zero])
        refine wpAnyH_take (i := 32) (v := undef) rfl (by kernel_rfl) (by kernel_rfl) (by kernel_rfl) (fun _ _ _ h => h) (Or.inr ⟨by rfl, rfl⟩) hHeld ?rest40
        (try simp only [Act.put, getElem_toArray, getElem_cons_succ, getElem_cons_zero]); (try simp only [setIfInBounds_toArray, set_cons_succ, set_cons_zero])
        refine wpAnyH_take (i := 33) (v := undef) rfl (by kernel_rfl) (by kernel_rfl) (by kernel_rfl) (fun _ _ _ h => h) (Or.inr ⟨by rfl, rfl⟩) hHeld ?rest41
        (try simp only [Act.put, getElem_toArray, getElem_cons_succ, getElem_cons_zero]); (try simp only [setIfInBounds_toArray, set_cons_succ, set_cons_zero])
        refine wpAnyH_take (i := 34) (v := undef) rfl (by kernel_rfl) (by kernel_rfl) (by kernel_rfl) (fun _ _ _ h => h) (Or.inr ⟨by rfl, rfl⟩) hHeld ?rest42
        (try simp only [Act.put, getElem_toArray, getElem_cons_succ, getElem_cons_zero]); (try simp only [setIfInBounds_toArray, set_cons_succ, set_cons_zero])
        refine wpAnyH_take (i := 35) (v := undef) rfl (by kernel_rfl) (by kernel_rfl) (by kernel_rfl) (fun _ _ _ h => h) (Or.inr ⟨by rfl, rfl⟩) hHeld ?rest43
        (try simp only [Act.put, getElem_toArray, getElem_cons_succ, getElem_cons_zero]); (try simp only [setIfInBounds_toArray, set_cons_succ, set_cons_zero])
        refine wpAnyH_take (i := 36) (v := undef) rfl (by kernel_rfl) (by kernel_rfl) (by kernel_rfl) (fun _ _ _ h => h) (Or.inr ⟨by rfl, rfl⟩) hHeld ?rest44
        (try simp only [Act.put, getElem_toArray, getElem_cons_succ, getElem_cons_zero]); (try simp only [setIfInBounds_toArray, set_cons_succ, set_cons_zero])
        refine wpAnyH_take (i := 37) (v := undef) rfl (by kernel_rfl) (by kernel_rfl) (by kernel_rfl) (fun _ _ _ h => h) (Or.inr ⟨by rfl, rfl⟩) hHeld ?rest45
        (try simp only [Act.put, getElem_toArray, getElem_cons_succ, getElem_cons_zero]); (try simp only [setIfInBounds_toArray, set_cons_succ, set_cons_zero])
        refine wpAnyH_take (i := 38) (v := undef) rfl (by kernel_rfl) (by kernel_rfl) (by kernel_rfl) (fun _ _ _ h => h) (Or.inr ⟨by rfl, rfl⟩) hHeld ?rest46
        (try simp only [Act.put, getElem_toArray, getElem_cons_succ, getElem_cons_zero]); (try simp only [setIfInBounds_toArray, set_cons_succ, set_cons_zero])
        refine wpAnyH_take (i := 39) (v := undef) rfl (by kernel_rfl) (by kernel_rfl) (by kernel_rfl) (fun _ _ _ h => h) (Or.inr ⟨by rfl, rfl⟩) hHeld ?rest47
        (try simp only [Act.put, getElem_toArray, getElem_cons_succ, getElem_cons_zero]); (try simp only [setIfInBounds_toArray, set_cons_succ, set_cons_zero])
        refine wpAnyH_take (i := 40) (v := ?v48) rfl (by kernel_rfl) (by kernel_rfl) (by kernel_rfl) (fun _ _ _ h => h) (Or.inl ⟨by rfl, ?hy48⟩) hHeld ?rest48
        case hy48 => (intro wz hSw; (try dsimp only at hSw); go_simp; (try with_reducible rfl))
        (try simp only [Act.put, getElem_toArray, getElem_cons_succ, getElem_cons_zero]); (try simp only [setIfInBounds_toArray, set_cons_succ, set_cons_zero])
        refine wpAnyH_take (i := 41) (v := ?v49) rfl (by kernel_rfl) (by kernel_rfl) (by kernel_rfl) (fun _ _ _ h => h) (Or.inl ⟨by rfl, ?hy49⟩) hHeld ?rest49
        case hy49 => (intro wz hSw; (try dsimp only at hSw); go_simp; (try with_reducible rfl))
        (try simp only [Act.put, getElem_toArray, getElem_cons_succ, getElem_cons_zero]); (try simp only [setIfInBounds_toArray, set_cons_succ, set_cons_zero])
        refine wpAnyH_take (i := 42) (v := undef) rfl (by kernel_rfl) (by kernel_rfl) (by kernel_rfl) (fun _ _ _ h => h) (Or.inr ⟨by rfl, rfl⟩) hHeld ?rest50
        (try simp only [Act.put, getElem_toArray, getElem_cons_succ, getElem_cons_zero]); (try simp only [setIfInBounds_toArray, set_cons_succ, set_cons_zero])
        refine wpAnyH_take (i := 43) (v := undef) rfl (by kernel_rfl) (by kernel_rfl) (by kernel_rfl) (fun _ _ _ h => h) (Or.inr ⟨by rfl, rfl⟩) hHeld ?rest51
        (try simp only [Act.put, getElem_toArray, getElem_cons_succ, getElem_cons_zero]); (try simp only [setIfInBounds_toArray, set_cons_succ, set_cons_zero])
        refine wpAnyH_take (i := 44) (v := undef) rfl (by kernel_rfl) (by kernel_rfl) (by kernel_rfl) (fun _ _ _ h => h) (Or.inr ⟨by rfl, rfl⟩) hHeld ?rest52
        (try simp only [Act.put, getElem_toArray, getElem_cons_succ, getElem_cons_zero]); (try simp only [setIfInBounds_toArray, set_cons_succ, set_cons_zero])
        refine wpAnyH_take (i := 45) (v := undef) rfl (by kernel_rfl) (by kernel_rfl) (by kernel_rfl) (fun _ _ _ h => h) (Or.inr ⟨by rfl, rfl⟩) hHeld ?rest53
        (try simp only [Act.put, getElem_toArray, getElem_cons_succ, getElem_cons_zero]); (try simp only [setIfInBounds_toArray, set_cons_succ, set_cons_zero])
        refine wpAnyH_take (i := 46) (v := undef) rfl (by kernel_rfl) (by kernel_rfl) (by kernel_rfl) (fun _ _ _ h => h) (Or.inr ⟨by rfl, rfl⟩) hHeld ?rest54
        (try simp only [Act.put, getElem_toArray, getElem_cons_succ, getElem_cons_zero]); (try simp only [setIfInBounds_toArray, set_cons_succ, set_cons_zero])
        refine wpAnyH_take (i := 47) (v := undef) rfl (by kernel_rfl) (by kernel_rfl) (by kernel_rfl) (fun _ _ _ h => h) (Or.inr ⟨by rfl, rfl⟩) hHeld ?rest55
        (try simp only [Act.put, getElem_toArray, getElem_cons_succ, getElem_cons_zero]); (try simp only [setIfInBounds_toArray, set_cons_succ, set_cons_zero])
        refine wpAnyH_take (i := 48) (v := ?v56) rfl (by kernel_rfl) (by kernel_rfl) (by kernel_rfl) (fun _ _ _ h => h) (Or.inl ⟨by rfl, ?hy56⟩) hHeld ?rest56
        case hy56 => (intro wz hSw; (try dsimp only at hSw); go_simp; (try with_reducible rfl))
        (try simp only [Act.put, getElem_toArray, getElem_cons_succ, getElem_cons_zero]); (try simp only [setIfInBounds_toArray, set_cons_succ, set_cons_zero])
        refine wpAnyH_done (by kernel_rfl) ?_ _
        have X9 := Lib.hid (And.left hHeld)
        clear hHeld hc0 hc1 hc2 hc3 hd1
        go_wp2
        go_ret
        exact ⟨ret_bool (HN.out (by rw [HSq.out]; exact fun h => absurd h.1 (by simp))).symm, hE.out.trans X9.out⟩
      by_cases hpp : pi = P
      case neg =>
        have hpn : (pi != P) = true := by simpa using hpp
        have HQ := Lib.hid hpp
        clear hpp
        go_wp2_with fail
        refine wp_region_held_drew (S := (fun w' => Ext wr w' ∧ (∀ b o, b < wr.heap.size → w'.cell? ⟨b, o, none⟩ = wr.cell? ⟨b, o, none⟩))) (by kernel_rfl) (ext2 (Ext.refl wr).drew) (fun hHeld => ?_)
        refine wpAnyH_take (i := 0) (v := ?v57) rfl (by kernel_rfl) (by kernel_rfl) (by kernel_rfl) (fun _ _ _ h => h) (Or.inl ⟨by rfl, ?hy57⟩) hHeld ?rest57
        case hy57 => (intro wz hSw; (try dsimp only at hSw); go_simp; (try with_reducible rfl))
        (try simp only [Act.put, getElem_toArray, getElem_cons_succ, getElem_cons_zero]); (try simp only [setIfInBounds_toArray, set_cons_succ, set_cons_zero])
        refine wpAnyH_take (i := 1) (v := ?v58) rfl (by kernel_rfl) (by kernel_rfl) (by kernel_rfl) (fun _ _ _ h => h) (Or.inl ⟨by rfl, ?hy58⟩) hHeld ?rest58
        case hy58 => (intro wz hSw; (try dsimp only at hSw); go_simp; (try with_reducible rfl))
        (try simp only [Act.put, getElem_toArray, getElem_cons_succ, getElem_cons_zero]); (try simp only [setIfInBounds_toArray, set_cons_succ, set_cons_zero])
        refine wpAnyH_take (i := 2) (v := ?v59) rfl (by kernel_rfl) (by kernel_rfl) (by kernel_rfl) (fun _ _ _ h => h) (Or.inl ⟨by rfl, ?hy59⟩) hHeld ?rest59
        case hy59 => (intro wz hSw; (try dsimp only at hSw); go_simp; (try with_reducible rfl))
        (try simp only [Act.put, getElem_toArray, getElem_cons_succ, getElem_cons_zero]); (try simp only [setIfInBounds_toArray, set_cons_succ, set_cons_zero])
        refine wpAnyH_take (i := 3) (v := ?v60) rfl (by kernel_rfl) (by kernel_rfl) (by kernel_rfl) (fun _ _ _ h => h) (Or.inl ⟨by rfl, ?hy60⟩) hHeld ?rest60
        case hy60 => (intro wz hSw; (try dsimp only at hSw); go_simp; (try with_reducible rfl))
        (try simp only [Act.put, getElem_toArray, getElem_cons_succ, getElem_cons_zero]); (try simp only [setIfInBounds_toArray, set_cons_succ, set_cons_zero])
        refine wpAnyH_ready (rs := [4]) (by kernel_rfl) (by simp) ?_
        refine AllReadyH.cons rfl (fun K' hK => ?_) AllReadyH.nil
        go_simp
        refine (HC.out _ (And.left hHeld)).mono ?_
        rintro e w2 ⟨rfl, h2⟩
        have X2 := (And.left hHeld).trans h2
        dsimp only
        refine hK.out _ _ (ext2 X2) (fun hHeld => ?_)
        clear hK
        refine wpAnyH_take (i := 5) (v := ?v61) rfl (by kernel_rfl) (by kernel_rfl) (by kernel_rfl) (fun _ _ _ h => h) (Or.inl ⟨by rfl, ?hy61⟩) hHeld ?rest61
        case hy61 => (intro wz hSw; (try dsimp only at hSw); go_simp; (try with_reducible rfl))
        (try simp only [Act.put, getElem_toArray, getElem_cons_succ, getElem_cons_zero]); (try simp only [setIfInBounds_toArray, set_cons_succ, set_cons_zero])
        refine wpAnyH_take (i := 6) (v := ?v62) rfl (by kernel_rfl) (by kernel_rfl) (by kernel_rfl) (fun _ _ _ h => h) (Or.inl ⟨by rfl, ?hy62⟩) hHeld ?rest62
        case hy62 => (intro wz hSw; (try dsimp only at hSw); go_simp; (try with_reducible rfl))
        (try simp only [Act.put, getElem_toArray, getElem_cons_succ, getElem_cons_zero]); (try simp only [setIfInBounds_toArray, set_cons_succ, set_cons_zero])
        refine wpAnyH_take (i := 7) (v := ?v63) rfl (by kernel_rfl) (by kernel_rfl) (by kernel_rfl) (fun _ _ _ h => h) (Or.inl ⟨by rfl, ?hy63⟩) hHeld ?rest63
        case hy63 => (intro wz hSw; (try dsimp only at hSw); go_simp; (try with_reducible rfl))
        (try simp only [Act.put, getElem_toArray, getElem_cons_succ, getElem_cons_zero]); (try simp only [setIfInBounds_toArray, set_cons_succ, set_cons_zero])
        refine wpAnyH_take (i := 8) (v := ?v64) rfl (by kernel_rfl) (by kernel_rfl) (by kernel_rfl) (fun _ _ _ h => h) (Or.inl ⟨by rfl, ?hy64⟩) hHeld ?rest64
        case hy64 => (intro wz hSw; (try dsimp only at hSw); go_simp; (try with_reducible rfl))
        (try simp only [Act.put, getElem_toArray, getElem_cons_succ, getElem_cons_zero]); (try simp only [setIfInBounds_toArray, set_cons_succ, set_cons_zero])
        refine wpAnyH_take (i := 9) (v := ?v65) rfl (by kernel_rfl) (by kernel_rfl) (by kernel_rfl) (fun _ _ _ h => h) (Or.inl ⟨by rfl, ?hy65⟩) hHeld ?rest65
        case hy65 => (intro wz hSw; (try dsimp only at hSw); go_simp; (try with_reducible rfl))
        (try simp only [Act.put, getElem_toArray, getElem_cons_succ, getElem_cons_zero]); (try simp only [setIfInBounds_toArray, set_cons_succ, set_cons_zero])
        refine wpAnyH_take (i := 10) (v := ?v66) rfl (by kernel_rfl) (by kernel_rfl) (by kernel_rfl) (fun _ _ _ h => h) (Or.inl ⟨by rfl, ?hy66⟩) hHeld ?rest66
        case hy66 => (intro wz hSw; (try dsimp only at hSw); go_simp; (try with_reducible rfl))
        (try simp only [Act.put, getElem_toArray, getElem_cons_succ, getElem_cons_zero]); (try simp only [setIfInBounds_toArray, set_cons_succ, set_cons_zero])
        refine wpAnyH_take (i := 11) (v := ?v67) rfl (by kernel_rfl) (by kernel_rfl) (by kernel_rfl) (fun _ _ _ h => h) (Or.inl ⟨by rfl, ?hy67⟩) hHeld ?rest67
        case hy67 => (intro wz hSw; (try dsimp only at hSw); go_simp; (try with_reducible rfl))
        (try simp only [Act.put, getElem_toArray, getElem_cons_succ, getElem_cons_zero]); (try simp only [setIfInBounds_toArray, set_cons_succ, set_cons_zero])
        refine wpAnyH_take (i := 12) (v := ?v68) rfl (by kernel_rfl) (by kernel_rfl) (by kernel_rfl) (fun _ _ _ h => h) (Or.inl ⟨by rfl, ?hy68⟩) hHeld ?rest68
        case hy68 => (intro wz hSw; (try dsimp only at hSw); go_simp; (try with_reducible rfl))
        (try simp only [Act.put, getElem_toArray, getElem_cons_succ, getElem_cons_zero]); (try simp only [setIfInBounds_toArray, set_cons_succ, set_cons_zero])
        refine wpAnyH_take (i := 13) (v := ?v69) rfl (by kernel_rfl) (by kernel_rfl) (by kernel_rfl) (fun _ _ _ h => h) (Or.inl ⟨by rfl, ?hy69⟩) hHeld ?rest69
        case hy69 => (intro wz hSw; (try dsimp only at hSw); go_simp; (try with_reducible rfl))
        (try simp only [Act.put, getElem_toArray, getElem_cons_succ, getElem_cons_zero]); (try simp only [setIfInBounds_toArray, set_cons_succ, set_cons_zero])
        refine wpAnyH_take (i := 14) (v := ?v70) rfl (by kernel_rfl) (by kernel_rfl) (by kernel_rfl) (fun _ _ _ h => h) (Or.inl ⟨by rfl, ?hy70⟩) hHeld ?rest70
        case hy70 => (intro wz hSw; (try dsimp only at hSw); go_simp; (try with_reducible rfl))
        (try simp only [Act.put, getElem_toArray, getElem_cons_succ, getElem_cons_zero]); (try simp only [setIfInBounds_toArray, set_cons_succ, set_cons_zero])
        refine wpAnyH_take (i := 15) (v := ?v71) rfl (by kernel_rfl) (by kernel_rfl) (by kernel_rfl) (fun _ _ _ h => h) (Or.inl ⟨by rfl, ?hy71⟩) hHeld ?rest71
        case hy71 => (intro wz hSw; (try dsimp only at hSw); go_simp; (try with_reducible rfl))
        (try simp only [Act.put, getElem_toArray, getElem_cons_succ, getElem_cons_zero]); (try simp only [setIfInBounds_toArray, set_cons_succ, set_cons_zero])
        refine wpAnyH_take (i := 16) (v := ?v72) rfl (by kernel_rfl) (by kernel_rfl) (by kernel_rfl) (fun _ _ _ h => h) (Or.inl ⟨by rfl, ?hy72⟩) hHeld ?rest72
        case hy72 => (intro wz hSw; (try dsimp only at hSw); go_simp; (try with_reducible rfl))
        (try simp only [Act.put, getElem_toArray, getElem_cons_succ, getElem_cons_zero]); (try simp only [setIfInBounds_toArray, set_cons_succ, set_cons_zero])
        refine wpAnyH_take (i := 17) (v := undef) rfl (by kernel_rfl) (by kernel_rfl) (by kernel_rfl) (fun _ _ _ h => h) (Or.inr ⟨by rfl, rfl⟩) hHeld ?rest73
        (try simp only [Act.put, getElem_toArray, getElem_cons_succ, getElem_cons_zero]); (try simp only [setIfInBounds_toArray, set_cons_succ, set_cons_zero])
        refine wpAnyH_take (i := 18) (v := undef) rfl (by kernel_rfl) (by kernel_rfl) (by kernel_rfl) (fun _ _ _ h => h) (Or.inr ⟨by rfl, rfl⟩) hHeld ?rest74
        (try simp only [Act.put, getElem_toArray, getElem_cons_succ, getElem_cons_zero]); (try simp only [setIfInBounds_toArray, set_cons_succ, set_cons_zero])
        refine wpAnyH_take (i := 19) (v := undef) rfl (by kernel_rfl) (by kernel_rfl) (by kernel_rfl) (fun _ _ _ h => h) (Or.inr ⟨by rfl, rfl⟩) hHeld ?rest75
        (try simp only [Act.put, getElem_toArray, getElem_cons_succ, getElem_cons_zero]); (try simp only [setIfInBounds_toArray, set_cons_succ, set_cons_zero])
        refine wpAnyH_take (i := 20) (v := undef) rfl (by kernel_rfl) (by kernel_rfl) (by kernel_rfl) (fun _ _ _ h => h) (Or.inr ⟨by rfl, rfl⟩) hHeld ?rest76
        (try simp only [Act.put, getElem_toArray, getElem_cons_succ, getElem_cons_zero]); (try simp only [setIfInBounds_toArray, set_cons_succ, set_cons_zero])
        refine wpAnyH_take (i := 21) (v := undef) rfl (by kernel_rfl) (by kernel_rfl) (by kernel_rfl) (fun _ _ _ h => h) (Or.inr ⟨by rfl, rfl⟩) hHeld ?rest77
        (try simp only [Act.put, getElem_toArray, getElem_cons_succ, getElem_cons_zero]); (try simp only [setIfInBounds_toArray, set_cons_succ, set_cons_zero])
        refine wpAnyH_take (i := 22) (v := undef) rfl (by kernel_rfl) (by kernel_rfl) (by kernel_rfl) (fun _ _ _ h => h) (Or.inr ⟨by rfl, rfl⟩) hHeld ?rest78
        (try simp only [Act.put, getElem_toArray, getElem_cons_succ, getElem_cons_zero]); (try simp only [setIfInBounds_toArray, set_cons_succ, set_cons_zero])
        refine wpAnyH_take (i := 23) (v := undef) rfl (by kernel_rfl) (by kernel_rfl) (by kernel_rfl) (fun _ _ _ h => h) (Or.inr ⟨by rfl, rfl⟩) hHeld ?rest79
        (try simp only [Act.put, getElem_toArray, getElem_cons_succ, getElem_cons_zero]); (try simp only [setIfInBounds_toArray, set_cons_succ, set_cons_zero])
        refine wpAnyH_take (i := 24) (v := undef) rfl (by kernel_rfl) (by kernel_rfl) (by kernel_rfl) (fun _ _ _ h => h) (Or.inr ⟨by rfl, rfl⟩) hHeld ?rest80
        (try simp only [Act.put, getElem_toArray, getElem_cons_succ, getElem_cons_zero]); (try simp only [setIfInBounds_toArray, set_cons_succ, set_cons_zero])
        refine wpAnyH_take (i := 25) (v := undef) rfl (by kernel_rfl) (by kernel_rfl) (by kernel_rfl) (fun _ _ _ h => h) (Or.inr ⟨by rfl, rfl⟩) hHeld ?rest81
        (try simp only [Act.put, getElem_toArray, getElem_cons_succ, getElem_cons_zero]); (try simp only [setIfInBounds_toArray, set_cons_succ, set_cons_zero])
        refine wpAnyH_take (i := 26) (v := undef) rfl (by kernel_rfl) (by kernel_rfl) (by kernel_rfl) (fun _ _ _ h => h) (Or.inr ⟨by rfl, rfl⟩) hHeld ?rest82
        (try simp only [Act.put, getElem_toArray, getElem_cons_succ, getElem_cons_zero]); (try simp only [setIfInBounds_toArray, set_cons_succ, set_cons_zero])
        refine wpAnyH_take (i := 27) (v := undef) rfl (by kernel_rfl) (by kernel_rfl) (by kernel_rfl) (fun _ _ _ h => h) (Or.inr ⟨by rfl, rfl⟩) hHeld ?rest83
        (try simp only [Act.put, getElem_toArray, getElem_cons_succ, getElem_cons_zero]); (try simp only [setIfInBounds_toArray, set_cons_succ, set_cons_zero])
        refine wpAnyH_take (i := 28) (v := ?v84) rfl (by kernel_rfl) (by kernel_rfl) (by kernel_rfl) (fun _ _ _ h => h) (Or.inl ⟨by rfl, ?hy84⟩) hHeld ?rest84
        case hy84 => (intro wz hSw; (try dsimp only at hSw); go_simp; (try with_reducible rfl))
        (try simp only [Act.put, getElem_toArray, getElem_cons_succ, getElem_cons_zero]); (try simp only [setIfInBounds_toArray, set_cons_succ, set_cons_zero])
        refine wpAnyH_take (i := 29) (v := ?v85) rfl (by kernel_rfl) (by kernel_rfl) (by kernel_rfl) (fun _ _ _ h => h) (Or.inl ⟨by rfl, ?hy85⟩) hHeld ?rest85
        case hy85 => (intro wz hSw; (try dsimp only at hSw); go_simp; (try with_reducible rfl))
        (try simp only [Act.put, getElem_toArray, getElem_cons_succ, getElem_cons_zero]); (try simp only [setIfInBounds_toArray, set_cons_succ, set_cons_zero])
        refine wpAnyH_take (i := 30) (v := undef) rfl (by kernel_rfl) (by kernel_rfl) (by kernel_rfl) (fun _ _ _ h => h) (Or.inr ⟨by rfl, rfl⟩) hHeld ?rest86
        (try simp only [Act.put, getElem_toArray, getElem_cons_succ, getElem_cons_zero]); (try simp only [setIfInBounds_toArray, set_cons_succ, set_cons_zero])
        refine wpAnyH_take (i := 31) (v := undef) rfl (by kernel_rfl) (by kernel_rfl) (by kernel_rfl) (fun _ _ _ h => h) (Or.inr ⟨by rfl, rfl⟩) hHeld ?rest87
        (try simp only [Act.put, getElem_toArray, getElem_cons_succ, getElem_cons_zero]); (try simp only [setIfInBounds_toArray, set_cons_succ, set_cons_zero])
        refine wpAnyH_take (i := 32) (v := undef) rfl (by kernel_rfl) (by kernel_rfl) (by kernel_rfl) (fun _ _ _ h => h) (Or.inr ⟨by rfl, rfl⟩) hHeld ?rest88
        (try simp only [Act.put, getElem_toArray, getElem_cons_succ, getElem_cons_zero]); (try simp only [setIfInBounds_toArray, set_cons_succ, set_cons_zero])
        refine wpAnyH_take (i := 33) (v := undef) rfl (by kernel_rfl) (by kernel_rfl) (by kernel_rfl) (fun _ _ _ h => h) (Or.inr ⟨by rfl, rfl⟩) hHeld ?rest89
        (try simp only [Act.put, getElem_toArray, getElem_cons_succ, getElem_cons_zero]); (try simp only [setIfInBounds_toArray, set_cons_succ, set_cons_zero])
        refine wpAnyH_take (i := 34) (v := undef) rfl (by kernel_rfl) (by kernel_rfl) (by kernel_rfl) (fun _ _ _ h => h) (Or.inr ⟨by rfl, rfl⟩) hHeld ?rest90
        (try simp only [Act.put, getElem_toArray, getElem_cons_succ, getElem_cons_zero]); (try simp only [setIfInBounds_toArray, set_cons_succ, set_cons_zero])
        refine wpAnyH_take (i := 35) (v := undef) rfl (by kernel_rfl) (by kernel_rfl) (by kernel_rfl) (fun _ _ _ h => h) (Or.inr ⟨by rfl, rfl⟩) hHeld ?rest91
        (try simp only [Act.put, getElem_toArray, getElem_cons_succ, getElem_cons_zero]); (try simp only [setIfInBounds_toArray, set_cons_succ, set_cons_zero])
        refine wpAnyH_take (i := 36) (v := undef) rfl (by kernel_rfl) (by kernel_rfl) (by kernel_rfl) (fun _ _ _ h => h) (Or.inr ⟨by rfl, rfl⟩) hHeld ?rest92
        (try simp only [Act.put, getElem_toArray, getElem_cons_succ, getElem_cons_zero]); (try simp only [setIfInBounds_toArray, set_cons_succ, set_cons_zero])
        refine wpAnyH_take (i := 37) (v := undef) rfl (by kernel_rfl) (by kernel_rfl) (by kernel_rfl) (fun _ _ _ h => h) (Or.inr ⟨by rfl, rfl⟩) hHeld ?rest93
        (try simp only [Act.put, getElem_toArray, getElem_cons_succ, getElem_cons_zero]); (try simp only [setIfInBounds_toArray, set_cons_succ, set_cons_zero])
        refine wpAnyH_take (i := 38) (v := undef) rfl (by kernel_rfl) (by kernel_rfl) (by kernel_rfl) (fun _ _ _ h => h) (Or.inr ⟨by rfl, rfl⟩) hHeld ?rest94
        (try simp only [Act.put, getElem_toArray, getElem_cons_succ, getElem_cons_zero]); (try simp only [setIfInBounds_toArray, set_cons_succ, set_cons_zero])
        refine wpAnyH_take (i := 39) (v := undef) rfl (by kernel_rfl) (by kernel_rfl) (by kernel_rfl) (fun _ _ _ h => h) (Or.inr ⟨by rfl, rfl⟩) hHeld ?rest95
        (try simp only [Act.put, getElem_toArray, getElem_cons_succ, getElem_cons_zero]); (try simp only [setIfInBounds_toArray, set_cons_succ, set_cons_zero])
        refine wpAnyH_take (i := 40) (v := ?v96) rfl (by kernel_rfl) (by kernel_rfl) (by kernel_rfl) (fun _ _ _ h => h) (Or.inl ⟨by rfl, ?hy96⟩) hHeld ?rest96
        case hy96 => (intro wz hSw; (try dsimp only at hSw); go_simp; (try with_reducible rfl))
        (try simp only [Act.put, getElem_toArray, getElem_cons_succ, getElem_cons_zero]); (try simp only [setIfInBounds_toArray, set_cons_succ, set_cons_zero])
        refine wpAnyH_take (i := 41) (v := ?v97) rfl (by kernel_rfl) (by kernel_rfl) (by kernel_rfl) (fun _ _ _ h => h) (Or.inl ⟨by rfl, ?hy97⟩) hHeld ?rest97
        case hy97 => (intro wz hSw; (try dsimp only at hSw); go_simp; (try with_reducible rfl))
        (try simp only [Act.put, getElem_toArray, getElem_cons_succ, getElem_cons_zero]); (try simp only [setIfInBounds_toArray, set_cons_succ, set_cons_zero])
        refine wpAnyH_take (i := 42) (v := undef) rfl (by kernel_rfl) (by kernel_rfl) (by kernel_rfl) (fun _ _ _ h => h) (Or.inr ⟨by rfl, rfl⟩) hHeld ?rest98
        (try simp only [Act.put, getElem_toArray, getElem_cons_succ, getElem_cons_zero]); (try simp only [setIfInBounds_toArray, set_cons_succ, set_cons_zero])
        refine wpAnyH_take (i := 43) (v := undef) rfl (by kernel_rfl) (by kernel_rfl) (by kernel_rfl) (fun _ _ _ h => h) (Or.inr ⟨by rfl, rfl⟩) hHeld ?rest99
        (try simp only [Act.put, getElem_toArray, getElem_cons_succ, getElem_cons_zero]); (try simp only [setIfInBounds_toArray, set_cons_succ, set_cons_zero])
        refine wpAnyH_take (i := 44) (v := undef) rfl (by kernel_rfl) (by kernel_rfl) (by kernel_rfl) (fun _ _ _ h => h) (Or.inr ⟨by rfl, rfl⟩) hHeld ?rest100
        (try simp only [Act.put, getElem_toArray, getElem_cons_succ, getElem_cons_zero]); (try simp only [setIfInBounds_toArray, set_cons_succ, set_cons_zero])
        refine wpAnyH_take (i := 45) (v := undef) rfl (by kernel_rfl) (by kernel_rfl) (by kernel_rfl) (fun _ _ _ h => h) (Or.inr ⟨by rfl, rfl⟩) hHeld ?rest101
        (try simp only [Act.put, getElem_toArray, getElem_cons_succ, getElem_cons_zero]); (try simp only [setIfInBounds_toArray, set_cons_succ, set_cons_zero])
        refine wpAnyH_take (i := 46) (v := undef) rfl (by kernel_rfl) (by kernel_rfl) (by kernel_rfl) (fun _ _ _ h => h) (Or.inr ⟨by rfl, rfl⟩) hHeld ?rest102
        (try simp only [Act.put, getElem_toArray, getElem_cons_succ, getElem_cons_zero]); (try simp only [setIfInBounds_toArray, set_cons_succ, set_cons_zero])
        refine wpAnyH_take (i := 47) (v := undef) rfl (by kernel_rfl) (by kernel_rfl) (by kernel_rfl) (fun _ _ _ h => h) (Or.inr ⟨by rfl, rfl⟩) hHeld ?rest103
        (try simp only [Act.put, getElem_toArray, getElem_cons_succ, getElem_cons_zero]); (try simp only [setIfInBounds_toArray, set_cons_succ, set_cons_zero])
        refine wpAnyH_take (i := 48) (v := ?v104) rfl (by kernel_rfl) (by kernel_rfl) (by kernel_rfl) (fun _ _ _ h => h) (Or.inl ⟨by rfl, ?hy104⟩) hHeld ?rest104
        case hy104 => (intro wz hSw; (try dsimp only at hSw); go_simp; (try with_reducible rfl))
        (try simp only [Act.put, getElem_toArray, getElem_cons_succ, getElem_cons_zero]); (try simp only [setIfInBounds_toArray, set_cons_succ, set_cons_zero])
        refine wpAnyH_done (by kernel_rfl) ?_ _
        have X9 := Lib.hid (And.left hHeld)
        clear hHeld hc0 hc1 hc2 hc3 hd1
        go_wp2
        go_ret
        exact ⟨ret_bool (HN.out (by rw [HSq.out]; exact fun h => HQ.out h.2.1)).symm, hE.out.trans X9.out⟩
      have hpn : (pi != P) = false := by simpa using hpp
      have HPP := Lib.hid hpp
      clear hpp
      by_cases hrc : ri = ci
      case neg =>
        have hrn : (ri != ci) = true := by simpa using hrc
        have HQ := Lib.hid hrc
        clear hrc
        go_wp2_with fail
        refine wp_region_held_drew (S := (fun w' => Ext wr w' ∧ (∀ b o, b < wr.heap.size → w'.cell? ⟨b, o, none⟩ = wr.cell? ⟨b, o, none⟩))) (by kernel_rfl) (ext2 (Ext.refl wr).drew) (fun hHeld => ?_)
        refine wpAnyH_take (i := 0) (v := ?v105) rfl (by kernel_rfl) (by kernel_rfl) (by kernel_rfl) (fun _ _ _ h => h) (Or.inl ⟨by rfl, ?hy105⟩) hHeld ?rest105
        case hy105 => (intro wz hSw; (try dsimp only at hSw); go_simp; (try with_reducible rfl))
        (try simp only [Act.put, getElem_toArray, getElem_cons_succ, getElem_cons_zero]); (try simp only [setIfInBounds_toArray, set_cons_succ, set_cons_zero])
        refine wpAnyH_take (i := 1) (v := ?v106) rfl (by kernel_rfl) (by kernel_rfl) (by kernel_rfl) (fun _ _ _ h => h) (Or.inl ⟨by rfl, ?hy106⟩) hHeld ?rest106
        case hy106 => (intro wz hSw; (try dsimp only at hSw); go_simp; (try with_reducible rfl))
        (try simp only [Act.put, getElem_toArray, getElem_cons_succ, getElem_cons_zero]); (try simp only [setIfInBounds_toArray, set_cons_succ, set_cons_zero])
        refine wpAnyH_take (i := 2) (v := ?v107) rfl (by kernel_rfl) (by kernel_rfl) (by kernel_rfl) (fun _ _ _ h => h) (Or.inl ⟨by rfl, ?hy107⟩) hHeld ?rest107
        case hy107 => (intro wz hSw; (try dsimp only at hSw); go_simp; (try with_reducible rfl))
        (try simp only [Act.put, getElem_toArray, getElem_cons_succ, getElem_cons_zero]); (try simp only [setIfInBounds_toArray, set_cons_succ, set_cons_zero])
        refine wpAnyH_take (i := 3) (v := ?v108) rfl (by kernel_rfl) (by kernel_rfl) (by kernel_rfl) (fun _ _ _ h => h) (Or.inl ⟨by rfl, ?hy108⟩) hHeld ?rest108
        case hy108 => (intro wz hSw; (try dsimp only at hSw); go_simp; (try with_reducible rfl))
        (try simp only [Act.put, getElem_toArray, getElem_cons_succ, getElem_cons_zero]); (try simp only [setIfInBounds_toArray, set_cons_succ, set_cons_zero])
        refine wpAnyH_ready (rs := [4]) (by kernel_rfl) (by simp) ?_
        refine AllReadyH.cons rfl (fun K' hK => ?_) AllReadyH.nil
        go_simp
        refine (HC.out _ (And.left hHeld)).mono ?_
        rintro e w2 ⟨rfl, h2⟩
        have X2 := (And.left hHeld).trans h2
        dsimp only
        refine hK.out _ _ (ext2 X2) (fun hHeld => ?_)
        clear hK
        refine wpAnyH_take (i := 5) (v := ?v109) rfl (by kernel_rfl) (by kernel_rfl) (by kernel_rfl) (fun _ _ _ h => h) (Or.inl ⟨by rfl, ?hy109⟩) hHeld ?rest109
        case hy109 => (intro wz hSw; (try dsimp only at hSw); go_simp; (try with_reducible rfl))
        (try simp only [Act.put, getElem_toArray, getElem_cons_succ, getElem_cons_zero]); (try simp only [setIfInBounds_toArray, set_cons_succ, set_cons_zero])
        refine wpAnyH_take (i := 6) (v := ?v110) rfl (by kernel_rfl) (by kernel_rfl) (by kernel_rfl) (fun _ _ _ h => h) (Or.inl ⟨by rfl, ?hy110⟩) hHeld ?rest110
        case hy110 => (intro wz hSw; (try dsimp only at hSw); go_simp; (try with_reducible rfl))
        (try simp only [Act.put, getElem_toArray, getElem_cons_succ, getElem_cons_zero]); (try simp only [setIfInBounds_toArray, set_cons_succ, set_cons_zero])
        refine wpAnyH_take (i := 7) (v := ?v111) rfl (by kernel_rfl) (by kernel_rfl) (by kernel_rfl) (fun _ _ _ h => h) (Or.inl ⟨by rfl, ?hy111⟩) hHeld ?rest111
        case hy111 => (intro wz hSw; (try dsimp only at hSw); go_simp; (try with_reducible rfl))
        (try simp only [Act.put, getElem_toArray, getElem_cons_succ, getElem_cons_zero]); (try simp only [setIfInBounds_toArray, set_cons_succ, set_cons_zero])
        refine wpAnyH_take (i := 8) (v := ?v112) rfl (by kernel_rfl) (by kernel_rfl) (by kernel_rfl) (fun _ _ _ h => h) (Or.inl ⟨by rfl, ?hy112⟩) hHeld ?rest112
        case hy112 => (intro wz hSw; (try dsimp only at hSw); go_simp; (try with_reducible rfl))
        (try simp only [Act.put, getElem_toArray, getElem_cons_succ, getElem_cons_zero]); (try simp only [setIfInBounds_toArray, set_cons_succ, set_cons_zero])
        refine wpAnyH_take (i := 9) (v := ?v113) rfl (by kernel_rfl) (by kernel_rfl) (by kernel_rfl) (fun _ _ _ h => h) (Or.inl ⟨by rfl, ?hy113⟩) hHeld ?rest113
        case hy113 => (intro wz hSw; (try dsimp only at hSw); go_simp; (try with_reducible rfl))
        (try simp only [Act.put, getElem_toArray, getElem_cons_succ, getElem_cons_zero]); (try simp only [setIfInBounds_toArray, set_cons_succ, set_cons_zero])
        refine wpAnyH_take (i := 10) (v := ?v114) rfl (by kernel_rfl) (by kernel_rfl) (by kernel_rfl) (fun _ _ _ h => h) (Or.inl ⟨by rfl, ?hy114⟩) hHeld ?rest114
        case hy114 => (intro wz hSw; (try dsimp only at hSw); go_simp; (try with_reducible rfl))
        (try simp only [Act.put, getElem_toArray, getElem_cons_succ, getElem_cons_zero]); (try simp only [setIfInBounds_toArray, set_cons_succ, set_cons_zero])
        refine wpAnyH_take (i := 11) (v := ?v115) rfl (by kernel_rfl) (by kernel_rfl) (by kernel_rfl) (fun _ _ _ h => h) (Or.inl ⟨by rfl, ?hy115⟩) hHeld ?rest115
        case hy115 => (intro wz hSw; (try dsimp only at hSw); go_simp; (try with_reducible rfl))
        (try simp only [Act.put, getElem_toArray, getElem_cons_succ, getElem_cons_zero]); (try simp only [setIfInBounds_toArray, set_cons_succ, set_cons_zero])
        refine wpAnyH_take (i := 12) (v := ?v116) rfl (by kernel_rfl) (by kernel_rfl) (by kernel_rfl) (fun _ _ _ h => h) (Or.inl ⟨by rfl, ?hy116⟩) hHeld ?rest116
        case hy116 => (intro wz hSw; (try dsimp only at hSw); go_simp; (try with_reducible rfl))
        (try simp only [Act.put, getElem_toArray, getElem_cons_succ, getElem_cons_zero]); (try simp only [setIfInBounds_toArray, set_cons_succ, set_cons_zero])
        refine wpAnyH_take (i := 13) (v := ?v117) rfl (by kernel_rfl) (by kernel_rfl) (by kernel_rfl) (fun _ _ _ h => h) (Or.inl ⟨by rfl, ?hy117⟩) hHeld ?rest117
        case hy117 => (intro wz hSw; (try dsimp only at hSw); go_simp; (try with_reducible rfl))
        (try simp only [Act.put, getElem_toArray, getElem_cons_succ, getElem_cons_zero]); (try simp only [setIfInBounds_toArray, set_cons_succ, set_cons_zero])
        refine wpAnyH_take (i := 14) (v := ?v118) rfl (by kernel_rfl) (by kernel_rfl) (by kernel_rfl) (fun _ _ _ h => h) (Or.inl ⟨by rfl, ?hy118⟩) hHeld ?rest118
        case hy118 => (intro wz hSw; (try dsimp only at hSw); go_simp; (try with_reducible rfl))
        (try simp only [Act.put, getElem_toArray, getElem_cons_succ, getElem_cons_zero]); (try simp only [setIfInBounds_toArray, set_cons_succ, set_cons_zero])
        refine wpAnyH_take (i := 15) (v := ?v119) rfl (by kernel_rfl) (by kernel_rfl) (by kernel_rfl) (fun _ _ _ h => h) (Or.inl ⟨by rfl, ?hy119⟩) hHeld ?rest119
        case hy119 => (intro wz hSw; (try dsimp only at hSw); go_simp; (try with_reducible rfl))
        (try simp only [Act.put, getElem_toArray, getElem_cons_succ, getElem_cons_zero]); (try simp only [setIfInBounds_toArray, set_cons_succ, set_cons_zero])
        refine wpAnyH_take (i := 16) (v := ?v120) rfl (by kernel_rfl) (by kernel_rfl) (by kernel_rfl) (fun _ _ _ h => h) (Or.inl ⟨by rfl, ?hy120⟩) hHeld ?rest120
        case hy120 => (intro wz hSw; (try dsimp only at hSw); go_simp; (try with_reducible rfl))
        (try simp only [Act.put, getElem_toArray, getElem_cons_succ, getElem_cons_zero]); (try simp only [setIfInBounds_toArray, set_cons_succ, set_cons_zero])
        refine wpAnyH_take (i := 17) (v := ?v121) rfl (by kernel_rfl) (by kernel_rfl) (by kernel_rfl) (fun _ _ _ h => h) (Or.inl ⟨by rfl, ?hy121⟩) hHeld ?rest121
        case hy121 => (intro wz hSw; (try dsimp only at hSw); go_simp; (try with_reducible rfl))
        (try simp only [Act.put, getElem_toArray, getElem_cons_succ, getElem_cons_zero]); (try simp only [setIfInBounds_toArray, set_cons_succ, set_cons_zero])
        refine wpAnyH_take (i := 18) (v := ?v122) rfl (by kernel_rfl) (by kernel_rfl) (by kernel_rfl) (fun _ _ _ h => h) (Or.inl ⟨by rfl, ?hy122⟩) hHeld ?rest122
        case hy122 => (intro wz hSw; (try dsimp only at hSw); go_simp; (try with_reducible rfl))
        (try simp only [Act.put, getElem_toArray, getElem_cons_succ, getElem_cons_zero]); (try simp only [setIfInBounds_toArray, set_cons_succ, set_cons_zero])
        refine wpAnyH_take (i := 19) (v := ?v123) rfl (by kernel_rfl) (by kernel_rfl) (by kernel_rfl) (fun _ _ _ h => h) (Or.inl ⟨by rfl, ?hy123⟩) hHeld ?rest123
        case hy123 => (intro wz hSw; (try dsimp only at hSw); go_simp; (try with_reducible rfl))
        (try simp only [Act.put, getElem_toArray, getElem_cons_succ, getElem_cons_zero]); (try simp only [setIfInBounds_toArray, set_cons_succ, set_cons_zero])
        refine wpAnyH_take (i := 20) (v := ?v124) rfl (by kernel_rfl) (by kernel_rfl) (by kernel_rfl) (fun _ _ _ h => h) (Or.inl ⟨by rfl, ?hy124⟩) hHeld ?rest124
        case hy124 => (intro wz hSw; (try dsimp only at hSw); go_simp; (try with_reducible rfl))
        (try simp only [Act.put, getElem_toArray, getElem_cons_succ, getElem_cons_zero]); (try simp only [setIfInBounds_toArray, set_cons_succ, set_cons_zero])
        refine wpAnyH_take (i := 21) (v := ?v125) rfl (by kernel_rfl) (by kernel_rfl) (by kernel_rfl) (fun _ _ _ h => h) (Or.inl ⟨by rfl, ?hy125⟩) hHeld ?rest125
        case hy125 => (intro wz hSw; (try dsimp only at hSw); go_simp; (try with_reducible rfl))
        (try simp only [Act.put, getElem_toArray, getElem_cons_succ, getElem_cons_zero]); (try simp only [setIfInBounds_toArray, set_cons_succ, set_cons_zero])
        refine wpAnyH_take (i := 22) (v := ?v126) rfl (by kernel_rfl) (by kernel_rfl) (by kernel_rfl) (fun _ _ _ h => h) (Or.inl ⟨by rfl, ?hy126⟩) hHeld ?rest126
        case hy126 => (intro wz hSw; (try dsimp only at hSw); go_simp; (try with_reducible rfl))
        (try simp only [Act.put, getElem_toArray, getElem_cons_succ, getElem_cons_zero]); (try simp only [setIfInBounds_toArray, set_cons_succ, set_cons_zero])
        refine wpAnyH_take (i := 23) (v := ?v127) rfl (by kernel_rfl) (by kernel_rfl) (by kernel_rfl) (fun _ _ _ h => h) (Or.inl ⟨by rfl, ?hy127⟩) hHeld ?rest127
        case hy127 => (intro wz hSw; (try dsimp only at hSw); go_simp; (try with_reducible rfl))
        (try simp only [Act.put, getElem_toArray, getElem_cons_succ, getElem_cons_zero]); (try simp only [setIfInBounds_toArray, set_cons_succ, set_cons_zero])
        refine wpAnyH_take (i := 24) (v := ?v128) rfl (by kernel_rfl) (by kernel_rfl) (by kernel_rfl) (fun _ _ _ h => h) (Or.inl ⟨by rfl, ?hy128⟩) hHeld ?rest128
        case hy128 => (intro wz hSw; (try dsimp only at hSw); go_simp; (try with_reducible rfl))
        (try simp only [Act.put, getElem_toArray, getElem_cons_succ, getElem_cons_zero]); (try simp only [setIfInBounds_toArray, set_cons_succ, set_cons_zero])
        refine wpAnyH_take (i := 25) (v := ?v129) rfl (by kernel_rfl) (by kernel_rfl) (by kernel_rfl) (fun _ _ _ h => h) (Or.inl ⟨by rfl, ?hy129⟩) hHeld ?rest129
        case hy129 => (intro wz hSw; (try dsimp only at hSw); go_simp; (try with_reducible rfl))
        (try simp only [Act.put, getElem_toArray, getElem_cons_succ, getElem_cons_zero]); (try simp only [setIfInBounds_toArray, set_cons_succ, set_cons_zero])
        refine wpAnyH_take (i := 26) (v := ?v130) rfl (by kernel_rfl) (by kernel_rfl) (by kernel_rfl) (fun _ _ _ h => h) (Or.inl ⟨by rfl, ?hy130⟩) hHeld ?rest130
        case hy130 => (intro wz hSw; (try dsimp only at hSw); go_simp; (try with_reducible rfl))
        (try simp only [Act.put, getElem_toArray, getElem_cons_succ, getElem_cons_zero]); (try simp only [setIfInBounds_toArray, set_cons_succ, set_cons_zero])
        refine wpAnyH_take (i := 27) (v := ?v131) rfl (by kernel_rfl) (by kernel_rfl) (by kernel_rfl) (fun _ _ _ h => h) (Or.inl ⟨by rfl, ?hy131⟩) hHeld ?rest131
        case hy131 => (intro wz hSw; (try dsimp only at hSw); go_simp; (try with_reducible rfl))
        (try simp only [Act.put, getElem_toArray, getElem_cons_succ, getElem_cons_zero]); (try simp only [setIfInBounds_toArray, set_cons_succ, set_cons_zero])
        refine wpAnyH_take (i := 28) (v := ?v132) rfl (by kernel_rfl) (by kernel_rfl) (by kernel_rfl) (fun _ _ _ h => h) (Or.inl ⟨by rfl, ?hy132⟩) hHeld ?rest132
        case hy132 => (intro wz hSw; (try dsimp only at hSw); go_simp; (try with_reducible rfl))
        (try simp only [Act.put, getElem_toArray, getElem_cons_succ, getElem_cons_zero]); (try simp only [setIfInBounds_toArray, set_cons_succ, set_cons_zero])
        refine wpAnyH_take (i := 29) (v := ?v133) rfl (by kernel_rfl) (by kernel_rfl) (by kernel_rfl) (fun _ _ _ h => h) (Or.inl ⟨by rfl, ?hy133⟩) hHeld ?rest133
        case hy133 => (intro wz hSw; (try dsimp only at hSw); go_simp; (try with_reducible rfl))
        (try simp only [Act.put, getElem_toArray, getElem_cons_succ, getElem_cons_zero]); (try simp only [setIfInBounds_toArray, set_cons_succ, set_cons_zero])
        refine wpAnyH_take (i := 30) (v := undef) rfl (by kernel_rfl) (by kernel_rfl) (by kernel_rfl) (fun _ _ _ h => h) (Or.inr ⟨by rfl, rfl⟩) hHeld ?rest134
        (try simp only [Act.put, getElem_toArray, getElem_cons_succ, getElem_cons_zero]); (try simp only [setIfInBounds_toArray, set_cons_succ, set_cons_zero])
        refine wpAnyH_take (i := 31) (v := undef) rfl (by kernel_rfl) (by kernel_rfl) (by kernel_rfl) (fun _ _ _ h => h) (Or.inr ⟨by rfl, rfl⟩) hHeld ?rest135
        (try simp only [Act.put, getElem_toArray, getElem_cons_succ, getElem_cons_zero]); (try simp only [setIfInBounds_toArray, set_cons_succ, set_cons_zero])
        refine wpAnyH_take (i := 32) (v := undef) rfl (by kernel_rfl) (by kernel_rfl) (by kernel_rfl) (fun _ _ _ h => h) (Or.inr ⟨by rfl, rfl⟩) hHeld ?rest136
        (try simp only [Act.put, getElem_toArray, getElem_cons_succ, getElem_cons_zero]); (try simp only [setIfInBounds_toArray, set_cons_succ, set_cons_zero])
        refine wpAnyH_take (i := 33) (v := undef) rfl (by kernel_rfl) (by kernel_rfl) (by kernel_rfl) (fun _ _ _ h => h) (Or.inr ⟨by rfl, rfl⟩) hHeld ?rest137
        (try simp only [Act.put, getElem_toArray, getElem_cons_succ, getElem_cons_zero]); (try simp only [setIfInBounds_toArray, set_cons_succ, set_cons_zero])
        refine wpAnyH_take (i := 34) (v := undef) rfl (by kernel_rfl) (by kernel_rfl) (by kernel_rfl) (fun _ _ _ h => h) (Or.inr ⟨by rfl, rfl⟩) hHeld ?rest138
        (try simp only [Act.put, getElem_toArray, getElem_cons_succ, getElem_cons_zero]); (try simp only [setIfInBounds_toArray, set_cons_succ, set_cons_zero])
        refine wpAnyH_take (i := 35) (v := undef) rfl (by kernel_rfl) (by kernel_rfl) (by kernel_rfl) (fun _ _ _ h => h) (Or.inr ⟨by rfl, rfl⟩) hHeld ?rest139
        (try simp only [Act.put, getElem_toArray, getElem_cons_succ, getElem_cons_zero]); (try simp only [setIfInBounds_toArray, set_cons_succ, set_cons_zero])
        refine wpAnyH_take (i := 36) (v := undef) rfl (by kernel_rfl) (by kernel_rfl) (by kernel_rfl) (fun _ _ _ h => h) (Or.inr ⟨by rfl, rfl⟩) hHeld ?rest140
        (try simp only [Act.put, getElem_toArray, getElem_cons_succ, getElem_cons_zero]); (try simp only [setIfInBounds_toArray, set_cons_succ, set_cons_zero])
        refine wpAnyH_take (i := 37) (v := undef) rfl (by kernel_rfl) (by kernel_rfl) (by kernel_rfl) (fun _ _ _ h => h) (Or.inr ⟨by rfl, rfl⟩) hHeld ?rest141
        (try simp only [Act.put, getElem_toArray, getElem_cons_succ, getElem_cons_zero]); (try simp only [setIfInBounds_toArray, set_cons_succ, set_cons_zero])
        refine wpAnyH_take (i := 38) (v := undef) rfl (by kernel_rfl) (by kernel_rfl) (by kernel_rfl) (fun _ _ _ h => h) (Or.inr ⟨by rfl, rfl⟩) hHeld ?rest142
        (try simp only [Act.put, getElem_toArray, getElem_cons_succ, getElem_cons_zero]); (try simp only [setIfInBounds_toArray, set_cons_succ, set_cons_zero])
        refine wpAnyH_take (i := 39) (v := undef) rfl (by kernel_rfl) (by kernel_rfl) (by kernel_rfl) (fun _ _ _ h => h) (Or.inr ⟨by rfl, rfl⟩) hHeld ?rest143
        (try simp only [Act.put, getElem_toArray, getElem_cons_succ, getElem_cons_zero]); (try simp only [setIfInBounds_toArray, set_cons_succ, set_cons_zero])
        refine wpAnyH_take (i := 40) (v := ?v144) rfl (by kernel_rfl) (by kernel_rfl) (by kernel_rfl) (fun _ _ _ h => h) (Or.inl ⟨by rfl, ?hy144⟩) hHeld ?rest144
        case hy144 => (intro wz hSw; (try dsimp only at hSw); go_simp; (try with_reducible rfl))
        (try simp only [Act.put, getElem_toArray, getElem_cons_succ, getElem_cons_zero]); (try simp only [setIfInBounds_toArray, set_cons_succ, set_cons_zero])
        refine wpAnyH_take (i := 41) (v := ?v145) rfl (by kernel_rfl) (by kernel_rfl) (by kernel_rfl) (fun _ _ _ h => h) (Or.inl ⟨by rfl, ?hy145⟩) hHeld ?rest145
        case hy145 => (intro wz hSw; (try dsimp only at hSw); go_simp; (try with_reducible rfl))
        (try simp only [Act.put, getElem_toArray, getElem_cons_succ, getElem_cons_zero]); (try simp only [setIfInBounds_toArray, set_cons_succ, set_cons_zero])
        refine wpAnyH_take (i := 42) (v := undef) rfl (by kernel_rfl) (by kernel_rfl) (by kernel_rfl) (fun _ _ _ h => h) (Or.inr ⟨by rfl, rfl⟩) hHeld ?rest146
        (try simp only [Act.put, getElem_toArray, getElem_cons_succ, getElem_cons_zero]); (try simp only [setIfInBounds_toArray, set_cons_succ, set_cons_zero])
        refine wpAnyH_take (i := 43) (v := undef) rfl (by kernel_rfl) (by kernel_rfl) (by kernel_rfl) (fun _ _ _ h => h) (Or.inr ⟨by rfl, rfl⟩) hHeld ?rest147
        (try simp only [Act.put, getElem_toArray, getElem_cons_succ, getElem_cons_zero]); (try simp only [setIfInBounds_toArray, set_cons_succ, set_cons_zero])
        refine wpAnyH_take (i := 44) (v := undef) rfl (by kernel_rfl) (by kernel_rfl) (by kernel_rfl) (fun _ _ _ h => h) (Or.inr ⟨by rfl, rfl⟩) hHeld ?rest148
        (try simp only [Act.put, getElem_toArray, getElem_cons_succ, getElem_cons_zero]); (try simp only [setIfInBounds_toArray, set_cons_succ, set_cons_zero])
        refine wpAnyH_take (i := 45) (v := undef) rfl (by kernel_rfl) (by kernel_rfl) (by kernel_rfl) (fun _ _ _ h => h) (Or.inr ⟨by rfl, rfl⟩) hHeld ?rest149
        (try simp only [Act.put, getElem_toArray, getElem_cons_succ, getElem_cons_zero]); (try simp only [setIfInBounds_toArray, set_cons_succ, set_cons_zero])
        refine wpAnyH_take (i := 46) (v := undef) rfl (by kernel_rfl) (by kernel_rfl) (by kernel_rfl) (fun _ _ _ h => h) (Or.inr ⟨by rfl, rfl⟩) hHeld ?rest150
        (try simp only [Act.put, getElem_toArray, getElem_cons_succ, getElem_cons_zero]); (try simp only [setIfInBounds_toArray, set_cons_succ, set_cons_zero])
        refine wpAnyH_take (i := 47) (v := undef) rfl (by kernel_rfl) (by kernel_rfl) (by kernel_rfl) (fun _ _ _ h => h) (Or.inr ⟨by rfl, rfl⟩) hHeld ?rest151
        (try simp only [Act.put, getElem_toArray, getElem_cons_succ, getElem_cons_zero]); (try simp only [setIfInBounds_toArray, set_cons_succ, set_cons_zero])
        refine wpAnyH_take (i := 48) (v := ?v152) rfl (by kernel_rfl) (by kernel_rfl) (by kernel_rfl) (fun _ _ _ h => h) (Or.inl ⟨by rfl, ?hy152⟩) hHeld ?rest152
        case hy152 => (intro wz hSw; (try dsimp only at hSw); go_simp; (try with_reducible rfl))
        (try simp only [Act.put, getElem_toArray, getElem_cons_succ, getElem_cons_zero]); (try simp only [setIfInBounds_toArray, set_cons_succ, set_cons_zero])
        refine wpAnyH_done (by kernel_rfl) ?_ _
        have X9 := Lib.hid (And.left hHeld)
        clear hHeld hc0 hc1 hc2 hc3 hd1
        go_wp2
        go_ret
        exact ⟨ret_bool (HN.out (by rw [HSq.out]; exact fun h => HQ.out h.2.2.1)).symm, hE.out.trans X9.out⟩
      have hrn : (ri != ci) = false := by simpa using hrc
      have HRC := Lib.hid hrc
      clear hrc
      by_cases hr0 : ri = r0
      case neg =>
        have hsn : (ri != r0) = true := by simpa using hr0
        have HQ := Lib.hid hr0
        clear hr0
        go_wp2_with fail
        refine wp_region_held_drew (S := (fun w' => Ext wr w' ∧ (∀ b o, b < wr.heap.size → w'.cell? ⟨b, o, none⟩ = wr.cell? ⟨b, o, none⟩))) (by kernel_rfl) (ext2 (Ext.refl wr).drew) (fun hHeld => ?_)
        refine wpAnyH_take (i := 0) (v := ?v153) rfl (by kernel_rfl) (by kernel_rfl) (by kernel_rfl) (fun _ _ _ h => h) (Or.inl ⟨by rfl, ?hy153⟩) hHeld ?rest153
        case hy153 => (intro wz hSw; (try dsimp only at hSw); go_simp; (try with_reducible rfl))
        (try simp only [Act.put, getElem_toArray, getElem_cons_succ, getElem_cons_zero]); (try simp only [setIfInBounds_toArray, set_cons_succ, set_cons_zero])
        refine wpAnyH_take (i := 1) (v := ?v154) rfl (by kernel_rfl) (by kernel_rfl) (by kernel_rfl) (fun _ _ _ h => h) (Or.inl ⟨by rfl, ?hy154⟩) hHeld ?rest154
        case hy154 => (intro wz hSw; (try dsimp only at hSw); go_simp; (try with_reducible rfl))
        (try simp only [Act.put, getElem_toArray, getElem_cons_succ, getElem_cons_zero]); (try simp only [setIfInBounds_toArray, set_cons_succ, set_cons_zero])
        refine wpAnyH_take (i := 2) (v := ?v155) rfl (by kernel_rfl) (by kernel_rfl) (by kernel_rfl) (fun _ _ _ h => h) (Or.inl ⟨by rfl, ?hy155⟩) hHeld ?rest155
        case hy155 => (intro wz hSw; (try dsimp only at hSw); go_simp; (try with_reducible rfl))
        (try simp only [Act.put, getElem_toArray, getElem_cons_succ, getElem_cons_zero]); (try simp only [setIfInBounds_toArray, set_cons_succ, set_cons_zero])
        refine wpAnyH_take (i := 3) (v := ?v156) rfl (by kernel_rfl) (by kernel_rfl) (by kernel_rfl) (fun _ _ _ h => h) (Or.inl ⟨by rfl, ?hy156⟩) hHeld ?rest156
        case hy156 => (intro wz hSw; (try dsimp only at hSw); go_simp; (try with_reducible rfl))
        (try simp only [Act.put, getElem_toArray, getElem_cons_succ, getElem_cons_zero]); (try simp only [setIfInBounds_toArray, set_cons_succ, set_cons_zero])
        refine wpAnyH_ready (rs := [4]) (by kernel_rfl) (by simp) ?_
        refine AllReadyH.cons rfl (fun K' hK => ?_) AllReadyH.nil
        go_simp
        refine (HC.out _ (And.left hHeld)).mono ?_
        rintro e w2 ⟨rfl, h2⟩
        have X2 := (And.left hHeld).trans h2
        dsimp only
        refine hK.out _ _ (ext2 X2) (fun hHeld => ?_)
        clear hK
        refine wpAnyH_take (i := 5) (v := ?v157) rfl (by kernel_rfl) (by kernel_rfl) (by kernel_rfl) (fun _ _ _ h => h) (Or.inl ⟨by rfl, ?hy157⟩) hHeld ?rest157
        case hy157 => (intro wz hSw; (try dsimp only at hSw); go_simp; (try with_reducible rfl))
        (try simp only [Act.put, getElem_toArray, getElem_cons_succ, getElem_cons_zero]); (try simp only [setIfInBounds_toArray, set_cons_succ, set_cons_zero])
        refine wpAnyH_take (i := 6) (v := ?v158) rfl (by kernel_rfl) (by kernel_rfl) (by kernel_rfl) (fun _ _ _ h => h) (Or.inl ⟨by rfl, ?hy158⟩) hHeld ?rest158
        case hy158 => (intro wz hSw; (try dsimp only at hSw); go_simp; (try with_reducible rfl))
        (try simp only [Act.put, getElem_toArray, getElem_cons_succ, getElem_cons_zero]); (try simp only [setIfInBounds_toArray, set_cons_succ, set_cons_zero])
        refine wpAnyH_take (i := 7) (v := ?v159) rfl (by kernel_rfl) (by kernel_rfl) (by kernel_rfl) (fun _ _ _ h => h) (Or.inl ⟨by rfl, ?hy159⟩) hHeld ?rest159
        case hy159 => (intro wz hSw; (try dsimp only at hSw); go_simp; (try with_reducible rfl))
        (try simp only [Act.put, getElem_toArray, getElem_cons_succ, getElem_cons_zero]); (try simp only [setIfInBounds_toArray, set_cons_succ, set_cons_zero])
        refine wpAnyH_take (i := 8) (v := ?v160) rfl (by kernel_rfl) (by kernel_rfl) (by kernel_rfl) (fun _ _ _ h => h) (Or.inl ⟨by rfl, ?hy160⟩) hHeld ?rest160
        case hy160 => (intro wz hSw; (try dsimp only at hSw); go_simp; (try with_reducible rfl))
        (try simp only [Act.put, getElem_toArray, getElem_cons_succ, getElem_cons_zero]); (try simp only [setIfInBounds_toArray, set_cons_succ, set_cons_zero])
        refine wpAnyH_take (i := 9) (v := ?v161) rfl (by kernel_rfl) (by kernel_rfl) (by kernel_rfl) (fun _ _ _ h => h) (Or.inl ⟨by rfl, ?hy161⟩) hHeld ?rest161
        case hy161 => (intro wz hSw; (try dsimp only at hSw); go_simp; (try with_reducible rfl))
        (try simp only [Act.put, getElem_toArray, getElem_cons_succ, getElem_cons_zero]); (try simp only [setIfInBounds_toArray, set_cons_succ, set_cons_zero])
        refine wpAnyH_take (i := 10) (v := ?v162) rfl (by kernel_rfl) (by kernel_rfl) (by kernel_rfl) (fun _ _ _ h => h) (Or.inl ⟨by rfl, ?hy162⟩) hHeld ?rest162
        case hy162 => (intro wz hSw; (try dsimp only at hSw); go_simp; (try with_reducible rfl))
        (try simp only [Act.put, getElem_toArray, getElem_cons_succ, getElem_cons_zero]); (try simp only [setIfInBounds_toArray, set_cons_succ, set_cons_zero])
        refine wpAnyH_take (i := 11) (v := ?v163) rfl (by kernel_rfl) (by kernel_rfl) (by kernel_rfl) (fun _ _ _ h => h) (Or.inl ⟨by rfl, ?hy163⟩) hHeld ?rest163
        case hy163 => (intro wz hSw; (try dsimp only at hSw); go_simp; (try with_reducible rfl))
        (try simp only [Act.put, getElem_toArray, getElem_cons_succ, getElem_cons_zero]); (try simp only [setIfInBounds_toArray, set_cons_succ, set_cons_zero])
        refine wpAnyH_take (i := 12) (v := ?v164) rfl (by kernel_rfl) (by kernel_rfl) (by kernel_rfl) (fun _ _ _ h => h) (Or.inl ⟨by rfl, ?hy164⟩) hHeld ?rest164
        case hy164 => (intro wz hSw; (try dsimp only at hSw); go_simp; (try with_reducible rfl))
        (try simp only [Act.put, getElem_toArray, getElem_cons_succ, getElem_cons_zero]); (try simp only [setIfInBounds_toArray, set_cons_succ, set_cons_zero])
        refine wpAnyH_take (i := 13) (v := ?v165) rfl (by kernel_rfl) (by kernel_rfl) (by kernel_rfl) (fun _ _ _ h => h) (Or.inl ⟨by rfl, ?hy165⟩) hHeld ?rest165
        case hy165 => (intro wz hSw; (try dsimp only at hSw); go_simp; (try with_reducible rfl))
        (try simp only [Act.put, getElem_toArray, getElem_cons_succ, getElem_cons_zero]); (try simp only [setIfInBounds_toArray, set_cons_succ, set_cons_zero])
        refine wpAnyH_take (i := 14) (v := ?v166) rfl (by kernel_rfl) (by kernel_rfl) (by kernel_rfl) (fun _ _ _ h => h) (Or.inl ⟨by rfl, ?hy166⟩) hHeld ?rest166
        case hy166 => (intro wz hSw; (try dsimp only at hSw); go_simp; (try with_reducible rfl))
        (try simp only [Act.put, getElem_toArray, getElem_cons_succ, getElem_cons_zero]); (try simp only [setIfInBounds_toArray, set_cons_succ, set_cons_zero])
        refine wpAnyH_take (i := 15) (v := ?v167) rfl (by kernel_rfl) (by kernel_rfl) (by kernel_rfl) (fun _ _ _ h => h) (Or.inl ⟨by rfl, ?hy167⟩) hHeld ?rest167
        case hy167 => (intro wz hSw; (try dsimp only at hSw); go_simp; (try with_reducible rfl))
        (try simp only [Act.put, getElem_toArray, getElem_cons_succ, getElem_cons_zero]); (try simp only [setIfInBounds_toArray, set_cons_succ, set_cons_zero])
        refine wpAnyH_take (i := 16) (v := ?v168) rfl (by kernel_rfl) (by kernel_rfl) (by kernel_rfl) (fun _ _ _ h => h) (Or.inl ⟨by rfl, ?hy168⟩) hHeld ?rest168
        case hy168 => (intro wz hSw; (try dsimp only at hSw); go_simp; (try with_reducible rfl))
        (try simp only [Act.put, getElem_toArray, getElem_cons_succ, getElem_cons_zero]); (try simp only [setIfInBounds_toArray, set_cons_succ, set_cons_zero])
        refine wpAnyH_take (i := 17) (v := ?v169) rfl (by kernel_rfl) (by kernel_rfl) (by kernel_rfl) (fun _ _ _ h => h) (Or.inl ⟨by rfl, ?hy169⟩) hHeld ?rest169
        case hy169 => (intro wz hSw; (try dsimp only at hSw); go_simp; (try with_reducible rfl))
        (try simp only [Act.put, getElem_toArray, getElem_cons_succ, getElem_cons_zero]); (try simp only [setIfInBounds_toArray, set_cons_succ, set_cons_zero])
        refine wpAnyH_take (i := 18) (v := ?v170) rfl (by kernel_rfl) (by kernel_rfl) (by kernel_rfl) (fun _ _ _ h => h) (Or.inl ⟨by rfl, ?hy170⟩) hHeld ?rest170
        case hy170 => (intro wz hSw; (try dsimp only at hSw); go_simp; (try with_reducible rfl))
        (try simp only [Act.put, getElem_toArray, getElem_cons_succ, getElem_cons_zero]); (try simp only [setIfInBounds_toArray, set_cons_succ, set_cons_zero])
        refine wpAnyH_take (i := 19) (v := ?v171) rfl (by kernel_rfl) (by kernel_rfl) (by kernel_rfl) (fun _ _ _ h => h) (Or.inl ⟨by rfl, ?hy171⟩) hHeld ?rest171
        case hy171 => (intro wz hSw; (try dsimp only at hSw); go_simp; (try with_reducible rfl))
        (try simp only [Act.put, getElem_toArray, getElem_cons_succ, getElem_cons_zero]); (try simp only [setIfInBounds_toArray, set_cons_succ, set_cons_zero])
        refine wpAnyH_take (i := 20) (v := ?v172) rfl (by kernel_rfl) (by kernel_rfl) (by kernel_rfl) (fun _ _ _ h => h) (Or.inl ⟨by rfl, ?hy172⟩) hHeld ?rest172
        case hy172 => (intro wz hSw; (try dsimp only at hSw); go_simp; (try with_reducible rfl))
        (try simp only [Act.put, getElem_toArray, getElem_cons_succ, getElem_cons_zero]); (try simp only [setIfInBounds_toArray, set_cons_succ, set_cons_zero])
        refine wpAnyH_take (i := 21) (v := ?v173) rfl (by kernel_rfl) (by kernel_rfl) (by kernel_rfl) (fun _ _ _ h => h) (Or.inl ⟨by rfl, ?hy173⟩) hHeld ?rest173
        case hy173 => (intro wz hSw; (try dsimp only at hSw); go_simp; (try with_reducible rfl))
        (try simp only [Act.put, getElem_toArray, getElem_cons_succ, getElem_cons_zero]); (try simp only [setIfInBounds_toArray, set_cons_succ, set_cons_zero])
        refine wpAnyH_take (i := 22) (v := ?v174) rfl (by kernel_rfl) (by kernel_rfl) (by kernel_rfl) (fun _ _ _ h => h) (Or.inl ⟨by rfl, ?hy174⟩) hHeld ?rest174
        case hy174 => (intro wz hSw; (try dsimp only at hSw); go_simp; (try with_reducible rfl))
        (try simp only [Act.put, getElem_toArray, getElem_cons_succ, getElem_cons_zero]); (try simp only [setIfInBounds_toArray, set_cons_succ, set_cons_zero])
        refine wpAnyH_take (i := 23) (v := ?v175) rfl (by kernel_rfl) (by kernel_rfl) (by kernel_rfl) (fun _ _ _ h => h) (Or.inl ⟨by rfl, ?hy175⟩) hHeld ?rest175
        case hy175 => (intro wz hSw; (try dsimp only at hSw); go_simp; (try with_reducible rfl))
        (try simp only [Act.put, getElem_toArray, getElem_cons_succ, getElem_cons_zero]); (try simp only [setIfInBounds_toArray, set_cons_succ, set_cons_zero])
        refine wpAnyH_take (i := 24) (v := ?v176) rfl (by kernel_rfl) (by kernel_rfl) (by kernel_rfl) (fun _ _ _ h => h) (Or.inl ⟨by rfl, ?hy176⟩) hHeld ?rest176
        case hy176 => (intro wz hSw; (try dsimp only at hSw); go_simp; (try with_reducible rfl))
        (try simp only [Act.put, getElem_toArray, getElem_cons_succ, getElem_cons_zero]); (try simp only [setIfInBounds_toArray, set_cons_succ, set_cons_zero])
        refine wpAnyH_take (i := 25) (v := ?v177) rfl (by kernel_rfl) (by kernel_rfl) (by kernel_rfl) (fun _ _ _ h => h) (Or.inl ⟨by rfl, ?hy177⟩) hHeld ?rest177
        case hy177 => (intro wz hSw; (try dsimp only at hSw); go_simp; (try with_reducible rfl))
        (try simp only [Act.put, getElem_toArray, getElem_cons_succ, getElem_cons_zero]); (try simp only [setIfInBounds_toArray, set_cons_succ, set_cons_zero])
        refine wpAnyH_take (i := 26) (v := ?v178) rfl (by kernel_rfl) (by kernel_rfl) (by kernel_rfl) (fun _ _ _ h => h) (Or.inl ⟨by rfl, ?hy178⟩) hHeld ?rest178
        case hy178 => (intro wz hSw; (try dsimp only at hSw); go_simp; (try with_reducible rfl))
        (try simp only [Act.put, getElem_toArray, getElem_cons_succ, getElem_cons_zero]); (try simp only [setIfInBounds_toArray, set_cons_succ, set_cons_zero])
        refine wpAnyH_take (i := 27) (v := ?v179) rfl (by kernel_rfl) (by kernel_rfl) (by kernel_rfl) (fun _ _ _ h => h) (Or.inl ⟨by rfl, ?hy179⟩) hHeld ?rest179
        case hy179 => (intro wz hSw; (try dsimp only at hSw); go_simp; (try with_reducible rfl))
        (try simp only [Act.put, getElem_toArray, getElem_cons_succ, getElem_cons_zero]); (try simp only [setIfInBounds_toArray, set_cons_succ, set_cons_zero])
        refine wpAnyH_take (i := 28) (v := ?v180) rfl (by kernel_rfl) (by kernel_rfl) (by kernel_rfl) (fun _ _ _ h => h) (Or.inl ⟨by rfl, ?hy180⟩) hHeld ?rest180
        case hy180 => (intro wz hSw; (try dsimp only at hSw); go_simp; (try with_reducible rfl))
        (try simp only [Act.put, getElem_toArray, getElem_cons_succ, getElem_cons_zero]); (try simp only [setIfInBounds_toArray, set_cons_succ, set_cons_zero])
        refine wpAnyH_take (i := 29) (v := ?v181) rfl (by kernel_rfl) (by kernel_rfl) (by kernel_rfl) (fun _ _ _ h => h) (Or.inl ⟨by rfl, ?hy181⟩) hHeld ?rest181
        case hy181 => (intro wz hSw; (try dsimp only at hSw); go_simp; (try with_reducible rfl))
        (try simp only [Act.put, getElem_toArray, getElem_cons_succ, getElem_cons_zero]); (try simp only [setIfInBounds_toArray, set_cons_succ, set_cons_zero])
        refine wpAnyH_take (i := 30) (v := ?v182) rfl (by kernel_rfl) (by kernel_rfl) (by kernel_rfl) (fun _ _ _ h => h) (Or.inl ⟨by rfl, ?hy182⟩) hHeld ?rest182
        case hy182 => (intro wz hSw; (try dsimp only at hSw); go_simp; (try with_reducible rfl))
        (try simp only [Act.put, getElem_toArray, getElem_cons_succ, getElem_cons_zero]); (try simp only [setIfInBounds_toArray, set_cons_succ, set_cons_zero])
        refine wpAnyH_take (i := 31) (v := ?v183) rfl (by kernel_rfl) (by kernel_rfl) (by kernel_rfl) (fun _ _ _ h => h) (Or.inl ⟨by rfl, ?hy183⟩) hHeld ?rest183
        case hy183 => (intro wz hSw; (try dsimp only at hSw); go_simp; (try with_reducible rfl))
        (try simp only [Act.put, getElem_toArray, getElem_cons_succ, getElem_cons_zero]); (try simp only [setIfInBounds_toArray, set_cons_succ, set_cons_zero])
        refine wpAnyH_take (i := 32) (v := ?v184) rfl (by kernel_rfl) (by kernel_rfl) (by kernel_rfl) (fun _ _ _ h => h) (Or.inl ⟨by rfl, ?hy184⟩) hHeld ?rest184
        case hy184 => (intro wz hSw; (try dsimp only at hSw); go_simp; (try with_reducible rfl))
        (try simp only [Act.put, getElem_toArray, getElem_cons_succ, getElem_cons_zero]); (try simp only [setIfInBounds_toArray, set_cons_succ, set_cons_zero])
        refine wpAnyH_take (i := 33) (v := ?v185) rfl (by kernel_rfl) (by kernel_rfl) (by kernel_rfl) (fun _ _ _ h => h) (Or.inl ⟨by rfl, ?hy185⟩) hHeld ?rest185
        case hy185 => (intro wz hSw; (try dsimp only at hSw); go_simp; (try with_reducible rfl))
        (try simp only [Act.put, getElem_toArray, getElem_cons_succ, getElem_cons_zero]); (try simp only [setIfInBounds_toArray, set_cons_succ, set_cons_zero])
        refine wpAnyH_take (i := 34) (v := ?v186) rfl (by kernel_rfl) (by kernel_rfl) (by kernel_rfl) (fun _ _ _ h => h) (Or.inl ⟨by rfl, ?hy186⟩) hHeld ?rest186
        case hy186 => (intro wz hSw; (try dsimp only at hSw); go_simp; (try with_reducible rfl))
        (try simp only [Act.put, getElem_toArray, getElem_cons_succ, getElem_cons_zero]); (try simp only [setIfInBounds_toArray, set_cons_succ, set_cons_zero])
        refine wpAnyH_take (i := 35) (v := ?v187) rfl (by kernel_rfl) (by kernel_rfl) (by kernel_rfl) (fun _ _ _ h => h) (Or.inl ⟨by rfl, ?hy187⟩) hHeld ?rest187
        case hy187 => (intro wz hSw; (try dsimp only at hSw); go_simp; (try with_reducible rfl))
        (try simp only [Act.put, getElem_toArray, getElem_cons_succ, getElem_cons_zero]); (try simp only [setIfInBounds_toArray, set_cons_succ, set_cons_zero])
        refine wpAnyH_take (i := 36) (v := ?v188) rfl (by kernel_rfl) (by kernel_rfl) (by kernel_rfl) (fun _ _ _ h => h) (Or.inl ⟨by rfl, ?hy188⟩) hHeld ?rest188
        case hy188 => (intro wz hSw; (try dsimp only at hSw); go_simp; (try with_reducible rfl))
        (try simp only [Act.put, getElem_toArray, getElem_cons_succ, getElem_cons_zero]); (try simp only [setIfInBounds_toArray, set_cons_succ, set_cons_zero])
        refine wpAnyH_take (i := 37) (v := ?v189) rfl (by kernel_rfl) (by kernel_rfl) (by kernel_rfl) (fun _ _ _ h => h) (Or.inl ⟨by rfl, ?hy189⟩) hHeld ?rest189
        case hy189 => (intro wz hSw; (try dsimp only at hSw); go_simp; (try with_reducible rfl))
        (try simp only [Act.put, getElem_toArray, getElem_cons_succ, getElem_cons_zero]); (try simp only [setIfInBounds_toArray, set_cons_succ, set_cons_zero])
        refine wpAnyH_take (i := 38) (v := ?v190) rfl (by kernel_rfl) (by kernel_rfl) (by kernel_rfl) (fun _ _ _ h => h) (Or.inl ⟨by rfl, ?hy190⟩) hHeld ?rest190
        case hy190 => (intro wz hSw; (try dsimp only at hSw); go_simp; (try with_reducible rfl))
        (try simp only [Act.put, getElem_toArray, getElem_cons_succ, getElem_cons_zero]); (try simp only [setIfInBounds_toArray, set_cons_succ, set_cons_zero])
        refine wpAnyH_take (i := 39) (v := ?v191) rfl (by kernel_rfl) (by kernel_rfl) (by kernel_rfl) (fun _ _ _ h => h) (Or.inl ⟨by rfl, ?hy191⟩) hHeld ?rest191
        case hy191 => (intro wz hSw; (try dsimp only at hSw); go_simp; (try with_reducible rfl))
        (try simp only [Act.put, getElem_toArray, getElem_cons_succ, getElem_cons_zero]); (try simp only [setIfInBounds_toArray, set_cons_succ, set_cons_zero])
        refine wpAnyH_take (i := 40) (v := ?v192) rfl (by kernel_rfl) (by kernel_rfl) (by kernel_rfl) (fun _ _ _ h => h) (Or.inl ⟨by rfl, ?hy192⟩) hHeld ?rest192
        case hy192 => (intro wz hSw; (try dsimp only at hSw); go_simp; (try with_reducible rfl))
        (try simp only [Act.put, getElem_toArray, getElem_cons_succ, getElem_cons_zero]); (try simp only [setIfInBounds_toArray, set_cons_succ, set_cons_zero])
        refine wpAnyH_take (i := 41) (v := ?v193) rfl (by kernel_rfl) (by kernel_rfl) (by kernel_rfl) (fun _ _ _ h => h) (Or.inl ⟨by rfl, ?hy193⟩) hHeld ?rest193
        case hy193 => (intro wz hSw; (try dsimp only at hSw); go_simp; (try with_reducible rfl))
        (try simp only [Act.put, getElem_toArray, getElem_cons_succ, getElem_cons_zero]); (try simp only [setIfInBounds_toArray, set_cons_succ, set_cons_zero])
        refine wpAnyH_take (i := 42) (v := undef) rfl (by kernel_rfl) (by kernel_rfl) (by kernel_rfl) (fun _ _ _ h => h) (Or.inr ⟨by rfl, rfl⟩) hHeld ?rest194
        (try simp only [Act.put, getElem_toArray, getElem_cons_succ, getElem_cons_zero]); (try simp only [setIfInBounds_toArray, set_cons_succ, set_cons_zero])
        refine wpAnyH_take (i := 43) (v := undef) rfl (by kernel_rfl) (by kernel_rfl) (by kernel_rfl) (fun _ _ _ h => h) (Or.inr ⟨by rfl, rfl⟩) hHeld ?rest195
        (try simp only [Act.put, getElem_toArray, getElem_cons_succ, getElem_cons_zero]); (try simp only [setIfInBounds_toArray, set_cons_succ, set_cons_zero])
        refine wpAnyH_take (i := 44) (v := undef) rfl (by kernel_rfl) (by kernel_rfl) (by kernel_rfl) (fun _ _ _ h => h) (Or.inr ⟨by rfl, rfl⟩) hHeld ?rest196
        (try simp only [Act.put, getElem_toArray, getElem_cons_succ, getElem_cons_zero]); (try simp only [setIfInBounds_toArray, set_cons_succ, set_cons_zero])
        refine wpAnyH_take (i := 45) (v := undef) rfl (by kernel_rfl) (by kernel_rfl) (by kernel_rfl) (fun _ _ _ h => h) (Or.inr ⟨by rfl, rfl⟩) hHeld ?rest197
        (try simp only [Act.put, getElem_toArray, getElem_cons_succ, getElem_cons_zero]); (try simp only [setIfInBounds_toArray, set_cons_succ, set_cons_zero])
        refine wpAnyH_take (i := 46) (v := undef) rfl (by kernel_rfl) (by kernel_rfl) (by kernel_rfl) (fun _ _ _ h => h) (Or.inr ⟨by rfl, rfl⟩) hHeld ?rest198
        (try simp only [Act.put, getElem_toArray, getElem_cons_succ, getElem_cons_zero]); (try simp only [setIfInBounds_toArray, set_cons_succ, set_cons_zero])
        refine wpAnyH_take (i := 47) (v := undef) rfl (by kernel_rfl) (by kernel_rfl) (by kernel_rfl) (fun _ _ _ h => h) (Or.inr ⟨by rfl, rfl⟩) hHeld ?rest199
        (try simp only [Act.put, getElem_toArray, getElem_cons_succ, getElem_cons_zero]); (try simp only [setIfInBounds_toArray, set_cons_succ, set_cons_zero])
        refine wpAnyH_take (i := 48) (v := ?v200) rfl (by kernel_rfl) (by kernel_rfl) (by kernel_rfl) (fun _ _ _ h => h) (Or.inl ⟨by rfl, ?hy200⟩) hHeld ?rest200
        case hy200 => (intro wz hSw; (try dsimp only at hSw); go_simp; (try with_reducible rfl))
        (try simp only [Act.put, getElem_toArray, getElem_cons_succ, getElem_cons_zero]); (try simp only [setIfInBounds_toArray, set_cons_succ, set_cons_zero])
        refine wpAnyH_done (by kernel_rfl) ?_ _
        have X9 := Lib.hid (And.left hHeld)
        clear hHeld hc0 hc1 hc2 hc3 hd1
        go_wp2
        go_ret
        exact ⟨ret_bool (HN.out (by rw [HSq.out]; exact fun h => HQ.out h.2.2.2.1)).symm, hE.out.trans X9.out⟩
      have hsn : (ri != r0) = false := by simpa using hr0
      have HR0 := Lib.hid hr0
      clear hr0
      by_cases h30 : ri ≤ 30
      case neg =>
        have hgn : decide (30 < ri) = true := by simp; omega
        have HQ := Lib.hid h30
        clear h30
        go_wp2_with fail
        refine wp_region_held_drew (S := (fun w' => Ext wr w' ∧ (∀ b o, b < wr.heap.size → w'.cell? ⟨b, o, none⟩ = wr.cell? ⟨b, o, none⟩))) (by kernel_rfl) (ext2 (Ext.refl wr).drew) (fun hHeld => ?_)
        refine wpAnyH_take (i := 0) (v := ?v201) rfl (by kernel_rfl) (by kernel_rfl) (by kernel_rfl) (fun _ _ _ h => h) (Or.inl ⟨by rfl, ?hy201⟩) hHeld ?rest201
        case hy201 => (intro wz hSw; (try dsimp only at hSw); go_simp; (try with_reducible rfl))
        (try simp only [Act.put, getElem_toArray, getElem_cons_succ, getElem_cons_zero]); (try simp only [setIfInBounds_toArray, set_cons_succ, set_cons_zero])
        refine wpAnyH_take (i := 1) (v := ?v202) rfl (by kernel_rfl) (by kernel_rfl) (by kernel_rfl) (fun _ _ _ h => h) (Or.inl ⟨by rfl, ?hy202⟩) hHeld ?rest202
        case hy202 => (intro wz hSw; (try dsimp only at hSw); go_simp; (try with_reducible rfl))
        (try simp only [Act.put, getElem_toArray, getElem_cons_succ, getElem_cons_zero]); (try simp only [setIfInBounds_toArray, set_cons_succ, set_cons_zero])
        refine wpAnyH_take (i := 2) (v := ?v203) rfl (by kernel_rfl) (by kernel_rfl) (by kernel_rfl) (fun _ _ _ h => h) (Or.inl ⟨by rfl, ?hy203⟩) hHeld ?rest203
        case hy203 => (intro wz hSw; (try dsimp only at hSw); go_simp; (try with_reducible rfl))
        (try simp only [Act.put, getElem_toArray, getElem_cons_succ, getElem_cons_zero]); (try simp only [setIfInBounds_toArray, set_cons_succ, set_cons_zero])
        refine wpAnyH_take (i := 3) (v := ?v204) rfl (by kernel_rfl) (by kernel_rfl) (by kernel_rfl) (fun _ _ _ h => h) (Or.inl ⟨by rfl, ?hy204⟩) hHeld ?rest204
        case hy204 => (intro wz hSw; (try dsimp only at hSw); go_simp; (try with_reducible rfl))
        (try simp only [Act.put, getElem_toArray, getElem_cons_succ, getElem_cons_zero]); (try simp only [setIfInBounds_toArray, set_cons_succ, set_cons_zero])
        refine wpAnyH_ready (rs := [4]) (by kernel_rfl) (by simp) ?_
        refine AllReadyH.cons rfl (fun K' hK => ?_) AllReadyH.nil
        go_simp
        refine (HC.out _ (And.left hHeld)).mono ?_
        rintro e w2 ⟨rfl, h2⟩
        have X2 := (And.left hHeld).trans h2
        dsimp only
        refine hK.out _ _ (ext2 X2) (fun hHeld => ?_)
        clear hK
        refine wpAnyH_take (i := 5) (v := ?v205) rfl (by kernel_rfl) (by kernel_rfl) (by kernel_rfl) (fun _ _ _ h => h) (Or.inl ⟨by rfl, ?hy205⟩) hHeld ?rest205
        case hy205 => (intro wz hSw; (try dsimp only at hSw); go_simp; (try with_reducible rfl))
        (try simp only [Act.put, getElem_toArray, getElem_cons_succ, getElem_cons_zero]); (try simp only [setIfInBounds_toArray, set_cons_succ, set_cons_zero])
        refine wpAnyH_take (i := 6) (v := ?v206) rfl (by kernel_rfl) (by kernel_rfl) (by kernel_rfl) (fun _ _ _ h => h) (Or.inl ⟨by rfl, ?hy206⟩) hHeld ?rest206
        case hy206 => (intro wz hSw; (try dsimp only at hSw); go_simp; (try with_reducible rfl))
        (try simp only [Act.put, getElem_toArray, getElem_cons_succ, getElem_cons_zero]); (try simp only [setIfInBounds_toArray, set_cons_succ, set_cons_zero])
        refine wpAnyH_take (i := 7) (v := ?v207) rfl (by kernel_rfl) (by kernel_rfl) (by kernel_rfl) (fun _ _ _ h => h) (Or.inl ⟨by rfl, ?hy207⟩) hHeld ?rest207
        case hy207 => (intro wz hSw; (try dsimp only at hSw); go_simp; (try with_reducible rfl))
        (try simp only [Act.put, getElem_toArray, getElem_cons_succ, getElem_cons_zero]); (try simp only [setIfInBounds_toArray, set_cons_succ, set_cons_zero])
        refine wpAnyH_take (i := 8) (v := ?v208) rfl (by kernel_rfl) (by kernel_rfl) (by kernel_rfl) (fun _ _ _ h => h) (Or.inl ⟨by rfl, ?hy208⟩) hHeld ?rest208
        case hy208 => (intro wz hSw; (try dsimp only at hSw); go_simp; (try with_reducible rfl))
        (try simp only [Act.put, getElem_toArray, getElem_cons_succ, getElem_cons_zero]); (try simp only [setIfInBounds_toArray, set_cons_succ, set_cons_zero])
        refine wpAnyH_take (i := 9) (v := ?v209) rfl (by kernel_rfl) (by kernel_rfl) (by kernel_rfl) (fun _ _ _ h => h) (Or.inl ⟨by rfl, ?hy209⟩) hHeld ?rest209
        case hy209 => (intro wz hSw; (try dsimp only at hSw); go_simp; (try with_reducible rfl))
        (try simp only [Act.put, getElem_toArray, getElem_cons_succ, getElem_cons_zero]); (try simp only [setIfInBounds_toArray, set_cons_succ, set_cons_zero])
        refine wpAnyH_take (i := 10) (v := ?v210) rfl (by kernel_rfl) (by kernel_rfl) (by kernel_rfl) (fun _ _ _ h => h) (Or.inl ⟨by rfl, ?hy210⟩) hHeld ?rest210
        case hy210 => (intro wz hSw; (try dsimp only at hSw); go_simp; (try with_reducible rfl))
        (try simp only [Act.put, getElem_toArray, getElem_cons_succ, getElem_cons_zero]); (try simp only [setIfInBounds_toArray, set_cons_succ, set_cons_zero])
        refine wpAnyH_take (i := 11) (v := ?v211) rfl (by kernel_rfl) (by kernel_rfl) (by kernel_rfl) (fun _ _ _ h => h) (Or.inl ⟨by rfl, ?hy211⟩) hHeld ?rest211
        case hy211 => (intro wz hSw; (try dsimp only at hSw); go_simp; (try with_reducible rfl))
        (try simp only [Act.put, getElem_toArray, getElem_cons_succ, getElem_cons_zero]); (try simp only [setIfInBounds_toArray, set_cons_succ, set_cons_zero])
        refine wpAnyH_take (i := 12) (v := ?v212) rfl (by kernel_rfl) (by kernel_rfl) (by kernel_rfl) (fun _ _ _ h => h) (Or.inl ⟨by rfl, ?hy212⟩) hHeld ?rest212
        case hy212 => (intro wz hSw; (try dsimp only at hSw); go_simp; (try with_reducible rfl))
        (try simp only [Act.put, getElem_toArray, getElem_cons_succ, getElem_cons_zero]); (try simp only [setIfInBounds_toArray, set_cons_succ, set_cons_zero])
        refine wpAnyH_take (i := 13) (v := ?v213) rfl (by kernel_rfl) (by kernel_rfl) (by kernel_rfl) (fun _ _ _ h => h) (Or.inl ⟨by rfl, ?hy213⟩) hHeld ?rest213
        case hy213 => (intro wz hSw; (try dsimp only at hSw); go_simp; (try with_reducible rfl))
        (try simp only [Act.put, getElem_toArray, getElem_cons_succ, getElem_cons_zero]); (try simp only [setIfInBounds_toArray, set_cons_succ, set_cons_zero])
        refine wpAnyH_take (i := 14) (v := ?v214) rfl (by kernel_rfl) (by kernel_rfl) (by kernel_rfl) (fun _ _ _ h => h) (Or.inl ⟨by rfl, ?hy214⟩) hHeld ?rest214
        case hy214 => (intro wz hSw; (try dsimp only at hSw); go_simp; (try with_reducible rfl))
        (try simp only [Act.put, getElem_toArray, getElem_cons_succ, getElem_cons_zero]); (try simp only [setIfInBounds_toArray, set_cons_succ, set_cons_zero])
        refine wpAnyH_take (i := 15) (v := ?v215) rfl (by kernel_rfl) (by kernel_rfl) (by kernel_rfl) (fun _ _ _ h => h) (Or.inl ⟨by rfl, ?hy215⟩) hHeld ?rest215
        case hy215 => (intro wz hSw; (try dsimp only at hSw); go_simp; (try with_reducible rfl))
        (try simp only [Act.put, getElem_toArray, getElem_cons_succ, getElem_cons_zero]); (try simp only [setIfInBounds_toArray, set_cons_succ, set_cons_zero])
        refine wpAnyH_take (i := 16) (v := ?v216) rfl (by kernel_rfl) (by kernel_rfl) (by kernel_rfl) (fun _ _ _ h => h) (Or.inl ⟨by rfl, ?hy216⟩) hHeld ?rest216
        case hy216 => (intro wz hSw; (try dsimp only at hSw); go_simp; (try with_reducible rfl))
        (try simp only [Act.put, getElem_toArray, getElem_cons_succ, getElem_cons_zero]); (try simp only [setIfInBounds_toArray, set_cons_succ, set_cons_zero])
        refine wpAnyH_take (i := 17) (v := ?v217) rfl (by kernel_rfl) (by kernel_rfl) (by kernel_rfl) (fun _ _ _ h => h) (Or.inl ⟨by rfl, ?hy217⟩) hHeld ?rest217
        case hy217 => (intro wz hSw; (try dsimp only at hSw); go_simp; (try with_reducible rfl))
        (try simp only [Act.put, getElem_toArray, getElem_cons_succ, getElem_cons_zero]); (try simp only [setIfInBounds_toArray, set_cons_succ, set_cons_zero])
        refine wpAnyH_take (i := 18) (v := ?v218) rfl (by kernel_rfl) (by kernel_rfl) (by kernel_rfl) (fun _ _ _ h => h) (Or.inl ⟨by rfl, ?hy218⟩) hHeld ?rest218
        case hy218 => (intro wz hSw; (try dsimp only at hSw); go_simp; (try with_reducible rfl))
        (try simp only [Act.put, getElem_toArray, getElem_cons_succ, getElem_cons_zero]); (try simp only [setIfInBounds_toArray, set_cons_succ, set_cons_zero])
        refine wpAnyH_take (i := 19) (v := ?v219) rfl (by kernel_rfl) (by kernel_rfl) (by kernel_rfl) (fun _ _ _ h => h) (Or.inl ⟨by rfl, ?hy219⟩) hHeld ?rest219
        case hy219 => (intro wz hSw; (try dsimp only at hSw); go_simp; (try with_reducible rfl))
        (try simp only [Act.put, getElem_toArray, getElem_cons_succ, getElem_cons_zero]); (try simp only [setIfInBounds_toArray, set_cons_succ, set_cons_zero])
        refine wpAnyH_take (i := 20) (v := ?v220) rfl (by kernel_rfl) (by kernel_rfl) (by kernel_rfl) (fun _ _ _ h => h) (Or.inl ⟨by rfl, ?hy220⟩) hHeld ?rest220
        case hy220 => (intro wz hSw; (try dsimp only at hSw); go_simp; (try with_reducible rfl))
        (try simp only [Act.put, getElem_toArray, getElem_cons_succ, getElem_cons_zero]); (try simp only [setIfInBounds_toArray, set_cons_succ, set_cons_zero])
        refine wpAnyH_take (i := 21) (v := ?v221) rfl (by kernel_rfl) (by kernel_rfl) (by kernel_rfl) (fun _ _ _ h => h) (Or.inl ⟨by rfl, ?hy221⟩) hHeld ?rest221
        case hy221 => (intro wz hSw; (try dsimp only at hSw); go_simp; (try with_reducible rfl))
        (try simp only [Act.put, getElem_toArray, getElem_cons_succ, getElem_cons_zero]); (try simp only [setIfInBounds_toArray, set_cons_succ, set_cons_zero])
        refine wpAnyH_take (i := 22) (v := ?v222) rfl (by kernel_rfl) (by kernel_rfl) (by kernel_rfl) (fun _ _ _ h => h) (Or.inl ⟨by rfl, ?hy222⟩) hHeld ?rest222
        case hy222 => (intro wz hSw; (try dsimp only at hSw); go_simp; (try with_reducible rfl))
        (try simp only [Act.put, getElem_toArray, getElem_cons_succ, getElem_cons_zero]); (try simp only [setIfInBounds_toArray, set_cons_succ, set_cons_zero])
        refine wpAnyH_take (i := 23) (v := ?v223) rfl (by kernel_rfl) (by kernel_rfl) (by kernel_rfl) (fun _ _ _ h => h) (Or.inl ⟨by rfl, ?hy223⟩) hHeld ?rest223
        case hy223 => (intro wz hSw; (try dsimp only at hSw); go_simp; (try with_reducible rfl))
        (try simp only [Act.put, getElem_toArray, getElem_cons_succ, getElem_cons_zero]); (try simp only [setIfInBounds_toArray, set_cons_succ, set_cons_zero])
        refine wpAnyH_take (i := 24) (v := ?v224) rfl (by kernel_rfl) (by kernel_rfl) (by kernel_rfl) (fun _ _ _ h => h) (Or.inl ⟨by rfl, ?hy224⟩) hHeld ?rest224
        case hy224 => (intro wz hSw; (try dsimp only at hSw); go_simp; (try with_reducible rfl))
        (try simp only [Act.put, getElem_toArray, getElem_cons_succ, getElem_cons_zero]); (try simp only [setIfInBounds_toArray, set_cons_succ, set_cons_zero])
        refine wpAnyH_take (i := 25) (v := ?v225) rfl (by kernel_rfl) (by kernel_rfl) (by kernel_rfl) (fun _ _ _ h => h) (Or.inl ⟨by rfl, ?hy225⟩) hHeld ?rest225
        case hy225 => (intro wz hSw; (try dsimp only at hSw); go_simp; (try with_reducible rfl))
        (try simp only [Act.put, getElem_toArray, getElem_cons_succ, getElem_cons_zero]); (try simp only [setIfInBounds_toArray, set_cons_succ, set_cons_zero])
        refine wpAnyH_take (i := 26) (v := ?v226) rfl (by kernel_rfl) (by kernel_rfl) (by kernel_rfl) (fun _ _ _ h => h) (Or.inl ⟨by rfl, ?hy226⟩) hHeld ?rest226
        case hy226 => (intro wz hSw; (try dsimp only at hSw); go_simp; (try with_reducible rfl))
        (try simp only [Act.put, getElem_toArray, getElem_cons_succ, getElem_cons_zero]); (try simp only [setIfInBounds_toArray, set_cons_succ, set_cons_zero])
        refine wpAnyH_take (i := 27) (v := ?v227) rfl (by kernel_rfl) (by kernel_rfl) (by kernel_rfl) (fun _ _ _ h => h) (Or.inl ⟨by rfl, ?hy227⟩) hHeld ?rest227
        case hy227 => (intro wz hSw; (try dsimp only at hSw); go_simp; (try with_reducible rfl))
        (try simp only [Act.put, getElem_toArray, getElem_cons_succ, getElem_cons_zero]); (try simp only [setIfInBounds_toArray, set_cons_succ, set_cons_zero])
        refine wpAnyH_take (i := 28) (v := ?v228) rfl (by kernel_rfl) (by kernel_rfl) (by kernel_rfl) (fun _ _ _ h => h) (Or.inl ⟨by rfl, ?hy228⟩) hHeld ?rest228
        case hy228 => (intro wz hSw; (try dsimp only at hSw); go_simp; (try with_reducible rfl))
        (try simp only [Act.put, getElem_toArray, getElem_cons_succ, getElem_cons_zero]); (try simp only [setIfInBounds_toArray, set_cons_succ, set_cons_zero])
        refine wpAnyH_take (i := 29) (v := ?v229) rfl (by kernel_rfl) (by kernel_rfl) (by kernel_rfl) (fun _ _ _ h => h) (Or.inl ⟨by rfl, ?hy229⟩) hHeld ?rest229
        case hy229 => (intro wz hSw; (try dsimp only at hSw); go_simp; (try with_reducible rfl))
        (try simp only [Act.put, getElem_toArray, getElem_cons_succ, getElem_cons_zero]); (try simp only [setIfInBounds_toArray, set_cons_succ, set_cons_zero])
        refine wpAnyH_take (i := 30) (v := ?v230) rfl (by kernel_rfl) (by kernel_rfl) (by kernel_rfl) (fun _ _ _ h => h) (Or.inl ⟨by rfl, ?hy230⟩) hHeld ?rest230
        case hy230 => (intro wz hSw; (try dsimp only at hSw); go_simp; (try with_reducible rfl))
        (try simp only [Act.put, getElem_toArray, getElem_cons_succ, getElem_cons_zero]); (try simp only [setIfInBounds_toArray, set_cons_succ, set_cons_zero])
        refine wpAnyH_take (i := 31) (v := ?v231) rfl (by kernel_rfl) (by kernel_rfl) (by kernel_rfl) (fun _ _ _ h => h) (Or.inl ⟨by rfl, ?hy231⟩) hHeld ?rest231
        case hy231 => (intro wz hSw; (try dsimp only at hSw); go_simp; (try with_reducible rfl))
        (try simp only [Act.put, getElem_toArray, getElem_cons_succ, getElem_cons_zero]); (try simp only [setIfInBounds_toArray, set_cons_succ, set_cons_zero])
        refine wpAnyH_take (i := 32) (v := ?v232) rfl (by kernel_rfl) (by kernel_rfl) (by kernel_rfl) (fun _ _ _ h => h) (Or.inl ⟨by rfl, ?hy232⟩) hHeld ?rest232
        case hy232 => (intro wz hSw; (try dsimp only at hSw); go_simp; (try with_reducible rfl))
        (try simp only [Act.put, getElem_toArray, getElem_cons_succ, getElem_cons_zero]); (try simp only [setIfInBounds_toArray, set_cons_succ, set_cons_zero])
        refine wpAnyH_take (i := 33) (v := ?v233) rfl (by kernel_rfl) (by kernel_rfl) (by kernel_rfl) (fun _ _ _ h => h) (Or.inl ⟨by rfl, ?hy233⟩) hHeld ?rest233
        case hy233 => (intro wz hSw; (try dsimp only at hSw); go_simp; (try with_reducible rfl))
        (try simp only [Act.put, getElem_toArray, getElem_cons_succ, getElem_cons_zero]); (try simp only [setIfInBounds_toArray, set_cons_succ, set_cons_zero])
        refine wpAnyH_take (i := 34) (v := ?v234) rfl (by kernel_rfl) (by kernel_rfl) (by kernel_rfl) (fun _ _ _ h => h) (Or.inl ⟨by rfl, ?hy234⟩) hHeld ?rest234
        case hy234 => (intro wz hSw; (try dsimp only at hSw); go_simp; (try with_reducible rfl))
        (try simp only [Act.put, getElem_toArray, getElem_cons_succ, getElem_cons_zero]); (try simp only [setIfInBounds_toArray, set_cons_succ, set_cons_zero])
        refine wpAnyH_take (i := 35) (v := ?v235) rfl (by kernel_rfl) (by kernel_rfl) (by kernel_rfl) (fun _ _ _ h => h) (Or.inl ⟨by rfl, ?hy235⟩) hHeld ?rest235
        case hy235 => (intro wz hSw; (try dsimp only at hSw); go_simp; (try with_reducible rfl))
        (try simp only [Act.put, getElem_toArray, getElem_cons_succ, getElem_cons_zero]); (try simp only [setIfInBounds_toArray, set_cons_succ, set_cons_zero])
        refine wpAnyH_take (i := 36) (v := ?v236) rfl (by kernel_rfl) (by kernel_rfl) (by kernel_rfl) (fun _ _ _ h => h) (Or.inl ⟨by rfl, ?hy236⟩) hHeld ?rest236
        case hy236 => (intro wz hSw; (try dsimp only at hSw); go_simp; (try with_reducible rfl))
        (try simp only [Act.put, getElem_toArray, getElem_cons_succ, getElem_cons_zero]); (try simp only [setIfInBounds_toArray, set_cons_succ, set_cons_zero])
        refine wpAnyH_take (i := 37) (v := ?v237) rfl (by kernel_rfl) (by kernel_rfl) (by kernel_rfl) (fun _ _ _ h => h) (Or.inl ⟨by rfl, ?hy237⟩) hHeld ?rest237
        case hy237 => (intro wz hSw; (try dsimp only at hSw); go_simp; (try with_reducible rfl))
        (try simp only [Act.put, getElem_toArray, getElem_cons_succ, getElem_cons_zero]); (try simp only [setIfInBounds_toArray, set_cons_succ, set_cons_zero])
        refine wpAnyH_take (i := 38) (v := ?v238) rfl (by kernel_rfl) (by kernel_rfl) (by kernel_rfl) (fun _ _ _ h => h) (Or.inl ⟨by rfl, ?hy238⟩) hHeld ?rest238
        case hy238 => (intro wz hSw; (try dsimp only at hSw); go_simp; (try with_reducible rfl))
        (try simp only [Act.put, getElem_toArray, getElem_cons_succ, getElem_cons_zero]); (try simp only [setIfInBounds_toArray, set_cons_succ, set_cons_zero])
        refine wpAnyH_take (i := 39) (v := ?v239) rfl (by kernel_rfl) (by kernel_rfl) (by kernel_rfl) (fun _ _ _ h => h) (Or.inl ⟨by rfl, ?hy239⟩) hHeld ?rest239
        case hy239 => (intro wz hSw; (try dsimp only at hSw); go_simp; (try with_reducible rfl))
        (try simp only [Act.put, getElem_toArray, getElem_cons_succ, getElem_cons_zero]); (try simp only [setIfInBounds_toArray, set_cons_succ, set_cons_zero])
        refine wpAnyH_take (i := 40) (v := ?v240) rfl (by kernel_rfl) (by kernel_rfl) (by kernel_rfl) (fun _ _ _ h => h) (Or.inl ⟨by rfl, ?hy240⟩) hHeld ?rest240
        case hy240 => (intro wz hSw; (try dsimp only at hSw); go_simp; (try with_reducible rfl))
        (try simp only [Act.put, getElem_toArray, getElem_cons_succ, getElem_cons_zero]); (try simp only [setIfInBounds_toArray, set_cons_succ, set_cons_zero])
        refine wpAnyH_take (i := 41) (v := ?v241) rfl (by kernel_rfl) (by kernel_rfl) (by kernel_rfl) (fun _ _ _ h => h) (Or.inl ⟨by rfl, ?hy241⟩) hHeld ?rest241
        case hy241 => (intro wz hSw; (try dsimp only at hSw); go_simp; (try with_reducible rfl))
        (try simp only [Act.put, getElem_toArray, getElem_cons_succ, getElem_cons_zero]); (try simp only [setIfInBounds_toArray, set_cons_succ, set_cons_zero])
        refine wpAnyH_take (i := 42) (v := ?v242) rfl (by kernel_rfl) (by kernel_rfl) (by kernel_rfl) (fun _ _ _ h => h) (Or.inl ⟨by rfl, ?hy242⟩) hHeld ?rest242
        case hy242 => (intro wz hSw; (try dsimp only at hSw); go_simp; (try with_reducible rfl))
        (try simp only [Act.put, getElem_toArray, getElem_cons_succ, getElem_cons_zero]); (try simp only [setIfInBounds_toArray, set_cons_succ, set_cons_zero])
        refine wpAnyH_take (i := 43) (v := ?v243) rfl (by kernel_rfl) (by kernel_rfl) (by kernel_rfl) (fun _ _ _ h => h) (Or.inl ⟨by rfl, ?hy243⟩) hHeld ?rest243
        case hy243 => (intro wz hSw; (try dsimp only at hSw); go_simp; (try with_reducible rfl))
        (try simp only [Act.put, getElem_toArray, getElem_cons_succ, getElem_cons_zero]); (try simp only [setIfInBounds_toArray, set_cons_succ, set_cons_zero])
        refine wpAnyH_take (i := 44) (v := ?v244) rfl (by kernel_rfl) (by kernel_rfl) (by kernel_rfl) (fun _ _ _ h => h) (Or.inl ⟨by rfl, ?hy244⟩) hHeld ?rest244
        case hy244 => (intro wz hSw; (try dsimp only at hSw); go_simp; (try with_reducible rfl))
        (try simp only [Act.put, getElem_toArray, getElem_cons_succ, getElem_cons_zero]); (try simp only [setIfInBounds_toArray, set_cons_succ, set_cons_zero])
        refine wpAnyH_take (i := 45) (v := ?v245) rfl (by kernel_rfl) (by kernel_rfl) (by kernel_rfl) (fun _ _ _ h => h) (Or.inl ⟨by rfl, ?hy245⟩) hHeld ?rest245
        case hy245 => (intro wz hSw; (try dsimp only at hSw); go_simp; (try with_reducible rfl))
        (try simp only [Act.put, getElem_toArray, getElem_cons_succ, getElem_cons_zero]); (try simp only [setIfInBounds_toArray, set_cons_succ, set_cons_zero])
        refine wpAnyH_take (i := 46) (v := ?v246) rfl (by kernel_rfl) (by kernel_rfl) (by kernel_rfl) (fun _ _ _ h => h) (Or.inl ⟨by rfl, ?hy246⟩) hHeld ?rest246
        case hy246 => (intro wz hSw; (try dsimp only at hSw); go_simp; (try with_reducible rfl))
        (try simp only [Act.put, getElem_toArray, getElem_cons_succ, getElem_cons_zero]); (try simp only [setIfInBounds_toArray, set_cons_succ, set_cons_zero])
        refine wpAnyH_take (i := 47) (v := ?v247) rfl (by kernel_rfl) (by kernel_rfl) (by kernel_rfl) (fun _ _ _ h => h) (Or.inl ⟨by rfl, ?hy247⟩) hHeld ?rest247
        case hy247 => (intro wz hSw; (try dsimp only at hSw); go_simp; (try with_reducible rfl))
        (try simp only [Act.put, getElem_toArray, getElem_cons_succ, getElem_cons_zero]); (try simp only [setIfInBounds_toArray, set_cons_succ, set_cons_zero])
        refine wpAnyH_take (i := 48) (v := ?v248) rfl (by kernel_rfl) (by kernel_rfl) (by kernel_rfl) (fun _ _ _ h => h) (Or.inl ⟨by rfl, ?hy248⟩) hHeld ?rest248
        case hy248 => (intro wz hSw; (try dsimp only at hSw); go_simp; (try with_reducible rfl))
        (try simp only [Act.put, getElem_toArray, getElem_cons_succ, getElem_cons_zero]); (try simp only [setIfInBounds_toArray, set_cons_succ, set_cons_zero])
        refine wpAnyH_done (by kernel_rfl) ?_ _
        have X9 := Lib.hid (And.left hHeld)
        clear hHeld hc0 hc1 hc2 hc3 hd1
        go_wp2
        go_ret
        exact ⟨ret_bool (HN.out (by rw [HSq.out]; exact fun h => absurd h.2.2.2.2 (by have := HQ.out; omega))).symm, hE.out.trans X9.out⟩
      case pos =>
        have hgn : decide (30 < ri) = false := by simp; omega
        have HQ := Lib.hid h30
        clear h30
        go_wp2_with fail
        refine wp_region_held_drew (S := (fun w' => Ext wr w' ∧ (∀ b o, b < wr.heap.size → w'.cell? ⟨b, o, none⟩ = wr.cell? ⟨b, o, none⟩))) (by kernel_rfl) (ext2 (Ext.refl wr).drew) (fun hHeld => ?_)
        refine wpAnyH_take (i := 0) (v := ?v249) rfl (by kernel_rfl) (by kernel_rfl) (by kernel_rfl) (fun _ _ _ h => h) (Or.inl ⟨by rfl, ?hy249⟩) hHeld ?rest249
        case hy249 => (intro wz hSw; (try dsimp only at hSw); go_simp; (try with_reducible rfl))
        (try simp only [Act.put, getElem_toArray, getElem_cons_succ, getElem_cons_zero]); (try simp only [setIfInBounds_toArray, set_cons_succ, set_cons_zero])
        refine wpAnyH_take (i := 1) (v := ?v250) rfl (by kernel_rfl) (by kernel_rfl) (by kernel_rfl) (fun _ _ _ h => h) (Or.inl ⟨by rfl, ?hy250⟩) hHeld ?rest250
        case hy250 => (intro wz hSw; (try dsimp only at hSw); go_simp; (try with_reducible rfl))
        (try simp only [Act.put, getElem_toArray, getElem_cons_succ, getElem_cons_zero]); (try simp only [setIfInBounds_toArray, set_cons_succ, set_cons_zero])
        refine wpAnyH_take (i := 2) (v := ?v251) rfl (by kernel_rfl) (by kernel_rfl) (by kernel_rfl) (fun _ _ _ h => h) (Or.inl ⟨by rfl, ?hy251⟩) hHeld ?rest251
        case hy251 => (intro wz hSw; (try dsimp only at hSw); go_simp; (try with_reducible rfl))
        (try simp only [Act.put, getElem_toArray, getElem_cons_succ, getElem_cons_zero]); (try simp only [setIfInBounds_toArray, set_cons_succ, set_cons_zero])
        refine wpAnyH_take (i := 3) (v := ?v252) rfl (by kernel_rfl) (by kernel_rfl) (by kernel_rfl) (fun _ _ _ h => h) (Or.inl ⟨by rfl, ?hy252⟩) hHeld ?rest252
        case hy252 => (intro wz hSw; (try dsimp only at hSw); go_simp; (try with_reducible rfl))
        (try simp only [Act.put, getElem_toArray, getElem_cons_succ, getElem_cons_zero]); (try simp only [setIfInBounds_toArray, set_cons_succ, set_cons_zero])
        refine wpAnyH_ready (rs := [4]) (by kernel_rfl) (by simp) ?_
        refine AllReadyH.cons rfl (fun K' hK => ?_) AllReadyH.nil
        go_simp
        refine (HC.out _ (And.left hHeld)).mono ?_
        rintro e w2 ⟨rfl, h2⟩
        have X2 := (And.left hHeld).trans h2
        dsimp only
        refine hK.out _ _ (ext2 X2) (fun hHeld => ?_)
        clear hK
        refine wpAnyH_take (i := 5) (v := ?v253) rfl (by kernel_rfl) (by kernel_rfl) (by kernel_rfl) (fun _ _ _ h => h) (Or.inl ⟨by rfl, ?hy253⟩) hHeld ?rest253
        case hy253 => (intro wz hSw; (try dsimp only at hSw); go_simp; (try with_reducible rfl))
        (try simp only [Act.put, getElem_toArray, getElem_cons_succ, getElem_cons_zero]); (try simp only [setIfInBounds_toArray, set_cons_succ, set_cons_zero])
        refine wpAnyH_take (i := 6) (v := ?v254) rfl (by kernel_rfl) (by kernel_rfl) (by kernel_rfl) (fun _ _ _ h => h) (Or.inl ⟨by rfl, ?hy254⟩) hHeld ?rest254
        case hy254 => (intro wz hSw; (try dsimp only at hSw); go_simp; (try with_reducible rfl))
        (try simp only [Act.put, getElem_toArray, getElem_cons_succ, getElem_cons_zero]); (try simp only [setIfInBounds_toArray, set_cons_succ, set_cons_zero])
        refine wpAnyH_take (i := 7) (v := ?v255) rfl (by kernel_rfl) (by kernel_rfl) (by kernel_rfl) (fun _ _ _ h => h) (Or.inl ⟨by rfl, ?hy255⟩) hHeld ?rest255
        case hy255 => (intro wz hSw; (try dsimp only at hSw); go_simp; (try with_reducible rfl))
        (try simp only [Act.put, getElem_toArray, getElem_cons_succ, getElem_cons_zero]); (try simp only [setIfInBounds_toArray, set_cons_succ, set_cons_zero])
        refine wpAnyH_take (i := 8) (v := ?v256) rfl (by kernel_rfl) (by kernel_rfl) (by kernel_rfl) (fun _ _ _ h => h) (Or.inl ⟨by rfl, ?hy256⟩) hHeld ?rest256
        case hy256 => (intro wz hSw; (try dsimp only at hSw); go_simp; (try with_reducible rfl))
        (try simp only [Act.put, getElem_toArray, getElem_cons_succ, getElem_cons_zero]); (try simp only [setIfInBounds_toArray, set_cons_succ, set_cons_zero])
        refine wpAnyH_take (i := 9) (v := ?v257) rfl (by kernel_rfl) (by kernel_rfl) (by kernel_rfl) (fun _ _ _ h => h) (Or.inl ⟨by rfl, ?hy257⟩) hHeld ?rest257
        case hy257 => (intro wz hSw; (try dsimp only at hSw); go_simp; (try with_reducible rfl))
        (try simp only [Act.put, getElem_toArray, getElem_cons_succ, getElem_cons_zero]); (try simp only [setIfInBounds_toArray, set_cons_succ, set_cons_zero])
        refine wpAnyH_take (i := 10) (v := ?v258) rfl (by kernel_rfl) (by kernel_rfl) (by kernel_rfl) (fun _ _ _ h => h) (Or.inl ⟨by rfl, ?hy258⟩) hHeld ?rest258
        case hy258 => (intro wz hSw; (try dsimp only at hSw); go_simp; (try with_reducible rfl))
        (try simp only [Act.put, getElem_toArray, getElem_cons_succ, getElem_cons_zero]); (try simp only [setIfInBounds_toArray, set_cons_succ, set_cons_zero])
        refine wpAnyH_take (i := 11) (v := ?v259) rfl (by kernel_rfl) (by kernel_rfl) (by kernel_rfl) (fun _ _ _ h => h) (Or.inl ⟨by rfl, ?hy259⟩) hHeld ?rest259
        case hy259 => (intro wz hSw; (try dsimp only at hSw); go_simp; (try with_reducible rfl))
        (try simp only [Act.put, getElem_toArray, getElem_cons_succ, getElem_cons_zero]); (try simp only [setIfInBounds_toArray, set_cons_succ, set_cons_zero])
        refine wpAnyH_take (i := 12) (v := ?v260) rfl (by kernel_rfl) (by kernel_rfl) (by kernel_rfl) (fun _ _ _ h => h) (Or.inl ⟨by rfl, ?hy260⟩) hHeld ?rest260
        case hy260 => (intro wz hSw; (try dsimp only at hSw); go_simp; (try with_reducible rfl))
        (try simp only [Act.put, getElem_toArray, getElem_cons_succ, getElem_cons_zero]); (try simp only [setIfInBounds_toArray, set_cons_succ, set_cons_zero])
        refine wpAnyH_take (i := 13) (v := ?v261) rfl (by kernel_rfl) (by kernel_rfl) (by kernel_rfl) (fun _ _ _ h => h) (Or.inl ⟨by rfl, ?hy261⟩) hHeld ?rest261
        case hy261 => (intro wz hSw; (try dsimp only at hSw); go_simp; (try with_reducible rfl))
        (try simp only [Act.put, getElem_toArray, getElem_cons_succ, getElem_cons_zero]); (try simp only [setIfInBounds_toArray, set_cons_succ, set_cons_zero])
        refine wpAnyH_take (i := 14) (v := ?v262) rfl (by kernel_rfl) (by kernel_rfl) (by kernel_rfl) (fun _ _ _ h => h) (Or.inl ⟨by rfl, ?hy262⟩) hHeld ?rest262
        case hy262 => (intro wz hSw; (try dsimp only at hSw); go_simp; (try with_reducible rfl))
        (try simp only [Act.put, getElem_toArray, getElem_cons_succ, getElem_cons_zero]); (try simp only [setIfInBounds_toArray, set_cons_succ, set_cons_zero])
        refine wpAnyH_take (i := 15) (v := ?v263) rfl (by kernel_rfl) (by kernel_rfl) (by kernel_rfl) (fun _ _ _ h => h) (Or.inl ⟨by rfl, ?hy263⟩) hHeld ?rest263
        case hy263 => (intro wz hSw; (try dsimp only at hSw); go_simp; (try with_reducible rfl))
        (try simp only [Act.put, getElem_toArray, getElem_cons_succ, getElem_cons_zero]); (try simp only [setIfInBounds_toArray, set_cons_succ, set_cons_zero])
        refine wpAnyH_take (i := 16) (v := ?v264) rfl (by kernel_rfl) (by kernel_rfl) (by kernel_rfl) (fun _ _ _ h => h) (Or.inl ⟨by rfl, ?hy264⟩) hHeld ?rest264
        case hy264 => (intro wz hSw; (try dsimp only at hSw); go_simp; (try with_reducible rfl))
        (try simp only [Act.put, getElem_toArray, getElem_cons_succ, getElem_cons_zero]); (try simp only [setIfInBounds_toArray, set_cons_succ, set_cons_zero])
        refine wpAnyH_take (i := 17) (v := ?v265) rfl (by kernel_rfl) (by kernel_rfl) (by kernel_rfl) (fun _ _ _ h => h) (Or.inl ⟨by rfl, ?hy265⟩) hHeld ?rest265
        case hy265 => (intro wz hSw; (try dsimp only at hSw); go_simp; (try with_reducible rfl))
        (try simp only [Act.put, getElem_toArray, getElem_cons_succ, getElem_cons_zero]); (try simp only [setIfInBounds_toArray, set_cons_succ, set_cons_zero])
        refine wpAnyH_take (i := 18) (v := ?v266) rfl (by kernel_rfl) (by kernel_rfl) (by kernel_rfl) (fun _ _ _ h => h) (Or.inl ⟨by rfl, ?hy266⟩) hHeld ?rest266
        case hy266 => (intro wz hSw; (try dsimp only at hSw); go_simp; (try with_reducible rfl))
        (try simp only [Act.put, getElem_toArray, getElem_cons_succ, getElem_cons_zero]); (try simp only [setIfInBounds_toArray, set_cons_succ, set_cons_zero])
        refine wpAnyH_take (i := 19) (v := ?v267) rfl (by kernel_rfl) (by kernel_rfl) (by kernel_rfl) (fun _ _ _ h => h) (Or.inl ⟨by rfl, ?hy267⟩) hHeld ?rest267
        case hy267 => (intro wz hSw; (try dsimp only at hSw); go_simp; (try with_reducible rfl))
        (try simp only [Act.put, getElem_toArray, getElem_cons_succ, getElem_cons_zero]); (try simp only [setIfInBounds_toArray, set_cons_succ, set_cons_zero])
        refine wpAnyH_take (i := 20) (v := ?v268) rfl (by kernel_rfl) (by kernel_rfl) (by kernel_rfl) (fun _ _ _ h => h) (Or.inl ⟨by rfl, ?hy268⟩) hHeld ?rest268
        case hy268 => (intro wz hSw; (try dsimp only at hSw); go_simp; (try with_reducible rfl))
        (try simp only [Act.put, getElem_toArray, getElem_cons_succ, getElem_cons_zero]); (try simp only [setIfInBounds_toArray, set_cons_succ, set_cons_zero])
        refine wpAnyH_take (i := 21) (v := ?v269) rfl (by kernel_rfl) (by kernel_rfl) (by kernel_rfl) (fun _ _ _ h => h) (Or.inl ⟨by rfl, ?hy269⟩) hHeld ?rest269
        case hy269 => (intro wz hSw; (try dsimp only at hSw); go_simp; (try with_reducible rfl))
        (try simp only [Act.put, getElem_toArray, getElem_cons_succ, getElem_cons_zero]); (try simp only [setIfInBounds_toArray, set_cons_succ, set_cons_zero])
        refine wpAnyH_take (i := 22) (v := ?v270) rfl (by kernel_rfl) (by kernel_rfl) (by kernel_rfl) (fun _ _ _ h => h) (Or.inl ⟨by rfl, ?hy270⟩) hHeld ?rest270
        case hy270 => (intro wz hSw; (try dsimp only at hSw); go_simp; (try with_reducible rfl))
        (try simp only [Act.put, getElem_toArray, getElem_cons_succ, getElem_cons_zero]); (try simp only [setIfInBounds_toArray, set_cons_succ, set_cons_zero])
        refine wpAnyH_take (i := 23) (v := ?v271) rfl (by kernel_rfl) (by kernel_rfl) (by kernel_rfl) (fun _ _ _ h => h) (Or.inl ⟨by rfl, ?hy271⟩) hHeld ?rest271
        case hy271 => (intro wz hSw; (try dsimp only at hSw); go_simp; (try with_reducible rfl))
        (try simp only [Act.put, getElem_toArray, getElem_cons_succ, getElem_cons_zero]); (try simp only [setIfInBounds_toArray, set_cons_succ, set_cons_zero])
        refine wpAnyH_take (i := 24) (v := ?v272) rfl (by kernel_rfl) (by kernel_rfl) (by kernel_rfl) (fun _ _ _ h => h) (Or.inl ⟨by rfl, ?hy272⟩) hHeld ?rest272
        case hy272 => (intro wz hSw; (try dsimp only at hSw); go_simp; (try with_reducible rfl))
        (try simp only [Act.put, getElem_toArray, getElem_cons_succ, getElem_cons_zero]); (try simp only [setIfInBounds_toArray, set_cons_succ, set_cons_zero])
        refine wpAnyH_take (i := 25) (v := ?v273) rfl (by kernel_rfl) (by kernel_rfl) (by kernel_rfl) (fun _ _ _ h => h) (Or.inl ⟨by rfl, ?hy273⟩) hHeld ?rest273
        case hy273 => (intro wz hSw; (try dsimp only at hSw); go_simp; (try with_reducible rfl))
        (try simp only [Act.put, getElem_toArray, getElem_cons_succ, getElem_cons_zero]); (try simp only [setIfInBounds_toArray, set_cons_succ, set_cons_zero])
        refine wpAnyH_take (i := 26) (v := ?v274) rfl (by kernel_rfl) (by kernel_rfl) (by kernel_rfl) (fun _ _ _ h => h) (Or.inl ⟨by rfl, ?hy274⟩) hHeld ?rest274
        case hy274 => (intro wz hSw; (try dsimp only at hSw); go_simp; (try with_reducible rfl))
        (try simp only [Act.put, getElem_toArray, getElem_cons_succ, getElem_cons_zero]); (try simp only [setIfInBounds_toArray, set_cons_succ, set_cons_zero])
        refine wpAnyH_take (i := 27) (v := ?v275) rfl (by kernel_rfl) (by kernel_rfl) (by kernel_rfl) (fun _ _ _ h => h) (Or.inl ⟨by rfl, ?hy275⟩) hHeld ?rest275
        case hy275 => (intro wz hSw; (try dsimp only at hSw); go_simp; (try with_reducible rfl))
        (try simp only [Act.put, getElem_toArray, getElem_cons_succ, getElem_cons_zero]); (try simp only [setIfInBounds_toArray, set_cons_succ, set_cons_zero])
        refine wpAnyH_take (i := 28) (v := ?v276) rfl (by kernel_rfl) (by kernel_rfl) (by kernel_rfl) (fun _ _ _ h => h) (Or.inl ⟨by rfl, ?hy276⟩) hHeld ?rest276
        case hy276 => (intro wz hSw; (try dsimp only at hSw); go_simp; (try with_reducible rfl))
        (try simp only [Act.put, getElem_toArray, getElem_cons_succ, getElem_cons_zero]); (try simp only [setIfInBounds_toArray, set_cons_succ, set_cons_zero])
        refine wpAnyH_take (i := 29) (v := ?v277) rfl (by kernel_rfl) (by kernel_rfl) (by kernel_rfl) (fun _ _ _ h => h) (Or.inl ⟨by rfl, ?hy277⟩) hHeld ?rest277
        case hy277 => (intro wz hSw; (try dsimp only at hSw); go_simp; (try with_reducible rfl))
        (try simp only [Act.put, getElem_toArray, getElem_cons_succ, getElem_cons_zero]); (try simp only [setIfInBounds_toArray, set_cons_succ, set_cons_zero])
        refine wpAnyH_take (i := 30) (v := ?v278) rfl (by kernel_rfl) (by kernel_rfl) (by kernel_rfl) (fun _ _ _ h => h) (Or.inl ⟨by rfl, ?hy278⟩) hHeld ?rest278
        case hy278 => (intro wz hSw; (try dsimp only at hSw); go_simp; (try with_reducible rfl))
        (try simp only [Act.put, getElem_toArray, getElem_cons_succ, getElem_cons_zero]); (try simp only [setIfInBounds_toArray, set_cons_succ, set_cons_zero])
        refine wpAnyH_take (i := 31) (v := ?v279) rfl (by kernel_rfl) (by kernel_rfl) (by kernel_rfl) (fun _ _ _ h => h) (Or.inl ⟨by rfl, ?hy279⟩) hHeld ?rest279
        case hy279 => (intro wz hSw; (try dsimp only at hSw); go_simp; (try with_reducible rfl))
        (try simp only [Act.put, getElem_toArray, getElem_cons_succ, getElem_cons_zero]); (try simp only [setIfInBounds_toArray, set_cons_succ, set_cons_zero])
        refine wpAnyH_take (i := 32) (v := ?v280) rfl (by kernel_rfl) (by kernel_rfl) (by kernel_rfl) (fun _ _ _ h => h) (Or.inl ⟨by rfl, ?hy280⟩) hHeld ?rest280
        case hy280 => (intro wz hSw; (try dsimp only at hSw); go_simp; (try with_reducible rfl))
        (try simp only [Act.put, getElem_toArray, getElem_cons_succ, getElem_cons_zero]); (try simp only [setIfInBounds_toArray, set_cons_succ, set_cons_zero])
        refine wpAnyH_take (i := 33) (v := ?v281) rfl (by kernel_rfl) (by kernel_rfl) (by kernel_rfl) (fun _ _ _ h => h) (Or.inl ⟨by rfl, ?hy281⟩) hHeld ?rest281
        case hy281 => (intro wz hSw; (try dsimp only at hSw); go_simp; (try with_reducible rfl))
        (try simp only [Act.put, getElem_toArray, getElem_cons_succ, getElem_cons_zero]); (try simp only [setIfInBounds_toArray, set_cons_succ, set_cons_zero])
        refine wpAnyH_take (i := 34) (v := ?v282) rfl (by kernel_rfl) (by kernel_rfl) (by kernel_rfl) (fun _ _ _ h => h) (Or.inl ⟨by rfl, ?hy282⟩) hHeld ?rest282
        case hy282 => (intro wz hSw; (try dsimp only at hSw); go_simp; (try with_reducible rfl))
        (try simp only [Act.put, getElem_toArray, getElem_cons_succ, getElem_cons_zero]); (try simp only [setIfInBounds_toArray, set_cons_succ, set_cons_zero])
        refine wpAnyH_take (i := 35) (v := ?v283) rfl (by kernel_rfl) (by kernel_rfl) (by kernel_rfl) (fun _ _ _ h => h) (Or.inl ⟨by rfl, ?hy283⟩) hHeld ?rest283
        case hy283 => (intro wz hSw; (try dsimp only at hSw); go_simp; (try with_reducible rfl))
        (try simp only [Act.put, getElem_toArray, getElem_cons_succ, getElem_cons_zero]); (try simp only [setIfInBounds_toArray, set_cons_succ, set_cons_zero])
        refine wpAnyH_take (i := 36) (v := ?v284) rfl (by kernel_rfl) (by kernel_rfl) (by kernel_rfl) (fun _ _ _ h => h) (Or.inl ⟨by rfl, ?hy284⟩) hHeld ?rest284
        case hy284 => (intro wz hSw; (try dsimp only at hSw); go_simp; (try with_reducible rfl))
        (try simp only [Act.put, getElem_toArray, getElem_cons_succ, getElem_cons_zero]); (try simp only [setIfInBounds_toArray, set_cons_succ, set_cons_zero])
        refine wpAnyH_take (i := 37) (v := ?v285) rfl (by kernel_rfl) (by kernel_rfl) (by kernel_rfl) (fun _ _ _ h => h) (Or.inl ⟨by rfl, ?hy285⟩) hHeld ?rest285
        case hy285 => (intro wz hSw; (try dsimp only at hSw); go_simp; (try with_reducible rfl))
        (try simp only [Act.put, getElem_toArray, getElem_cons_succ, getElem_cons_zero]); (try simp only [setIfInBounds_toArray, set_cons_succ, set_cons_zero])
        refine wpAnyH_take (i := 38) (v := ?v286) rfl (by kernel_rfl) (by kernel_rfl) (by kernel_rfl) (fun _ _ _ h => h) (Or.inl ⟨by rfl, ?hy286⟩) hHeld ?rest286
        case hy286 => (intro wz hSw; (try dsimp only at hSw); go_simp; (try with_reducible rfl))
        (try simp only [Act.put, getElem_toArray, getElem_cons_succ, getElem_cons_zero]); (try simp only [setIfInBounds_toArray, set_cons_succ, set_cons_zero])
        refine wpAnyH_take (i := 39) (v := ?v287) rfl (by kernel_rfl) (by kernel_rfl) (by kernel_rfl) (fun _ _ _ h => h) (Or.inl ⟨by rfl, ?hy287⟩) hHeld ?rest287
        case hy287 => (intro wz hSw; (try dsimp only at hSw); go_simp; (try with_reducible rfl))
        (try simp only [Act.put, getElem_toArray, getElem_cons_succ, getElem_cons_zero]); (try simp only [setIfInBounds_toArray, set_cons_succ, set_cons_zero])
        refine wpAnyH_take (i := 40) (v := ?v288) rfl (by kernel_rfl) (by kernel_rfl) (by kernel_rfl) (fun _ _ _ h => h) (Or.inl ⟨by rfl, ?hy288⟩) hHeld ?rest288
        case hy288 => (intro wz hSw; (try dsimp only at hSw); go_simp; (try with_reducible rfl))
        (try simp only [Act.put, getElem_toArray, getElem_cons_succ, getElem_cons_zero]); (try simp only [setIfInBounds_toArray, set_cons_succ, set_cons_zero])
        refine wpAnyH_take (i := 41) (v := ?v289) rfl (by kernel_rfl) (by kernel_rfl) (by kernel_rfl) (fun _ _ _ h => h) (Or.inl ⟨by rfl, ?hy289⟩) hHeld ?rest289
        case hy289 => (intro wz hSw; (try dsimp only at hSw); go_simp; (try with_reducible rfl))
        (try simp only [Act.put, getElem_toArray, getElem_cons_succ, getElem_cons_zero]); (try simp only [setIfInBounds_toArray, set_cons_succ, set_cons_zero])
        refine wpAnyH_take (i := 42) (v := ?v290) rfl (by kernel_rfl) (by kernel_rfl) (by kernel_rfl) (fun _ _ _ h => h) (Or.inl ⟨by rfl, ?hy290⟩) hHeld ?rest290
        case hy290 => (intro wz hSw; (try dsimp only at hSw); go_simp; (try with_reducible rfl))
        (try simp only [Act.put, getElem_toArray, getElem_cons_succ, getElem_cons_zero]); (try simp only [setIfInBounds_toArray, set_cons_succ, set_cons_zero])
        refine wpAnyH_take (i := 43) (v := ?v291) rfl (by kernel_rfl) (by kernel_rfl) (by kernel_rfl) (fun _ _ _ h => h) (Or.inl ⟨by rfl, ?hy291⟩) hHeld ?rest291
        case hy291 => (intro wz hSw; (try dsimp only at hSw); go_simp; (try with_reducible rfl))
        (try simp only [Act.put, getElem_toArray, getElem_cons_succ, getElem_cons_zero]); (try simp only [setIfInBounds_toArray, set_cons_succ, set_cons_zero])
        refine wpAnyH_take (i := 44) (v := ?v292) rfl (by kernel_rfl) (by kernel_rfl) (by kernel_rfl) (fun _ _ _ h => h) (Or.inl ⟨by rfl, ?hy292⟩) hHeld ?rest292
        case hy292 => (intro wz hSw; (try dsimp only at hSw); go_simp; (try with_reducible rfl))
        (try simp only [Act.put, getElem_toArray, getElem_cons_succ, getElem_cons_zero]); (try simp only [setIfInBounds_toArray, set_cons_succ, set_cons_zero])
        refine wpAnyH_take (i := 45) (v := ?v293) rfl (by kernel_rfl) (by kernel_rfl) (by kernel_rfl) (fun _ _ _ h => h) (Or.inl ⟨by rfl, ?hy293⟩) hHeld ?rest293
        case hy293 => (intro wz hSw; (try dsimp only at hSw); go_simp; (try with_reducible rfl))
        (try simp only [Act.put, getElem_toArray, getElem_cons_succ, getElem_cons_zero]); (try simp only [setIfInBounds_toArray, set_cons_succ, set_cons_zero])
        refine wpAnyH_take (i := 46) (v := ?v294) rfl (by kernel_rfl) (by kernel_rfl) (by kernel_rfl) (fun _ _ _ h => h) (Or.inl ⟨by rfl, ?hy294⟩) hHeld ?rest294
        case hy294 => (intro wz hSw; (try dsimp only at hSw); go_simp; (try with_reducible rfl))
        (try simp only [Act.put, getElem_toArray, getElem_cons_succ, getElem_cons_zero]); (try simp only [setIfInBounds_toArray, set_cons_succ, set_cons_zero])
        refine wpAnyH_take (i := 47) (v := ?v295) rfl (by kernel_rfl) (by kernel_rfl) (by kernel_rfl) (fun _ _ _ h => h) (Or.inl ⟨by rfl, ?hy295⟩) hHeld ?rest295
        case hy295 => (intro wz hSw; (try dsimp only at hSw); go_simp; (try with_reducible rfl))
        (try simp only [Act.put, getElem_toArray, getElem_cons_succ, getElem_cons_zero]); (try simp only [setIfInBounds_toArray, set_cons_succ, set_cons_zero])
        refine wpAnyH_take (i := 48) (v := ?v296) rfl (by kernel_rfl) (by kernel_rfl) (by kernel_rfl) (fun _ _ _ h => h) (Or.inl ⟨by rfl, ?hy296⟩) hHeld ?rest296
        case hy296 => (intro wz hSw; (try dsimp only at hSw); go_simp; (try with_reducible rfl))
        (try simp only [Act.put, getElem_toArray, getElem_cons_succ, getElem_cons_zero]); (try simp only [setIfInBounds_toArray, set_cons_succ, set_cons_zero])
        refine wpAnyH_done (by kernel_rfl) ?_ _
        have X9 := Lib.hid (And.left hHeld)
        clear hHeld hc0 hc1 hc2 hc3 hd1
        go_wp2
        exact ⟨⟨i + 1, by omega, by simp, A1.out.ext X9.out, hE.out.trans X9.out, HNX.out (by rw [HSq.out]; exact ⟨by simp, HPP.out, HRC.out, HR0.out, HQ.out⟩)⟩, by simp [intOf]; omega⟩
    · obtain rfl : i = k := by omega
      obtain ⟨S, hS30, h2⟩ := spI_mk (P := P) (l := l) H0.out hk0 HML.out hS.out
      have HNJ := Lib.hid (HNL.out S (h2 0 hk0).2)
      have HYJ := Lib.hid (HYS.out S hS30 h2)
      have HE := Lib.hid (fun i hi => (h2 i hi).2)
      have HL : Hid (∀ j, j < i → (mt ms j).d.length = S * S) := fun j hj => by
        have := mok_len (h2 j hj).1
        rw [← Int.natCast_mul] at this
        omega
      have HR : Hid (∀ j, j < i → Res (mt ms j).d P) := fun j hj => mok_res (h2 j hj).1
      have h27 : S * S ≤ 900 := Nat.mul_le_mul hS30 hS30
      have HNN := Lib.hid HA.out.len
      have HXR := Lib.hid HA.out.res
      clear h2 hS hlt hi HNM HNL HYS
      go_wp2_with fail
      obtain ⟨k, hk⟩ : ∃ k, k = i := ⟨_, rfl⟩
      subst hk
      obtain ⟨Wz, hWz⟩ : ∃ Wz : World, Wz = wr := ⟨_, rfl⟩
      subst hWz
      go_loopw [6, 7] (fun z _ wr => ∃ i : Nat, i ≤ k ∧ z = .int .i64 i ∧ Hid (Cells wr w.heap.size [.int .i64 P, .int .i64 k, .slice (some ⟨a0, oa, none⟩) n n]) ∧ Hid (Ext w wr) ∧ Hid (∀ x, x < i → ∀ j, j < x → LawI P k S l ms x j)) (fun z _ _ => k - (intOf z).toNat)
      case atStart => exact ⟨0, by omega, rfl, A1, hE, fun x hx => by omega⟩
      case round =>
        clear A1 hE
        obtain ⟨i, hi, rfl, A1, hE, hF⟩ := hrel
        have lA := A1.out.1
        have q1 := A1.out.2 1 _ rfl
        by_cases hlt : i < k
        · go_wp2_with fail
          clear lA q1
          go_loopw [7] (fun z wr => ∃ j : Nat, j ≤ i ∧ z = .int .i64 j ∧ Hid (Cells wr w.heap.size [.int .i64 P, .int .i64 k, .slice (some ⟨a0, oa, none⟩) n n]) ∧ Hid (Ext w wr) ∧ Hid (∀ y, y < j → LawI P k S l ms i y)) (fun z _ => i - (intOf z).toNat)
          case atStart => exact ⟨0, by omega, rfl, A1, hE, fun x hx => by omega⟩
          case round =>
            clear A1 hE
            obtain ⟨j, hj, rfl, A1, hE, hG⟩ := hrel
            by_cases hlt2 : j < i
            · have HW := HM.out.ext hE.out
              have lG := HW.lt
              obtain ⟨bi, ci0, ci1, ci2, ci3, hri⟩ := HW.cells hlt (HE.out i hlt) (HL.out i hlt)
              obtain ⟨bj, cj0, cj1, cj2, cj3, hrj⟩ := HW.cells (show j < k by omega) (HE.out j (by omega)) (HL.out j (by omega))
              have HTr := Lib.hid (HT.out.ext hE.out)
              have HMr := Lib.hid HW
              have lA := A1.out.1
              have q0 := A1.out.2 0 _ rfl
              have q1 := A1.out.2 1 _ rfl
              have q2 := A1.out.2 2 _ rfl
              have hjk : j < k := by omega
              have HRI := Lib.hid hri
              have HRJ := Lib.hid hrj
              have HNX : Hid (LawI P k S l ms i j → ∀ y, y < j + 1 → LawI P k S l ms i y) := fun h y hy => by
                by_cases e : y = j
                · subst e; exact h
                · exact hG.out y (by omega)
              have HNI := Lib.hid (HNJ.out i j hlt2 hlt)
              have HNN2 : Hid (n ≤ n ∧ n ≤ maxLen) := ⟨Nat.le_refl _, by unfold maxLen; omega⟩
              clear HW hri hrj hG
              by_cases hlw : (smK P (S * S) ms (rowT k l i j) k) = (commL P (mt ms j).d (mt ms i).d S)
              · have HSB : Hid (eqSB S S (smK P (S * S) ms (rowT k l i j) k) (commL P (mt ms j).d (mt ms i).d S) = true) := by rw [Hid, eqSB, decide_eq_true rfl, Bool.true_and]; exact decide_eq_true hlw
                have H9 := Lib.hid (HNX.out hlw)
                clear hlw HNX HNI
                go_wp2_with fail
                refine wp_region_held_drew (S := (fun w' => Ext wr w' ∧ (∀ b o, b < wr.heap.size → w'.cell? ⟨b, o, none⟩ = wr.cell? ⟨b, o, none⟩))) (by kernel_rfl) (ext2 (Ext.refl wr).drew) (fun hHeld => ?_)
                refine wpAnyH_take (i := 0) (v := ?v297) rfl (by kernel_rfl) (by kernel_rfl) (by kernel_rfl) (fun _ _ _ h => h) (Or.inl ⟨by rfl, ?hy297⟩) hHeld ?rest297
                case hy297 => (intro wz hSw; (try dsimp only at hSw); go_simp; (try with_reducible rfl))
                (try simp only [Act.put, getElem_toArray, getElem_cons_succ, getElem_cons_zero]); (try simp only [setIfInBounds_toArray, set_cons_succ, set_cons_zero])
                refine wpAnyH_take (i := 1) (v := ?v298) rfl (by kernel_rfl) (by kernel_rfl) (by kernel_rfl) (fun _ _ _ h => h) (Or.inl ⟨by rfl, ?hy298⟩) hHeld ?rest298
                case hy298 => (intro wz hSw; (try dsimp only at hSw); go_simp; (try with_reducible rfl))
                (try simp only [Act.put, getElem_toArray, getElem_cons_succ, getElem_cons_zero]); (try simp only [setIfInBounds_toArray, set_cons_succ, set_cons_zero])
                refine wpAnyH_take (i := 2) (v := ?v299) rfl (by kernel_rfl) (by kernel_rfl) (by kernel_rfl) (fun _ _ _ h => h) (Or.inl ⟨by rfl, ?hy299⟩) hHeld ?rest299
                case hy299 => (intro wz hSw; (try dsimp only at hSw); go_simp; (try with_reducible rfl))
                (try simp only [Act.put, getElem_toArray, getElem_cons_succ, getElem_cons_zero]); (try simp only [setIfInBounds_toArray, set_cons_succ, set_cons_zero])
                refine wpAnyH_take (i := 3) (v := ?v300) rfl (by kernel_rfl) (by kernel_rfl) (by kernel_rfl) (fun _ _ _ h => h) (Or.inl ⟨by rfl, ?hy300⟩) hHeld ?rest300
                case hy300 => (intro wz hSw; (try dsimp only at hSw); go_simp; (try with_reducible rfl))
                (try simp only [Act.put, getElem_toArray, getElem_cons_succ, getElem_cons_zero]); (try simp only [setIfInBounds_toArray, set_cons_succ, set_cons_zero])
                refine wpAnyH_take (i := 4) (v := ?v301) rfl (by kernel_rfl) (by kernel_rfl) (by kernel_rfl) (fun _ _ _ h => h) (Or.inl ⟨by rfl, ?hy301⟩) hHeld ?rest301
                case hy301 => (intro wz hSw; (try dsimp only at hSw); go_simp; (try with_reducible rfl))
                (try simp only [Act.put, getElem_toArray, getElem_cons_succ, getElem_cons_zero]); (try simp only [setIfInBounds_toArray, set_cons_succ, set_cons_zero])
                refine wpAnyH_take (i := 7) (v := ?v302) rfl (by kernel_rfl) (by kernel_rfl) (by kernel_rfl) (fun _ _ _ h => h) (Or.inl ⟨by rfl, ?hy302⟩) hHeld ?rest302
                case hy302 => (intro wz hSw; (try dsimp only at hSw); go_simp; (try with_reducible rfl))
                (try simp only [Act.put, getElem_toArray, getElem_cons_succ, getElem_cons_zero]); (try simp only [setIfInBounds_toArray, set_cons_succ, set_cons_zero])
                refine wpAnyH_take (i := 8) (v := ?v303) rfl (by kernel_rfl) (by kernel_rfl) (by kernel_rfl) (fun _ _ _ h => h) (Or.inl ⟨by rfl, ?hy303⟩) hHeld ?rest303
                case hy303 => (intro wz hSw; (try dsimp only at hSw); go_simp; (try with_reducible rfl))
                (try simp only [Act.put, getElem_toArray, getElem_cons_succ, getElem_cons_zero]); (try simp only [setIfInBounds_toArray, set_cons_succ, set_cons_zero])
                refine wpAnyH_take (i := 9) (v := ?v304) rfl (by kernel_rfl) (by kernel_rfl) (by kernel_rfl) (fun _ _ _ h => h) (Or.inl ⟨by rfl, ?hy304⟩) hHeld ?rest304
                case hy304 => (intro wz hSw; (try dsimp only at hSw); go_simp; (try with_reducible rfl))
                (try simp only [Act.put, getElem_toArray, getElem_cons_succ, getElem_cons_zero]); (try simp only [setIfInBounds_toArray, set_cons_succ, set_cons_zero])
                refine wpAnyH_take (i := 10) (v := ?v305) rfl (by kernel_rfl) (by kernel_rfl) (by kernel_rfl) (fun _ _ _ h => h) (Or.inl ⟨by rfl, ?hy305⟩) hHeld ?rest305
                case hy305 => (intro wz hSw; (try dsimp only at hSw); go_simp; (try with_reducible rfl))
                (try simp only [Act.put, getElem_toArray, getElem_cons_succ, getElem_cons_zero]); (try simp only [setIfInBounds_toArray, set_cons_succ, set_cons_zero])
                refine wpAnyH_take (i := 11) (v := ?v306) rfl (by kernel_rfl) (by kernel_rfl) (by kernel_rfl) (fun _ _ _ h => h) (Or.inl ⟨by rfl, ?hy306⟩) hHeld ?rest306
                case hy306 => (intro wz hSw; (try dsimp only at hSw); go_simp; (try with_reducible rfl))
                (try simp only [Act.put, getElem_toArray, getElem_cons_succ, getElem_cons_zero]); (try simp only [setIfInBounds_toArray, set_cons_succ, set_cons_zero])
                refine wpAnyH_take (i := 12) (v := ?v307) rfl (by kernel_rfl) (by kernel_rfl) (by kernel_rfl) (fun _ _ _ h => h) (Or.inl ⟨by rfl, ?hy307⟩) hHeld ?rest307
                case hy307 => (intro wz hSw; (try dsimp only at hSw); go_simp; (try with_reducible rfl))
                (try simp only [Act.put, getElem_toArray, getElem_cons_succ, getElem_cons_zero]); (try simp only [setIfInBounds_toArray, set_cons_succ, set_cons_zero])
                refine wpAnyH_take (i := 13) (v := ?v308) rfl (by kernel_rfl) (by kernel_rfl) (by kernel_rfl) (fun _ _ _ h => h) (Or.inl ⟨by rfl, ?hy308⟩) hHeld ?rest308
                case hy308 => (intro wz hSw; (try dsimp only at hSw); go_simp; (try with_reducible rfl))
                (try simp only [Act.put, getElem_toArray, getElem_cons_succ, getElem_cons_zero]); (try simp only [setIfInBounds_toArray, set_cons_succ, set_cons_zero])
                refine wpAnyH_take (i := 14) (v := ?v309) rfl (by kernel_rfl) (by kernel_rfl) (by kernel_rfl) (fun _ _ _ h => h) (Or.inl ⟨by rfl, ?hy309⟩) hHeld ?rest309
                case hy309 => (intro wz hSw; (try dsimp only at hSw); go_simp; (try with_reducible rfl))
                (try simp only [Act.put, getElem_toArray, getElem_cons_succ, getElem_cons_zero]); (try simp only [setIfInBounds_toArray, set_cons_succ, set_cons_zero])
                refine wpAnyH_ready (rs := [5]) (by kernel_rfl) (by simp) ?_
                refine AllReadyH.cons rfl (fun K' hK => ?_) AllReadyH.nil
                go_simp
                refine (l2Row_spec P k a0 oa n n i j _ hD HNN.out HNN2.out.1 HNN2.out.2 hlt hjk).mono ?_
                rintro e w2 ⟨rfl, h2⟩
                have X2 := (And.left hHeld).trans h2
                dsimp only
                refine hK.out _ _ (ext2 X2) (fun hHeld => ?_)
                clear hK
                refine wpAnyH_ready (rs := [6]) (by kernel_rfl) (by simp) ?_
                refine AllReadyH.cons rfl (fun K' hK => ?_) AllReadyH.nil
                go_simp
                refine (l10Sum_spec P k S g k _ _ _ _ (rowT k l i j) ms _ (HMr.out.ext (And.left hHeld)) ((rowT_reads HTr.out HNN.out hlt hjk).ext (And.left hHeld)) rfl hk0 hD hS30 HE.out HL.out HR.out hp hp2 (rowT_res (by omega) HXR.out _ _)).mono ?_
                rintro e w3 ⟨b3, c3, rfl, hb3, hb3b, k3, h3⟩
                have X3 := (And.left hHeld).trans h3
                dsimp only
                refine hK.out _ _ (ext2 X3) (fun hHeld => ?_)
                clear hK
                refine wpAnyH_ready (rs := [15]) (by kernel_rfl) (by simp) ?_
                refine AllReadyH.cons rfl (fun K' hK => ?_) AllReadyH.nil
                go_simp
                refine (l1Commutator_spec P S ⟨bj, 0, none⟩ ⟨bi, 0, none⟩ (S * S) (S * S) (S * S) (mt ms j).d (mt ms i).d _ (HRJ.out.ext (And.left hHeld)) (HRI.out.ext (And.left hHeld)) rfl (by omega) hp hp2 (HR.out j hjk) (HR.out i hlt)).mono ?_
                rintro e w4 ⟨b4, c4, rfl, hb4, hb4b, k4, h4⟩
                have X4 := (And.left hHeld).trans h4
                dsimp only
                refine hK.out _ _ (ext2 X4) (fun hHeld => ?_)
                clear hK
                refine wpAnyH_ready (rs := [16]) (by kernel_rfl) (by simp) ?_
                refine AllReadyH.cons rfl (fun K' hK => ?_) AllReadyH.nil
                go_simp
                refine (l1Equal_spec P S S S (S * S) (S * S) _ _ (some ⟨b3, 0, none⟩) (some ⟨b4, 0, none⟩) (smK P (S * S) ms (rowT k l i j) k) (commL P (mt ms j).d (mt ms i).d S) _ ((k3.ext h4).reads (smK_length k)) (k4.reads (commL_length _ _ _ _)) (by omega) (by omega)).mono ?_
                rintro e w5 ⟨rfl, h5⟩
                rw [HSB.out]
                have X5 := (And.left hHeld).trans h5
                dsimp only
                refine hK.out _ _ (ext2 X5) (fun hHeld => ?_)
                clear hK
                refine wpAnyH_take (i := 17) (v := ?v310) rfl (by kernel_rfl) (by kernel_rfl) (by kernel_rfl) (fun _ _ _ h => h) (Or.inl ⟨by rfl, ?hy310⟩) hHeld ?rest310
                case hy310 => (intro wz hSw; (try dsimp only at hSw); go_simp; (try with_reducible rfl))
                (try simp only [Act.put, getElem_toArray, getElem_cons_succ, getElem_cons_zero]); (try simp only [setIfInBounds_toArray, set_cons_succ, set_cons_zero])
                refine wpAnyH_done (by kernel_rfl) ?_ _
                have hE9 := Lib.hid (hE.out.trans (And.left hHeld))
                have A9 := Lib.hid (A1.out.ext (And.left hHeld))
                clear hHeld X2 X3 X4 X5 h2 h3 h4 h5 k3 k4 hb3 hb3b hb4 hb4b lA q0 q1 q2 ci0 ci1 ci2 ci3 cj0 cj1 cj2 cj3 lG
                go_wp2
                exact ⟨⟨j + 1, by omega, by simp, A9, hE9, H9⟩, by simp [intOf]; omega⟩
              · have HSB : Hid (eqSB S S (smK P (S * S) ms (rowT k l i j) k) (commL P (mt ms j).d (mt ms i).d S) = false) := by rw [Hid, eqSB, decide_eq_true rfl, Bool.true_and]; exact decide_eq_false hlw
                have H9 := Lib.hid (HNI.out hlw)
                clear hlw HNX HNI
                go_wp2_with fail
                refine wp_region_held_drew (S := (fun w' => Ext wr w' ∧ (∀ b o, b < wr.heap.size → w'.cell? ⟨b, o, none⟩ = wr.cell? ⟨b, o, none⟩))) (by kernel_rfl) (ext2 (Ext.refl wr).drew) (fun hHeld => ?_)
                refine wpAnyH_take (i := 0) (v := ?v311) rfl (by kernel_rfl) (by kernel_rfl) (by kernel_rfl) (fun _ _ _ h => h) (Or.inl ⟨by rfl, ?hy311⟩) hHeld ?rest311
                case hy311 => (intro wz hSw; (try dsimp only at hSw); go_simp; (try with_reducible rfl))
                (try simp only [Act.put, getElem_toArray, getElem_cons_succ, getElem_cons_zero]); (try simp only [setIfInBounds_toArray, set_cons_succ, set_cons_zero])
                refine wpAnyH_take (i := 1) (v := ?v312) rfl (by kernel_rfl) (by kernel_rfl) (by kernel_rfl) (fun _ _ _ h => h) (Or.inl ⟨by rfl, ?hy312⟩) hHeld ?rest312
                case hy312 => (intro wz hSw; (try dsimp only at hSw); go_simp; (try with_reducible rfl))
                (try simp only [Act.put, getElem_toArray, getElem_cons_succ, getElem_cons_zero]); (try simp only [setIfInBounds_toArray, set_cons_succ, set_cons_zero])
                refine wpAnyH_take (i := 2) (v := ?v313) rfl (by kernel_rfl) (by kernel_rfl) (by kernel_rfl) (fun _ _ _ h => h) (Or.inl ⟨by rfl, ?hy313⟩) hHeld ?rest313
                case hy313 => (intro wz hSw; (try dsimp only at hSw); go_simp; (try with_reducible rfl))
                (try simp only [Act.put, getElem_toArray, getElem_cons_succ, getElem_cons_zero]); (try simp only [setIfInBounds_toArray, set_cons_succ, set_cons_zero])
                refine wpAnyH_take (i := 3) (v := ?v314) rfl (by kernel_rfl) (by kernel_rfl) (by kernel_rfl) (fun _ _ _ h => h) (Or.inl ⟨by rfl, ?hy314⟩) hHeld ?rest314
                case hy314 => (intro wz hSw; (try dsimp only at hSw); go_simp; (try with_reducible rfl))
                (try simp only [Act.put, getElem_toArray, getElem_cons_succ, getElem_cons_zero]); (try simp only [setIfInBounds_toArray, set_cons_succ, set_cons_zero])
                refine wpAnyH_take (i := 4) (v := ?v315) rfl (by kernel_rfl) (by kernel_rfl) (by kernel_rfl) (fun _ _ _ h => h) (Or.inl ⟨by rfl, ?hy315⟩) hHeld ?rest315
                case hy315 => (intro wz hSw; (try dsimp only at hSw); go_simp; (try with_reducible rfl))
                (try simp only [Act.put, getElem_toArray, getElem_cons_succ, getElem_cons_zero]); (try simp only [setIfInBounds_toArray, set_cons_succ, set_cons_zero])
                refine wpAnyH_take (i := 7) (v := ?v316) rfl (by kernel_rfl) (by kernel_rfl) (by kernel_rfl) (fun _ _ _ h => h) (Or.inl ⟨by rfl, ?hy316⟩) hHeld ?rest316
                case hy316 => (intro wz hSw; (try dsimp only at hSw); go_simp; (try with_reducible rfl))
                (try simp only [Act.put, getElem_toArray, getElem_cons_succ, getElem_cons_zero]); (try simp only [setIfInBounds_toArray, set_cons_succ, set_cons_zero])
                refine wpAnyH_take (i := 8) (v := ?v317) rfl (by kernel_rfl) (by kernel_rfl) (by kernel_rfl) (fun _ _ _ h => h) (Or.inl ⟨by rfl, ?hy317⟩) hHeld ?rest317
                case hy317 => (intro wz hSw; (try dsimp only at hSw); go_simp; (try with_reducible rfl))
                (try simp only [Act.put, getElem_toArray, getElem_cons_succ, getElem_cons_zero]); (try simp only [setIfInBounds_toArray, set_cons_succ, set_cons_zero])
                refine wpAnyH_take (i := 9) (v := ?v318) rfl (by kernel_rfl) (by kernel_rfl) (by kernel_rfl) (fun _ _ _ h => h) (Or.inl ⟨by rfl, ?hy318⟩) hHeld ?rest318
                case hy318 => (intro wz hSw; (try dsimp only at hSw); go_simp; (try with_reducible rfl))
                (try simp only [Act.put, getElem_toArray, getElem_cons_succ, getElem_cons_zero]); (try simp only [setIfInBounds_toArray, set_cons_succ, set_cons_zero])
                refine wpAnyH_take (i := 10) (v := ?v319) rfl (by kernel_rfl) (by kernel_rfl) (by kernel_rfl) (fun _ _ _ h => h) (Or.inl ⟨by rfl, ?hy319⟩) hHeld ?rest319
                case hy319 => (intro wz hSw; (try dsimp only at hSw); go_simp; (try with_reducible rfl))
                (try simp only [Act.put, getElem_toArray, getElem_cons_succ, getElem_cons_zero]); (try simp only [setIfInBounds_toArray, set_cons_succ, set_cons_zero])
                refine wpAnyH_take (i := 11) (v := ?v320) rfl (by kernel_rfl) (by kernel_rfl) (by kernel_rfl) (fun _ _ _ h => h) (Or.inl ⟨by rfl, ?hy320⟩) hHeld ?rest320
                case hy320 => (intro wz hSw; (try dsimp only at hSw); go_simp; (try with_reducible rfl))
                (try simp only [Act.put, getElem_toArray, getElem_cons_succ, getElem_cons_zero]); (try simp only [setIfInBounds_toArray, set_cons_succ, set_cons_zero])
                refine wpAnyH_take (i := 12) (v := ?v321) rfl (by kernel_rfl) (by kernel_rfl) (by kernel_rfl) (fun _ _ _ h => h) (Or.inl ⟨by rfl, ?hy321⟩) hHeld ?rest321
                case hy321 => (intro wz hSw; (try dsimp only at hSw); go_simp; (try with_reducible rfl))
                (try simp only [Act.put, getElem_toArray, getElem_cons_succ, getElem_cons_zero]); (try simp only [setIfInBounds_toArray, set_cons_succ, set_cons_zero])
                refine wpAnyH_take (i := 13) (v := ?v322) rfl (by kernel_rfl) (by kernel_rfl) (by kernel_rfl) (fun _ _ _ h => h) (Or.inl ⟨by rfl, ?hy322⟩) hHeld ?rest322
                case hy322 => (intro wz hSw; (try dsimp only at hSw); go_simp; (try with_reducible rfl))
                (try simp only [Act.put, getElem_toArray, getElem_cons_succ, getElem_cons_zero]); (try simp only [setIfInBounds_toArray, set_cons_succ, set_cons_zero])
                refine wpAnyH_take (i := 14) (v := ?v323) rfl (by kernel_rfl) (by kernel_rfl) (by kernel_rfl) (fun _ _ _ h => h) (Or.inl ⟨by rfl, ?hy323⟩) hHeld ?rest323
                case hy323 => (intro wz hSw; (try dsimp only at hSw); go_simp; (try with_reducible rfl))
                (try simp only [Act.put, getElem_toArray, getElem_cons_succ, getElem_cons_zero]); (try simp only [setIfInBounds_toArray, set_cons_succ, set_cons_zero])
                refine wpAnyH_ready (rs := [5]) (by kernel_rfl) (by simp) ?_
                refine AllReadyH.cons rfl (fun K' hK => ?_) AllReadyH.nil
                go_simp
                refine (l2Row_spec P k a0 oa n n i j _ hD HNN.out HNN2.out.1 HNN2.out.2 hlt hjk).mono ?_
                rintro e w2 ⟨rfl, h2⟩
                have X2 := (And.left hHeld).trans h2
                dsimp only
                refine hK.out _ _ (ext2 X2) (fun hHeld => ?_)
                clear hK
                refine wpAnyH_ready (rs := [6]) (by kernel_rfl) (by simp) ?_
                refine AllReadyH.cons rfl (fun K' hK => ?_) AllReadyH.nil
                go_simp
                refine (l10Sum_spec P k S g k _ _ _ _ (rowT k l i j) ms _ (HMr.out.ext (And.left hHeld)) ((rowT_reads HTr.out HNN.out hlt hjk).ext (And.left hHeld)) rfl hk0 hD hS30 HE.out HL.out HR.out hp hp2 (rowT_res (by omega) HXR.out _ _)).mono ?_
                rintro e w3 ⟨b3, c3, rfl, hb3, hb3b, k3, h3⟩
                have X3 := (And.left hHeld).trans h3
                dsimp only
                refine hK.out _ _ (ext2 X3) (fun hHeld => ?_)
                clear hK
                refine wpAnyH_ready (rs := [15]) (by kernel_rfl) (by simp) ?_
                refine AllReadyH.cons rfl (fun K' hK => ?_) AllReadyH.nil
                go_simp
                refine (l1Commutator_spec P S ⟨bj, 0, none⟩ ⟨bi, 0, none⟩ (S * S) (S * S) (S * S) (mt ms j).d (mt ms i).d _ (HRJ.out.ext (And.left hHeld)) (HRI.out.ext (And.left hHeld)) rfl (by omega) hp hp2 (HR.out j hjk) (HR.out i hlt)).mono ?_
                rintro e w4 ⟨b4, c4, rfl, hb4, hb4b, k4, h4⟩
                have X4 := (And.left hHeld).trans h4
                dsimp only
                refine hK.out _ _ (ext2 X4) (fun hHeld => ?_)
                clear hK
                refine wpAnyH_ready (rs := [16]) (by kernel_rfl) (by simp) ?_
                refine AllReadyH.cons rfl (fun K' hK => ?_) AllReadyH.nil
                go_simp
                refine (l1Equal_spec P S S S (S * S) (S * S) _ _ (some ⟨b3, 0, none⟩) (some ⟨b4, 0, none⟩) (smK P (S * S) ms (rowT k l i j) k) (commL P (mt ms j).d (mt ms i).d S) _ ((k3.ext h4).reads (smK_length k)) (k4.reads (commL_length _ _ _ _)) (by omega) (by omega)).mono ?_
                rintro e w5 ⟨rfl, h5⟩
                rw [HSB.out]
                have X5 := (And.left hHeld).trans h5
                dsimp only
                refine hK.out _ _ (ext2 X5) (fun hHeld => ?_)
                clear hK
                refine wpAnyH_take (i := 17) (v := ?v324) rfl (by kernel_rfl) (by kernel_rfl) (by kernel_rfl) (fun _ _ _ h => h) (Or.inl ⟨by rfl, ?hy324⟩) hHeld ?rest324
                case hy324 => (intro wz hSw; (try dsimp only at hSw); go_simp; (try with_reducible rfl))
                (try simp only [Act.put, getElem_toArray, getElem_cons_succ, getElem_cons_zero]); (try simp only [setIfInBounds_toArray, set_cons_succ, set_cons_zero])
                refine wpAnyH_done (by kernel_rfl) ?_ _
                have hE9 := Lib.hid (hE.out.trans (And.left hHeld))
                have A9 := Lib.hid (A1.out.ext (And.left hHeld))
                clear hHeld X2 X3 X4 X5 h2 h3 h4 h5 k3 k4 hb3 hb3b hb4 hb4b lA q0 q1 q2 ci0 ci1 ci2 ci3 cj0 cj1 cj2 cj3 lG
                go_wp2
                go_ret
                exact ⟨ret_bool H9.out.symm, hE9.out⟩
            · obtain rfl : j = i := by omega
              have HF2 : Hid (∀ x, x < j + 1 → ∀ y, y < x → LawI P k S l ms x y) := fun x hx y hy => by
                by_cases e : x = j
                · subst e; exact hG.out y hy
                · exact hF.out x (by omega) y hy
              clear hF hG
              go_wp2
              exact ⟨⟨j + 1, by omega, by simp, A1, hE, HF2⟩, by simp [intOf]; omega⟩
        · obtain rfl : i = k := by omega
          have HF := Lib.hid (HYJ.out (fun x y hy hx => hF.out x hx y hy))
          clear hF
          go_wp2
          go_ret
          exact ⟨ret_bool HF.out.symm, hE.out⟩

set_option maxRecDepth 100000 in
set_option maxHeartbeats 3200000 in
theorem isModule_impl {P D : Int} {a0 oa n g k : Nat} {l : List Int} {ms : List Mat} {w : World} {q : Bool} (hT : Reads w (some ⟨a0, oa, none⟩) n l) (hn : n ≤ 1048576) (hm : MatsI w g k ms) (hk : k ≤ 1048576) (hM : modB P D l ms = q) :
    Calls Try.prog 17 #[.agg #[.int .i64 P, .int .i64 D, .slice (some ⟨a0, oa, none⟩) n n], .slice (some ⟨g, 0, none⟩) k k] w fun e w' => e = .returned (.bool q) ∧ Ext w w' := by
  have A0 := Lib.hid (cells_new w #[.int .i64 P, .int .i64 D, .slice (some ⟨a0, oa, none⟩) n n] 29)
  have E0 := Lib.hid ((Ext.refl w).alloc (.cells #[.int .i64 P, .int .i64 D, .slice (some ⟨a0, oa, none⟩) n n] 29))
  have lA := A0.out.1
  have q0 := A0.out.2 0 _ rfl
  have q1 := A0.out.2 1 _ rfl
  have q2 := A0.out.2 2 _ rfl
  have HW := Lib.hid (wrapModule_impl P D a0 oa n g k l ms _ (hT.ext E0.out) hn (hm.ext E0.out) hk)
  have HM := Lib.hid hM
  clear hT hm hM
  go_enter Try.func17, Try.ntmps17
  go_wp2_with fail
  refine HW.out.mono ?_
  rintro e w1 (⟨hf, ⟨v, rfl⟩, h1⟩ | ⟨hf, d, S, BM, BL, _, _, rfl, _, _, _, h1⟩)
  all_goals
    have HF := Lib.hid (HM.out.symm.trans hf)
    clear hf lA q0 q1 q2
    go_wp2
    go_ret
    exact ⟨ret_bool HF.out.symm, E0.out.trans h1⟩
end Go.Proofs.Ytnikfalpjieibaa
