/-
  Modules in the program: wrapModule.
-/
import Derived.Test.YtnikfalpjieibaaMd1
import Derived.Test.YtnikfalpjieibaaMd3
namespace Go.Proofs.Ytnikfalpjieibaa
open Go.ChangeShapes Go.WideShapes Go.ChangeAt Go.RowKit
set_option linter.unusedVariables false
set_option linter.unusedSimpArgs false

/-- What wrapModule hands on. -/
def WmPost (P D : Int) (a0 oa n g k : Nat) (l : List Int) (ms : List Mat) (w : World) (e : Ending) (w' : World) : Prop := (modB P D l ms = false ∧ (∃ v, e = .returned (.tuple #[v, .bool false])) ∧ Ext w w') ∨ (modB P D l ms = true ∧ ∃ (d S BM BL : Nat), D = d ∧ ModP P d S n l ms ∧ e = .returned (.tuple #[.pointer (some ⟨BM, 0, none⟩), .bool true]) ∧ Cells w' BM [.pointer (some ⟨BL, 0, none⟩), .slice (some ⟨g, 0, none⟩) k k, .int .i64 S] ∧ Cells w' BL [.int .i64 P, .int .i64 d, .slice (some ⟨a0, oa, none⟩) n n] ∧ w.heap.size ≤ BM ∧ Ext w w')

set_option maxRecDepth 100000 in
set_option maxHeartbeats 6400000 in
theorem wrapModule_impl (P D : Int) (a0 oa n g k : Nat) (l : List Int) (ms : List Mat) (w : World) (hT : Reads w (some ⟨a0, oa, none⟩) n l) (hn : n ≤ 1048576) (hm : MatsI w g k ms) (hk : k ≤ 1048576) :
    Calls Try.prog 54 #[.agg #[.int .i64 P, .int .i64 D, .slice (some ⟨a0, oa, none⟩) n n], .slice (some ⟨g, 0, none⟩) k k] w (WmPost P D a0 oa n g k l ms w) := by
  have HT := Lib.hid hT
  have HM := Lib.hid hm
  have HML := Lib.hid hm.1
  clear hT hm
  rcases h0 : algB P D l with _ | _
  · have HF := Lib.hid (mod_noalg (ms := ms) h0)
    have H0 := Lib.hid h0
    clear h0
    go_enter Try.func54, Try.ntmps54
    have A0_1 := Lib.hid (cells_new' w #[.int .i64 P, .int .i64 D, .slice (some ⟨a0, oa, none⟩) n n] 29 (w.heap.size) (by simp))
    have E_2 := Lib.hid ((Ext.refl w).alloc (.cells #[.int .i64 P, .int .i64 D, .slice (some ⟨a0, oa, none⟩) n n] 29))
    have lA0 := A0_1.out.1
    have qA00 := A0_1.out.2 0 _ rfl
    have qA01 := A0_1.out.2 1 _ rfl
    have qA02 := A0_1.out.2 2 _ rfl
    try simp only [World.size_alloc] at lA0
    go_wp2_with fail
    refine (wrap_impl P _ a0 oa n n l _ (HT.out.ext E_2.out) hn (Nat.le_refl _) (by unfold maxLen; omega)).mono ?_
    rintro e w_3 ⟨BL, rfl, hb, hlo, h_3⟩
    clear lA0 qA00 qA01 qA02
    have A0_4 := Lib.hid (A0_1.out.ext h_3)
    clear A0_1
    have E_5 := Lib.hid (E_2.out.trans h_3)
    clear E_2
    have B_6 := Lib.hid hb
    have HLO := Lib.hid hlo
    clear hb hlo
    rw [H0.out]
    go_wp2
    go_ret2
    exact Or.inl ⟨HF.out, ⟨_, rfl⟩, E_5.out⟩
  obtain ⟨D, rfl, hA⟩ := algB_parts h0 HT.out.1
  have HA := Lib.hid hA
  have H0 := Lib.hid h0
  have hD := hA.dim
  have hp := isP_lo hA.pr
  have hp2 := isP_hi hA.pr
  clear hA h0
  by_cases hz : D = 0
  · have HF := Lib.hid (mod_nodim (P := P) (l := l) (ms := ms) (show (D : Int) = 0 by omega))
    have hz1 : ((D : Int) == 0) = true := by simp [hz]
    clear hz
    go_enter Try.func54, Try.ntmps54
    have A0_1 := Lib.hid (cells_new' w #[.int .i64 P, .int .i64 D, .slice (some ⟨a0, oa, none⟩) n n] 29 (w.heap.size) (by simp))
    have E_2 := Lib.hid ((Ext.refl w).alloc (.cells #[.int .i64 P, .int .i64 D, .slice (some ⟨a0, oa, none⟩) n n] 29))
    have lA0 := A0_1.out.1
    have qA00 := A0_1.out.2 0 _ rfl
    have qA01 := A0_1.out.2 1 _ rfl
    have qA02 := A0_1.out.2 2 _ rfl
    try simp only [World.size_alloc] at lA0
    go_wp2_with fail
    refine (wrap_impl P _ a0 oa n n l _ (HT.out.ext E_2.out) hn (Nat.le_refl _) (by unfold maxLen; omega)).mono ?_
    rintro e w_3 ⟨BL, rfl, hb, hlo, h_3⟩
    clear lA0 qA00 qA01 qA02
    have A0_4 := Lib.hid (A0_1.out.ext h_3)
    clear A0_1
    have E_5 := Lib.hid (E_2.out.trans h_3)
    clear E_2
    have B_6 := Lib.hid hb
    have HLO := Lib.hid hlo
    clear hb hlo
    rw [H0.out]
    have lB := B_6.out.1
    have qB0 := B_6.out.2 0 _ rfl
    have qB1 := B_6.out.2 1 _ rfl
    have qB2 := B_6.out.2 2 _ rfl
    try simp only [World.size_alloc] at lB
    go_wp2
    go_ret2
    exact Or.inl ⟨HF.out, ⟨_, rfl⟩, E_5.out⟩
  have hz1 : ((D : Int) == 0) = false := by simp [hz]
  by_cases hkd : k = D
  case neg =>
    have HF := Lib.hid (mod_nocnt (P := P) (l := l) (ms := ms) (D := (D : Int)) (by rw [HML.out]; omega))
    have hk1 : ((k : Int) != (D : Int)) = true := by simp; omega
    clear hz
    go_enter Try.func54, Try.ntmps54
    have A0_1 := Lib.hid (cells_new' w #[.int .i64 P, .int .i64 D, .slice (some ⟨a0, oa, none⟩) n n] 29 (w.heap.size) (by simp))
    have E_2 := Lib.hid ((Ext.refl w).alloc (.cells #[.int .i64 P, .int .i64 D, .slice (some ⟨a0, oa, none⟩) n n] 29))
    have lA0 := A0_1.out.1
    have qA00 := A0_1.out.2 0 _ rfl
    have qA01 := A0_1.out.2 1 _ rfl
    have qA02 := A0_1.out.2 2 _ rfl
    try simp only [World.size_alloc] at lA0
    go_wp2_with fail
    refine (wrap_impl P _ a0 oa n n l _ (HT.out.ext E_2.out) hn (Nat.le_refl _) (by unfold maxLen; omega)).mono ?_
    rintro e w_3 ⟨BL, rfl, hb, hlo, h_3⟩
    clear lA0 qA00 qA01 qA02
    have A0_4 := Lib.hid (A0_1.out.ext h_3)
    clear A0_1
    have E_5 := Lib.hid (E_2.out.trans h_3)
    clear E_2
    have B_6 := Lib.hid hb
    have HLO := Lib.hid hlo
    clear hb hlo
    rw [H0.out]
    have lB := B_6.out.1
    have qB0 := B_6.out.2 0 _ rfl
    have qB1 := B_6.out.2 1 _ rfl
    have qB2 := B_6.out.2 2 _ rfl
    try simp only [World.size_alloc] at lB
    go_wp2
    go_ret2
    exact Or.inl ⟨HF.out, ⟨_, rfl⟩, E_5.out⟩
  subst hkd
  have hk0 : 0 < k := by omega
  have hk0I : (0 : Int) < (k : Int) := by omega
  have hk1 : ((k : Int) != (k : Int)) = false := by simp
  rcases hsq : sqsB ms with _ | _
  · have HF := Lib.hid (mod_nosq (P := P) (D := (k : Int)) (l := l) hsq (by rw [HML.out]))
    have HSQ := Lib.hid hsq
    clear hz hsq
    go_enter Try.func54, Try.ntmps54
    have A0_1 := Lib.hid (cells_new' w #[.int .i64 P, .int .i64 k, .slice (some ⟨a0, oa, none⟩) n n] 29 (w.heap.size) (by simp))
    have E_2 := Lib.hid ((Ext.refl w).alloc (.cells #[.int .i64 P, .int .i64 k, .slice (some ⟨a0, oa, none⟩) n n] 29))
    have lA0 := A0_1.out.1
    have qA00 := A0_1.out.2 0 _ rfl
    have qA01 := A0_1.out.2 1 _ rfl
    have qA02 := A0_1.out.2 2 _ rfl
    try simp only [World.size_alloc] at lA0
    go_wp2_with fail
    refine (wrap_impl P _ a0 oa n n l _ (HT.out.ext E_2.out) hn (Nat.le_refl _) (by unfold maxLen; omega)).mono ?_
    rintro e w_3 ⟨BL, rfl, hb, hlo, h_3⟩
    clear lA0 qA00 qA01 qA02
    have A0_4 := Lib.hid (A0_1.out.ext h_3)
    clear A0_1
    have E_5 := Lib.hid (E_2.out.trans h_3)
    clear E_2
    have B_6 := Lib.hid hb
    have HLO := Lib.hid hlo
    clear hb hlo
    rw [H0.out]
    have lB := B_6.out.1
    have qB0 := B_6.out.2 0 _ rfl
    have qB1 := B_6.out.2 1 _ rfl
    have qB2 := B_6.out.2 2 _ rfl
    try simp only [World.size_alloc] at lB
    go_wp2_with fail
    refine (sameSquares_impl g k ms _ (HM.out.ext E_5.out) hk).mono ?_
    rintro e w_7 ⟨rfl, h_7⟩
    clear lB qB0 qB1 qB2
    have A0_8 := Lib.hid (A0_4.out.ext h_7)
    clear A0_4
    have B_9 := Lib.hid (B_6.out.ext h_7)
    clear B_6
    have E_10 := Lib.hid (E_5.out.trans h_7)
    clear E_5
    rw [HSQ.out]
    go_wp2
    go_ret2
    exact Or.inl ⟨HF.out, ⟨_, rfl⟩, E_10.out⟩
  have HSQ := Lib.hid hsq
  have hall := sqsB_iff.1 hsq
  rw [HML.out] at hall
  have HALL := Lib.hid hall
  clear hsq hall
  by_cases hpe : (mt ms 0).p = P
  case neg =>
    have HF := Lib.hid (mod_noprime (D := (k : Int)) (l := l) hpe)
    have hpn : ((mt ms 0).p == P) = false := by simpa using hpe
    clear hpe
    go_enter Try.func54, Try.ntmps54
    have A0_1 := Lib.hid (cells_new' w #[.int .i64 P, .int .i64 k, .slice (some ⟨a0, oa, none⟩) n n] 29 (w.heap.size) (by simp))
    have E_2 := Lib.hid ((Ext.refl w).alloc (.cells #[.int .i64 P, .int .i64 k, .slice (some ⟨a0, oa, none⟩) n n] 29))
    have lA0 := A0_1.out.1
    have qA00 := A0_1.out.2 0 _ rfl
    have qA01 := A0_1.out.2 1 _ rfl
    have qA02 := A0_1.out.2 2 _ rfl
    try simp only [World.size_alloc] at lA0
    go_wp2_with fail
    refine (wrap_impl P _ a0 oa n n l _ (HT.out.ext E_2.out) hn (Nat.le_refl _) (by unfold maxLen; omega)).mono ?_
    rintro e w_3 ⟨BL, rfl, hb, hlo, h_3⟩
    clear lA0 qA00 qA01 qA02
    have A0_4 := Lib.hid (A0_1.out.ext h_3)
    clear A0_1
    have E_5 := Lib.hid (E_2.out.trans h_3)
    clear E_2
    have B_6 := Lib.hid hb
    have HLO := Lib.hid hlo
    clear hb hlo
    rw [H0.out]
    have lB := B_6.out.1
    have qB0 := B_6.out.2 0 _ rfl
    have qB1 := B_6.out.2 1 _ rfl
    have qB2 := B_6.out.2 2 _ rfl
    try simp only [World.size_alloc] at lB
    go_wp2_with fail
    refine (sameSquares_impl g k ms _ (HM.out.ext E_5.out) hk).mono ?_
    rintro e w_7 ⟨rfl, h_7⟩
    clear lB qB0 qB1 qB2
    have A0_8 := Lib.hid (A0_4.out.ext h_7)
    clear A0_4
    have B_9 := Lib.hid (B_6.out.ext h_7)
    clear B_6
    have E_10 := Lib.hid (E_5.out.trans h_7)
    clear E_5
    rw [HSQ.out]
    have HG9 := Lib.hid (HM.out.ext E_10.out)
    have lG := HG9.out.lt
    obtain ⟨b0, c0, c1, _⟩ := HG9.out.get 0 (by omega)
    simp only [Nat.zero_mul] at c0
    skip
    go_wp2_with fail
    have EB := Lib.hid ((Ext.refl w_7).alloc (.cells #[.pointer (some ⟨BL, 0, none⟩), .slice (some ⟨g, 0, none⟩) k k, .int .i64 (mt ms 0).r] 74))
    have HCX := Lib.hid (cells_new w_7 #[.pointer (some ⟨BL, 0, none⟩), .slice (some ⟨g, 0, none⟩) k k, .int .i64 (mt ms 0).r] 74)
    have hBM : w.heap.size ≤ w_7.heap.size := E_10.out.le
    have HBX := Lib.hid (B_9.out.ext EB.out)
    have HE9 := Lib.hid (E_10.out.trans EB.out)
    have HMX := Lib.hid (HG9.out.ext EB.out)
    have lC := HCX.out.1
    have x0 := HCX.out.2 0 _ rfl
    have x2 := HCX.out.2 2 _ rfl
    have lB := HBX.out.1
    have y0 := HBX.out.2 0 _ rfl
    have lG2 := HMX.out.lt
    have d0 := (EB.out.cells g 0 lG).trans c0
    clear c0 c1 lG
    generalize hWX : w_7.alloc (.cells #[.pointer (some ⟨BL, 0, none⟩), .slice (some ⟨g, 0, none⟩) k k, .int .i64 (mt ms 0).r] 74) = WX at *
    generalize hBMX : w_7.heap.size = BM at *
    clear hWX hBMX EB
    refine wp_region_held_drew (S := (fun w' => Ext WX w' ∧ (∀ b o, b < WX.heap.size → w'.cell? ⟨b, o, none⟩ = WX.cell? ⟨b, o, none⟩))) (by kernel_rfl) (ext2 (Ext.refl WX).drew) (fun hHeld => ?_)
    refine wpAnyH_take (i := 0) (v := ?v122) rfl (by kernel_rfl) (by kernel_rfl) (by kernel_rfl) (fun _ _ _ h => h) (Or.inl ⟨by rfl, ?hy122⟩) hHeld ?rest122
    case hy122 => (intro wz hSw; (try dsimp only at hSw); go_simp; (try with_reducible rfl))
    (try simp only [Act.put, List.getElem_toArray, List.getElem_cons_succ, List.getElem_cons_zero]); (try simp only [List.setIfInBounds_toArray]); (try simp only [List.set_cons_succ]); (try simp only [List.set_cons_zero])
    refine wpAnyH_take (i := 1) (v := ?v123) rfl (by kernel_rfl) (by kernel_rfl) (by kernel_rfl) (fun _ _ _ h => h) (Or.inl ⟨by rfl, ?hy123⟩) hHeld ?rest123
    case hy123 => (intro wz hSw; (try dsimp only at hSw); go_simp; (try with_reducible rfl))
    (try simp only [Act.put, List.getElem_toArray, List.getElem_cons_succ, List.getElem_cons_zero]); (try simp only [List.setIfInBounds_toArray]); (try simp only [List.set_cons_succ]); (try simp only [List.set_cons_zero])
    refine wpAnyH_take (i := 2) (v := ?v124) rfl (by kernel_rfl) (by kernel_rfl) (by kernel_rfl) (fun _ _ _ h => h) (Or.inl ⟨by rfl, ?hy124⟩) hHeld ?rest124
    case hy124 => (intro wz hSw; (try dsimp only at hSw); go_simp; (try with_reducible rfl))
    (try simp only [Act.put, List.getElem_toArray, List.getElem_cons_succ, List.getElem_cons_zero]); (try simp only [List.setIfInBounds_toArray]); (try simp only [List.set_cons_succ]); (try simp only [List.set_cons_zero])
    refine wpAnyH_take (i := 3) (v := ?v125) rfl (by kernel_rfl) (by kernel_rfl) (by kernel_rfl) (fun _ _ _ h => h) (Or.inl ⟨by rfl, ?hy125⟩) hHeld ?rest125
    case hy125 => (intro wz hSw; (try dsimp only at hSw); go_simp; (try with_reducible rfl))
    (try simp only [Act.put, List.getElem_toArray, List.getElem_cons_succ, List.getElem_cons_zero]); (try simp only [List.setIfInBounds_toArray]); (try simp only [List.set_cons_succ]); (try simp only [List.set_cons_zero])
    refine wpAnyH_take (i := 4) (v := ?v126) rfl (by kernel_rfl) (by kernel_rfl) (by kernel_rfl) (fun _ _ _ h => h) (Or.inl ⟨by rfl, ?hy126⟩) hHeld ?rest126
    case hy126 => (intro wz hSw; (try dsimp only at hSw); go_simp; (try with_reducible rfl))
    (try simp only [Act.put, List.getElem_toArray, List.getElem_cons_succ, List.getElem_cons_zero]); (try simp only [List.setIfInBounds_toArray]); (try simp only [List.set_cons_succ]); (try simp only [List.set_cons_zero])
    refine wpAnyH_take (i := 5) (v := ?v127) rfl (by kernel_rfl) (by kernel_rfl) (by kernel_rfl) (fun _ _ _ h => h) (Or.inl ⟨by rfl, ?hy127⟩) hHeld ?rest127
    case hy127 => (intro wz hSw; (try dsimp only at hSw); go_simp; (try with_reducible rfl))
    (try simp only [Act.put, List.getElem_toArray, List.getElem_cons_succ, List.getElem_cons_zero]); (try simp only [List.setIfInBounds_toArray]); (try simp only [List.set_cons_succ]); (try simp only [List.set_cons_zero])
    refine wpAnyH_take (i := 6) (v := ?v128) rfl (by kernel_rfl) (by kernel_rfl) (by kernel_rfl) (fun _ _ _ h => h) (Or.inl ⟨by rfl, ?hy128⟩) hHeld ?rest128
    case hy128 => (intro wz hSw; (try dsimp only at hSw); go_simp; (try with_reducible rfl))
    (try simp only [Act.put, List.getElem_toArray, List.getElem_cons_succ, List.getElem_cons_zero]); (try simp only [List.setIfInBounds_toArray]); (try simp only [List.set_cons_succ]); (try simp only [List.set_cons_zero])
    refine wpAnyH_take (i := 7) (v := ?v129) rfl (by kernel_rfl) (by kernel_rfl) (by kernel_rfl) (fun _ _ _ h => h) (Or.inl ⟨by rfl, ?hy129⟩) hHeld ?rest129
    case hy129 => (intro wz hSw; (try dsimp only at hSw); go_simp; (try with_reducible rfl))
    (try simp only [Act.put, List.getElem_toArray, List.getElem_cons_succ, List.getElem_cons_zero]); (try simp only [List.setIfInBounds_toArray]); (try simp only [List.set_cons_succ]); (try simp only [List.set_cons_zero])
    refine wpAnyH_take (i := 8) (v := ?v130) rfl (by kernel_rfl) (by kernel_rfl) (by kernel_rfl) (fun _ _ _ h => h) (Or.inl ⟨by rfl, ?hy130⟩) hHeld ?rest130
    case hy130 => (intro wz hSw; (try dsimp only at hSw); go_simp; (try with_reducible rfl))
    (try simp only [Act.put, List.getElem_toArray, List.getElem_cons_succ, List.getElem_cons_zero]); (try simp only [List.setIfInBounds_toArray]); (try simp only [List.set_cons_succ]); (try simp only [List.set_cons_zero])
    refine wpAnyH_take (i := 9) (v := ?v131) rfl (by kernel_rfl) (by kernel_rfl) (by kernel_rfl) (fun _ _ _ h => h) (Or.inl ⟨by rfl, ?hy131⟩) hHeld ?rest131
    case hy131 => (intro wz hSw; (try dsimp only at hSw); go_simp; (try with_reducible rfl))
    (try simp only [Act.put, List.getElem_toArray, List.getElem_cons_succ, List.getElem_cons_zero]); (try simp only [List.setIfInBounds_toArray]); (try simp only [List.set_cons_succ]); (try simp only [List.set_cons_zero])
    refine wpAnyH_take (i := 10) (v := ?v132) rfl (by kernel_rfl) (by kernel_rfl) (by kernel_rfl) (fun _ _ _ h => h) (Or.inl ⟨by rfl, ?hy132⟩) hHeld ?rest132
    case hy132 => (intro wz hSw; (try dsimp only at hSw); go_simp; (try with_reducible rfl))
    (try simp only [Act.put, List.getElem_toArray, List.getElem_cons_succ, List.getElem_cons_zero]); (try simp only [List.setIfInBounds_toArray]); (try simp only [List.set_cons_succ]); (try simp only [List.set_cons_zero])
    refine wpAnyH_take (i := 11) (v := ?v133) rfl (by kernel_rfl) (by kernel_rfl) (by kernel_rfl) (fun _ _ _ h => h) (Or.inl ⟨by rfl, ?hy133⟩) hHeld ?rest133
    case hy133 => (intro wz hSw; (try dsimp only at hSw); go_simp; (try with_reducible rfl))
    (try simp only [Act.put, List.getElem_toArray, List.getElem_cons_succ, List.getElem_cons_zero]); (try simp only [List.setIfInBounds_toArray]); (try simp only [List.set_cons_succ]); (try simp only [List.set_cons_zero])
    refine wpAnyH_take (i := 12) (v := undef) rfl (by kernel_rfl) (by kernel_rfl) (by kernel_rfl) (fun _ _ _ h => h) (Or.inr ⟨by rfl, rfl⟩) hHeld ?rest134
    (try simp only [Act.put, List.getElem_toArray, List.getElem_cons_succ, List.getElem_cons_zero]); (try simp only [List.setIfInBounds_toArray]); (try simp only [List.set_cons_succ]); (try simp only [List.set_cons_zero])
    refine wpAnyH_take (i := 13) (v := undef) rfl (by kernel_rfl) (by kernel_rfl) (by kernel_rfl) (fun _ _ _ h => h) (Or.inr ⟨by rfl, rfl⟩) hHeld ?rest135
    (try simp only [Act.put, List.getElem_toArray, List.getElem_cons_succ, List.getElem_cons_zero]); (try simp only [List.setIfInBounds_toArray]); (try simp only [List.set_cons_succ]); (try simp only [List.set_cons_zero])
    refine wpAnyH_take (i := 14) (v := undef) rfl (by kernel_rfl) (by kernel_rfl) (by kernel_rfl) (fun _ _ _ h => h) (Or.inr ⟨by rfl, rfl⟩) hHeld ?rest136
    (try simp only [Act.put, List.getElem_toArray, List.getElem_cons_succ, List.getElem_cons_zero]); (try simp only [List.setIfInBounds_toArray]); (try simp only [List.set_cons_succ]); (try simp only [List.set_cons_zero])
    refine wpAnyH_take (i := 15) (v := undef) rfl (by kernel_rfl) (by kernel_rfl) (by kernel_rfl) (fun _ _ _ h => h) (Or.inr ⟨by rfl, rfl⟩) hHeld ?rest137
    (try simp only [Act.put, List.getElem_toArray, List.getElem_cons_succ, List.getElem_cons_zero]); (try simp only [List.setIfInBounds_toArray]); (try simp only [List.set_cons_succ]); (try simp only [List.set_cons_zero])
    refine wpAnyH_take (i := 16) (v := undef) rfl (by kernel_rfl) (by kernel_rfl) (by kernel_rfl) (fun _ _ _ h => h) (Or.inr ⟨by rfl, rfl⟩) hHeld ?rest138
    (try simp only [Act.put, List.getElem_toArray, List.getElem_cons_succ, List.getElem_cons_zero]); (try simp only [List.setIfInBounds_toArray]); (try simp only [List.set_cons_succ]); (try simp only [List.set_cons_zero])
    refine wpAnyH_take (i := 17) (v := ?v139) rfl (by kernel_rfl) (by kernel_rfl) (by kernel_rfl) (fun _ _ _ h => h) (Or.inl ⟨by rfl, ?hy139⟩) hHeld ?rest139
    case hy139 => (intro wz hSw; (try dsimp only at hSw); go_simp; (try with_reducible rfl))
    (try simp only [Act.put, List.getElem_toArray, List.getElem_cons_succ, List.getElem_cons_zero]); (try simp only [List.setIfInBounds_toArray]); (try simp only [List.set_cons_succ]); (try simp only [List.set_cons_zero])
    refine wpAnyH_take (i := 18) (v := ?v140) rfl (by kernel_rfl) (by kernel_rfl) (by kernel_rfl) (fun _ _ _ h => h) (Or.inl ⟨by rfl, ?hy140⟩) hHeld ?rest140
    case hy140 => (intro wz hSw; (try dsimp only at hSw); go_simp; (try with_reducible rfl))
    (try simp only [Act.put, List.getElem_toArray, List.getElem_cons_succ, List.getElem_cons_zero]); (try simp only [List.setIfInBounds_toArray]); (try simp only [List.set_cons_succ]); (try simp only [List.set_cons_zero])
    refine wpAnyH_take (i := 19) (v := undef) rfl (by kernel_rfl) (by kernel_rfl) (by kernel_rfl) (fun _ _ _ h => h) (Or.inr ⟨by rfl, rfl⟩) hHeld ?rest141
    (try simp only [Act.put, List.getElem_toArray, List.getElem_cons_succ, List.getElem_cons_zero]); (try simp only [List.setIfInBounds_toArray]); (try simp only [List.set_cons_succ]); (try simp only [List.set_cons_zero])
    refine wpAnyH_take (i := 20) (v := undef) rfl (by kernel_rfl) (by kernel_rfl) (by kernel_rfl) (fun _ _ _ h => h) (Or.inr ⟨by rfl, rfl⟩) hHeld ?rest142
    (try simp only [Act.put, List.getElem_toArray, List.getElem_cons_succ, List.getElem_cons_zero]); (try simp only [List.setIfInBounds_toArray]); (try simp only [List.set_cons_succ]); (try simp only [List.set_cons_zero])
    refine wpAnyH_take (i := 21) (v := ?v143) rfl (by kernel_rfl) (by kernel_rfl) (by kernel_rfl) (fun _ _ _ h => h) (Or.inl ⟨by rfl, ?hy143⟩) hHeld ?rest143
    case hy143 => (intro wz hSw; (try dsimp only at hSw); go_simp; (try with_reducible rfl))
    (try simp only [Act.put, List.getElem_toArray, List.getElem_cons_succ, List.getElem_cons_zero]); (try simp only [List.setIfInBounds_toArray]); (try simp only [List.set_cons_succ]); (try simp only [List.set_cons_zero])
    refine wpAnyH_take (i := 22) (v := ?v144) rfl (by kernel_rfl) (by kernel_rfl) (by kernel_rfl) (fun _ _ _ h => h) (Or.inl ⟨by rfl, ?hy144⟩) hHeld ?rest144
    case hy144 => (intro wz hSw; (try dsimp only at hSw); go_simp; (try with_reducible rfl))
    (try simp only [Act.put, List.getElem_toArray, List.getElem_cons_succ, List.getElem_cons_zero]); (try simp only [List.setIfInBounds_toArray]); (try simp only [List.set_cons_succ]); (try simp only [List.set_cons_zero])
    refine wpAnyH_take (i := 23) (v := ?v145) rfl (by kernel_rfl) (by kernel_rfl) (by kernel_rfl) (fun _ _ _ h => h) (Or.inl ⟨by rfl, ?hy145⟩) hHeld ?rest145
    case hy145 => (intro wz hSw; (try dsimp only at hSw); go_simp; (try with_reducible rfl))
    (try simp only [Act.put, List.getElem_toArray, List.getElem_cons_succ, List.getElem_cons_zero]); (try simp only [List.setIfInBounds_toArray]); (try simp only [List.set_cons_succ]); (try simp only [List.set_cons_zero])
    refine wpAnyH_done (by kernel_rfl) ?_ _
    have hE9 := Lib.hid (HE9.out.trans (And.left hHeld))
    clear hHeld
    go_wp2
    go_ret2
    exact Or.inl ⟨HF.out, ⟨_, rfl⟩, hE9.out⟩
  have hpn : ((mt ms 0).p == P) = true := by simpa using hpe
  by_cases hsz : (mt ms 0).r ≤ 30
  case neg =>
    have HF := Lib.hid (mod_nosize (P := P) (D := (k : Int)) (l := l) hsz)
    have hsn : decide ((mt ms 0).r ≤ 30) = false := by simpa using hsz
    clear hsz hpe
    go_enter Try.func54, Try.ntmps54
    have A0_1 := Lib.hid (cells_new' w #[.int .i64 P, .int .i64 k, .slice (some ⟨a0, oa, none⟩) n n] 29 (w.heap.size) (by simp))
    have E_2 := Lib.hid ((Ext.refl w).alloc (.cells #[.int .i64 P, .int .i64 k, .slice (some ⟨a0, oa, none⟩) n n] 29))
    have lA0 := A0_1.out.1
    have qA00 := A0_1.out.2 0 _ rfl
    have qA01 := A0_1.out.2 1 _ rfl
    have qA02 := A0_1.out.2 2 _ rfl
    try simp only [World.size_alloc] at lA0
    go_wp2_with fail
    refine (wrap_impl P _ a0 oa n n l _ (HT.out.ext E_2.out) hn (Nat.le_refl _) (by unfold maxLen; omega)).mono ?_
    rintro e w_3 ⟨BL, rfl, hb, hlo, h_3⟩
    clear lA0 qA00 qA01 qA02
    have A0_4 := Lib.hid (A0_1.out.ext h_3)
    clear A0_1
    have E_5 := Lib.hid (E_2.out.trans h_3)
    clear E_2
    have B_6 := Lib.hid hb
    have HLO := Lib.hid hlo
    clear hb hlo
    rw [H0.out]
    have lB := B_6.out.1
    have qB0 := B_6.out.2 0 _ rfl
    have qB1 := B_6.out.2 1 _ rfl
    have qB2 := B_6.out.2 2 _ rfl
    try simp only [World.size_alloc] at lB
    go_wp2_with fail
    refine (sameSquares_impl g k ms _ (HM.out.ext E_5.out) hk).mono ?_
    rintro e w_7 ⟨rfl, h_7⟩
    clear lB qB0 qB1 qB2
    have A0_8 := Lib.hid (A0_4.out.ext h_7)
    clear A0_4
    have B_9 := Lib.hid (B_6.out.ext h_7)
    clear B_6
    have E_10 := Lib.hid (E_5.out.trans h_7)
    clear E_5
    rw [HSQ.out]
    have HG9 := Lib.hid (HM.out.ext E_10.out)
    have lG := HG9.out.lt
    obtain ⟨b0, c0, c1, _⟩ := HG9.out.get 0 (by omega)
    simp only [Nat.zero_mul] at c0
    skip
    go_wp2_with fail
    have EB := Lib.hid ((Ext.refl w_7).alloc (.cells #[.pointer (some ⟨BL, 0, none⟩), .slice (some ⟨g, 0, none⟩) k k, .int .i64 (mt ms 0).r] 74))
    have HCX := Lib.hid (cells_new w_7 #[.pointer (some ⟨BL, 0, none⟩), .slice (some ⟨g, 0, none⟩) k k, .int .i64 (mt ms 0).r] 74)
    have hBM : w.heap.size ≤ w_7.heap.size := E_10.out.le
    have HBX := Lib.hid (B_9.out.ext EB.out)
    have HE9 := Lib.hid (E_10.out.trans EB.out)
    have HMX := Lib.hid (HG9.out.ext EB.out)
    have lC := HCX.out.1
    have x0 := HCX.out.2 0 _ rfl
    have x2 := HCX.out.2 2 _ rfl
    have lB := HBX.out.1
    have y0 := HBX.out.2 0 _ rfl
    have lG2 := HMX.out.lt
    have d0 := (EB.out.cells g 0 lG).trans c0
    clear c0 c1 lG
    generalize hWX : w_7.alloc (.cells #[.pointer (some ⟨BL, 0, none⟩), .slice (some ⟨g, 0, none⟩) k k, .int .i64 (mt ms 0).r] 74) = WX at *
    generalize hBMX : w_7.heap.size = BM at *
    clear hWX hBMX EB
    refine wp_region_held_drew (S := (fun w' => Ext WX w' ∧ (∀ b o, b < WX.heap.size → w'.cell? ⟨b, o, none⟩ = WX.cell? ⟨b, o, none⟩))) (by kernel_rfl) (ext2 (Ext.refl WX).drew) (fun hHeld => ?_)
    refine wpAnyH_take (i := 0) (v := ?v146) rfl (by kernel_rfl) (by kernel_rfl) (by kernel_rfl) (fun _ _ _ h => h) (Or.inl ⟨by rfl, ?hy146⟩) hHeld ?rest146
    case hy146 => (intro wz hSw; (try dsimp only at hSw); go_simp; (try with_reducible rfl))
    (try simp only [Act.put, List.getElem_toArray, List.getElem_cons_succ, List.getElem_cons_zero]); (try simp only [List.setIfInBounds_toArray]); (try simp only [List.set_cons_succ]); (try simp only [List.set_cons_zero])
    refine wpAnyH_take (i := 1) (v := ?v147) rfl (by kernel_rfl) (by kernel_rfl) (by kernel_rfl) (fun _ _ _ h => h) (Or.inl ⟨by rfl, ?hy147⟩) hHeld ?rest147
    case hy147 => (intro wz hSw; (try dsimp only at hSw); go_simp; (try with_reducible rfl))
    (try simp only [Act.put, List.getElem_toArray, List.getElem_cons_succ, List.getElem_cons_zero]); (try simp only [List.setIfInBounds_toArray]); (try simp only [List.set_cons_succ]); (try simp only [List.set_cons_zero])
    refine wpAnyH_take (i := 2) (v := ?v148) rfl (by kernel_rfl) (by kernel_rfl) (by kernel_rfl) (fun _ _ _ h => h) (Or.inl ⟨by rfl, ?hy148⟩) hHeld ?rest148
    case hy148 => (intro wz hSw; (try dsimp only at hSw); go_simp; (try with_reducible rfl))
    (try simp only [Act.put, List.getElem_toArray, List.getElem_cons_succ, List.getElem_cons_zero]); (try simp only [List.setIfInBounds_toArray]); (try simp only [List.set_cons_succ]); (try simp only [List.set_cons_zero])
    refine wpAnyH_take (i := 3) (v := ?v149) rfl (by kernel_rfl) (by kernel_rfl) (by kernel_rfl) (fun _ _ _ h => h) (Or.inl ⟨by rfl, ?hy149⟩) hHeld ?rest149
    case hy149 => (intro wz hSw; (try dsimp only at hSw); go_simp; (try with_reducible rfl))
    (try simp only [Act.put, List.getElem_toArray, List.getElem_cons_succ, List.getElem_cons_zero]); (try simp only [List.setIfInBounds_toArray]); (try simp only [List.set_cons_succ]); (try simp only [List.set_cons_zero])
    refine wpAnyH_take (i := 4) (v := ?v150) rfl (by kernel_rfl) (by kernel_rfl) (by kernel_rfl) (fun _ _ _ h => h) (Or.inl ⟨by rfl, ?hy150⟩) hHeld ?rest150
    case hy150 => (intro wz hSw; (try dsimp only at hSw); go_simp; (try with_reducible rfl))
    (try simp only [Act.put, List.getElem_toArray, List.getElem_cons_succ, List.getElem_cons_zero]); (try simp only [List.setIfInBounds_toArray]); (try simp only [List.set_cons_succ]); (try simp only [List.set_cons_zero])
    refine wpAnyH_take (i := 5) (v := ?v151) rfl (by kernel_rfl) (by kernel_rfl) (by kernel_rfl) (fun _ _ _ h => h) (Or.inl ⟨by rfl, ?hy151⟩) hHeld ?rest151
    case hy151 => (intro wz hSw; (try dsimp only at hSw); go_simp; (try with_reducible rfl))
    (try simp only [Act.put, List.getElem_toArray, List.getElem_cons_succ, List.getElem_cons_zero]); (try simp only [List.setIfInBounds_toArray]); (try simp only [List.set_cons_succ]); (try simp only [List.set_cons_zero])
    refine wpAnyH_take (i := 6) (v := ?v152) rfl (by kernel_rfl) (by kernel_rfl) (by kernel_rfl) (fun _ _ _ h => h) (Or.inl ⟨by rfl, ?hy152⟩) hHeld ?rest152
    case hy152 => (intro wz hSw; (try dsimp only at hSw); go_simp; (try with_reducible rfl))
    (try simp only [Act.put, List.getElem_toArray, List.getElem_cons_succ, List.getElem_cons_zero]); (try simp only [List.setIfInBounds_toArray]); (try simp only [List.set_cons_succ]); (try simp only [List.set_cons_zero])
    refine wpAnyH_take (i := 7) (v := ?v153) rfl (by kernel_rfl) (by kernel_rfl) (by kernel_rfl) (fun _ _ _ h => h) (Or.inl ⟨by rfl, ?hy153⟩) hHeld ?rest153
    case hy153 => (intro wz hSw; (try dsimp only at hSw); go_simp; (try with_reducible rfl))
    (try simp only [Act.put, List.getElem_toArray, List.getElem_cons_succ, List.getElem_cons_zero]); (try simp only [List.setIfInBounds_toArray]); (try simp only [List.set_cons_succ]); (try simp only [List.set_cons_zero])
    refine wpAnyH_take (i := 8) (v := ?v154) rfl (by kernel_rfl) (by kernel_rfl) (by kernel_rfl) (fun _ _ _ h => h) (Or.inl ⟨by rfl, ?hy154⟩) hHeld ?rest154
    case hy154 => (intro wz hSw; (try dsimp only at hSw); go_simp; (try with_reducible rfl))
    (try simp only [Act.put, List.getElem_toArray, List.getElem_cons_succ, List.getElem_cons_zero]); (try simp only [List.setIfInBounds_toArray]); (try simp only [List.set_cons_succ]); (try simp only [List.set_cons_zero])
    refine wpAnyH_take (i := 9) (v := ?v155) rfl (by kernel_rfl) (by kernel_rfl) (by kernel_rfl) (fun _ _ _ h => h) (Or.inl ⟨by rfl, ?hy155⟩) hHeld ?rest155
    case hy155 => (intro wz hSw; (try dsimp only at hSw); go_simp; (try with_reducible rfl))
    (try simp only [Act.put, List.getElem_toArray, List.getElem_cons_succ, List.getElem_cons_zero]); (try simp only [List.setIfInBounds_toArray]); (try simp only [List.set_cons_succ]); (try simp only [List.set_cons_zero])
    refine wpAnyH_take (i := 10) (v := ?v156) rfl (by kernel_rfl) (by kernel_rfl) (by kernel_rfl) (fun _ _ _ h => h) (Or.inl ⟨by rfl, ?hy156⟩) hHeld ?rest156
    case hy156 => (intro wz hSw; (try dsimp only at hSw); go_simp; (try with_reducible rfl))
    (try simp only [Act.put, List.getElem_toArray, List.getElem_cons_succ, List.getElem_cons_zero]); (try simp only [List.setIfInBounds_toArray]); (try simp only [List.set_cons_succ]); (try simp only [List.set_cons_zero])
    refine wpAnyH_take (i := 11) (v := ?v157) rfl (by kernel_rfl) (by kernel_rfl) (by kernel_rfl) (fun _ _ _ h => h) (Or.inl ⟨by rfl, ?hy157⟩) hHeld ?rest157
    case hy157 => (intro wz hSw; (try dsimp only at hSw); go_simp; (try with_reducible rfl))
    (try simp only [Act.put, List.getElem_toArray, List.getElem_cons_succ, List.getElem_cons_zero]); (try simp only [List.setIfInBounds_toArray]); (try simp only [List.set_cons_succ]); (try simp only [List.set_cons_zero])
    refine wpAnyH_take (i := 12) (v := ?v158) rfl (by kernel_rfl) (by kernel_rfl) (by kernel_rfl) (fun _ _ _ h => h) (Or.inl ⟨by rfl, ?hy158⟩) hHeld ?rest158
    case hy158 => (intro wz hSw; (try dsimp only at hSw); go_simp; (try with_reducible rfl))
    (try simp only [Act.put, List.getElem_toArray, List.getElem_cons_succ, List.getElem_cons_zero]); (try simp only [List.setIfInBounds_toArray]); (try simp only [List.set_cons_succ]); (try simp only [List.set_cons_zero])
    refine wpAnyH_take (i := 13) (v := ?v159) rfl (by kernel_rfl) (by kernel_rfl) (by kernel_rfl) (fun _ _ _ h => h) (Or.inl ⟨by rfl, ?hy159⟩) hHeld ?rest159
    case hy159 => (intro wz hSw; (try dsimp only at hSw); go_simp; (try with_reducible rfl))
    (try simp only [Act.put, List.getElem_toArray, List.getElem_cons_succ, List.getElem_cons_zero]); (try simp only [List.setIfInBounds_toArray]); (try simp only [List.set_cons_succ]); (try simp only [List.set_cons_zero])
    refine wpAnyH_take (i := 14) (v := ?v160) rfl (by kernel_rfl) (by kernel_rfl) (by kernel_rfl) (fun _ _ _ h => h) (Or.inl ⟨by rfl, ?hy160⟩) hHeld ?rest160
    case hy160 => (intro wz hSw; (try dsimp only at hSw); go_simp; (try with_reducible rfl))
    (try simp only [Act.put, List.getElem_toArray, List.getElem_cons_succ, List.getElem_cons_zero]); (try simp only [List.setIfInBounds_toArray]); (try simp only [List.set_cons_succ]); (try simp only [List.set_cons_zero])
    refine wpAnyH_take (i := 15) (v := ?v161) rfl (by kernel_rfl) (by kernel_rfl) (by kernel_rfl) (fun _ _ _ h => h) (Or.inl ⟨by rfl, ?hy161⟩) hHeld ?rest161
    case hy161 => (intro wz hSw; (try dsimp only at hSw); go_simp; (try with_reducible rfl))
    (try simp only [Act.put, List.getElem_toArray, List.getElem_cons_succ, List.getElem_cons_zero]); (try simp only [List.setIfInBounds_toArray]); (try simp only [List.set_cons_succ]); (try simp only [List.set_cons_zero])
    refine wpAnyH_take (i := 16) (v := ?v162) rfl (by kernel_rfl) (by kernel_rfl) (by kernel_rfl) (fun _ _ _ h => h) (Or.inl ⟨by rfl, ?hy162⟩) hHeld ?rest162
    case hy162 => (intro wz hSw; (try dsimp only at hSw); go_simp; (try with_reducible rfl))
    (try simp only [Act.put, List.getElem_toArray, List.getElem_cons_succ, List.getElem_cons_zero]); (try simp only [List.setIfInBounds_toArray]); (try simp only [List.set_cons_succ]); (try simp only [List.set_cons_zero])
    refine wpAnyH_take (i := 17) (v := ?v163) rfl (by kernel_rfl) (by kernel_rfl) (by kernel_rfl) (fun _ _ _ h => h) (Or.inl ⟨by rfl, ?hy163⟩) hHeld ?rest163
    case hy163 => (intro wz hSw; (try dsimp only at hSw); go_simp; (try with_reducible rfl))
    (try simp only [Act.put, List.getElem_toArray, List.getElem_cons_succ, List.getElem_cons_zero]); (try simp only [List.setIfInBounds_toArray]); (try simp only [List.set_cons_succ]); (try simp only [List.set_cons_zero])
    refine wpAnyH_take (i := 18) (v := ?v164) rfl (by kernel_rfl) (by kernel_rfl) (by kernel_rfl) (fun _ _ _ h => h) (Or.inl ⟨by rfl, ?hy164⟩) hHeld ?rest164
    case hy164 => (intro wz hSw; (try dsimp only at hSw); go_simp; (try with_reducible rfl))
    (try simp only [Act.put, List.getElem_toArray, List.getElem_cons_succ, List.getElem_cons_zero]); (try simp only [List.setIfInBounds_toArray]); (try simp only [List.set_cons_succ]); (try simp only [List.set_cons_zero])
    refine wpAnyH_take (i := 19) (v := undef) rfl (by kernel_rfl) (by kernel_rfl) (by kernel_rfl) (fun _ _ _ h => h) (Or.inr ⟨by rfl, rfl⟩) hHeld ?rest165
    (try simp only [Act.put, List.getElem_toArray, List.getElem_cons_succ, List.getElem_cons_zero]); (try simp only [List.setIfInBounds_toArray]); (try simp only [List.set_cons_succ]); (try simp only [List.set_cons_zero])
    refine wpAnyH_take (i := 20) (v := undef) rfl (by kernel_rfl) (by kernel_rfl) (by kernel_rfl) (fun _ _ _ h => h) (Or.inr ⟨by rfl, rfl⟩) hHeld ?rest166
    (try simp only [Act.put, List.getElem_toArray, List.getElem_cons_succ, List.getElem_cons_zero]); (try simp only [List.setIfInBounds_toArray]); (try simp only [List.set_cons_succ]); (try simp only [List.set_cons_zero])
    refine wpAnyH_take (i := 21) (v := ?v167) rfl (by kernel_rfl) (by kernel_rfl) (by kernel_rfl) (fun _ _ _ h => h) (Or.inl ⟨by rfl, ?hy167⟩) hHeld ?rest167
    case hy167 => (intro wz hSw; (try dsimp only at hSw); go_simp; (try with_reducible rfl))
    (try simp only [Act.put, List.getElem_toArray, List.getElem_cons_succ, List.getElem_cons_zero]); (try simp only [List.setIfInBounds_toArray]); (try simp only [List.set_cons_succ]); (try simp only [List.set_cons_zero])
    refine wpAnyH_take (i := 22) (v := ?v168) rfl (by kernel_rfl) (by kernel_rfl) (by kernel_rfl) (fun _ _ _ h => h) (Or.inl ⟨by rfl, ?hy168⟩) hHeld ?rest168
    case hy168 => (intro wz hSw; (try dsimp only at hSw); go_simp; (try with_reducible rfl))
    (try simp only [Act.put, List.getElem_toArray, List.getElem_cons_succ, List.getElem_cons_zero]); (try simp only [List.setIfInBounds_toArray]); (try simp only [List.set_cons_succ]); (try simp only [List.set_cons_zero])
    refine wpAnyH_take (i := 23) (v := ?v169) rfl (by kernel_rfl) (by kernel_rfl) (by kernel_rfl) (fun _ _ _ h => h) (Or.inl ⟨by rfl, ?hy169⟩) hHeld ?rest169
    case hy169 => (intro wz hSw; (try dsimp only at hSw); go_simp; (try with_reducible rfl))
    (try simp only [Act.put, List.getElem_toArray, List.getElem_cons_succ, List.getElem_cons_zero]); (try simp only [List.setIfInBounds_toArray]); (try simp only [List.set_cons_succ]); (try simp only [List.set_cons_zero])
    refine wpAnyH_done (by kernel_rfl) ?_ _
    have hE9 := Lib.hid (HE9.out.trans (And.left hHeld))
    clear hHeld
    go_wp2
    go_ret2
    exact Or.inl ⟨HF.out, ⟨_, rfl⟩, hE9.out⟩
  have hsn : decide ((mt ms 0).r ≤ 30) = true := by simpa using hsz
  have h1 : ∀ i, i < k → SpI P ms i := fun i hi => sq_spI (P := P) (fun i hi => HALL.out i (by rw [← HML.out]; exact hi)) (by rw [HML.out]; omega) hpe hsz i (by rw [HML.out]; exact hi)
  obtain ⟨S, hS, h2⟩ := spI_mk (P := P) (l := l) H0.out (show 0 < k by omega) HML.out h1
  have hr0 : (mt ms 0).r = S := by rw [(h2 0 (by omega)).2]
  have HLW : Hid (lawsB P k S l ms = true → modB P k l ms = true ∧ ModP P k S n l ms) := fun h => mod_yes HT.out.1 H0.out (by omega) HML.out hS h2 (lawsB_iff.1 h)
  have HLN : Hid (lawsB P k S l ms = false → modB P k l ms = false) := fun h => by
    refine modB_false (fun h' => ?_)
    obtain ⟨_, d, S', e, hm⟩ := h'
    obtain rfl : k = d := by omega
    have e2 := hm.at_ 0 hm.pos
    rw [(h2 0 hm.pos).2] at e2
    have : (S : Int) = S' := by injection e2
    obtain rfl : S = S' := by omega
    rw [lawsB_true hm.law] at h
    exact absurd h (by simp)
  have HEQ := Lib.hid (fun i hi => (h2 i hi).2)
  have HLE : Hid (∀ i, i < k → (mt ms i).d.length = S * S) := fun i hi => by
    have := mok_len (h2 i hi).1
    rw [← Int.natCast_mul] at this
    omega
  have HRE : Hid (∀ i, i < k → Res (mt ms i).d P) := fun i hi => mok_res (h2 i hi).1
  clear h1 h2 hpe hsz HALL
  rw [hr0] at hsn
  have HR0 := Lib.hid hr0
  clear hr0
  go_enter Try.func54, Try.ntmps54
  have A0_1 := Lib.hid (cells_new' w #[.int .i64 P, .int .i64 k, .slice (some ⟨a0, oa, none⟩) n n] 29 (w.heap.size) (by simp))
  have E_2 := Lib.hid ((Ext.refl w).alloc (.cells #[.int .i64 P, .int .i64 k, .slice (some ⟨a0, oa, none⟩) n n] 29))
  have lA0 := A0_1.out.1
  have qA00 := A0_1.out.2 0 _ rfl
  have qA01 := A0_1.out.2 1 _ rfl
  have qA02 := A0_1.out.2 2 _ rfl
  try simp only [World.size_alloc] at lA0
  go_wp2_with fail
  refine (wrap_impl P _ a0 oa n n l _ (HT.out.ext E_2.out) hn (Nat.le_refl _) (by unfold maxLen; omega)).mono ?_
  rintro e w_3 ⟨BL, rfl, hb, hlo, h_3⟩
  clear lA0 qA00 qA01 qA02
  have A0_4 := Lib.hid (A0_1.out.ext h_3)
  clear A0_1
  have E_5 := Lib.hid (E_2.out.trans h_3)
  clear E_2
  have B_6 := Lib.hid hb
  have HLO := Lib.hid hlo
  clear hb hlo
  rw [H0.out]
  have lB := B_6.out.1
  have qB0 := B_6.out.2 0 _ rfl
  have qB1 := B_6.out.2 1 _ rfl
  have qB2 := B_6.out.2 2 _ rfl
  try simp only [World.size_alloc] at lB
  go_wp2_with fail
  refine (sameSquares_impl g k ms _ (HM.out.ext E_5.out) hk).mono ?_
  rintro e w_7 ⟨rfl, h_7⟩
  clear lB qB0 qB1 qB2
  have A0_8 := Lib.hid (A0_4.out.ext h_7)
  clear A0_4
  have B_9 := Lib.hid (B_6.out.ext h_7)
  clear B_6
  have E_10 := Lib.hid (E_5.out.trans h_7)
  clear E_5
  rw [HSQ.out]
  have HG9 := Lib.hid (HM.out.ext E_10.out)
  have lG := HG9.out.lt
  obtain ⟨b0, c0, c1, _⟩ := HG9.out.get 0 (by omega)
  simp only [Nat.zero_mul] at c0
  rw [HR0.out] at c1
  go_wp2_with fail
  have EB := Lib.hid ((Ext.refl w_7).alloc (.cells #[.pointer (some ⟨BL, 0, none⟩), .slice (some ⟨g, 0, none⟩) k k, .int .i64 (S : Int)] 74))
  have HCX := Lib.hid (cells_new w_7 #[.pointer (some ⟨BL, 0, none⟩), .slice (some ⟨g, 0, none⟩) k k, .int .i64 (S : Int)] 74)
  have hBM : w.heap.size ≤ w_7.heap.size := E_10.out.le
  have HBX := Lib.hid (B_9.out.ext EB.out)
  have HE9 := Lib.hid (E_10.out.trans EB.out)
  have HMX := Lib.hid (HG9.out.ext EB.out)
  have lC := HCX.out.1
  have x0 := HCX.out.2 0 _ rfl
  have x2 := HCX.out.2 2 _ rfl
  have lB := HBX.out.1
  have y0 := HBX.out.2 0 _ rfl
  have lG2 := HMX.out.lt
  have d0 := (EB.out.cells g 0 lG).trans c0
  clear c0 c1 lG
  generalize hWX : w_7.alloc (.cells #[.pointer (some ⟨BL, 0, none⟩), .slice (some ⟨g, 0, none⟩) k k, .int .i64 (S : Int)] 74) = WX at *
  generalize hBMX : w_7.heap.size = BM at *
  clear hWX hBMX EB
  refine wp_region_held_drew (S := (fun w' => Ext WX w' ∧ (∀ b o, b < WX.heap.size → w'.cell? ⟨b, o, none⟩ = WX.cell? ⟨b, o, none⟩))) (by kernel_rfl) (ext2 (Ext.refl WX).drew) (fun hHeld => ?_)
  refine wpAnyH_take (i := 0) (v := ?v170) rfl (by kernel_rfl) (by kernel_rfl) (by kernel_rfl) (fun _ _ _ h => h) (Or.inl ⟨by rfl, ?hy170⟩) hHeld ?rest170
  case hy170 => (intro wz hSw; (try dsimp only at hSw); go_simp; (try with_reducible rfl))
  (try simp only [Act.put, List.getElem_toArray, List.getElem_cons_succ, List.getElem_cons_zero]); (try simp only [List.setIfInBounds_toArray]); (try simp only [List.set_cons_succ]); (try simp only [List.set_cons_zero])
  refine wpAnyH_take (i := 1) (v := ?v171) rfl (by kernel_rfl) (by kernel_rfl) (by kernel_rfl) (fun _ _ _ h => h) (Or.inl ⟨by rfl, ?hy171⟩) hHeld ?rest171
  case hy171 => (intro wz hSw; (try dsimp only at hSw); go_simp; (try with_reducible rfl))
  (try simp only [Act.put, List.getElem_toArray, List.getElem_cons_succ, List.getElem_cons_zero]); (try simp only [List.setIfInBounds_toArray]); (try simp only [List.set_cons_succ]); (try simp only [List.set_cons_zero])
  refine wpAnyH_take (i := 2) (v := ?v172) rfl (by kernel_rfl) (by kernel_rfl) (by kernel_rfl) (fun _ _ _ h => h) (Or.inl ⟨by rfl, ?hy172⟩) hHeld ?rest172
  case hy172 => (intro wz hSw; (try dsimp only at hSw); go_simp; (try with_reducible rfl))
  (try simp only [Act.put, List.getElem_toArray, List.getElem_cons_succ, List.getElem_cons_zero]); (try simp only [List.setIfInBounds_toArray]); (try simp only [List.set_cons_succ]); (try simp only [List.set_cons_zero])
  refine wpAnyH_take (i := 3) (v := ?v173) rfl (by kernel_rfl) (by kernel_rfl) (by kernel_rfl) (fun _ _ _ h => h) (Or.inl ⟨by rfl, ?hy173⟩) hHeld ?rest173
  case hy173 => (intro wz hSw; (try dsimp only at hSw); go_simp; (try with_reducible rfl))
  (try simp only [Act.put, List.getElem_toArray, List.getElem_cons_succ, List.getElem_cons_zero]); (try simp only [List.setIfInBounds_toArray]); (try simp only [List.set_cons_succ]); (try simp only [List.set_cons_zero])
  refine wpAnyH_take (i := 4) (v := ?v174) rfl (by kernel_rfl) (by kernel_rfl) (by kernel_rfl) (fun _ _ _ h => h) (Or.inl ⟨by rfl, ?hy174⟩) hHeld ?rest174
  case hy174 => (intro wz hSw; (try dsimp only at hSw); go_simp; (try with_reducible rfl))
  (try simp only [Act.put, List.getElem_toArray, List.getElem_cons_succ, List.getElem_cons_zero]); (try simp only [List.setIfInBounds_toArray]); (try simp only [List.set_cons_succ]); (try simp only [List.set_cons_zero])
  refine wpAnyH_take (i := 5) (v := ?v175) rfl (by kernel_rfl) (by kernel_rfl) (by kernel_rfl) (fun _ _ _ h => h) (Or.inl ⟨by rfl, ?hy175⟩) hHeld ?rest175
  case hy175 => (intro wz hSw; (try dsimp only at hSw); go_simp; (try with_reducible rfl))
  (try simp only [Act.put, List.getElem_toArray, List.getElem_cons_succ, List.getElem_cons_zero]); (try simp only [List.setIfInBounds_toArray]); (try simp only [List.set_cons_succ]); (try simp only [List.set_cons_zero])
  refine wpAnyH_take (i := 6) (v := ?v176) rfl (by kernel_rfl) (by kernel_rfl) (by kernel_rfl) (fun _ _ _ h => h) (Or.inl ⟨by rfl, ?hy176⟩) hHeld ?rest176
  case hy176 => (intro wz hSw; (try dsimp only at hSw); go_simp; (try with_reducible rfl))
  (try simp only [Act.put, List.getElem_toArray, List.getElem_cons_succ, List.getElem_cons_zero]); (try simp only [List.setIfInBounds_toArray]); (try simp only [List.set_cons_succ]); (try simp only [List.set_cons_zero])
  refine wpAnyH_take (i := 7) (v := ?v177) rfl (by kernel_rfl) (by kernel_rfl) (by kernel_rfl) (fun _ _ _ h => h) (Or.inl ⟨by rfl, ?hy177⟩) hHeld ?rest177
  case hy177 => (intro wz hSw; (try dsimp only at hSw); go_simp; (try with_reducible rfl))
  (try simp only [Act.put, List.getElem_toArray, List.getElem_cons_succ, List.getElem_cons_zero]); (try simp only [List.setIfInBounds_toArray]); (try simp only [List.set_cons_succ]); (try simp only [List.set_cons_zero])
  refine wpAnyH_take (i := 8) (v := ?v178) rfl (by kernel_rfl) (by kernel_rfl) (by kernel_rfl) (fun _ _ _ h => h) (Or.inl ⟨by rfl, ?hy178⟩) hHeld ?rest178
  case hy178 => (intro wz hSw; (try dsimp only at hSw); go_simp; (try with_reducible rfl))
  (try simp only [Act.put, List.getElem_toArray, List.getElem_cons_succ, List.getElem_cons_zero]); (try simp only [List.setIfInBounds_toArray]); (try simp only [List.set_cons_succ]); (try simp only [List.set_cons_zero])
  refine wpAnyH_take (i := 9) (v := ?v179) rfl (by kernel_rfl) (by kernel_rfl) (by kernel_rfl) (fun _ _ _ h => h) (Or.inl ⟨by rfl, ?hy179⟩) hHeld ?rest179
  case hy179 => (intro wz hSw; (try dsimp only at hSw); go_simp; (try with_reducible rfl))
  (try simp only [Act.put, List.getElem_toArray, List.getElem_cons_succ, List.getElem_cons_zero]); (try simp only [List.setIfInBounds_toArray]); (try simp only [List.set_cons_succ]); (try simp only [List.set_cons_zero])
  refine wpAnyH_take (i := 10) (v := ?v180) rfl (by kernel_rfl) (by kernel_rfl) (by kernel_rfl) (fun _ _ _ h => h) (Or.inl ⟨by rfl, ?hy180⟩) hHeld ?rest180
  case hy180 => (intro wz hSw; (try dsimp only at hSw); go_simp; (try with_reducible rfl))
  (try simp only [Act.put, List.getElem_toArray, List.getElem_cons_succ, List.getElem_cons_zero]); (try simp only [List.setIfInBounds_toArray]); (try simp only [List.set_cons_succ]); (try simp only [List.set_cons_zero])
  refine wpAnyH_take (i := 11) (v := ?v181) rfl (by kernel_rfl) (by kernel_rfl) (by kernel_rfl) (fun _ _ _ h => h) (Or.inl ⟨by rfl, ?hy181⟩) hHeld ?rest181
  case hy181 => (intro wz hSw; (try dsimp only at hSw); go_simp; (try with_reducible rfl))
  (try simp only [Act.put, List.getElem_toArray, List.getElem_cons_succ, List.getElem_cons_zero]); (try simp only [List.setIfInBounds_toArray]); (try simp only [List.set_cons_succ]); (try simp only [List.set_cons_zero])
  refine wpAnyH_take (i := 12) (v := ?v182) rfl (by kernel_rfl) (by kernel_rfl) (by kernel_rfl) (fun _ _ _ h => h) (Or.inl ⟨by rfl, ?hy182⟩) hHeld ?rest182
  case hy182 => (intro wz hSw; (try dsimp only at hSw); go_simp; (try with_reducible rfl))
  (try simp only [Act.put, List.getElem_toArray, List.getElem_cons_succ, List.getElem_cons_zero]); (try simp only [List.setIfInBounds_toArray]); (try simp only [List.set_cons_succ]); (try simp only [List.set_cons_zero])
  refine wpAnyH_take (i := 13) (v := ?v183) rfl (by kernel_rfl) (by kernel_rfl) (by kernel_rfl) (fun _ _ _ h => h) (Or.inl ⟨by rfl, ?hy183⟩) hHeld ?rest183
  case hy183 => (intro wz hSw; (try dsimp only at hSw); go_simp; (try with_reducible rfl))
  (try simp only [Act.put, List.getElem_toArray, List.getElem_cons_succ, List.getElem_cons_zero]); (try simp only [List.setIfInBounds_toArray]); (try simp only [List.set_cons_succ]); (try simp only [List.set_cons_zero])
  refine wpAnyH_take (i := 14) (v := ?v184) rfl (by kernel_rfl) (by kernel_rfl) (by kernel_rfl) (fun _ _ _ h => h) (Or.inl ⟨by rfl, ?hy184⟩) hHeld ?rest184
  case hy184 => (intro wz hSw; (try dsimp only at hSw); go_simp; (try with_reducible rfl))
  (try simp only [Act.put, List.getElem_toArray, List.getElem_cons_succ, List.getElem_cons_zero]); (try simp only [List.setIfInBounds_toArray]); (try simp only [List.set_cons_succ]); (try simp only [List.set_cons_zero])
  refine wpAnyH_take (i := 15) (v := ?v185) rfl (by kernel_rfl) (by kernel_rfl) (by kernel_rfl) (fun _ _ _ h => h) (Or.inl ⟨by rfl, ?hy185⟩) hHeld ?rest185
  case hy185 => (intro wz hSw; (try dsimp only at hSw); go_simp; (try with_reducible rfl))
  (try simp only [Act.put, List.getElem_toArray, List.getElem_cons_succ, List.getElem_cons_zero]); (try simp only [List.setIfInBounds_toArray]); (try simp only [List.set_cons_succ]); (try simp only [List.set_cons_zero])
  refine wpAnyH_take (i := 16) (v := ?v186) rfl (by kernel_rfl) (by kernel_rfl) (by kernel_rfl) (fun _ _ _ h => h) (Or.inl ⟨by rfl, ?hy186⟩) hHeld ?rest186
  case hy186 => (intro wz hSw; (try dsimp only at hSw); go_simp; (try with_reducible rfl))
  (try simp only [Act.put, List.getElem_toArray, List.getElem_cons_succ, List.getElem_cons_zero]); (try simp only [List.setIfInBounds_toArray]); (try simp only [List.set_cons_succ]); (try simp only [List.set_cons_zero])
  refine wpAnyH_take (i := 17) (v := ?v187) rfl (by kernel_rfl) (by kernel_rfl) (by kernel_rfl) (fun _ _ _ h => h) (Or.inl ⟨by rfl, ?hy187⟩) hHeld ?rest187
  case hy187 => (intro wz hSw; (try dsimp only at hSw); go_simp; (try with_reducible rfl))
  (try simp only [Act.put, List.getElem_toArray, List.getElem_cons_succ, List.getElem_cons_zero]); (try simp only [List.setIfInBounds_toArray]); (try simp only [List.set_cons_succ]); (try simp only [List.set_cons_zero])
  refine wpAnyH_take (i := 18) (v := ?v188) rfl (by kernel_rfl) (by kernel_rfl) (by kernel_rfl) (fun _ _ _ h => h) (Or.inl ⟨by rfl, ?hy188⟩) hHeld ?rest188
  case hy188 => (intro wz hSw; (try dsimp only at hSw); go_simp; (try with_reducible rfl))
  (try simp only [Act.put, List.getElem_toArray, List.getElem_cons_succ, List.getElem_cons_zero]); (try simp only [List.setIfInBounds_toArray]); (try simp only [List.set_cons_succ]); (try simp only [List.set_cons_zero])
  refine wpAnyH_take (i := 19) (v := ?v189) rfl (by kernel_rfl) (by kernel_rfl) (by kernel_rfl) (fun _ _ _ h => h) (Or.inl ⟨by rfl, ?hy189⟩) hHeld ?rest189
  case hy189 => (intro wz hSw; (try dsimp only at hSw); go_simp; (try with_reducible rfl))
  (try simp only [Act.put, List.getElem_toArray, List.getElem_cons_succ, List.getElem_cons_zero]); (try simp only [List.setIfInBounds_toArray]); (try simp only [List.set_cons_succ]); (try simp only [List.set_cons_zero])
  refine wpAnyH_ready (rs := [20]) (by kernel_rfl) (by simp) ?_
  refine AllReadyH.cons rfl (fun K' hK => ?_) AllReadyH.nil
  go_simp
  refine (obeysBrackets_impl P k S BM BL g k n n a0 oa l ms _ (HCX.out.ext (And.left hHeld)) (HBX.out.ext (And.left hHeld)) (HMX.out.ext (And.left hHeld)) (HT.out.ext (HE9.out.trans (And.left hHeld))) rfl hD hS HA.out.len (Nat.le_refl _) (by unfold maxLen; omega) HEQ.out HLE.out HRE.out hp hp2 HA.out.res).mono ?_
  rintro e w5 ⟨rfl, h5⟩
  have X5 := (And.left hHeld).trans h5
  dsimp only
  refine hK.out _ _ (ext2 X5) (fun hHeld => ?_)
  clear hK
  refine wpAnyH_take (i := 21) (v := ?v190) rfl (by kernel_rfl) (by kernel_rfl) (by kernel_rfl) (fun _ _ _ h => h) (Or.inl ⟨by rfl, ?hy190⟩) hHeld ?rest190
  case hy190 => (intro wz hSw; (try dsimp only at hSw); go_simp; (try with_reducible rfl))
  (try simp only [Act.put, List.getElem_toArray, List.getElem_cons_succ, List.getElem_cons_zero]); (try simp only [List.setIfInBounds_toArray]); (try simp only [List.set_cons_succ]); (try simp only [List.set_cons_zero])
  refine wpAnyH_take (i := 22) (v := ?v191) rfl (by kernel_rfl) (by kernel_rfl) (by kernel_rfl) (fun _ _ _ h => h) (Or.inl ⟨by rfl, ?hy191⟩) hHeld ?rest191
  case hy191 => (intro wz hSw; (try dsimp only at hSw); go_simp; (try with_reducible rfl))
  (try simp only [Act.put, List.getElem_toArray, List.getElem_cons_succ, List.getElem_cons_zero]); (try simp only [List.setIfInBounds_toArray]); (try simp only [List.set_cons_succ]); (try simp only [List.set_cons_zero])
  refine wpAnyH_take (i := 23) (v := ?v192) rfl (by kernel_rfl) (by kernel_rfl) (by kernel_rfl) (fun _ _ _ h => h) (Or.inl ⟨by rfl, ?hy192⟩) hHeld ?rest192
  case hy192 => (intro wz hSw; (try dsimp only at hSw); go_simp; (try with_reducible rfl))
  (try simp only [Act.put, List.getElem_toArray, List.getElem_cons_succ, List.getElem_cons_zero]); (try simp only [List.setIfInBounds_toArray]); (try simp only [List.set_cons_succ]); (try simp only [List.set_cons_zero])
  refine wpAnyH_done (by kernel_rfl) ?_ _
  have hE9 := Lib.hid (HE9.out.trans (And.left hHeld))
  rcases hlw : lawsB P k S l ms with _ | _
  · have HF := Lib.hid (HLN.out hlw)
    clear hHeld
    go_wp2
    go_ret2
    exact Or.inl ⟨HF.out, ⟨_, rfl⟩, hE9.out⟩
  · have HF := Lib.hid (HLW.out hlw)
    have HC9 := Lib.hid (HCX.out.ext (And.left hHeld))
    have HB9 := Lib.hid (HBX.out.ext (And.left hHeld))
    clear hHeld
    go_wp2
    go_ret2
    exact Or.inr ⟨HF.out.1, k, S, BM, BL, rfl, HF.out.2, rfl, HC9.out, HB9.out, hBM, hE9.out⟩
end Go.Proofs.Ytnikfalpjieibaa
