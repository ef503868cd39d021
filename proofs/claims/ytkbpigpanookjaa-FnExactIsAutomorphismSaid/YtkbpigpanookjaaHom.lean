/-
  Homomorphisms: both texts.
-/
import Derived.Test.YtkbpigpanookjaaHom0
import Derived.Test.YtkbpigpanookjaaOrth
namespace Go.Proofs.Ytkbpigpanookjaa
open Go.ChangeShapes Go.WideShapes Go.ChangeAt Go.RowKit
set_option linter.unusedVariables false
set_option linter.unusedSimpArgs false

noncomputable def mapsB (P D : Int) (l : List Int) (P' D' : Int) (l' : List Int) (P2 R2 C2 : Int) (ms : List Int) : Bool := algB P D l && (algB P' D' l' && (mok P2 R2 C2 ms && ((P2 == P) && ((P' == P) && ((R2 == D) && (C2 == D'))))))
noncomputable def homM (P D : Int) (l : List Int) (P' D' : Int) (l' : List Int) (P2 R2 C2 : Int) (ms : List Int) : Bool := mapsB P D l P' D' l' P2 R2 C2 ms && homB P D.toNat D'.toNat l l' ms

set_option maxRecDepth 100000 in
set_option maxHeartbeats 6400000 in
theorem l2Maps_spec {P D : Int} {a0 oa n : Nat} {l : List Int} {P' D' : Int} {b0 ob n' : Nat} {l' : List Int} {P2 R2 C2 : Int} {m0 om nm : Nat} {ms : List Int} {w : World} (hT : Reads w (some ⟨a0, oa, none⟩) n l) (hm0 : n ≤ 1048576) (hT' : Reads w (some ⟨b0, ob, none⟩) n' l') (hm1 : n' ≤ 1048576) (hX : Reads w (some ⟨m0, om, none⟩) nm ms) (hm2 : nm ≤ 1048576) :
    Calls Try.prog 127 #[.agg #[.int .i64 P, .int .i64 D, .slice (some ⟨a0, oa, none⟩) n n], .agg #[(.int .i64 P'), (.int .i64 D'), (.slice (some ⟨b0, ob, none⟩) n' n')], .agg #[.int .i64 P2, .int .i64 R2, .int .i64 C2, .slice (some ⟨m0, om, none⟩) nm nm]] w fun e w' => e = .returned (.bool (mapsB P D l P' D' l' P2 R2 C2 ms)) ∧ Ext w w' := by
  have HT := Lib.hid hT
  have HT' := Lib.hid hT'
  have HX := Lib.hid hX
  have hm3 : nm ≤ maxLen := by unfold maxLen; omega
  have HA : Hid (mapsB P D l P' D' l' P2 R2 C2 ms = (algB P D l && (algB P' D' l' && (mok P2 R2 C2 ms && ((P2 == P) && ((P' == P) && ((R2 == D) && (C2 == D')))))))) := rfl
  generalize mapsB P D l P' D' l' P2 R2 C2 ms = q at HA
  clear hT hT' hX
  rcases h0 : algB P D l with _ | _
  · have HF : Hid (q = false) := by rw [Hid, HA.out, h0]; rfl
    have H0 := Lib.hid h0
    clear h0 HA
    go_enter Try.func127, Try.ntmps127
    have A0_1 := Lib.hid (((cells_new' w #[.int .i64 P, .int .i64 D, .slice (some ⟨a0, oa, none⟩) n n] 27 (w.heap.size) (by simp)).ext ((Ext.refl _).alloc (.cells #[(.int .i64 P'), (.int .i64 D'), (.slice (some ⟨b0, ob, none⟩) n' n')] 27))).ext ((Ext.refl _).alloc (.cells #[.int .i64 P2, .int .i64 R2, .int .i64 C2, .slice (some ⟨m0, om, none⟩) nm nm] 41)))
    have A1_2 := Lib.hid ((cells_new' (w.alloc (.cells #[.int .i64 P, .int .i64 D, .slice (some ⟨a0, oa, none⟩) n n] 27)) #[(.int .i64 P'), (.int .i64 D'), (.slice (some ⟨b0, ob, none⟩) n' n')] 27 (w.heap.size + 1) (by simp)).ext ((Ext.refl _).alloc (.cells #[.int .i64 P2, .int .i64 R2, .int .i64 C2, .slice (some ⟨m0, om, none⟩) nm nm] 41)))
    have A2_3 := Lib.hid (cells_new' ((w.alloc (.cells #[.int .i64 P, .int .i64 D, .slice (some ⟨a0, oa, none⟩) n n] 27)).alloc (.cells #[(.int .i64 P'), (.int .i64 D'), (.slice (some ⟨b0, ob, none⟩) n' n')] 27)) #[.int .i64 P2, .int .i64 R2, .int .i64 C2, .slice (some ⟨m0, om, none⟩) nm nm] 41 (w.heap.size + 1 + 1) (by simp))
    have E_4 := Lib.hid ((((Ext.refl w).alloc (.cells #[.int .i64 P, .int .i64 D, .slice (some ⟨a0, oa, none⟩) n n] 27)).alloc (.cells #[(.int .i64 P'), (.int .i64 D'), (.slice (some ⟨b0, ob, none⟩) n' n')] 27)).alloc (.cells #[.int .i64 P2, .int .i64 R2, .int .i64 C2, .slice (some ⟨m0, om, none⟩) nm nm] 41))
    have lA0 := A0_1.out.1
    have qA00 := A0_1.out.2 0 _ rfl
    have qA01 := A0_1.out.2 1 _ rfl
    have qA02 := A0_1.out.2 2 _ rfl
    have lA1 := A1_2.out.1
    have qA10 := A1_2.out.2 0 _ rfl
    have qA11 := A1_2.out.2 1 _ rfl
    have qA12 := A1_2.out.2 2 _ rfl
    have lA2 := A2_3.out.1
    have qA20 := A2_3.out.2 0 _ rfl
    have qA21 := A2_3.out.2 1 _ rfl
    have qA22 := A2_3.out.2 2 _ rfl
    have qA23 := A2_3.out.2 3 _ rfl
    try simp only [World.size_alloc] at lA0 lA1 lA2
    go_wp2_with fail
    refine (algebraOk_spec (HT.out.ext E_4.out) hm0 H0.out).mono ?_
    rintro e w_5 ⟨rfl, h_5⟩
    clear lA0 qA00 qA01 qA02 lA1 qA10 qA11 qA12 lA2 qA20 qA21 qA22 qA23
    have A0_6 := Lib.hid (A0_1.out.ext h_5)
    clear A0_1
    have A1_7 := Lib.hid (A1_2.out.ext h_5)
    clear A1_2
    have A2_8 := Lib.hid (A2_3.out.ext h_5)
    clear A2_3
    have E_9 := Lib.hid (E_4.out.trans h_5)
    clear E_4
    have lA0 := A0_6.out.1
    have qA00 := A0_6.out.2 0 _ rfl
    have qA01 := A0_6.out.2 1 _ rfl
    have qA02 := A0_6.out.2 2 _ rfl
    have lA1 := A1_7.out.1
    have qA10 := A1_7.out.2 0 _ rfl
    have qA11 := A1_7.out.2 1 _ rfl
    have qA12 := A1_7.out.2 2 _ rfl
    have lA2 := A2_8.out.1
    have qA20 := A2_8.out.2 0 _ rfl
    have qA21 := A2_8.out.2 1 _ rfl
    have qA22 := A2_8.out.2 2 _ rfl
    have qA23 := A2_8.out.2 3 _ rfl
    try simp only [World.size_alloc] at lA0 lA1 lA2
    go_wp2
    go_ret
    exact ⟨ret_bool HF.out.symm, E_9.out⟩
  have H0 := Lib.hid h0
  rcases h1 : algB P' D' l' with _ | _
  · have HF : Hid (q = false) := by rw [Hid, HA.out, h0, h1]; rfl
    have H1 := Lib.hid h1
    clear h0 h1 HA
    go_enter Try.func127, Try.ntmps127
    have A0_1 := Lib.hid (((cells_new' w #[.int .i64 P, .int .i64 D, .slice (some ⟨a0, oa, none⟩) n n] 27 (w.heap.size) (by simp)).ext ((Ext.refl _).alloc (.cells #[(.int .i64 P'), (.int .i64 D'), (.slice (some ⟨b0, ob, none⟩) n' n')] 27))).ext ((Ext.refl _).alloc (.cells #[.int .i64 P2, .int .i64 R2, .int .i64 C2, .slice (some ⟨m0, om, none⟩) nm nm] 41)))
    have A1_2 := Lib.hid ((cells_new' (w.alloc (.cells #[.int .i64 P, .int .i64 D, .slice (some ⟨a0, oa, none⟩) n n] 27)) #[(.int .i64 P'), (.int .i64 D'), (.slice (some ⟨b0, ob, none⟩) n' n')] 27 (w.heap.size + 1) (by simp)).ext ((Ext.refl _).alloc (.cells #[.int .i64 P2, .int .i64 R2, .int .i64 C2, .slice (some ⟨m0, om, none⟩) nm nm] 41)))
    have A2_3 := Lib.hid (cells_new' ((w.alloc (.cells #[.int .i64 P, .int .i64 D, .slice (some ⟨a0, oa, none⟩) n n] 27)).alloc (.cells #[(.int .i64 P'), (.int .i64 D'), (.slice (some ⟨b0, ob, none⟩) n' n')] 27)) #[.int .i64 P2, .int .i64 R2, .int .i64 C2, .slice (some ⟨m0, om, none⟩) nm nm] 41 (w.heap.size + 1 + 1) (by simp))
    have E_4 := Lib.hid ((((Ext.refl w).alloc (.cells #[.int .i64 P, .int .i64 D, .slice (some ⟨a0, oa, none⟩) n n] 27)).alloc (.cells #[(.int .i64 P'), (.int .i64 D'), (.slice (some ⟨b0, ob, none⟩) n' n')] 27)).alloc (.cells #[.int .i64 P2, .int .i64 R2, .int .i64 C2, .slice (some ⟨m0, om, none⟩) nm nm] 41))
    have lA0 := A0_1.out.1
    have qA00 := A0_1.out.2 0 _ rfl
    have qA01 := A0_1.out.2 1 _ rfl
    have qA02 := A0_1.out.2 2 _ rfl
    have lA1 := A1_2.out.1
    have qA10 := A1_2.out.2 0 _ rfl
    have qA11 := A1_2.out.2 1 _ rfl
    have qA12 := A1_2.out.2 2 _ rfl
    have lA2 := A2_3.out.1
    have qA20 := A2_3.out.2 0 _ rfl
    have qA21 := A2_3.out.2 1 _ rfl
    have qA22 := A2_3.out.2 2 _ rfl
    have qA23 := A2_3.out.2 3 _ rfl
    try simp only [World.size_alloc] at lA0 lA1 lA2
    go_wp2_with fail
    refine (algebraOk_spec (HT.out.ext E_4.out) hm0 H0.out).mono ?_
    rintro e w_5 ⟨rfl, h_5⟩
    clear lA0 qA00 qA01 qA02 lA1 qA10 qA11 qA12 lA2 qA20 qA21 qA22 qA23
    have A0_6 := Lib.hid (A0_1.out.ext h_5)
    clear A0_1
    have A1_7 := Lib.hid (A1_2.out.ext h_5)
    clear A1_2
    have A2_8 := Lib.hid (A2_3.out.ext h_5)
    clear A2_3
    have E_9 := Lib.hid (E_4.out.trans h_5)
    clear E_4
    have lA0 := A0_6.out.1
    have qA00 := A0_6.out.2 0 _ rfl
    have qA01 := A0_6.out.2 1 _ rfl
    have qA02 := A0_6.out.2 2 _ rfl
    have lA1 := A1_7.out.1
    have qA10 := A1_7.out.2 0 _ rfl
    have qA11 := A1_7.out.2 1 _ rfl
    have qA12 := A1_7.out.2 2 _ rfl
    have lA2 := A2_8.out.1
    have qA20 := A2_8.out.2 0 _ rfl
    have qA21 := A2_8.out.2 1 _ rfl
    have qA22 := A2_8.out.2 2 _ rfl
    have qA23 := A2_8.out.2 3 _ rfl
    try simp only [World.size_alloc] at lA0 lA1 lA2
    go_wp2_with fail
    refine (algebraOk_spec (HT'.out.ext E_9.out) hm1 H1.out).mono ?_
    rintro e w_10 ⟨rfl, h_10⟩
    clear lA0 qA00 qA01 qA02 lA1 qA10 qA11 qA12 lA2 qA20 qA21 qA22 qA23
    have A0_11 := Lib.hid (A0_6.out.ext h_10)
    clear A0_6
    have A1_12 := Lib.hid (A1_7.out.ext h_10)
    clear A1_7
    have A2_13 := Lib.hid (A2_8.out.ext h_10)
    clear A2_8
    have E_14 := Lib.hid (E_9.out.trans h_10)
    clear E_9
    have lA0 := A0_11.out.1
    have qA00 := A0_11.out.2 0 _ rfl
    have qA01 := A0_11.out.2 1 _ rfl
    have qA02 := A0_11.out.2 2 _ rfl
    have lA1 := A1_12.out.1
    have qA10 := A1_12.out.2 0 _ rfl
    have qA11 := A1_12.out.2 1 _ rfl
    have qA12 := A1_12.out.2 2 _ rfl
    have lA2 := A2_13.out.1
    have qA20 := A2_13.out.2 0 _ rfl
    have qA21 := A2_13.out.2 1 _ rfl
    have qA22 := A2_13.out.2 2 _ rfl
    have qA23 := A2_13.out.2 3 _ rfl
    try simp only [World.size_alloc] at lA0 lA1 lA2
    go_wp2
    go_ret
    exact ⟨ret_bool HF.out.symm, E_14.out⟩
  have H1 := Lib.hid h1
  rcases h2 : mok P2 R2 C2 ms with _ | _
  · have HF : Hid (q = false) := by rw [Hid, HA.out, h0, h1, h2]; rfl
    have H2 := Lib.hid h2
    clear h0 h1 h2 HA
    go_enter Try.func127, Try.ntmps127
    have A0_1 := Lib.hid (((cells_new' w #[.int .i64 P, .int .i64 D, .slice (some ⟨a0, oa, none⟩) n n] 27 (w.heap.size) (by simp)).ext ((Ext.refl _).alloc (.cells #[(.int .i64 P'), (.int .i64 D'), (.slice (some ⟨b0, ob, none⟩) n' n')] 27))).ext ((Ext.refl _).alloc (.cells #[.int .i64 P2, .int .i64 R2, .int .i64 C2, .slice (some ⟨m0, om, none⟩) nm nm] 41)))
    have A1_2 := Lib.hid ((cells_new' (w.alloc (.cells #[.int .i64 P, .int .i64 D, .slice (some ⟨a0, oa, none⟩) n n] 27)) #[(.int .i64 P'), (.int .i64 D'), (.slice (some ⟨b0, ob, none⟩) n' n')] 27 (w.heap.size + 1) (by simp)).ext ((Ext.refl _).alloc (.cells #[.int .i64 P2, .int .i64 R2, .int .i64 C2, .slice (some ⟨m0, om, none⟩) nm nm] 41)))
    have A2_3 := Lib.hid (cells_new' ((w.alloc (.cells #[.int .i64 P, .int .i64 D, .slice (some ⟨a0, oa, none⟩) n n] 27)).alloc (.cells #[(.int .i64 P'), (.int .i64 D'), (.slice (some ⟨b0, ob, none⟩) n' n')] 27)) #[.int .i64 P2, .int .i64 R2, .int .i64 C2, .slice (some ⟨m0, om, none⟩) nm nm] 41 (w.heap.size + 1 + 1) (by simp))
    have E_4 := Lib.hid ((((Ext.refl w).alloc (.cells #[.int .i64 P, .int .i64 D, .slice (some ⟨a0, oa, none⟩) n n] 27)).alloc (.cells #[(.int .i64 P'), (.int .i64 D'), (.slice (some ⟨b0, ob, none⟩) n' n')] 27)).alloc (.cells #[.int .i64 P2, .int .i64 R2, .int .i64 C2, .slice (some ⟨m0, om, none⟩) nm nm] 41))
    have lA0 := A0_1.out.1
    have qA00 := A0_1.out.2 0 _ rfl
    have qA01 := A0_1.out.2 1 _ rfl
    have qA02 := A0_1.out.2 2 _ rfl
    have lA1 := A1_2.out.1
    have qA10 := A1_2.out.2 0 _ rfl
    have qA11 := A1_2.out.2 1 _ rfl
    have qA12 := A1_2.out.2 2 _ rfl
    have lA2 := A2_3.out.1
    have qA20 := A2_3.out.2 0 _ rfl
    have qA21 := A2_3.out.2 1 _ rfl
    have qA22 := A2_3.out.2 2 _ rfl
    have qA23 := A2_3.out.2 3 _ rfl
    try simp only [World.size_alloc] at lA0 lA1 lA2
    go_wp2_with fail
    refine (algebraOk_spec (HT.out.ext E_4.out) hm0 H0.out).mono ?_
    rintro e w_5 ⟨rfl, h_5⟩
    clear lA0 qA00 qA01 qA02 lA1 qA10 qA11 qA12 lA2 qA20 qA21 qA22 qA23
    have A0_6 := Lib.hid (A0_1.out.ext h_5)
    clear A0_1
    have A1_7 := Lib.hid (A1_2.out.ext h_5)
    clear A1_2
    have A2_8 := Lib.hid (A2_3.out.ext h_5)
    clear A2_3
    have E_9 := Lib.hid (E_4.out.trans h_5)
    clear E_4
    have lA0 := A0_6.out.1
    have qA00 := A0_6.out.2 0 _ rfl
    have qA01 := A0_6.out.2 1 _ rfl
    have qA02 := A0_6.out.2 2 _ rfl
    have lA1 := A1_7.out.1
    have qA10 := A1_7.out.2 0 _ rfl
    have qA11 := A1_7.out.2 1 _ rfl
    have qA12 := A1_7.out.2 2 _ rfl
    have lA2 := A2_8.out.1
    have qA20 := A2_8.out.2 0 _ rfl
    have qA21 := A2_8.out.2 1 _ rfl
    have qA22 := A2_8.out.2 2 _ rfl
    have qA23 := A2_8.out.2 3 _ rfl
    try simp only [World.size_alloc] at lA0 lA1 lA2
    go_wp2_with fail
    refine (algebraOk_spec (HT'.out.ext E_9.out) hm1 H1.out).mono ?_
    rintro e w_10 ⟨rfl, h_10⟩
    clear lA0 qA00 qA01 qA02 lA1 qA10 qA11 qA12 lA2 qA20 qA21 qA22 qA23
    have A0_11 := Lib.hid (A0_6.out.ext h_10)
    clear A0_6
    have A1_12 := Lib.hid (A1_7.out.ext h_10)
    clear A1_7
    have A2_13 := Lib.hid (A2_8.out.ext h_10)
    clear A2_8
    have E_14 := Lib.hid (E_9.out.trans h_10)
    clear E_9
    have lA0 := A0_11.out.1
    have qA00 := A0_11.out.2 0 _ rfl
    have qA01 := A0_11.out.2 1 _ rfl
    have qA02 := A0_11.out.2 2 _ rfl
    have lA1 := A1_12.out.1
    have qA10 := A1_12.out.2 0 _ rfl
    have qA11 := A1_12.out.2 1 _ rfl
    have qA12 := A1_12.out.2 2 _ rfl
    have lA2 := A2_13.out.1
    have qA20 := A2_13.out.2 0 _ rfl
    have qA21 := A2_13.out.2 1 _ rfl
    have qA22 := A2_13.out.2 2 _ rfl
    have qA23 := A2_13.out.2 3 _ rfl
    try simp only [World.size_alloc] at lA0 lA1 lA2
    go_wp2_with fail
    refine (matrixOk_spec _ _ _ _ _ _ ms _ (HX.out.ext E_14.out) hm3).mono ?_
    rintro e w_15 ⟨rfl, h_15⟩
    clear lA0 qA00 qA01 qA02 lA1 qA10 qA11 qA12 lA2 qA20 qA21 qA22 qA23
    have A0_16 := Lib.hid (A0_11.out.ext h_15)
    clear A0_11
    have A1_17 := Lib.hid (A1_12.out.ext h_15)
    clear A1_12
    have A2_18 := Lib.hid (A2_13.out.ext h_15)
    clear A2_13
    have E_19 := Lib.hid (E_14.out.trans h_15)
    clear E_14
    rw [H2.out]
    have lA0 := A0_16.out.1
    have qA00 := A0_16.out.2 0 _ rfl
    have qA01 := A0_16.out.2 1 _ rfl
    have qA02 := A0_16.out.2 2 _ rfl
    have lA1 := A1_17.out.1
    have qA10 := A1_17.out.2 0 _ rfl
    have qA11 := A1_17.out.2 1 _ rfl
    have qA12 := A1_17.out.2 2 _ rfl
    have lA2 := A2_18.out.1
    have qA20 := A2_18.out.2 0 _ rfl
    have qA21 := A2_18.out.2 1 _ rfl
    have qA22 := A2_18.out.2 2 _ rfl
    have qA23 := A2_18.out.2 3 _ rfl
    try simp only [World.size_alloc] at lA0 lA1 lA2
    go_wp2
    go_ret
    exact ⟨ret_bool HF.out.symm, E_19.out⟩
  have H2 := Lib.hid h2
  rcases h3 : (P2 == P) with _ | _
  · have HF : Hid (q = false) := by rw [Hid, HA.out, h0, h1, h2, h3]; rfl
    clear h0 h1 h2 HA
    go_enter Try.func127, Try.ntmps127
    have A0_1 := Lib.hid (((cells_new' w #[.int .i64 P, .int .i64 D, .slice (some ⟨a0, oa, none⟩) n n] 27 (w.heap.size) (by simp)).ext ((Ext.refl _).alloc (.cells #[(.int .i64 P'), (.int .i64 D'), (.slice (some ⟨b0, ob, none⟩) n' n')] 27))).ext ((Ext.refl _).alloc (.cells #[.int .i64 P2, .int .i64 R2, .int .i64 C2, .slice (some ⟨m0, om, none⟩) nm nm] 41)))
    have A1_2 := Lib.hid ((cells_new' (w.alloc (.cells #[.int .i64 P, .int .i64 D, .slice (some ⟨a0, oa, none⟩) n n] 27)) #[(.int .i64 P'), (.int .i64 D'), (.slice (some ⟨b0, ob, none⟩) n' n')] 27 (w.heap.size + 1) (by simp)).ext ((Ext.refl _).alloc (.cells #[.int .i64 P2, .int .i64 R2, .int .i64 C2, .slice (some ⟨m0, om, none⟩) nm nm] 41)))
    have A2_3 := Lib.hid (cells_new' ((w.alloc (.cells #[.int .i64 P, .int .i64 D, .slice (some ⟨a0, oa, none⟩) n n] 27)).alloc (.cells #[(.int .i64 P'), (.int .i64 D'), (.slice (some ⟨b0, ob, none⟩) n' n')] 27)) #[.int .i64 P2, .int .i64 R2, .int .i64 C2, .slice (some ⟨m0, om, none⟩) nm nm] 41 (w.heap.size + 1 + 1) (by simp))
    have E_4 := Lib.hid ((((Ext.refl w).alloc (.cells #[.int .i64 P, .int .i64 D, .slice (some ⟨a0, oa, none⟩) n n] 27)).alloc (.cells #[(.int .i64 P'), (.int .i64 D'), (.slice (some ⟨b0, ob, none⟩) n' n')] 27)).alloc (.cells #[.int .i64 P2, .int .i64 R2, .int .i64 C2, .slice (some ⟨m0, om, none⟩) nm nm] 41))
    have lA0 := A0_1.out.1
    have qA00 := A0_1.out.2 0 _ rfl
    have qA01 := A0_1.out.2 1 _ rfl
    have qA02 := A0_1.out.2 2 _ rfl
    have lA1 := A1_2.out.1
    have qA10 := A1_2.out.2 0 _ rfl
    have qA11 := A1_2.out.2 1 _ rfl
    have qA12 := A1_2.out.2 2 _ rfl
    have lA2 := A2_3.out.1
    have qA20 := A2_3.out.2 0 _ rfl
    have qA21 := A2_3.out.2 1 _ rfl
    have qA22 := A2_3.out.2 2 _ rfl
    have qA23 := A2_3.out.2 3 _ rfl
    try simp only [World.size_alloc] at lA0 lA1 lA2
    go_wp2_with fail
    refine (algebraOk_spec (HT.out.ext E_4.out) hm0 H0.out).mono ?_
    rintro e w_5 ⟨rfl, h_5⟩
    clear lA0 qA00 qA01 qA02 lA1 qA10 qA11 qA12 lA2 qA20 qA21 qA22 qA23
    have A0_6 := Lib.hid (A0_1.out.ext h_5)
    clear A0_1
    have A1_7 := Lib.hid (A1_2.out.ext h_5)
    clear A1_2
    have A2_8 := Lib.hid (A2_3.out.ext h_5)
    clear A2_3
    have E_9 := Lib.hid (E_4.out.trans h_5)
    clear E_4
    have lA0 := A0_6.out.1
    have qA00 := A0_6.out.2 0 _ rfl
    have qA01 := A0_6.out.2 1 _ rfl
    have qA02 := A0_6.out.2 2 _ rfl
    have lA1 := A1_7.out.1
    have qA10 := A1_7.out.2 0 _ rfl
    have qA11 := A1_7.out.2 1 _ rfl
    have qA12 := A1_7.out.2 2 _ rfl
    have lA2 := A2_8.out.1
    have qA20 := A2_8.out.2 0 _ rfl
    have qA21 := A2_8.out.2 1 _ rfl
    have qA22 := A2_8.out.2 2 _ rfl
    have qA23 := A2_8.out.2 3 _ rfl
    try simp only [World.size_alloc] at lA0 lA1 lA2
    go_wp2_with fail
    refine (algebraOk_spec (HT'.out.ext E_9.out) hm1 H1.out).mono ?_
    rintro e w_10 ⟨rfl, h_10⟩
    clear lA0 qA00 qA01 qA02 lA1 qA10 qA11 qA12 lA2 qA20 qA21 qA22 qA23
    have A0_11 := Lib.hid (A0_6.out.ext h_10)
    clear A0_6
    have A1_12 := Lib.hid (A1_7.out.ext h_10)
    clear A1_7
    have A2_13 := Lib.hid (A2_8.out.ext h_10)
    clear A2_8
    have E_14 := Lib.hid (E_9.out.trans h_10)
    clear E_9
    have lA0 := A0_11.out.1
    have qA00 := A0_11.out.2 0 _ rfl
    have qA01 := A0_11.out.2 1 _ rfl
    have qA02 := A0_11.out.2 2 _ rfl
    have lA1 := A1_12.out.1
    have qA10 := A1_12.out.2 0 _ rfl
    have qA11 := A1_12.out.2 1 _ rfl
    have qA12 := A1_12.out.2 2 _ rfl
    have lA2 := A2_13.out.1
    have qA20 := A2_13.out.2 0 _ rfl
    have qA21 := A2_13.out.2 1 _ rfl
    have qA22 := A2_13.out.2 2 _ rfl
    have qA23 := A2_13.out.2 3 _ rfl
    try simp only [World.size_alloc] at lA0 lA1 lA2
    go_wp2_with fail
    refine (matrixOk_spec _ _ _ _ _ _ ms _ (HX.out.ext E_14.out) hm3).mono ?_
    rintro e w_15 ⟨rfl, h_15⟩
    clear lA0 qA00 qA01 qA02 lA1 qA10 qA11 qA12 lA2 qA20 qA21 qA22 qA23
    have A0_16 := Lib.hid (A0_11.out.ext h_15)
    clear A0_11
    have A1_17 := Lib.hid (A1_12.out.ext h_15)
    clear A1_12
    have A2_18 := Lib.hid (A2_13.out.ext h_15)
    clear A2_13
    have E_19 := Lib.hid (E_14.out.trans h_15)
    clear E_14
    rw [H2.out]
    have lA0 := A0_16.out.1
    have qA00 := A0_16.out.2 0 _ rfl
    have qA01 := A0_16.out.2 1 _ rfl
    have qA02 := A0_16.out.2 2 _ rfl
    have lA1 := A1_17.out.1
    have qA10 := A1_17.out.2 0 _ rfl
    have qA11 := A1_17.out.2 1 _ rfl
    have qA12 := A1_17.out.2 2 _ rfl
    have lA2 := A2_18.out.1
    have qA20 := A2_18.out.2 0 _ rfl
    have qA21 := A2_18.out.2 1 _ rfl
    have qA22 := A2_18.out.2 2 _ rfl
    have qA23 := A2_18.out.2 3 _ rfl
    try simp only [World.size_alloc] at lA0 lA1 lA2
    go_wp2
    go_ret
    exact ⟨ret_bool HF.out.symm, E_19.out⟩
  rcases h4 : (P' == P) with _ | _
  · have HF : Hid (q = false) := by rw [Hid, HA.out, h0, h1, h2, h3, h4]; rfl
    clear h0 h1 h2 HA
    go_enter Try.func127, Try.ntmps127
    have A0_1 := Lib.hid (((cells_new' w #[.int .i64 P, .int .i64 D, .slice (some ⟨a0, oa, none⟩) n n] 27 (w.heap.size) (by simp)).ext ((Ext.refl _).alloc (.cells #[(.int .i64 P'), (.int .i64 D'), (.slice (some ⟨b0, ob, none⟩) n' n')] 27))).ext ((Ext.refl _).alloc (.cells #[.int .i64 P2, .int .i64 R2, .int .i64 C2, .slice (some ⟨m0, om, none⟩) nm nm] 41)))
    have A1_2 := Lib.hid ((cells_new' (w.alloc (.cells #[.int .i64 P, .int .i64 D, .slice (some ⟨a0, oa, none⟩) n n] 27)) #[(.int .i64 P'), (.int .i64 D'), (.slice (some ⟨b0, ob, none⟩) n' n')] 27 (w.heap.size + 1) (by simp)).ext ((Ext.refl _).alloc (.cells #[.int .i64 P2, .int .i64 R2, .int .i64 C2, .slice (some ⟨m0, om, none⟩) nm nm] 41)))
    have A2_3 := Lib.hid (cells_new' ((w.alloc (.cells #[.int .i64 P, .int .i64 D, .slice (some ⟨a0, oa, none⟩) n n] 27)).alloc (.cells #[(.int .i64 P'), (.int .i64 D'), (.slice (some ⟨b0, ob, none⟩) n' n')] 27)) #[.int .i64 P2, .int .i64 R2, .int .i64 C2, .slice (some ⟨m0, om, none⟩) nm nm] 41 (w.heap.size + 1 + 1) (by simp))
    have E_4 := Lib.hid ((((Ext.refl w).alloc (.cells #[.int .i64 P, .int .i64 D, .slice (some ⟨a0, oa, none⟩) n n] 27)).alloc (.cells #[(.int .i64 P'), (.int .i64 D'), (.slice (some ⟨b0, ob, none⟩) n' n')] 27)).alloc (.cells #[.int .i64 P2, .int .i64 R2, .int .i64 C2, .slice (some ⟨m0, om, none⟩) nm nm] 41))
    have lA0 := A0_1.out.1
    have qA00 := A0_1.out.2 0 _ rfl
    have qA01 := A0_1.out.2 1 _ rfl
    have qA02 := A0_1.out.2 2 _ rfl
    have lA1 := A1_2.out.1
    have qA10 := A1_2.out.2 0 _ rfl
    have qA11 := A1_2.out.2 1 _ rfl
    have qA12 := A1_2.out.2 2 _ rfl
    have lA2 := A2_3.out.1
    have qA20 := A2_3.out.2 0 _ rfl
    have qA21 := A2_3.out.2 1 _ rfl
    have qA22 := A2_3.out.2 2 _ rfl
    have qA23 := A2_3.out.2 3 _ rfl
    try simp only [World.size_alloc] at lA0 lA1 lA2
    go_wp2_with fail
    refine (algebraOk_spec (HT.out.ext E_4.out) hm0 H0.out).mono ?_
    rintro e w_5 ⟨rfl, h_5⟩
    clear lA0 qA00 qA01 qA02 lA1 qA10 qA11 qA12 lA2 qA20 qA21 qA22 qA23
    have A0_6 := Lib.hid (A0_1.out.ext h_5)
    clear A0_1
    have A1_7 := Lib.hid (A1_2.out.ext h_5)
    clear A1_2
    have A2_8 := Lib.hid (A2_3.out.ext h_5)
    clear A2_3
    have E_9 := Lib.hid (E_4.out.trans h_5)
    clear E_4
    have lA0 := A0_6.out.1
    have qA00 := A0_6.out.2 0 _ rfl
    have qA01 := A0_6.out.2 1 _ rfl
    have qA02 := A0_6.out.2 2 _ rfl
    have lA1 := A1_7.out.1
    have qA10 := A1_7.out.2 0 _ rfl
    have qA11 := A1_7.out.2 1 _ rfl
    have qA12 := A1_7.out.2 2 _ rfl
    have lA2 := A2_8.out.1
    have qA20 := A2_8.out.2 0 _ rfl
    have qA21 := A2_8.out.2 1 _ rfl
    have qA22 := A2_8.out.2 2 _ rfl
    have qA23 := A2_8.out.2 3 _ rfl
    try simp only [World.size_alloc] at lA0 lA1 lA2
    go_wp2_with fail
    refine (algebraOk_spec (HT'.out.ext E_9.out) hm1 H1.out).mono ?_
    rintro e w_10 ⟨rfl, h_10⟩
    clear lA0 qA00 qA01 qA02 lA1 qA10 qA11 qA12 lA2 qA20 qA21 qA22 qA23
    have A0_11 := Lib.hid (A0_6.out.ext h_10)
    clear A0_6
    have A1_12 := Lib.hid (A1_7.out.ext h_10)
    clear A1_7
    have A2_13 := Lib.hid (A2_8.out.ext h_10)
    clear A2_8
    have E_14 := Lib.hid (E_9.out.trans h_10)
    clear E_9
    have lA0 := A0_11.out.1
    have qA00 := A0_11.out.2 0 _ rfl
    have qA01 := A0_11.out.2 1 _ rfl
    have qA02 := A0_11.out.2 2 _ rfl
    have lA1 := A1_12.out.1
    have qA10 := A1_12.out.2 0 _ rfl
    have qA11 := A1_12.out.2 1 _ rfl
    have qA12 := A1_12.out.2 2 _ rfl
    have lA2 := A2_13.out.1
    have qA20 := A2_13.out.2 0 _ rfl
    have qA21 := A2_13.out.2 1 _ rfl
    have qA22 := A2_13.out.2 2 _ rfl
    have qA23 := A2_13.out.2 3 _ rfl
    try simp only [World.size_alloc] at lA0 lA1 lA2
    go_wp2_with fail
    refine (matrixOk_spec _ _ _ _ _ _ ms _ (HX.out.ext E_14.out) hm3).mono ?_
    rintro e w_15 ⟨rfl, h_15⟩
    clear lA0 qA00 qA01 qA02 lA1 qA10 qA11 qA12 lA2 qA20 qA21 qA22 qA23
    have A0_16 := Lib.hid (A0_11.out.ext h_15)
    clear A0_11
    have A1_17 := Lib.hid (A1_12.out.ext h_15)
    clear A1_12
    have A2_18 := Lib.hid (A2_13.out.ext h_15)
    clear A2_13
    have E_19 := Lib.hid (E_14.out.trans h_15)
    clear E_14
    rw [H2.out]
    have lA0 := A0_16.out.1
    have qA00 := A0_16.out.2 0 _ rfl
    have qA01 := A0_16.out.2 1 _ rfl
    have qA02 := A0_16.out.2 2 _ rfl
    have lA1 := A1_17.out.1
    have qA10 := A1_17.out.2 0 _ rfl
    have qA11 := A1_17.out.2 1 _ rfl
    have qA12 := A1_17.out.2 2 _ rfl
    have lA2 := A2_18.out.1
    have qA20 := A2_18.out.2 0 _ rfl
    have qA21 := A2_18.out.2 1 _ rfl
    have qA22 := A2_18.out.2 2 _ rfl
    have qA23 := A2_18.out.2 3 _ rfl
    try simp only [World.size_alloc] at lA0 lA1 lA2
    go_wp2
    go_ret
    exact ⟨ret_bool HF.out.symm, E_19.out⟩
  rcases h5 : (R2 == D) with _ | _
  · have HF : Hid (q = false) := by rw [Hid, HA.out, h0, h1, h2, h3, h4, h5]; rfl
    clear h0 h1 h2 HA
    go_enter Try.func127, Try.ntmps127
    have A0_1 := Lib.hid (((cells_new' w #[.int .i64 P, .int .i64 D, .slice (some ⟨a0, oa, none⟩) n n] 27 (w.heap.size) (by simp)).ext ((Ext.refl _).alloc (.cells #[(.int .i64 P'), (.int .i64 D'), (.slice (some ⟨b0, ob, none⟩) n' n')] 27))).ext ((Ext.refl _).alloc (.cells #[.int .i64 P2, .int .i64 R2, .int .i64 C2, .slice (some ⟨m0, om, none⟩) nm nm] 41)))
    have A1_2 := Lib.hid ((cells_new' (w.alloc (.cells #[.int .i64 P, .int .i64 D, .slice (some ⟨a0, oa, none⟩) n n] 27)) #[(.int .i64 P'), (.int .i64 D'), (.slice (some ⟨b0, ob, none⟩) n' n')] 27 (w.heap.size + 1) (by simp)).ext ((Ext.refl _).alloc (.cells #[.int .i64 P2, .int .i64 R2, .int .i64 C2, .slice (some ⟨m0, om, none⟩) nm nm] 41)))
    have A2_3 := Lib.hid (cells_new' ((w.alloc (.cells #[.int .i64 P, .int .i64 D, .slice (some ⟨a0, oa, none⟩) n n] 27)).alloc (.cells #[(.int .i64 P'), (.int .i64 D'), (.slice (some ⟨b0, ob, none⟩) n' n')] 27)) #[.int .i64 P2, .int .i64 R2, .int .i64 C2, .slice (some ⟨m0, om, none⟩) nm nm] 41 (w.heap.size + 1 + 1) (by simp))
    have E_4 := Lib.hid ((((Ext.refl w).alloc (.cells #[.int .i64 P, .int .i64 D, .slice (some ⟨a0, oa, none⟩) n n] 27)).alloc (.cells #[(.int .i64 P'), (.int .i64 D'), (.slice (some ⟨b0, ob, none⟩) n' n')] 27)).alloc (.cells #[.int .i64 P2, .int .i64 R2, .int .i64 C2, .slice (some ⟨m0, om, none⟩) nm nm] 41))
    have lA0 := A0_1.out.1
    have qA00 := A0_1.out.2 0 _ rfl
    have qA01 := A0_1.out.2 1 _ rfl
    have qA02 := A0_1.out.2 2 _ rfl
    have lA1 := A1_2.out.1
    have qA10 := A1_2.out.2 0 _ rfl
    have qA11 := A1_2.out.2 1 _ rfl
    have qA12 := A1_2.out.2 2 _ rfl
    have lA2 := A2_3.out.1
    have qA20 := A2_3.out.2 0 _ rfl
    have qA21 := A2_3.out.2 1 _ rfl
    have qA22 := A2_3.out.2 2 _ rfl
    have qA23 := A2_3.out.2 3 _ rfl
    try simp only [World.size_alloc] at lA0 lA1 lA2
    go_wp2_with fail
    refine (algebraOk_spec (HT.out.ext E_4.out) hm0 H0.out).mono ?_
    rintro e w_5 ⟨rfl, h_5⟩
    clear lA0 qA00 qA01 qA02 lA1 qA10 qA11 qA12 lA2 qA20 qA21 qA22 qA23
    have A0_6 := Lib.hid (A0_1.out.ext h_5)
    clear A0_1
    have A1_7 := Lib.hid (A1_2.out.ext h_5)
    clear A1_2
    have A2_8 := Lib.hid (A2_3.out.ext h_5)
    clear A2_3
    have E_9 := Lib.hid (E_4.out.trans h_5)
    clear E_4
    have lA0 := A0_6.out.1
    have qA00 := A0_6.out.2 0 _ rfl
    have qA01 := A0_6.out.2 1 _ rfl
    have qA02 := A0_6.out.2 2 _ rfl
    have lA1 := A1_7.out.1
    have qA10 := A1_7.out.2 0 _ rfl
    have qA11 := A1_7.out.2 1 _ rfl
    have qA12 := A1_7.out.2 2 _ rfl
    have lA2 := A2_8.out.1
    have qA20 := A2_8.out.2 0 _ rfl
    have qA21 := A2_8.out.2 1 _ rfl
    have qA22 := A2_8.out.2 2 _ rfl
    have qA23 := A2_8.out.2 3 _ rfl
    try simp only [World.size_alloc] at lA0 lA1 lA2
    go_wp2_with fail
    refine (algebraOk_spec (HT'.out.ext E_9.out) hm1 H1.out).mono ?_
    rintro e w_10 ⟨rfl, h_10⟩
    clear lA0 qA00 qA01 qA02 lA1 qA10 qA11 qA12 lA2 qA20 qA21 qA22 qA23
    have A0_11 := Lib.hid (A0_6.out.ext h_10)
    clear A0_6
    have A1_12 := Lib.hid (A1_7.out.ext h_10)
    clear A1_7
    have A2_13 := Lib.hid (A2_8.out.ext h_10)
    clear A2_8
    have E_14 := Lib.hid (E_9.out.trans h_10)
    clear E_9
    have lA0 := A0_11.out.1
    have qA00 := A0_11.out.2 0 _ rfl
    have qA01 := A0_11.out.2 1 _ rfl
    have qA02 := A0_11.out.2 2 _ rfl
    have lA1 := A1_12.out.1
    have qA10 := A1_12.out.2 0 _ rfl
    have qA11 := A1_12.out.2 1 _ rfl
    have qA12 := A1_12.out.2 2 _ rfl
    have lA2 := A2_13.out.1
    have qA20 := A2_13.out.2 0 _ rfl
    have qA21 := A2_13.out.2 1 _ rfl
    have qA22 := A2_13.out.2 2 _ rfl
    have qA23 := A2_13.out.2 3 _ rfl
    try simp only [World.size_alloc] at lA0 lA1 lA2
    go_wp2_with fail
    refine (matrixOk_spec _ _ _ _ _ _ ms _ (HX.out.ext E_14.out) hm3).mono ?_
    rintro e w_15 ⟨rfl, h_15⟩
    clear lA0 qA00 qA01 qA02 lA1 qA10 qA11 qA12 lA2 qA20 qA21 qA22 qA23
    have A0_16 := Lib.hid (A0_11.out.ext h_15)
    clear A0_11
    have A1_17 := Lib.hid (A1_12.out.ext h_15)
    clear A1_12
    have A2_18 := Lib.hid (A2_13.out.ext h_15)
    clear A2_13
    have E_19 := Lib.hid (E_14.out.trans h_15)
    clear E_14
    rw [H2.out]
    have lA0 := A0_16.out.1
    have qA00 := A0_16.out.2 0 _ rfl
    have qA01 := A0_16.out.2 1 _ rfl
    have qA02 := A0_16.out.2 2 _ rfl
    have lA1 := A1_17.out.1
    have qA10 := A1_17.out.2 0 _ rfl
    have qA11 := A1_17.out.2 1 _ rfl
    have qA12 := A1_17.out.2 2 _ rfl
    have lA2 := A2_18.out.1
    have qA20 := A2_18.out.2 0 _ rfl
    have qA21 := A2_18.out.2 1 _ rfl
    have qA22 := A2_18.out.2 2 _ rfl
    have qA23 := A2_18.out.2 3 _ rfl
    try simp only [World.size_alloc] at lA0 lA1 lA2
    go_wp2
    go_ret
    exact ⟨ret_bool HF.out.symm, E_19.out⟩
  · have HF : Hid (q = (C2 == D')) := by rw [Hid, HA.out, h0, h1, h2, h3, h4, h5]; rfl
    clear h0 h1 h2 HA
    go_enter Try.func127, Try.ntmps127
    have A0_1 := Lib.hid (((cells_new' w #[.int .i64 P, .int .i64 D, .slice (some ⟨a0, oa, none⟩) n n] 27 (w.heap.size) (by simp)).ext ((Ext.refl _).alloc (.cells #[(.int .i64 P'), (.int .i64 D'), (.slice (some ⟨b0, ob, none⟩) n' n')] 27))).ext ((Ext.refl _).alloc (.cells #[.int .i64 P2, .int .i64 R2, .int .i64 C2, .slice (some ⟨m0, om, none⟩) nm nm] 41)))
    have A1_2 := Lib.hid ((cells_new' (w.alloc (.cells #[.int .i64 P, .int .i64 D, .slice (some ⟨a0, oa, none⟩) n n] 27)) #[(.int .i64 P'), (.int .i64 D'), (.slice (some ⟨b0, ob, none⟩) n' n')] 27 (w.heap.size + 1) (by simp)).ext ((Ext.refl _).alloc (.cells #[.int .i64 P2, .int .i64 R2, .int .i64 C2, .slice (some ⟨m0, om, none⟩) nm nm] 41)))
    have A2_3 := Lib.hid (cells_new' ((w.alloc (.cells #[.int .i64 P, .int .i64 D, .slice (some ⟨a0, oa, none⟩) n n] 27)).alloc (.cells #[(.int .i64 P'), (.int .i64 D'), (.slice (some ⟨b0, ob, none⟩) n' n')] 27)) #[.int .i64 P2, .int .i64 R2, .int .i64 C2, .slice (some ⟨m0, om, none⟩) nm nm] 41 (w.heap.size + 1 + 1) (by simp))
    have E_4 := Lib.hid ((((Ext.refl w).alloc (.cells #[.int .i64 P, .int .i64 D, .slice (some ⟨a0, oa, none⟩) n n] 27)).alloc (.cells #[(.int .i64 P'), (.int .i64 D'), (.slice (some ⟨b0, ob, none⟩) n' n')] 27)).alloc (.cells #[.int .i64 P2, .int .i64 R2, .int .i64 C2, .slice (some ⟨m0, om, none⟩) nm nm] 41))
    have lA0 := A0_1.out.1
    have qA00 := A0_1.out.2 0 _ rfl
    have qA01 := A0_1.out.2 1 _ rfl
    have qA02 := A0_1.out.2 2 _ rfl
    have lA1 := A1_2.out.1
    have qA10 := A1_2.out.2 0 _ rfl
    have qA11 := A1_2.out.2 1 _ rfl
    have qA12 := A1_2.out.2 2 _ rfl
    have lA2 := A2_3.out.1
    have qA20 := A2_3.out.2 0 _ rfl
    have qA21 := A2_3.out.2 1 _ rfl
    have qA22 := A2_3.out.2 2 _ rfl
    have qA23 := A2_3.out.2 3 _ rfl
    try simp only [World.size_alloc] at lA0 lA1 lA2
    go_wp2_with fail
    refine (algebraOk_spec (HT.out.ext E_4.out) hm0 H0.out).mono ?_
    rintro e w_5 ⟨rfl, h_5⟩
    clear lA0 qA00 qA01 qA02 lA1 qA10 qA11 qA12 lA2 qA20 qA21 qA22 qA23
    have A0_6 := Lib.hid (A0_1.out.ext h_5)
    clear A0_1
    have A1_7 := Lib.hid (A1_2.out.ext h_5)
    clear A1_2
    have A2_8 := Lib.hid (A2_3.out.ext h_5)
    clear A2_3
    have E_9 := Lib.hid (E_4.out.trans h_5)
    clear E_4
    have lA0 := A0_6.out.1
    have qA00 := A0_6.out.2 0 _ rfl
    have qA01 := A0_6.out.2 1 _ rfl
    have qA02 := A0_6.out.2 2 _ rfl
    have lA1 := A1_7.out.1
    have qA10 := A1_7.out.2 0 _ rfl
    have qA11 := A1_7.out.2 1 _ rfl
    have qA12 := A1_7.out.2 2 _ rfl
    have lA2 := A2_8.out.1
    have qA20 := A2_8.out.2 0 _ rfl
    have qA21 := A2_8.out.2 1 _ rfl
    have qA22 := A2_8.out.2 2 _ rfl
    have qA23 := A2_8.out.2 3 _ rfl
    try simp only [World.size_alloc] at lA0 lA1 lA2
    go_wp2_with fail
    refine (algebraOk_spec (HT'.out.ext E_9.out) hm1 H1.out).mono ?_
    rintro e w_10 ⟨rfl, h_10⟩
    clear lA0 qA00 qA01 qA02 lA1 qA10 qA11 qA12 lA2 qA20 qA21 qA22 qA23
    have A0_11 := Lib.hid (A0_6.out.ext h_10)
    clear A0_6
    have A1_12 := Lib.hid (A1_7.out.ext h_10)
    clear A1_7
    have A2_13 := Lib.hid (A2_8.out.ext h_10)
    clear A2_8
    have E_14 := Lib.hid (E_9.out.trans h_10)
    clear E_9
    have lA0 := A0_11.out.1
    have qA00 := A0_11.out.2 0 _ rfl
    have qA01 := A0_11.out.2 1 _ rfl
    have qA02 := A0_11.out.2 2 _ rfl
    have lA1 := A1_12.out.1
    have qA10 := A1_12.out.2 0 _ rfl
    have qA11 := A1_12.out.2 1 _ rfl
    have qA12 := A1_12.out.2 2 _ rfl
    have lA2 := A2_13.out.1
    have qA20 := A2_13.out.2 0 _ rfl
    have qA21 := A2_13.out.2 1 _ rfl
    have qA22 := A2_13.out.2 2 _ rfl
    have qA23 := A2_13.out.2 3 _ rfl
    try simp only [World.size_alloc] at lA0 lA1 lA2
    go_wp2_with fail
    refine (matrixOk_spec _ _ _ _ _ _ ms _ (HX.out.ext E_14.out) hm3).mono ?_
    rintro e w_15 ⟨rfl, h_15⟩
    clear lA0 qA00 qA01 qA02 lA1 qA10 qA11 qA12 lA2 qA20 qA21 qA22 qA23
    have A0_16 := Lib.hid (A0_11.out.ext h_15)
    clear A0_11
    have A1_17 := Lib.hid (A1_12.out.ext h_15)
    clear A1_12
    have A2_18 := Lib.hid (A2_13.out.ext h_15)
    clear A2_13
    have E_19 := Lib.hid (E_14.out.trans h_15)
    clear E_14
    rw [H2.out]
    have lA0 := A0_16.out.1
    have qA00 := A0_16.out.2 0 _ rfl
    have qA01 := A0_16.out.2 1 _ rfl
    have qA02 := A0_16.out.2 2 _ rfl
    have lA1 := A1_17.out.1
    have qA10 := A1_17.out.2 0 _ rfl
    have qA11 := A1_17.out.2 1 _ rfl
    have qA12 := A1_17.out.2 2 _ rfl
    have lA2 := A2_18.out.1
    have qA20 := A2_18.out.2 0 _ rfl
    have qA21 := A2_18.out.2 1 _ rfl
    have qA22 := A2_18.out.2 2 _ rfl
    have qA23 := A2_18.out.2 3 _ rfl
    try simp only [World.size_alloc] at lA0 lA1 lA2
    go_wp2
    go_ret
    exact ⟨by rw [HF.out]; rfl, E_19.out⟩

set_option maxRecDepth 100000 in
set_option maxHeartbeats 6400000 in
theorem isHomomorphism_impl {P D : Int} {a0 oa n : Nat} {l : List Int} {P' D' : Int} {b0 ob n' : Nat} {l' : List Int} {P2 R2 C2 : Int} {m0 om nm : Nat} {ms : List Int} {w : World} {i : Bool} (hT : Reads w (some ⟨a0, oa, none⟩) n l) (hm0 : n ≤ 1048576) (hT' : Reads w (some ⟨b0, ob, none⟩) n' l') (hm1 : n' ≤ 1048576) (hX : Reads w (some ⟨m0, om, none⟩) nm ms) (hm2 : nm ≤ 1048576) (hM : homM P D l P' D' l' P2 R2 C2 ms = i) :
    Calls Try.prog 80 #[.agg #[.int .i64 P, .int .i64 D, .slice (some ⟨a0, oa, none⟩) n n], .agg #[(.int .i64 P'), (.int .i64 D'), (.slice (some ⟨b0, ob, none⟩) n' n')], .agg #[.int .i64 P2, .int .i64 R2, .int .i64 C2, .slice (some ⟨m0, om, none⟩) nm nm]] w fun e w' => e = .returned (.bool i) ∧ Ext w w' := by
  subst hM
  have HT := Lib.hid hT
  have HT' := Lib.hid hT'
  have HX := Lib.hid hX
  have hm3 : nm ≤ maxLen := by unfold maxLen; omega
  have HA : Hid (homM P D l P' D' l' P2 R2 C2 ms = (mapsB P D l P' D' l' P2 R2 C2 ms && homB P D.toNat D'.toNat l l' ms)) := rfl
  have HB : Hid (mapsB P D l P' D' l' P2 R2 C2 ms = (algB P D l && (algB P' D' l' && (mok P2 R2 C2 ms && ((P2 == P) && ((P' == P) && ((R2 == D) && (C2 == D')))))))) := rfl
  generalize homM P D l P' D' l' P2 R2 C2 ms = q at HA
  rcases h0 : algB P D l with _ | _
  · have HF : Hid (q = false) := by rw [Hid, HA.out, HB.out, h0]; rfl
    have H0 := Lib.hid h0
    clear h0 hT hT' hX HA HB
    go_enter Try.func80, Try.ntmps80
    have A0_1 := Lib.hid (((cells_new' w #[.int .i64 P, .int .i64 D, .slice (some ⟨a0, oa, none⟩) n n] 27 (w.heap.size) (by simp)).ext ((Ext.refl _).alloc (.cells #[(.int .i64 P'), (.int .i64 D'), (.slice (some ⟨b0, ob, none⟩) n' n')] 27))).ext ((Ext.refl _).alloc (.cells #[.int .i64 P2, .int .i64 R2, .int .i64 C2, .slice (some ⟨m0, om, none⟩) nm nm] 41)))
    have A1_2 := Lib.hid ((cells_new' (w.alloc (.cells #[.int .i64 P, .int .i64 D, .slice (some ⟨a0, oa, none⟩) n n] 27)) #[(.int .i64 P'), (.int .i64 D'), (.slice (some ⟨b0, ob, none⟩) n' n')] 27 (w.heap.size + 1) (by simp)).ext ((Ext.refl _).alloc (.cells #[.int .i64 P2, .int .i64 R2, .int .i64 C2, .slice (some ⟨m0, om, none⟩) nm nm] 41)))
    have A2_3 := Lib.hid (cells_new' ((w.alloc (.cells #[.int .i64 P, .int .i64 D, .slice (some ⟨a0, oa, none⟩) n n] 27)).alloc (.cells #[(.int .i64 P'), (.int .i64 D'), (.slice (some ⟨b0, ob, none⟩) n' n')] 27)) #[.int .i64 P2, .int .i64 R2, .int .i64 C2, .slice (some ⟨m0, om, none⟩) nm nm] 41 (w.heap.size + 1 + 1) (by simp))
    have E_4 := Lib.hid ((((Ext.refl w).alloc (.cells #[.int .i64 P, .int .i64 D, .slice (some ⟨a0, oa, none⟩) n n] 27)).alloc (.cells #[(.int .i64 P'), (.int .i64 D'), (.slice (some ⟨b0, ob, none⟩) n' n')] 27)).alloc (.cells #[.int .i64 P2, .int .i64 R2, .int .i64 C2, .slice (some ⟨m0, om, none⟩) nm nm] 41))
    have lA0 := A0_1.out.1
    have qA00 := A0_1.out.2 0 _ rfl
    have qA01 := A0_1.out.2 1 _ rfl
    have qA02 := A0_1.out.2 2 _ rfl
    have lA1 := A1_2.out.1
    have qA10 := A1_2.out.2 0 _ rfl
    have qA11 := A1_2.out.2 1 _ rfl
    have qA12 := A1_2.out.2 2 _ rfl
    have lA2 := A2_3.out.1
    have qA20 := A2_3.out.2 0 _ rfl
    have qA21 := A2_3.out.2 1 _ rfl
    have qA22 := A2_3.out.2 2 _ rfl
    have qA23 := A2_3.out.2 3 _ rfl
    try simp only [World.size_alloc] at lA0 lA1 lA2
    go_wp2_with fail
    refine (wrap_impl _ _ a0 oa n n l _ (HT.out.ext E_4.out) hm0 (Nat.le_refl _) (by unfold maxLen; omega)).mono ?_
    rintro e w_5 ⟨BA, rfl, hb, hlo, h_5⟩
    clear lA0 qA00 qA01 qA02 lA1 qA10 qA11 qA12 lA2 qA20 qA21 qA22 qA23
    have A0_6 := Lib.hid (A0_1.out.ext h_5)
    clear A0_1
    have A1_7 := Lib.hid (A1_2.out.ext h_5)
    clear A1_2
    have A2_8 := Lib.hid (A2_3.out.ext h_5)
    clear A2_3
    have E_9 := Lib.hid (E_4.out.trans h_5)
    clear E_4
    have B1_10 := Lib.hid hb
    clear hb hlo
    rw [H0.out]
    rcases h1 : algB P' D' l' with _ | _
    · have H1 := Lib.hid h1
      clear h1
      have lA0 := A0_6.out.1
      have qA00 := A0_6.out.2 0 _ rfl
      have qA01 := A0_6.out.2 1 _ rfl
      have qA02 := A0_6.out.2 2 _ rfl
      have lA1 := A1_7.out.1
      have qA10 := A1_7.out.2 0 _ rfl
      have qA11 := A1_7.out.2 1 _ rfl
      have qA12 := A1_7.out.2 2 _ rfl
      have lA2 := A2_8.out.1
      have qA20 := A2_8.out.2 0 _ rfl
      have qA21 := A2_8.out.2 1 _ rfl
      have qA22 := A2_8.out.2 2 _ rfl
      have qA23 := A2_8.out.2 3 _ rfl
      try simp only [World.size_alloc] at lA0 lA1 lA2
      go_wp2_with fail
      refine (wrap_impl _ _ b0 ob n' n' l' _ (HT'.out.ext E_9.out) hm1 (Nat.le_refl _) (by unfold maxLen; omega)).mono ?_
      rintro e w_11 ⟨BB, rfl, hb, hlo, h_11⟩
      clear lA0 qA00 qA01 qA02 lA1 qA10 qA11 qA12 lA2 qA20 qA21 qA22 qA23
      have A0_12 := Lib.hid (A0_6.out.ext h_11)
      clear A0_6
      have A1_13 := Lib.hid (A1_7.out.ext h_11)
      clear A1_7
      have A2_14 := Lib.hid (A2_8.out.ext h_11)
      clear A2_8
      have B1_15 := Lib.hid (B1_10.out.ext h_11)
      clear B1_10
      have E_16 := Lib.hid (E_9.out.trans h_11)
      clear E_9
      have B2_17 := Lib.hid hb
      clear hb hlo
      rw [H1.out]
      have lA0 := A0_12.out.1
      have qA00 := A0_12.out.2 0 _ rfl
      have qA01 := A0_12.out.2 1 _ rfl
      have qA02 := A0_12.out.2 2 _ rfl
      have lA1 := A1_13.out.1
      have qA10 := A1_13.out.2 0 _ rfl
      have qA11 := A1_13.out.2 1 _ rfl
      have qA12 := A1_13.out.2 2 _ rfl
      have lA2 := A2_14.out.1
      have qA20 := A2_14.out.2 0 _ rfl
      have qA21 := A2_14.out.2 1 _ rfl
      have qA22 := A2_14.out.2 2 _ rfl
      have qA23 := A2_14.out.2 3 _ rfl
      try simp only [World.size_alloc] at lA0 lA1 lA2
      go_wp2
      go_ret
      exact ⟨ret_bool HF.out.symm, E_16.out⟩
    · have H1 := Lib.hid h1
      clear h1
      have lA0 := A0_6.out.1
      have qA00 := A0_6.out.2 0 _ rfl
      have qA01 := A0_6.out.2 1 _ rfl
      have qA02 := A0_6.out.2 2 _ rfl
      have lA1 := A1_7.out.1
      have qA10 := A1_7.out.2 0 _ rfl
      have qA11 := A1_7.out.2 1 _ rfl
      have qA12 := A1_7.out.2 2 _ rfl
      have lA2 := A2_8.out.1
      have qA20 := A2_8.out.2 0 _ rfl
      have qA21 := A2_8.out.2 1 _ rfl
      have qA22 := A2_8.out.2 2 _ rfl
      have qA23 := A2_8.out.2 3 _ rfl
      try simp only [World.size_alloc] at lA0 lA1 lA2
      go_wp2_with fail
      refine (wrap_impl _ _ b0 ob n' n' l' _ (HT'.out.ext E_9.out) hm1 (Nat.le_refl _) (by unfold maxLen; omega)).mono ?_
      rintro e w_11 ⟨BB, rfl, hb, hlo, h_11⟩
      clear lA0 qA00 qA01 qA02 lA1 qA10 qA11 qA12 lA2 qA20 qA21 qA22 qA23
      have A0_12 := Lib.hid (A0_6.out.ext h_11)
      clear A0_6
      have A1_13 := Lib.hid (A1_7.out.ext h_11)
      clear A1_7
      have A2_14 := Lib.hid (A2_8.out.ext h_11)
      clear A2_8
      have B1_15 := Lib.hid (B1_10.out.ext h_11)
      clear B1_10
      have E_16 := Lib.hid (E_9.out.trans h_11)
      clear E_9
      have B2_17 := Lib.hid hb
      clear hb hlo
      rw [H1.out]
      have lA0 := A0_12.out.1
      have qA00 := A0_12.out.2 0 _ rfl
      have qA01 := A0_12.out.2 1 _ rfl
      have qA02 := A0_12.out.2 2 _ rfl
      have lA1 := A1_13.out.1
      have qA10 := A1_13.out.2 0 _ rfl
      have qA11 := A1_13.out.2 1 _ rfl
      have qA12 := A1_13.out.2 2 _ rfl
      have lA2 := A2_14.out.1
      have qA20 := A2_14.out.2 0 _ rfl
      have qA21 := A2_14.out.2 1 _ rfl
      have qA22 := A2_14.out.2 2 _ rfl
      have qA23 := A2_14.out.2 3 _ rfl
      try simp only [World.size_alloc] at lA0 lA1 lA2
      go_wp2
      go_ret
      exact ⟨ret_bool HF.out.symm, E_16.out⟩
  have H0 := Lib.hid h0
  rcases h1 : algB P' D' l' with _ | _
  · have HF : Hid (q = false) := by rw [Hid, HA.out, HB.out, h0, h1]; rfl
    have H1 := Lib.hid h1
    clear h0 h1 hT hT' hX HA HB
    go_enter Try.func80, Try.ntmps80
    have A0_1 := Lib.hid (((cells_new' w #[.int .i64 P, .int .i64 D, .slice (some ⟨a0, oa, none⟩) n n] 27 (w.heap.size) (by simp)).ext ((Ext.refl _).alloc (.cells #[(.int .i64 P'), (.int .i64 D'), (.slice (some ⟨b0, ob, none⟩) n' n')] 27))).ext ((Ext.refl _).alloc (.cells #[.int .i64 P2, .int .i64 R2, .int .i64 C2, .slice (some ⟨m0, om, none⟩) nm nm] 41)))
    have A1_2 := Lib.hid ((cells_new' (w.alloc (.cells #[.int .i64 P, .int .i64 D, .slice (some ⟨a0, oa, none⟩) n n] 27)) #[(.int .i64 P'), (.int .i64 D'), (.slice (some ⟨b0, ob, none⟩) n' n')] 27 (w.heap.size + 1) (by simp)).ext ((Ext.refl _).alloc (.cells #[.int .i64 P2, .int .i64 R2, .int .i64 C2, .slice (some ⟨m0, om, none⟩) nm nm] 41)))
    have A2_3 := Lib.hid (cells_new' ((w.alloc (.cells #[.int .i64 P, .int .i64 D, .slice (some ⟨a0, oa, none⟩) n n] 27)).alloc (.cells #[(.int .i64 P'), (.int .i64 D'), (.slice (some ⟨b0, ob, none⟩) n' n')] 27)) #[.int .i64 P2, .int .i64 R2, .int .i64 C2, .slice (some ⟨m0, om, none⟩) nm nm] 41 (w.heap.size + 1 + 1) (by simp))
    have E_4 := Lib.hid ((((Ext.refl w).alloc (.cells #[.int .i64 P, .int .i64 D, .slice (some ⟨a0, oa, none⟩) n n] 27)).alloc (.cells #[(.int .i64 P'), (.int .i64 D'), (.slice (some ⟨b0, ob, none⟩) n' n')] 27)).alloc (.cells #[.int .i64 P2, .int .i64 R2, .int .i64 C2, .slice (some ⟨m0, om, none⟩) nm nm] 41))
    have lA0 := A0_1.out.1
    have qA00 := A0_1.out.2 0 _ rfl
    have qA01 := A0_1.out.2 1 _ rfl
    have qA02 := A0_1.out.2 2 _ rfl
    have lA1 := A1_2.out.1
    have qA10 := A1_2.out.2 0 _ rfl
    have qA11 := A1_2.out.2 1 _ rfl
    have qA12 := A1_2.out.2 2 _ rfl
    have lA2 := A2_3.out.1
    have qA20 := A2_3.out.2 0 _ rfl
    have qA21 := A2_3.out.2 1 _ rfl
    have qA22 := A2_3.out.2 2 _ rfl
    have qA23 := A2_3.out.2 3 _ rfl
    try simp only [World.size_alloc] at lA0 lA1 lA2
    go_wp2_with fail
    refine (wrap_impl _ _ a0 oa n n l _ (HT.out.ext E_4.out) hm0 (Nat.le_refl _) (by unfold maxLen; omega)).mono ?_
    rintro e w_5 ⟨BA, rfl, hb, hlo, h_5⟩
    clear lA0 qA00 qA01 qA02 lA1 qA10 qA11 qA12 lA2 qA20 qA21 qA22 qA23
    have A0_6 := Lib.hid (A0_1.out.ext h_5)
    clear A0_1
    have A1_7 := Lib.hid (A1_2.out.ext h_5)
    clear A1_2
    have A2_8 := Lib.hid (A2_3.out.ext h_5)
    clear A2_3
    have E_9 := Lib.hid (E_4.out.trans h_5)
    clear E_4
    have B1_10 := Lib.hid hb
    clear hb hlo
    rw [H0.out]
    have lA0 := A0_6.out.1
    have qA00 := A0_6.out.2 0 _ rfl
    have qA01 := A0_6.out.2 1 _ rfl
    have qA02 := A0_6.out.2 2 _ rfl
    have lA1 := A1_7.out.1
    have qA10 := A1_7.out.2 0 _ rfl
    have qA11 := A1_7.out.2 1 _ rfl
    have qA12 := A1_7.out.2 2 _ rfl
    have lA2 := A2_8.out.1
    have qA20 := A2_8.out.2 0 _ rfl
    have qA21 := A2_8.out.2 1 _ rfl
    have qA22 := A2_8.out.2 2 _ rfl
    have qA23 := A2_8.out.2 3 _ rfl
    try simp only [World.size_alloc] at lA0 lA1 lA2
    go_wp2_with fail
    refine (wrap_impl _ _ b0 ob n' n' l' _ (HT'.out.ext E_9.out) hm1 (Nat.le_refl _) (by unfold maxLen; omega)).mono ?_
    rintro e w_11 ⟨BB, rfl, hb, hlo, h_11⟩
    clear lA0 qA00 qA01 qA02 lA1 qA10 qA11 qA12 lA2 qA20 qA21 qA22 qA23
    have A0_12 := Lib.hid (A0_6.out.ext h_11)
    clear A0_6
    have A1_13 := Lib.hid (A1_7.out.ext h_11)
    clear A1_7
    have A2_14 := Lib.hid (A2_8.out.ext h_11)
    clear A2_8
    have B1_15 := Lib.hid (B1_10.out.ext h_11)
    clear B1_10
    have E_16 := Lib.hid (E_9.out.trans h_11)
    clear E_9
    have B2_17 := Lib.hid hb
    clear hb hlo
    rw [H1.out]
    have lA0 := A0_12.out.1
    have qA00 := A0_12.out.2 0 _ rfl
    have qA01 := A0_12.out.2 1 _ rfl
    have qA02 := A0_12.out.2 2 _ rfl
    have lA1 := A1_13.out.1
    have qA10 := A1_13.out.2 0 _ rfl
    have qA11 := A1_13.out.2 1 _ rfl
    have qA12 := A1_13.out.2 2 _ rfl
    have lA2 := A2_14.out.1
    have qA20 := A2_14.out.2 0 _ rfl
    have qA21 := A2_14.out.2 1 _ rfl
    have qA22 := A2_14.out.2 2 _ rfl
    have qA23 := A2_14.out.2 3 _ rfl
    try simp only [World.size_alloc] at lA0 lA1 lA2
    go_wp2
    go_ret
    exact ⟨ret_bool HF.out.symm, E_16.out⟩
  have H1 := Lib.hid h1
  by_cases h4 : P = P'
  case neg =>
    have h4b : (P' == P) = false := by simp only [beq_eq_false_iff_ne]; exact fun e => h4 e.symm
    have HF : Hid (q = false) := by rw [Hid, HA.out, HB.out, h0, h1, h4b]; simp
    have hpp : (P != P') = true := by simpa using h4
    clear h0 h1 h4 h4b hT hT' hX HA HB
    go_enter Try.func80, Try.ntmps80
    have A0_1 := Lib.hid (((cells_new' w #[.int .i64 P, .int .i64 D, .slice (some ⟨a0, oa, none⟩) n n] 27 (w.heap.size) (by simp)).ext ((Ext.refl _).alloc (.cells #[(.int .i64 P'), (.int .i64 D'), (.slice (some ⟨b0, ob, none⟩) n' n')] 27))).ext ((Ext.refl _).alloc (.cells #[.int .i64 P2, .int .i64 R2, .int .i64 C2, .slice (some ⟨m0, om, none⟩) nm nm] 41)))
    have A1_2 := Lib.hid ((cells_new' (w.alloc (.cells #[.int .i64 P, .int .i64 D, .slice (some ⟨a0, oa, none⟩) n n] 27)) #[(.int .i64 P'), (.int .i64 D'), (.slice (some ⟨b0, ob, none⟩) n' n')] 27 (w.heap.size + 1) (by simp)).ext ((Ext.refl _).alloc (.cells #[.int .i64 P2, .int .i64 R2, .int .i64 C2, .slice (some ⟨m0, om, none⟩) nm nm] 41)))
    have A2_3 := Lib.hid (cells_new' ((w.alloc (.cells #[.int .i64 P, .int .i64 D, .slice (some ⟨a0, oa, none⟩) n n] 27)).alloc (.cells #[(.int .i64 P'), (.int .i64 D'), (.slice (some ⟨b0, ob, none⟩) n' n')] 27)) #[.int .i64 P2, .int .i64 R2, .int .i64 C2, .slice (some ⟨m0, om, none⟩) nm nm] 41 (w.heap.size + 1 + 1) (by simp))
    have E_4 := Lib.hid ((((Ext.refl w).alloc (.cells #[.int .i64 P, .int .i64 D, .slice (some ⟨a0, oa, none⟩) n n] 27)).alloc (.cells #[(.int .i64 P'), (.int .i64 D'), (.slice (some ⟨b0, ob, none⟩) n' n')] 27)).alloc (.cells #[.int .i64 P2, .int .i64 R2, .int .i64 C2, .slice (some ⟨m0, om, none⟩) nm nm] 41))
    have lA0 := A0_1.out.1
    have qA00 := A0_1.out.2 0 _ rfl
    have qA01 := A0_1.out.2 1 _ rfl
    have qA02 := A0_1.out.2 2 _ rfl
    have lA1 := A1_2.out.1
    have qA10 := A1_2.out.2 0 _ rfl
    have qA11 := A1_2.out.2 1 _ rfl
    have qA12 := A1_2.out.2 2 _ rfl
    have lA2 := A2_3.out.1
    have qA20 := A2_3.out.2 0 _ rfl
    have qA21 := A2_3.out.2 1 _ rfl
    have qA22 := A2_3.out.2 2 _ rfl
    have qA23 := A2_3.out.2 3 _ rfl
    try simp only [World.size_alloc] at lA0 lA1 lA2
    go_wp2_with fail
    refine (wrap_impl _ _ a0 oa n n l _ (HT.out.ext E_4.out) hm0 (Nat.le_refl _) (by unfold maxLen; omega)).mono ?_
    rintro e w_5 ⟨BA, rfl, hb, hlo, h_5⟩
    clear lA0 qA00 qA01 qA02 lA1 qA10 qA11 qA12 lA2 qA20 qA21 qA22 qA23
    have A0_6 := Lib.hid (A0_1.out.ext h_5)
    clear A0_1
    have A1_7 := Lib.hid (A1_2.out.ext h_5)
    clear A1_2
    have A2_8 := Lib.hid (A2_3.out.ext h_5)
    clear A2_3
    have E_9 := Lib.hid (E_4.out.trans h_5)
    clear E_4
    have B1_10 := Lib.hid hb
    clear hb hlo
    rw [H0.out]
    have lA0 := A0_6.out.1
    have qA00 := A0_6.out.2 0 _ rfl
    have qA01 := A0_6.out.2 1 _ rfl
    have qA02 := A0_6.out.2 2 _ rfl
    have lA1 := A1_7.out.1
    have qA10 := A1_7.out.2 0 _ rfl
    have qA11 := A1_7.out.2 1 _ rfl
    have qA12 := A1_7.out.2 2 _ rfl
    have lA2 := A2_8.out.1
    have qA20 := A2_8.out.2 0 _ rfl
    have qA21 := A2_8.out.2 1 _ rfl
    have qA22 := A2_8.out.2 2 _ rfl
    have qA23 := A2_8.out.2 3 _ rfl
    try simp only [World.size_alloc] at lA0 lA1 lA2
    go_wp2_with fail
    refine (wrap_impl _ _ b0 ob n' n' l' _ (HT'.out.ext E_9.out) hm1 (Nat.le_refl _) (by unfold maxLen; omega)).mono ?_
    rintro e w_11 ⟨BB, rfl, hb, hlo, h_11⟩
    clear lA0 qA00 qA01 qA02 lA1 qA10 qA11 qA12 lA2 qA20 qA21 qA22 qA23
    have A0_12 := Lib.hid (A0_6.out.ext h_11)
    clear A0_6
    have A1_13 := Lib.hid (A1_7.out.ext h_11)
    clear A1_7
    have A2_14 := Lib.hid (A2_8.out.ext h_11)
    clear A2_8
    have B1_15 := Lib.hid (B1_10.out.ext h_11)
    clear B1_10
    have E_16 := Lib.hid (E_9.out.trans h_11)
    clear E_9
    have B2_17 := Lib.hid hb
    clear hb hlo
    rw [H1.out]
    have lA0 := A0_12.out.1
    have qA00 := A0_12.out.2 0 _ rfl
    have qA01 := A0_12.out.2 1 _ rfl
    have qA02 := A0_12.out.2 2 _ rfl
    have lA1 := A1_13.out.1
    have qA10 := A1_13.out.2 0 _ rfl
    have qA11 := A1_13.out.2 1 _ rfl
    have qA12 := A1_13.out.2 2 _ rfl
    have lA2 := A2_14.out.1
    have qA20 := A2_14.out.2 0 _ rfl
    have qA21 := A2_14.out.2 1 _ rfl
    have qA22 := A2_14.out.2 2 _ rfl
    have qA23 := A2_14.out.2 3 _ rfl
    try simp only [World.size_alloc] at lA0 lA1 lA2
    go_wp2
    go_ret
    exact ⟨ret_bool HF.out.symm, E_16.out⟩
  have hpp : (P != P') = false := by simpa using h4
  have h4b : (P' == P) = true := by rw [h4]; simp
  rcases h2 : rwB P' D' P2 R2 C2 ms with _ | _
  · have HF : Hid (q = false) := by
      rw [Hid, HA.out, HB.out, h0, h1, h4b]
      simp only [rwB, h4] at h2
      rw [h4]
      revert h2
      cases mok P2 R2 C2 ms <;> cases (P2 == P') <;> cases (C2 == D') <;> simp
    have H2 := Lib.hid h2
    clear h0 h1 h2 h4 h4b hT hT' hX HA HB
    go_enter Try.func80, Try.ntmps80
    have A0_1 := Lib.hid (((cells_new' w #[.int .i64 P, .int .i64 D, .slice (some ⟨a0, oa, none⟩) n n] 27 (w.heap.size) (by simp)).ext ((Ext.refl _).alloc (.cells #[(.int .i64 P'), (.int .i64 D'), (.slice (some ⟨b0, ob, none⟩) n' n')] 27))).ext ((Ext.refl _).alloc (.cells #[.int .i64 P2, .int .i64 R2, .int .i64 C2, .slice (some ⟨m0, om, none⟩) nm nm] 41)))
    have A1_2 := Lib.hid ((cells_new' (w.alloc (.cells #[.int .i64 P, .int .i64 D, .slice (some ⟨a0, oa, none⟩) n n] 27)) #[(.int .i64 P'), (.int .i64 D'), (.slice (some ⟨b0, ob, none⟩) n' n')] 27 (w.heap.size + 1) (by simp)).ext ((Ext.refl _).alloc (.cells #[.int .i64 P2, .int .i64 R2, .int .i64 C2, .slice (some ⟨m0, om, none⟩) nm nm] 41)))
    have A2_3 := Lib.hid (cells_new' ((w.alloc (.cells #[.int .i64 P, .int .i64 D, .slice (some ⟨a0, oa, none⟩) n n] 27)).alloc (.cells #[(.int .i64 P'), (.int .i64 D'), (.slice (some ⟨b0, ob, none⟩) n' n')] 27)) #[.int .i64 P2, .int .i64 R2, .int .i64 C2, .slice (some ⟨m0, om, none⟩) nm nm] 41 (w.heap.size + 1 + 1) (by simp))
    have E_4 := Lib.hid ((((Ext.refl w).alloc (.cells #[.int .i64 P, .int .i64 D, .slice (some ⟨a0, oa, none⟩) n n] 27)).alloc (.cells #[(.int .i64 P'), (.int .i64 D'), (.slice (some ⟨b0, ob, none⟩) n' n')] 27)).alloc (.cells #[.int .i64 P2, .int .i64 R2, .int .i64 C2, .slice (some ⟨m0, om, none⟩) nm nm] 41))
    have lA0 := A0_1.out.1
    have qA00 := A0_1.out.2 0 _ rfl
    have qA01 := A0_1.out.2 1 _ rfl
    have qA02 := A0_1.out.2 2 _ rfl
    have lA1 := A1_2.out.1
    have qA10 := A1_2.out.2 0 _ rfl
    have qA11 := A1_2.out.2 1 _ rfl
    have qA12 := A1_2.out.2 2 _ rfl
    have lA2 := A2_3.out.1
    have qA20 := A2_3.out.2 0 _ rfl
    have qA21 := A2_3.out.2 1 _ rfl
    have qA22 := A2_3.out.2 2 _ rfl
    have qA23 := A2_3.out.2 3 _ rfl
    try simp only [World.size_alloc] at lA0 lA1 lA2
    go_wp2_with fail
    refine (wrap_impl _ _ a0 oa n n l _ (HT.out.ext E_4.out) hm0 (Nat.le_refl _) (by unfold maxLen; omega)).mono ?_
    rintro e w_5 ⟨BA, rfl, hb, hlo, h_5⟩
    clear lA0 qA00 qA01 qA02 lA1 qA10 qA11 qA12 lA2 qA20 qA21 qA22 qA23
    have A0_6 := Lib.hid (A0_1.out.ext h_5)
    clear A0_1
    have A1_7 := Lib.hid (A1_2.out.ext h_5)
    clear A1_2
    have A2_8 := Lib.hid (A2_3.out.ext h_5)
    clear A2_3
    have E_9 := Lib.hid (E_4.out.trans h_5)
    clear E_4
    have B1_10 := Lib.hid hb
    clear hb hlo
    rw [H0.out]
    have lA0 := A0_6.out.1
    have qA00 := A0_6.out.2 0 _ rfl
    have qA01 := A0_6.out.2 1 _ rfl
    have qA02 := A0_6.out.2 2 _ rfl
    have lA1 := A1_7.out.1
    have qA10 := A1_7.out.2 0 _ rfl
    have qA11 := A1_7.out.2 1 _ rfl
    have qA12 := A1_7.out.2 2 _ rfl
    have lA2 := A2_8.out.1
    have qA20 := A2_8.out.2 0 _ rfl
    have qA21 := A2_8.out.2 1 _ rfl
    have qA22 := A2_8.out.2 2 _ rfl
    have qA23 := A2_8.out.2 3 _ rfl
    try simp only [World.size_alloc] at lA0 lA1 lA2
    go_wp2_with fail
    refine (wrap_impl _ _ b0 ob n' n' l' _ (HT'.out.ext E_9.out) hm1 (Nat.le_refl _) (by unfold maxLen; omega)).mono ?_
    rintro e w_11 ⟨BB, rfl, hb, hlo, h_11⟩
    clear lA0 qA00 qA01 qA02 lA1 qA10 qA11 qA12 lA2 qA20 qA21 qA22 qA23
    have A0_12 := Lib.hid (A0_6.out.ext h_11)
    clear A0_6
    have A1_13 := Lib.hid (A1_7.out.ext h_11)
    clear A1_7
    have A2_14 := Lib.hid (A2_8.out.ext h_11)
    clear A2_8
    have B1_15 := Lib.hid (B1_10.out.ext h_11)
    clear B1_10
    have E_16 := Lib.hid (E_9.out.trans h_11)
    clear E_9
    have B2_17 := Lib.hid hb
    clear hb hlo
    rw [H1.out]
    have lA0 := A0_12.out.1
    have qA00 := A0_12.out.2 0 _ rfl
    have qA01 := A0_12.out.2 1 _ rfl
    have qA02 := A0_12.out.2 2 _ rfl
    have lA1 := A1_13.out.1
    have qA10 := A1_13.out.2 0 _ rfl
    have qA11 := A1_13.out.2 1 _ rfl
    have qA12 := A1_13.out.2 2 _ rfl
    have lA2 := A2_14.out.1
    have qA20 := A2_14.out.2 0 _ rfl
    have qA21 := A2_14.out.2 1 _ rfl
    have qA22 := A2_14.out.2 2 _ rfl
    have qA23 := A2_14.out.2 3 _ rfl
    try simp only [World.size_alloc] at lA0 lA1 lA2
    go_wp2_with fail
    refine (hasRows_impl _ _ _ _ _ BB m0 om nm _ ms _ B2_17.out (HX.out.ext E_16.out) hm3).mono ?_
    rintro e w_18 ⟨rfl, h_18⟩
    clear lA0 qA00 qA01 qA02 lA1 qA10 qA11 qA12 lA2 qA20 qA21 qA22 qA23
    have A0_19 := Lib.hid (A0_12.out.ext h_18)
    clear A0_12
    have A1_20 := Lib.hid (A1_13.out.ext h_18)
    clear A1_13
    have A2_21 := Lib.hid (A2_14.out.ext h_18)
    clear A2_14
    have B1_22 := Lib.hid (B1_15.out.ext h_18)
    clear B1_15
    have B2_23 := Lib.hid (B2_17.out.ext h_18)
    clear B2_17
    have E_24 := Lib.hid (E_16.out.trans h_18)
    clear E_16
    rw [H2.out]
    have lA0 := A0_19.out.1
    have qA00 := A0_19.out.2 0 _ rfl
    have qA01 := A0_19.out.2 1 _ rfl
    have qA02 := A0_19.out.2 2 _ rfl
    have lA1 := A1_20.out.1
    have qA10 := A1_20.out.2 0 _ rfl
    have qA11 := A1_20.out.2 1 _ rfl
    have qA12 := A1_20.out.2 2 _ rfl
    have lA2 := A2_21.out.1
    have qA20 := A2_21.out.2 0 _ rfl
    have qA21 := A2_21.out.2 1 _ rfl
    have qA22 := A2_21.out.2 2 _ rfl
    have qA23 := A2_21.out.2 3 _ rfl
    try simp only [World.size_alloc] at lA0 lA1 lA2
    go_wp2
    go_ret
    exact ⟨ret_bool HF.out.symm, E_24.out⟩
  have H2 := Lib.hid h2
  have h2' := h2
  simp only [rwB, Bool.and_eq_true, beq_iff_eq] at h2
  obtain ⟨hmo, hp2e, hc2e⟩ := h2
  by_cases h5 : R2 = D
  case neg =>
    have HF : Hid (q = false) := by rw [Hid, HA.out, HB.out, h0, h1, h4b, hmo]; simp [h5]
    have hrr : (R2 != D) = true := by simpa using h5
    clear h0 h1 h4 h4b h5 hT hT' hX HA HB hmo hp2e hc2e h2'
    go_enter Try.func80, Try.ntmps80
    have A0_1 := Lib.hid (((cells_new' w #[.int .i64 P, .int .i64 D, .slice (some ⟨a0, oa, none⟩) n n] 27 (w.heap.size) (by simp)).ext ((Ext.refl _).alloc (.cells #[(.int .i64 P'), (.int .i64 D'), (.slice (some ⟨b0, ob, none⟩) n' n')] 27))).ext ((Ext.refl _).alloc (.cells #[.int .i64 P2, .int .i64 R2, .int .i64 C2, .slice (some ⟨m0, om, none⟩) nm nm] 41)))
    have A1_2 := Lib.hid ((cells_new' (w.alloc (.cells #[.int .i64 P, .int .i64 D, .slice (some ⟨a0, oa, none⟩) n n] 27)) #[(.int .i64 P'), (.int .i64 D'), (.slice (some ⟨b0, ob, none⟩) n' n')] 27 (w.heap.size + 1) (by simp)).ext ((Ext.refl _).alloc (.cells #[.int .i64 P2, .int .i64 R2, .int .i64 C2, .slice (some ⟨m0, om, none⟩) nm nm] 41)))
    have A2_3 := Lib.hid (cells_new' ((w.alloc (.cells #[.int .i64 P, .int .i64 D, .slice (some ⟨a0, oa, none⟩) n n] 27)).alloc (.cells #[(.int .i64 P'), (.int .i64 D'), (.slice (some ⟨b0, ob, none⟩) n' n')] 27)) #[.int .i64 P2, .int .i64 R2, .int .i64 C2, .slice (some ⟨m0, om, none⟩) nm nm] 41 (w.heap.size + 1 + 1) (by simp))
    have E_4 := Lib.hid ((((Ext.refl w).alloc (.cells #[.int .i64 P, .int .i64 D, .slice (some ⟨a0, oa, none⟩) n n] 27)).alloc (.cells #[(.int .i64 P'), (.int .i64 D'), (.slice (some ⟨b0, ob, none⟩) n' n')] 27)).alloc (.cells #[.int .i64 P2, .int .i64 R2, .int .i64 C2, .slice (some ⟨m0, om, none⟩) nm nm] 41))
    have lA0 := A0_1.out.1
    have qA00 := A0_1.out.2 0 _ rfl
    have qA01 := A0_1.out.2 1 _ rfl
    have qA02 := A0_1.out.2 2 _ rfl
    have lA1 := A1_2.out.1
    have qA10 := A1_2.out.2 0 _ rfl
    have qA11 := A1_2.out.2 1 _ rfl
    have qA12 := A1_2.out.2 2 _ rfl
    have lA2 := A2_3.out.1
    have qA20 := A2_3.out.2 0 _ rfl
    have qA21 := A2_3.out.2 1 _ rfl
    have qA22 := A2_3.out.2 2 _ rfl
    have qA23 := A2_3.out.2 3 _ rfl
    try simp only [World.size_alloc] at lA0 lA1 lA2
    go_wp2_with fail
    refine (wrap_impl _ _ a0 oa n n l _ (HT.out.ext E_4.out) hm0 (Nat.le_refl _) (by unfold maxLen; omega)).mono ?_
    rintro e w_5 ⟨BA, rfl, hb, hlo, h_5⟩
    clear lA0 qA00 qA01 qA02 lA1 qA10 qA11 qA12 lA2 qA20 qA21 qA22 qA23
    have A0_6 := Lib.hid (A0_1.out.ext h_5)
    clear A0_1
    have A1_7 := Lib.hid (A1_2.out.ext h_5)
    clear A1_2
    have A2_8 := Lib.hid (A2_3.out.ext h_5)
    clear A2_3
    have E_9 := Lib.hid (E_4.out.trans h_5)
    clear E_4
    have B1_10 := Lib.hid hb
    clear hb hlo
    rw [H0.out]
    have lA0 := A0_6.out.1
    have qA00 := A0_6.out.2 0 _ rfl
    have qA01 := A0_6.out.2 1 _ rfl
    have qA02 := A0_6.out.2 2 _ rfl
    have lA1 := A1_7.out.1
    have qA10 := A1_7.out.2 0 _ rfl
    have qA11 := A1_7.out.2 1 _ rfl
    have qA12 := A1_7.out.2 2 _ rfl
    have lA2 := A2_8.out.1
    have qA20 := A2_8.out.2 0 _ rfl
    have qA21 := A2_8.out.2 1 _ rfl
    have qA22 := A2_8.out.2 2 _ rfl
    have qA23 := A2_8.out.2 3 _ rfl
    try simp only [World.size_alloc] at lA0 lA1 lA2
    go_wp2_with fail
    refine (wrap_impl _ _ b0 ob n' n' l' _ (HT'.out.ext E_9.out) hm1 (Nat.le_refl _) (by unfold maxLen; omega)).mono ?_
    rintro e w_11 ⟨BB, rfl, hb, hlo, h_11⟩
    clear lA0 qA00 qA01 qA02 lA1 qA10 qA11 qA12 lA2 qA20 qA21 qA22 qA23
    have A0_12 := Lib.hid (A0_6.out.ext h_11)
    clear A0_6
    have A1_13 := Lib.hid (A1_7.out.ext h_11)
    clear A1_7
    have A2_14 := Lib.hid (A2_8.out.ext h_11)
    clear A2_8
    have B1_15 := Lib.hid (B1_10.out.ext h_11)
    clear B1_10
    have E_16 := Lib.hid (E_9.out.trans h_11)
    clear E_9
    have B2_17 := Lib.hid hb
    clear hb hlo
    rw [H1.out]
    have lA0 := A0_12.out.1
    have qA00 := A0_12.out.2 0 _ rfl
    have qA01 := A0_12.out.2 1 _ rfl
    have qA02 := A0_12.out.2 2 _ rfl
    have lA1 := A1_13.out.1
    have qA10 := A1_13.out.2 0 _ rfl
    have qA11 := A1_13.out.2 1 _ rfl
    have qA12 := A1_13.out.2 2 _ rfl
    have lA2 := A2_14.out.1
    have qA20 := A2_14.out.2 0 _ rfl
    have qA21 := A2_14.out.2 1 _ rfl
    have qA22 := A2_14.out.2 2 _ rfl
    have qA23 := A2_14.out.2 3 _ rfl
    try simp only [World.size_alloc] at lA0 lA1 lA2
    go_wp2_with fail
    refine (hasRows_impl _ _ _ _ _ BB m0 om nm _ ms _ B2_17.out (HX.out.ext E_16.out) hm3).mono ?_
    rintro e w_18 ⟨rfl, h_18⟩
    clear lA0 qA00 qA01 qA02 lA1 qA10 qA11 qA12 lA2 qA20 qA21 qA22 qA23
    have A0_19 := Lib.hid (A0_12.out.ext h_18)
    clear A0_12
    have A1_20 := Lib.hid (A1_13.out.ext h_18)
    clear A1_13
    have A2_21 := Lib.hid (A2_14.out.ext h_18)
    clear A2_14
    have B1_22 := Lib.hid (B1_15.out.ext h_18)
    clear B1_15
    have B2_23 := Lib.hid (B2_17.out.ext h_18)
    clear B2_17
    have E_24 := Lib.hid (E_16.out.trans h_18)
    clear E_16
    rw [H2.out]
    have lA0 := A0_19.out.1
    have qA00 := A0_19.out.2 0 _ rfl
    have qA01 := A0_19.out.2 1 _ rfl
    have qA02 := A0_19.out.2 2 _ rfl
    have lA1 := A1_20.out.1
    have qA10 := A1_20.out.2 0 _ rfl
    have qA11 := A1_20.out.2 1 _ rfl
    have qA12 := A1_20.out.2 2 _ rfl
    have lA2 := A2_21.out.1
    have qA20 := A2_21.out.2 0 _ rfl
    have qA21 := A2_21.out.2 1 _ rfl
    have qA22 := A2_21.out.2 2 _ rfl
    have qA23 := A2_21.out.2 3 _ rfl
    try simp only [World.size_alloc] at lA0 lA1 lA2
    go_wp2
    go_ret
    exact ⟨ret_bool HF.out.symm, E_24.out⟩
  have hmap : mapsB P D l P' D' l' P2 R2 C2 ms = true := by rw [HB.out, h0, h1, hmo, h4b, hp2e, hc2e, h5, h4]; simp
  rw [hmap, Bool.true_and] at HA
  subst hp2e
  subst h4
  subst hc2e
  subst h5
  obtain ⟨da, rfl, hA⟩ := algB_parts h0 hT.1
  obtain ⟨db, rfl, hA'⟩ := algB_parts h1 hT'.1
  simp only [Int.toNat_natCast] at HA
  have hp := isP_lo hA.pr
  have hp2 := isP_hi hA.pr
  have hda := hA.dim
  have hdb := hA'.dim
  have hms := mok_res hmo
  have hml := mok_len hmo
  rw [← Int.natCast_mul] at hml
  have hnm : nm = da * db := by rw [← hX.1]; omega
  have hnmb : nm ≤ 784 := by rw [hnm]; exact Nat.mul_le_mul hda hdb
  have hsq : da * da ≤ 784 := Nat.mul_le_mul hda hda
  have HIF := Lib.hid (hom_iff (P := P) (ms := ms) hp hA.alt hA'.alt)
  have hrowm : ∀ i, i < da → (rowL db ms i).length = db ∧ Res (rowL db ms i) P := fun i hi => by
    have h9 : (rowL db ms i).length = db := rowL_length (by rw [hX.1, hnm]) hi
    refine ⟨h9, fun j hj => ?_⟩
    rw [h9] at hj
    rw [gi_rowL2 _ _ hj]
    exact hms _ (by rw [hX.1, hnm]; exact place_lt hi hj)
  have HRM := Lib.hid hrowm
  have HNM := Lib.hid hnm
  have HAT : Hid (∀ i, i < da → ∀ w1 BA, Cells w1 BA [.int .i64 P, .int .i64 da, .slice (some ⟨a0, oa, none⟩) n n] → Calls Try.prog 60 #[.pointer (some ⟨BA, 0, none⟩), .int .i64 i] w1 fun e w' => e = .returned (.agg #[.int .i64 P, .int .i64 da, .int .i64 da, .slice (some ⟨a0, oa + i * (da * da), none⟩) (da * da) (n - i * (da * da))]) ∧ Ext w1 w') := fun i hi w1 BA hc => adjointTo_impl P da BA a0 oa n n i w1 hc hda hA.len (Nat.le_refl _) (by unfold maxLen; omega) hi
  have HPR : Hid (∀ i, i < da → ∀ w1, Ext w w1 → Calls Try.prog 135 #[.agg #[.int .i64 P, .int .i64 da, .int .i64 da, .slice (some ⟨a0, oa + i * (da * da), none⟩) (da * da) (n - i * (da * da))], .agg #[.int .i64 P, .int .i64 da, .int .i64 db, .slice (some ⟨m0, om, none⟩) nm nm]] w1 fun e w' => ∃ b, e = .returned (.agg #[.int .i64 P, .int .i64 da, .int .i64 db, .slice (some ⟨b, 0, none⟩) (da * db) (da * db)]) ∧ w1.heap.size ≤ b ∧ b < w'.heap.size ∧ Has w' b (mulTo P (rowL (da * da) l i) ms da da db da) ∧ Ext w1 w') := fun i hi w1 h => by
    have hnn : n = da * (da * da) := by rw [hA.len, Nat.mul_assoc]
    have hrow := row_n hi hnn
    have hr9 : (i + 1) * (da * da) = i * (da * da) + da * da := by rw [Nat.add_mul, Nat.one_mul]
    have hll : (rowL (da * da) l i).length = da * da := rowL_length (by rw [hT.1, hnn]) hi
    have hlx : Res (rowL (da * da) l i) P := fun j hj => by
      rw [hll] at hj
      rw [gi_rowL2 _ _ hj]
      exact hA.res _ (by rw [hT.1, hnn]; exact place_lt hi hj)
    exact product_gen P da da db a0 (oa + i * (da * da)) m0 om (da * da) nm (n - i * (da * da)) (rowL (da * da) l i) ms w1 (reads_row (hT.ext h) hnn hi) (hX.ext h) rfl hnm (by omega) (by omega) (by omega) hp hp2 hlx hms (by omega) (by unfold maxLen; omega)
  have HBR : Hid (∀ i, i < da → ∀ w1 BB, Ext w w1 → Cells w1 BB [(.int .i64 P), (.int .i64 db), (.slice (some ⟨b0, ob, none⟩) n' n')] → Calls Try.prog 120 #[.pointer (some ⟨BB, 0, none⟩), .slice (some ⟨m0, om + i * db, none⟩) db (nm - i * db), .agg #[.int .i64 P, .int .i64 da, .int .i64 db, .slice (some ⟨m0, om, none⟩) nm nm]] w1 fun e w' => ∃ b, e = .returned (.agg #[.int .i64 P, .int .i64 da, .int .i64 db, .slice (some ⟨b, 0, none⟩) nm nm]) ∧ w1.heap.size ≤ b ∧ b < w'.heap.size ∧ Has w' b (bRows P db l' (rowL db ms i) ms da).flatten ∧ Ext w1 w') := fun i hi w1 BB h hc => bracketsR_impl P db da nm BB b0 ob n' n' m0 (om + i * db) (nm - i * db) m0 om l' (rowL db ms i) ms w1 hc hdb (by omega) hnm hA'.len (Nat.le_refl _) (by unfold maxLen; omega) (hT'.ext h) (reads_row (hX.ext h) hnm hi) (hX.ext h) hp hp2 hA'.res (hrowm i hi).2 hms
  have HQ1 : Hid (∀ j, j < da → ¬ HomI P da db l l' ms j → q = false) := fun j hj hn => by rw [HA.out, homB_false (fun h => hn (h j hj))]
  have HQ2 : Hid ((∀ j, j < da → HomI P da db l l' ms j) → q = true) := fun h => by rw [HA.out, homB_true h]
  clear HA HB hT hT' hX hA hA' hms hml hnm hrowm HIF h0 h1 hmo h4b hmap
  go_enter Try.func80, Try.ntmps80
  have A0_1 := Lib.hid (((cells_new' w #[.int .i64 P, .int .i64 da, .slice (some ⟨a0, oa, none⟩) n n] 27 (w.heap.size) (by simp)).ext ((Ext.refl _).alloc (.cells #[(.int .i64 P), (.int .i64 db), (.slice (some ⟨b0, ob, none⟩) n' n')] 27))).ext ((Ext.refl _).alloc (.cells #[.int .i64 P, .int .i64 da, .int .i64 db, .slice (some ⟨m0, om, none⟩) nm nm] 41)))
  have A1_2 := Lib.hid ((cells_new' (w.alloc (.cells #[.int .i64 P, .int .i64 da, .slice (some ⟨a0, oa, none⟩) n n] 27)) #[(.int .i64 P), (.int .i64 db), (.slice (some ⟨b0, ob, none⟩) n' n')] 27 (w.heap.size + 1) (by simp)).ext ((Ext.refl _).alloc (.cells #[.int .i64 P, .int .i64 da, .int .i64 db, .slice (some ⟨m0, om, none⟩) nm nm] 41)))
  have A2_3 := Lib.hid (cells_new' ((w.alloc (.cells #[.int .i64 P, .int .i64 da, .slice (some ⟨a0, oa, none⟩) n n] 27)).alloc (.cells #[(.int .i64 P), (.int .i64 db), (.slice (some ⟨b0, ob, none⟩) n' n')] 27)) #[.int .i64 P, .int .i64 da, .int .i64 db, .slice (some ⟨m0, om, none⟩) nm nm] 41 (w.heap.size + 1 + 1) (by simp))
  have E_4 := Lib.hid ((((Ext.refl w).alloc (.cells #[.int .i64 P, .int .i64 da, .slice (some ⟨a0, oa, none⟩) n n] 27)).alloc (.cells #[(.int .i64 P), (.int .i64 db), (.slice (some ⟨b0, ob, none⟩) n' n')] 27)).alloc (.cells #[.int .i64 P, .int .i64 da, .int .i64 db, .slice (some ⟨m0, om, none⟩) nm nm] 41))
  have lA0 := A0_1.out.1
  have qA00 := A0_1.out.2 0 _ rfl
  have qA01 := A0_1.out.2 1 _ rfl
  have qA02 := A0_1.out.2 2 _ rfl
  have lA1 := A1_2.out.1
  have qA10 := A1_2.out.2 0 _ rfl
  have qA11 := A1_2.out.2 1 _ rfl
  have qA12 := A1_2.out.2 2 _ rfl
  have lA2 := A2_3.out.1
  have qA20 := A2_3.out.2 0 _ rfl
  have qA21 := A2_3.out.2 1 _ rfl
  have qA22 := A2_3.out.2 2 _ rfl
  have qA23 := A2_3.out.2 3 _ rfl
  try simp only [World.size_alloc] at lA0 lA1 lA2
  go_wp2_with fail
  refine (wrap_impl _ _ a0 oa n n l _ (HT.out.ext E_4.out) hm0 (Nat.le_refl _) (by unfold maxLen; omega)).mono ?_
  rintro e w_5 ⟨BA, rfl, hb, hlo, h_5⟩
  clear lA0 qA00 qA01 qA02 lA1 qA10 qA11 qA12 lA2 qA20 qA21 qA22 qA23
  have A0_6 := Lib.hid (A0_1.out.ext h_5)
  clear A0_1
  have A1_7 := Lib.hid (A1_2.out.ext h_5)
  clear A1_2
  have A2_8 := Lib.hid (A2_3.out.ext h_5)
  clear A2_3
  have E_9 := Lib.hid (E_4.out.trans h_5)
  clear E_4
  have B1_10 := Lib.hid hb
  clear hb hlo
  rw [H0.out]
  have lA0 := A0_6.out.1
  have qA00 := A0_6.out.2 0 _ rfl
  have qA01 := A0_6.out.2 1 _ rfl
  have qA02 := A0_6.out.2 2 _ rfl
  have lA1 := A1_7.out.1
  have qA10 := A1_7.out.2 0 _ rfl
  have qA11 := A1_7.out.2 1 _ rfl
  have qA12 := A1_7.out.2 2 _ rfl
  have lA2 := A2_8.out.1
  have qA20 := A2_8.out.2 0 _ rfl
  have qA21 := A2_8.out.2 1 _ rfl
  have qA22 := A2_8.out.2 2 _ rfl
  have qA23 := A2_8.out.2 3 _ rfl
  try simp only [World.size_alloc] at lA0 lA1 lA2
  go_wp2_with fail
  refine (wrap_impl _ _ b0 ob n' n' l' _ (HT'.out.ext E_9.out) hm1 (Nat.le_refl _) (by unfold maxLen; omega)).mono ?_
  rintro e w_11 ⟨BB, rfl, hb, hlo, h_11⟩
  clear lA0 qA00 qA01 qA02 lA1 qA10 qA11 qA12 lA2 qA20 qA21 qA22 qA23
  have A0_12 := Lib.hid (A0_6.out.ext h_11)
  clear A0_6
  have A1_13 := Lib.hid (A1_7.out.ext h_11)
  clear A1_7
  have A2_14 := Lib.hid (A2_8.out.ext h_11)
  clear A2_8
  have B1_15 := Lib.hid (B1_10.out.ext h_11)
  clear B1_10
  have E_16 := Lib.hid (E_9.out.trans h_11)
  clear E_9
  have B2_17 := Lib.hid hb
  clear hb hlo
  rw [H1.out]
  have lA0 := A0_12.out.1
  have qA00 := A0_12.out.2 0 _ rfl
  have qA01 := A0_12.out.2 1 _ rfl
  have qA02 := A0_12.out.2 2 _ rfl
  have lA1 := A1_13.out.1
  have qA10 := A1_13.out.2 0 _ rfl
  have qA11 := A1_13.out.2 1 _ rfl
  have qA12 := A1_13.out.2 2 _ rfl
  have lA2 := A2_14.out.1
  have qA20 := A2_14.out.2 0 _ rfl
  have qA21 := A2_14.out.2 1 _ rfl
  have qA22 := A2_14.out.2 2 _ rfl
  have qA23 := A2_14.out.2 3 _ rfl
  try simp only [World.size_alloc] at lA0 lA1 lA2
  go_wp2_with fail
  refine (hasRows_impl _ _ _ _ _ BB m0 om nm _ ms _ B2_17.out (HX.out.ext E_16.out) hm3).mono ?_
  rintro e w_18 ⟨rfl, h_18⟩
  clear lA0 qA00 qA01 qA02 lA1 qA10 qA11 qA12 lA2 qA20 qA21 qA22 qA23
  have A0_19 := Lib.hid (A0_12.out.ext h_18)
  clear A0_12
  have A1_20 := Lib.hid (A1_13.out.ext h_18)
  clear A1_13
  have A2_21 := Lib.hid (A2_14.out.ext h_18)
  clear A2_14
  have B1_22 := Lib.hid (B1_15.out.ext h_18)
  clear B1_15
  have B2_23 := Lib.hid (B2_17.out.ext h_18)
  clear B2_17
  have E_24 := Lib.hid (E_16.out.trans h_18)
  clear E_16
  rw [H2.out]
  have lA0 := A0_19.out.1
  have qA00 := A0_19.out.2 0 _ rfl
  have qA01 := A0_19.out.2 1 _ rfl
  have qA02 := A0_19.out.2 2 _ rfl
  have lA1 := A1_20.out.1
  have qA10 := A1_20.out.2 0 _ rfl
  have qA11 := A1_20.out.2 1 _ rfl
  have qA12 := A1_20.out.2 2 _ rfl
  have lA2 := A2_21.out.1
  have qA20 := A2_21.out.2 0 _ rfl
  have qA21 := A2_21.out.2 1 _ rfl
  have qA22 := A2_21.out.2 2 _ rfl
  have qA23 := A2_21.out.2 3 _ rfl
  try simp only [World.size_alloc] at lA0 lA1 lA2
  have lB1 := B1_22.out.1
  have qB10 := B1_22.out.2 0 _ rfl
  have qB11 := B1_22.out.2 1 _ rfl
  have qB12 := B1_22.out.2 2 _ rfl
  try simp only [World.size_alloc] at lA0 lA1 lA2 lB1
  go_wp2_with fail
  clear lA0 qA00 qA01 qA02 lA1 qA10 qA11 qA12 lA2 qA20 qA21 qA22 qA23 lB1 qB10 qB11 qB12
  obtain ⟨wb, hwb⟩ : ∃ wb : World, wb = w_18 := ⟨_, rfl⟩
  go_loopw [54, 11, 12] (fun z _ _ wr => ∃ i : Nat, i ≤ da ∧ z = .int .i64 i ∧ Hid (Ext w_18 wr) ∧ Hid (∀ j, j < i → HomI P da db l l' ms j)) (fun z _ _ _ => da - (intOf z).toNat)
  case atStart => exact ⟨0, by omega, rfl, Ext.refl _, fun j hj => by omega⟩
  case round =>
    obtain ⟨i, hi, rfl, hE, hF⟩ := hrel
    by_cases hlt : i < da
    · have C1 := Lib.hid (B1_22.out.ext hE.out)
      have C2 := Lib.hid (B2_23.out.ext hE.out)
      have M2 := Lib.hid (A2_21.out.ext hE.out)
      have EW := Lib.hid (E_24.out.trans hE.out)
      have lM := M2.out.1
      have y0 := M2.out.2 0 _ rfl
      have y1 := M2.out.2 1 _ rfl
      have y2 := M2.out.2 2 _ rfl
      have y3 := M2.out.2 3 _ rfl
      go_wp2_with fail
      go_cut [12] (fun s12 wx => ∃ RB rb, s12 = .pointer (some ⟨RB, 0, none⟩) ∧ Hid (Cells wx RB [.int .i64 P, .int .i64 da, .int .i64 db, .slice (some ⟨rb, 0, none⟩) (da * db) (da * db)]) ∧ Hid (Has wx rb (mulTo P (rowL (da * da) l i) ms da da db da)) ∧ Hid (Ext wr wx))
      case first =>
        go_region_held3 (fun w' => Ext wr w' ∧ (∀ b o, b < wr.heap.size → w'.cell? ⟨b, o, none⟩ = wr.cell? ⟨b, o, none⟩)) (first | (with_reducible exact ext2 (Ext.trans (And.left ‹Ext wr _ ∧ _›) ‹Ext _ _›)) | (refine ext2 ?_; with_reducible repeat (first | exact Ext.refl _ | exact And.left ‹Ext wr _ ∧ _› | refine Ext.drew ?_ | refine Ext.drewN ?_ _ | exact Ext.alloc (And.left ‹Ext wr _ ∧ _›) _ | exact Ext.alloc ((((Ext.refl _).drew.trans h3).trans h5)) _ | refine Ext.alloc ?_ _ | refine Ext.setCell ?_ (by have e0 : wr.drew.heap.size = wr.heap.size := rfl; simp <;> omega) _))) (first
          | (go_at_call 60; (with_reducible refine (HAT.out i hlt _ BA (C1.out.ext (And.left ‹Ext wr _ ∧ _›))).mono ?_); rintro e w3 ⟨rfl, h3⟩; have c_3 := h3.cells; have f_3 := h3.frees; have y_3 := h3.le; have x_3 := fun k hk => Nat.lt_of_lt_of_le (n := k) hk h3.le; (try simp only [World.size_drew] at y_3 x_3); (try simp only [World.size_alloc] at y_3 x_3); (try simp only [Nat.add_one_le_iff] at y_3))
          | (go_at_call 135; (with_reducible refine (HPR.out i hlt _ (EW.out.trans (And.left ‹Ext wr _ ∧ _›))).mono ?_); rintro e w5 ⟨rb, rfl, hb5, hb5', k5, h5⟩; have c_5 := h5.cells; have f_5 := h5.frees; have y_5 := h5.le; have x_5 := fun k hk => Nat.lt_of_lt_of_le (n := k) hk h5.le; (try simp only [World.size_drew] at y_5 x_5); (try simp only [World.size_alloc] at y_5 x_5); (try simp only [World.size_drew] at hb5); (try simp only [World.size_alloc] at hb5); (try simp only [World.size_drew] at hb5); (try simp only [Nat.add_one_le_iff] at y_5)))
        all_goals (go_wp2_with fail; go_meet; first
          | exact ⟨w5.heap.size, rb, rfl, cells_new _ _ _, k5.alloc _, And.left ‹Ext wr _ ∧ _›⟩
          | exact ⟨w3.heap.size, rb, rfl, early4 (lo := 0) ((cells_new w3 _ _).ext h5), Lib.hid (by repeat with_reducible (first | exact k5 | refine Has.setOther ?_ (by simp <;> omega) _)), And.left ‹Ext wr _ ∧ _›⟩
          | exact ⟨wr.heap.size, rb, rfl, early4 (lo := 0) ((((cells_new wr _ _).ext (Ext.drew (Ext.refl _))).ext h3).ext h5), Lib.hid (by repeat with_reducible (first | exact k5 | refine Has.setOther ?_ (by simp <;> omega) _)), And.left ‹Ext wr _ ∧ _›⟩)
      case rest =>
        obtain ⟨RB, rb, rfl, CR, HRB, EX⟩ := hcut
        obtain ⟨wk, hwk⟩ : ∃ wk : World, wk = wc := ⟨_, rfl⟩
        subst hwk
        have C2' := Lib.hid (C2.out.ext EX.out)
        have M2' := Lib.hid (M2.out.ext EX.out)
        have EW' := Lib.hid (EW.out.trans EX.out)
        have hE' := Lib.hid (hE.out.trans EX.out)
        clear lM y0 y1 y2 y3 C1 C2 M2 EW hE EX
        have lM := M2'.out.1
        have y0 := M2'.out.2 0 _ rfl
        have y1 := M2'.out.2 1 _ rfl
        have y2 := M2'.out.2 2 _ rfl
        have y3 := M2'.out.2 3 _ rfl
        have lC := CR.out.1
        have c3 := CR.out.2 3 _ rfl
        have hfd := run_fieldM
        have HRO : Hid (∀ wx, Calls Try.prog 121 #[.agg #[.int .i64 P, .int .i64 da, .int .i64 db, .slice (some ⟨m0, om, none⟩) nm nm], .int .i64 i] wx fun e w' => e = .returned (.slice (some ⟨m0, om + i * db, none⟩) db (nm - i * db)) ∧ Ext wx w') := fun wx => rowOf_impl P da db i m0 om nm wx (by rw [HNM.out]; exact Nat.mul_le_mul_right db hlt) (by omega) (by omega)
        have HEQ : Hid (∀ wx b5, Has wx rb (mulTo P (rowL (da * da) l i) ms da da db da) → Has wx b5 (bRows P db l' (rowL db ms i) ms da).flatten → Calls Try.prog 136 #[.slice (some ⟨rb, 0, none⟩) (da * db) (da * db), .slice (some ⟨b5, 0, none⟩) nm nm] wx fun e w' => e = .returned (.bool (sameB (mulTo P (rowL (da * da) l i) ms da da db da) (bRows P db l' (rowL db ms i) ms da).flatten)) ∧ Ext wx w') := fun wx b5 h1 h2 => by
          have hnm := HNM.out
          refine (equal_fn _ _ (da * db) nm _ _ _ _ wx (h1.reads (mulTo_length _ _ _ _ _ _ _)) (h2.reads (by rw [bRows_flen, hnm])) (by omega) (by omega)).mono ?_
          rintro e w' ⟨rfl, m, rfl⟩
          exact ⟨rfl, (Ext.refl _).drewN m⟩
        have HS : Hid (∀ bb, sameB (mulTo P (rowL (da * da) l i) ms da da db da) (bRows P db l' (rowL db ms i) ms da).flatten = bb → (bb = true ↔ HomI P da db l l' ms i)) := fun bb h => by
          rw [← h, sameB, decide_eq_true_eq]; exact Iff.rfl
        rcases hsb : sameB (mulTo P (rowL (da * da) l i) ms da da db da) (bRows P db l' (rowL db ms i) ms da).flatten with _ | _
        all_goals
          have HSB := Lib.hid hsb
          have HH := Lib.hid (HS.out _ hsb)
          rw [hsb] at HEQ
          clear hsb HS
          go_wp2_with fail
          go_region_held3 (fun w' => Ext wk w' ∧ (∀ b o, b < wk.heap.size → w'.cell? ⟨b, o, none⟩ = wk.cell? ⟨b, o, none⟩)) (first | assumption | (with_reducible exact ext2 (Ext.trans (And.left ‹Ext wk _ ∧ _›) ‹Ext _ _›)) | (refine ext2 ?_; with_reducible repeat (first | exact Ext.refl _ | exact And.left ‹Ext wk _ ∧ _› | refine Ext.drew ?_ | refine Ext.drewN ?_ _))) (first
            | (go_at_call 121; (with_reducible refine (HRO.out _).mono ?_); rintro e w3 ⟨rfl, h3⟩)
            | (go_at_call 120; (with_reducible refine (HBR.out i hlt _ BB (EW'.out.trans (And.left ‹Ext wk _ ∧ _›)) (C2'.out.ext (And.left ‹Ext wk _ ∧ _›))).mono ?_); rintro e w4 ⟨b4, rfl, hb4, hb4', k4, h4⟩)
            | (go_at_call 136; (with_reducible refine (HEQ.out _ _ (HRB.out.ext (And.left ‹Ext wk _ ∧ _›)) k4).mono ?_); rintro e w5 ⟨rfl, h5⟩))
          have E9 := Lib.hid (hE'.out.trans (And.left ‹Ext wk w5 ∧ _›))
        · have HN9 : Hid (¬ HomI P da db l l' ms i) := fun h => by have := HH.out.2 h; simp at this
          have HF : Hid (q = false) := HQ1.out i hlt HN9.out
          have E8 := Lib.hid (E_24.out.trans E9.out)
          go_wp2
          go_ret
          exact ⟨ret_bool HF.out.symm, E8.out⟩
        · have HF9 : Hid (∀ j, j < i + 1 → HomI P da db l l' ms j) := fun j hj => by
            by_cases e : j = i
            · subst e; exact HH.out.1 (by first | rfl | trivial)
            · exact hF.out j (by omega)
          clear hF
          go_wp2
          exact ⟨⟨i + 1, by omega, by simp, E9, HF9⟩, by simp [intOf]; omega⟩
    · obtain rfl : da = i := by omega
      have HF : Hid (q = true) := HQ2.out hF.out
      have E8 := Lib.hid (E_24.out.trans hE.out)
      go_wp2
      go_ret
      exact ⟨ret_bool HF.out.symm, E8.out⟩

set_option maxRecDepth 100000 in
set_option maxHeartbeats 6400000 in
theorem isHomomorphism_spec {P D : Int} {a0 oa n : Nat} {l : List Int} {P' D' : Int} {b0 ob n' : Nat} {l' : List Int} {P2 R2 C2 : Int} {m0 om nm : Nat} {ms : List Int} {w : World} {i : Bool} (hT : Reads w (some ⟨a0, oa, none⟩) n l) (hm0 : n ≤ 1048576) (hT' : Reads w (some ⟨b0, ob, none⟩) n' l') (hm1 : n' ≤ 1048576) (hX : Reads w (some ⟨m0, om, none⟩) nm ms) (hm2 : nm ≤ 1048576) (hM : homM P D l P' D' l' P2 R2 C2 ms = i) :
    Calls Try.prog 77 #[.agg #[.int .i64 P, .int .i64 D, .slice (some ⟨a0, oa, none⟩) n n], .agg #[(.int .i64 P'), (.int .i64 D'), (.slice (some ⟨b0, ob, none⟩) n' n')], .agg #[.int .i64 P2, .int .i64 R2, .int .i64 C2, .slice (some ⟨m0, om, none⟩) nm nm]] w fun e w' => e = .returned (.bool i) ∧ Ext w w' := by
  subst hM
  have HT := Lib.hid hT
  have HT' := Lib.hid hT'
  have HX := Lib.hid hX
  have hm3 : nm ≤ maxLen := by unfold maxLen; omega
  have HA : Hid (homM P D l P' D' l' P2 R2 C2 ms = (mapsB P D l P' D' l' P2 R2 C2 ms && homB P D.toNat D'.toNat l l' ms)) := rfl
  have HB : Hid (mapsB P D l P' D' l' P2 R2 C2 ms = (algB P D l && (algB P' D' l' && (mok P2 R2 C2 ms && ((P2 == P) && ((P' == P) && ((R2 == D) && (C2 == D')))))))) := rfl
  generalize homM P D l P' D' l' P2 R2 C2 ms = q at HA
  rcases hmap : mapsB P D l P' D' l' P2 R2 C2 ms with _ | _
  · have HF : Hid (q = false) := by rw [Hid, HA.out, hmap]; rfl
    have HMP := Lib.hid hmap
    clear hT hT' hX HA HB hmap
    go_enter Try.func77, Try.ntmps77
    have A0_1 := Lib.hid (((cells_new' w #[.int .i64 P, .int .i64 D, .slice (some ⟨a0, oa, none⟩) n n] 27 (w.heap.size) (by simp)).ext ((Ext.refl _).alloc (.cells #[(.int .i64 P'), (.int .i64 D'), (.slice (some ⟨b0, ob, none⟩) n' n')] 27))).ext ((Ext.refl _).alloc (.cells #[.int .i64 P2, .int .i64 R2, .int .i64 C2, .slice (some ⟨m0, om, none⟩) nm nm] 41)))
    have A1_2 := Lib.hid ((cells_new' (w.alloc (.cells #[.int .i64 P, .int .i64 D, .slice (some ⟨a0, oa, none⟩) n n] 27)) #[(.int .i64 P'), (.int .i64 D'), (.slice (some ⟨b0, ob, none⟩) n' n')] 27 (w.heap.size + 1) (by simp)).ext ((Ext.refl _).alloc (.cells #[.int .i64 P2, .int .i64 R2, .int .i64 C2, .slice (some ⟨m0, om, none⟩) nm nm] 41)))
    have A2_3 := Lib.hid (cells_new' ((w.alloc (.cells #[.int .i64 P, .int .i64 D, .slice (some ⟨a0, oa, none⟩) n n] 27)).alloc (.cells #[(.int .i64 P'), (.int .i64 D'), (.slice (some ⟨b0, ob, none⟩) n' n')] 27)) #[.int .i64 P2, .int .i64 R2, .int .i64 C2, .slice (some ⟨m0, om, none⟩) nm nm] 41 (w.heap.size + 1 + 1) (by simp))
    have E_4 := Lib.hid ((((Ext.refl w).alloc (.cells #[.int .i64 P, .int .i64 D, .slice (some ⟨a0, oa, none⟩) n n] 27)).alloc (.cells #[(.int .i64 P'), (.int .i64 D'), (.slice (some ⟨b0, ob, none⟩) n' n')] 27)).alloc (.cells #[.int .i64 P2, .int .i64 R2, .int .i64 C2, .slice (some ⟨m0, om, none⟩) nm nm] 41))
    have lA0 := A0_1.out.1
    have qA00 := A0_1.out.2 0 _ rfl
    have qA01 := A0_1.out.2 1 _ rfl
    have qA02 := A0_1.out.2 2 _ rfl
    have lA1 := A1_2.out.1
    have qA10 := A1_2.out.2 0 _ rfl
    have qA11 := A1_2.out.2 1 _ rfl
    have qA12 := A1_2.out.2 2 _ rfl
    have lA2 := A2_3.out.1
    have qA20 := A2_3.out.2 0 _ rfl
    have qA21 := A2_3.out.2 1 _ rfl
    have qA22 := A2_3.out.2 2 _ rfl
    have qA23 := A2_3.out.2 3 _ rfl
    try simp only [World.size_alloc] at lA0 lA1 lA2
    go_wp2_with fail
    refine (l2Maps_spec (HT.out.ext E_4.out) hm0 (HT'.out.ext E_4.out) hm1 (HX.out.ext E_4.out) hm2).mono ?_
    rintro e w_5 ⟨rfl, h_5⟩
    clear lA0 qA00 qA01 qA02 lA1 qA10 qA11 qA12 lA2 qA20 qA21 qA22 qA23
    have A0_6 := Lib.hid (A0_1.out.ext h_5)
    clear A0_1
    have A1_7 := Lib.hid (A1_2.out.ext h_5)
    clear A1_2
    have A2_8 := Lib.hid (A2_3.out.ext h_5)
    clear A2_3
    have E_9 := Lib.hid (E_4.out.trans h_5)
    clear E_4
    rw [HMP.out]
    have lA0 := A0_6.out.1
    have qA00 := A0_6.out.2 0 _ rfl
    have qA01 := A0_6.out.2 1 _ rfl
    have qA02 := A0_6.out.2 2 _ rfl
    have lA1 := A1_7.out.1
    have qA10 := A1_7.out.2 0 _ rfl
    have qA11 := A1_7.out.2 1 _ rfl
    have qA12 := A1_7.out.2 2 _ rfl
    have lA2 := A2_8.out.1
    have qA20 := A2_8.out.2 0 _ rfl
    have qA21 := A2_8.out.2 1 _ rfl
    have qA22 := A2_8.out.2 2 _ rfl
    have qA23 := A2_8.out.2 3 _ rfl
    try simp only [World.size_alloc] at lA0 lA1 lA2
    go_wp2
    go_ret
    exact ⟨ret_bool HF.out.symm, E_9.out⟩
  have HMP := Lib.hid hmap
  rw [hmap, Bool.true_and] at HA
  have hmap2 := hmap
  rw [HB.out] at hmap2
  simp only [Bool.and_eq_true, beq_iff_eq] at hmap2
  obtain ⟨h0, h1, hmo, hp2e, h4, h5, hc2e⟩ := hmap2
  have e1 : P = P2 := by omega
  have e2 : P = P' := by omega
  clear hp2e h4
  subst e1
  subst e2
  subst h5
  subst hc2e
  obtain ⟨da, rfl, hA⟩ := algB_parts h0 hT.1
  obtain ⟨db, rfl, hA'⟩ := algB_parts h1 hT'.1
  simp only [Int.toNat_natCast] at HA
  have hp := isP_lo hA.pr
  have hp2 := isP_hi hA.pr
  have hda := hA.dim
  have hdb := hA'.dim
  have hms := mok_res hmo
  have hml := mok_len hmo
  rw [← Int.natCast_mul] at hml
  have hnm : nm = da * db := by rw [← hX.1]; omega
  have hnmb : nm ≤ 784 := by rw [hnm]; exact Nat.mul_le_mul hda hdb
  have hsq : da * da ≤ 784 := Nat.mul_le_mul hda hda
  have HIF := Lib.hid (hom_iff (P := P) (ms := ms) hp hA.alt hA'.alt)
  have hrowm : ∀ i, i < da → (rowL db ms i).length = db ∧ Res (rowL db ms i) P := fun i hi => by
    have h9 : (rowL db ms i).length = db := rowL_length (by rw [hX.1, hnm]) hi
    refine ⟨h9, fun j hj => ?_⟩
    rw [h9] at hj
    rw [gi_rowL2 _ _ hj]
    exact hms _ (by rw [hX.1, hnm]; exact place_lt hi hj)
  have HRM := Lib.hid hrowm
  have HNM := Lib.hid hnm
  have HLR : Hid (∀ i j, i < da → j < da → ∀ w1, Calls Try.prog 99 #[.agg #[.int .i64 P, .int .i64 da, .slice (some ⟨a0, oa, none⟩) n n], .int .i64 i, .int .i64 j] w1 fun e w' => e = .returned (.slice (some ⟨a0, oa + (i * da + j) * da, none⟩) da (n - (i * da + j) * da)) ∧ Ext w1 w') := fun i j hi hj w1 => l2Row_spec P da a0 oa n n i j w1 hda hA.len (Nat.le_refl _) (by unfold maxLen; omega) hi hj
  have HIM : Hid (∀ i j, i < da → j < da → ∀ w1 c9, Ext w w1 → Calls Try.prog 129 #[.agg #[.int .i64 P, .int .i64 da, .int .i64 db, .slice (some ⟨m0, om, none⟩) nm nm], .slice (some ⟨a0, oa + (i * da + j) * da, none⟩) da c9] w1 fun e w' => ∃ b, e = .returned (.slice (some ⟨b, 0, none⟩) db db) ∧ Has w' b (imTo P db (rowT da l i j) ms da) ∧ Ext w1 w') := fun i j hi hj w1 c9 h => l2Image_spec P da db nm m0 om a0 (oa + (i * da + j) * da) c9 ms (rowT da l i j) w1 (hX.ext h) (rowT_reads (hT.ext h) hA.len hi hj) hnm (by omega) (by omega) hp hp2 hms (rowT_res (by omega) hA.res i j)
  have HMR : Hid (∀ i, i < da → ∀ w1, Calls Try.prog 130 #[.agg #[.int .i64 P, .int .i64 da, .int .i64 db, .slice (some ⟨m0, om, none⟩) nm nm], .int .i64 i] w1 fun e w' => e = .returned (.slice (some ⟨m0, om + i * db, none⟩) db (nm - i * db)) ∧ Ext w1 w') := fun i hi w1 => l1RowP_spec P da db i m0 om nm nm w1 (by rw [hnm]; exact Nat.mul_le_mul_right db hi) (by omega) (by omega) (Nat.le_refl _) (by unfold maxLen; omega)
  have HBK : Hid (∀ i j, i < da → j < da → ∀ w1 c8 c9, Ext w w1 → Calls Try.prog 109 #[.agg #[(.int .i64 P), (.int .i64 db), (.slice (some ⟨b0, ob, none⟩) n' n')], .slice (some ⟨m0, om + i * db, none⟩) db c8, .slice (some ⟨m0, om + j * db, none⟩) db c9] w1 (BrPost w1 P db l' (rowL db ms i) (rowL db ms j))) := fun i j hi hj w1 c8 c9 h => l2Bracket_spec P db b0 ob n' n' c8 c9 _ _ l' (rowL db ms i) (rowL db ms j) w1 (hT'.ext h) (reads_row (hX.ext h) hnm hi) (reads_row (hX.ext h) hnm hj) hdb hA'.len hp hp2 hA'.res (hrowm i hi).2 (hrowm j hj).2
  have HSA : Hid (∀ w1 b4 b5 i j, Has w1 b4 (imTo P db (rowT da l i j) ms da) → Has w1 b5 (brL P db l' (rowL db ms i) (rowL db ms j)) → Calls Try.prog 128 #[.slice (some ⟨b4, 0, none⟩) db db, .slice (some ⟨b5, 0, none⟩) db db] w1 fun e w' => e = .returned (.bool (sameB (imTo P db (rowT da l i j) ms da) (brL P db l' (rowL db ms i) (rowL db ms j)))) ∧ Ext w1 w') := fun w1 b4 b5 i j h1 h2 => by
    refine (l1Same_spec _ _ db db _ _ _ _ w1 (h1.reads (imTo_length _)) (h2.reads brL_len) (by omega) (by omega)).mono ?_
    rintro e w' ⟨rfl, m, rfl⟩
    exact ⟨rfl, (Ext.refl _).drewN m⟩
  have HQ1 : Hid (∀ i j, i < da → j < i → ¬ HomS P da db l l' ms i j → q = false) := fun i j hi hj hn => by rw [HA.out, homB_false (fun h => hn (HIF.out.1 h i hi j hj))]
  have HQ2 : Hid ((∀ i, i < da → ∀ j, j < i → HomS P da db l l' ms i j) → q = true) := fun h => by rw [HA.out, homB_true (HIF.out.2 h)]
  clear HA HB hT hT' hX hA hA' hms hml hnm hrowm HIF h0 h1 hmo hmap HRM
  go_enter Try.func77, Try.ntmps77
  have A0_1 := Lib.hid (((cells_new' w #[.int .i64 P, .int .i64 da, .slice (some ⟨a0, oa, none⟩) n n] 27 (w.heap.size) (by simp)).ext ((Ext.refl _).alloc (.cells #[(.int .i64 P), (.int .i64 db), (.slice (some ⟨b0, ob, none⟩) n' n')] 27))).ext ((Ext.refl _).alloc (.cells #[.int .i64 P, .int .i64 da, .int .i64 db, .slice (some ⟨m0, om, none⟩) nm nm] 41)))
  have A1_2 := Lib.hid ((cells_new' (w.alloc (.cells #[.int .i64 P, .int .i64 da, .slice (some ⟨a0, oa, none⟩) n n] 27)) #[(.int .i64 P), (.int .i64 db), (.slice (some ⟨b0, ob, none⟩) n' n')] 27 (w.heap.size + 1) (by simp)).ext ((Ext.refl _).alloc (.cells #[.int .i64 P, .int .i64 da, .int .i64 db, .slice (some ⟨m0, om, none⟩) nm nm] 41)))
  have A2_3 := Lib.hid (cells_new' ((w.alloc (.cells #[.int .i64 P, .int .i64 da, .slice (some ⟨a0, oa, none⟩) n n] 27)).alloc (.cells #[(.int .i64 P), (.int .i64 db), (.slice (some ⟨b0, ob, none⟩) n' n')] 27)) #[.int .i64 P, .int .i64 da, .int .i64 db, .slice (some ⟨m0, om, none⟩) nm nm] 41 (w.heap.size + 1 + 1) (by simp))
  have E_4 := Lib.hid ((((Ext.refl w).alloc (.cells #[.int .i64 P, .int .i64 da, .slice (some ⟨a0, oa, none⟩) n n] 27)).alloc (.cells #[(.int .i64 P), (.int .i64 db), (.slice (some ⟨b0, ob, none⟩) n' n')] 27)).alloc (.cells #[.int .i64 P, .int .i64 da, .int .i64 db, .slice (some ⟨m0, om, none⟩) nm nm] 41))
  have lA0 := A0_1.out.1
  have qA00 := A0_1.out.2 0 _ rfl
  have qA01 := A0_1.out.2 1 _ rfl
  have qA02 := A0_1.out.2 2 _ rfl
  have lA1 := A1_2.out.1
  have qA10 := A1_2.out.2 0 _ rfl
  have qA11 := A1_2.out.2 1 _ rfl
  have qA12 := A1_2.out.2 2 _ rfl
  have lA2 := A2_3.out.1
  have qA20 := A2_3.out.2 0 _ rfl
  have qA21 := A2_3.out.2 1 _ rfl
  have qA22 := A2_3.out.2 2 _ rfl
  have qA23 := A2_3.out.2 3 _ rfl
  try simp only [World.size_alloc] at lA0 lA1 lA2
  go_wp2_with fail
  refine (l2Maps_spec (HT.out.ext E_4.out) hm0 (HT'.out.ext E_4.out) hm1 (HX.out.ext E_4.out) hm2).mono ?_
  rintro e w_5 ⟨rfl, h_5⟩
  clear lA0 qA00 qA01 qA02 lA1 qA10 qA11 qA12 lA2 qA20 qA21 qA22 qA23
  have A0_6 := Lib.hid (A0_1.out.ext h_5)
  clear A0_1
  have A1_7 := Lib.hid (A1_2.out.ext h_5)
  clear A1_2
  have A2_8 := Lib.hid (A2_3.out.ext h_5)
  clear A2_3
  have E_9 := Lib.hid (E_4.out.trans h_5)
  clear E_4
  rw [HMP.out]
  have lA0 := A0_6.out.1
  have qA00 := A0_6.out.2 0 _ rfl
  have qA01 := A0_6.out.2 1 _ rfl
  have qA02 := A0_6.out.2 2 _ rfl
  have lA1 := A1_7.out.1
  have qA10 := A1_7.out.2 0 _ rfl
  have qA11 := A1_7.out.2 1 _ rfl
  have qA12 := A1_7.out.2 2 _ rfl
  have lA2 := A2_8.out.1
  have qA20 := A2_8.out.2 0 _ rfl
  have qA21 := A2_8.out.2 1 _ rfl
  have qA22 := A2_8.out.2 2 _ rfl
  have qA23 := A2_8.out.2 3 _ rfl
  try simp only [World.size_alloc] at lA0 lA1 lA2
  go_wp2_with fail
  clear lA0 qA00 qA01 qA02 lA1 qA10 qA11 qA12 lA2 qA20 qA21 qA22 qA23
  go_loopw [7, 8] (fun z _ wr => ∃ i : Nat, i ≤ da ∧ z = .int .i64 i ∧ Hid (Ext w_5 wr) ∧ Hid (∀ i', i' < i → ∀ j, j < i' → HomS P da db l l' ms i' j)) (fun z _ _ => da - (intOf z).toNat)
  case atStart => exact ⟨0, by omega, rfl, Ext.refl _, fun j hj => by omega⟩
  case round =>
    obtain ⟨i, hi, rfl, hE, hF⟩ := hrel
    have bac := A0_6.out.ext hE.out
    have lba := bac.1
    have ba0 := bac.2 0 _ rfl
    have ba1 := bac.2 1 _ rfl
    have ba2 := bac.2 2 _ rfl
    clear bac
    have bbc := A1_7.out.ext hE.out
    have lbb := bbc.1
    have bb0 := bbc.2 0 _ rfl
    have bb1 := bbc.2 1 _ rfl
    have bb2 := bbc.2 2 _ rfl
    clear bbc
    have bmc := A2_8.out.ext hE.out
    have lbm := bmc.1
    have bm0 := bmc.2 0 _ rfl
    have bm1 := bmc.2 1 _ rfl
    have bm2 := bmc.2 2 _ rfl
    have bm3 := bmc.2 3 _ rfl
    clear bmc
    by_cases hlt : i < da
    · go_wp2_with fail
      clear lba ba0 ba1 ba2 lbb bb0 bb1 bb2 lbm bm0 bm1 bm2 bm3
      have hF0 : Hid (∀ j, j < 0 → HomS P da db l l' ms i j) := fun j hj => by omega
      go_loopw [8] (fun z wr => ∃ j : Nat, j ≤ i ∧ z = .int .i64 j ∧ Hid (Ext w_5 wr) ∧ Hid (∀ j', j' < j → HomS P da db l l' ms i j')) (fun z _ => i - (intOf z).toNat)
      case atStart => exact ⟨0, by omega, rfl, hE, hF0⟩
      case round =>
        clear hE hF0
        obtain ⟨j, hj, rfl, hE, hG⟩ := hrel
        have bac := A0_6.out.ext hE.out
        have lba := bac.1
        have ba0 := bac.2 0 _ rfl
        have ba1 := bac.2 1 _ rfl
        have ba2 := bac.2 2 _ rfl
        clear bac
        have bbc := A1_7.out.ext hE.out
        have lbb := bbc.1
        have bb0 := bbc.2 0 _ rfl
        have bb1 := bbc.2 1 _ rfl
        have bb2 := bbc.2 2 _ rfl
        clear bbc
        have bmc := A2_8.out.ext hE.out
        have lbm := bmc.1
        have bm0 := bmc.2 0 _ rfl
        have bm1 := bmc.2 1 _ rfl
        have bm2 := bmc.2 2 _ rfl
        have bm3 := bmc.2 3 _ rfl
        clear bmc
        by_cases hlt2 : j < i
        · have hjd : j < da := by omega
          have EW := Lib.hid (E_9.out.trans hE.out)
          have HH0 : Hid (∀ bb, sameB (imTo P db (rowT da l i j) ms da) (brL P db l' (rowL db ms i) (rowL db ms j)) = bb → (bb = true ↔ HomS P da db l l' ms i j)) := fun bb h => by
            rw [← h, sameB, decide_eq_true_eq]; exact Iff.rfl
          have HL1 := Lib.hid (HLR.out i j hlt hjd)
          have HI1 := Lib.hid (HIM.out i j hlt hjd)
          have HR1 := Lib.hid (HMR.out i hlt)
          have HR2 := Lib.hid (HMR.out j hjd)
          have HB1 := Lib.hid (HBK.out i j hlt hjd)
          have HS1 : Hid (∀ w1 b4 b5, Has w1 b4 (imTo P db (rowT da l i j) ms da) → Has w1 b5 (brL P db l' (rowL db ms i) (rowL db ms j)) → _) := fun w1 b4 b5 => HSA.out w1 b4 b5 i j
          rcases hsb : sameB (imTo P db (rowT da l i j) ms da) (brL P db l' (rowL db ms i) (rowL db ms j)) with _ | _
          all_goals
            have HH := Lib.hid (HH0.out _ hsb)
            rw [hsb] at HS1
            clear hsb HH0
            go_wp2_with fail
            go_region_held3 (fun w' => Ext wr w' ∧ (∀ b o, b < wr.heap.size → w'.cell? ⟨b, o, none⟩ = wr.cell? ⟨b, o, none⟩)) (first | assumption | (with_reducible exact ext2 (Ext.trans (And.left ‹Ext wr _ ∧ _›) ‹Ext _ _›)) | (refine ext2 ?_; with_reducible repeat (first | exact Ext.refl _ | exact And.left ‹Ext wr _ ∧ _› | refine Ext.drew ?_ | refine Ext.drewN ?_ _))) (first
              | (go_at_call 99; (with_reducible refine (HL1.out _).mono ?_); rintro e w3 ⟨rfl, h3⟩)
              | (go_at_call 129; (with_reducible refine (HI1.out _ _ (EW.out.trans (And.left ‹Ext wr _ ∧ _›))).mono ?_); rintro e w4 ⟨b4, rfl, k4, h4⟩)
              | (go_at_call_of 130 (Value.int .i64 i); (with_reducible refine (HR1.out _).mono ?_); rintro e w5 ⟨rfl, h5⟩)
              | (go_at_call_of 130 (Value.int .i64 j); (with_reducible refine (HR2.out _).mono ?_); rintro e w6 ⟨rfl, h6⟩)
              | (go_at_call 109; (with_reducible refine (HB1.out _ _ _ (EW.out.trans (And.left ‹Ext wr _ ∧ _›))).mono ?_); rintro e w7 ⟨b7, rfl, hb7, k7, h7⟩)
              | (go_at_call 128; (with_reducible refine (HS1.out _ _ _ (((k4.ext h5).ext h6).ext h7) k7).mono ?_); rintro e w8 ⟨rfl, h8⟩))
            have E9 := Lib.hid (hE.out.trans (And.left ‹Ext wr w8 ∧ _›))
          · have HN9 : Hid (¬ HomS P da db l l' ms i j) := fun h => by have := HH.out.2 h; simp at this
            have HF : Hid (q = false) := HQ1.out i j hlt hlt2 HN9.out
            have E8 := Lib.hid (E_9.out.trans E9.out)
            go_wp2
            go_ret
            exact ⟨ret_bool HF.out.symm, E8.out⟩
          · have HG9 : Hid (∀ j', j' < j + 1 → HomS P da db l l' ms i j') := fun j' hj' => by
              by_cases e : j' = j
              · subst e; exact HH.out.1 (by first | rfl | trivial)
              · exact hG.out j' (by omega)
            clear hG hE
            go_wp2
            exact ⟨⟨j + 1, by omega, by simp, E9, HG9⟩, by simp [intOf]; omega⟩
        · obtain rfl : i = j := by omega
          have HF9 : Hid (∀ i', i' < i + 1 → ∀ j, j < i' → HomS P da db l l' ms i' j) := fun i' hi' k9 hk9 => by
            by_cases e : i' = i
            · subst e; exact hG.out k9 hk9
            · exact hF.out i' (by omega) k9 hk9
          clear hF hG
          go_wp2
          exact ⟨⟨i + 1, by omega, by simp, hE, HF9⟩, by simp [intOf]; omega⟩
    · obtain rfl : da = i := by omega
      have HF : Hid (q = true) := HQ2.out hF.out
      have E8 := Lib.hid (E_9.out.trans hE.out)
      go_wp2
      go_ret
      exact ⟨ret_bool HF.out.symm, E8.out⟩
end Go.Proofs.Ytkbpigpanookjaa
