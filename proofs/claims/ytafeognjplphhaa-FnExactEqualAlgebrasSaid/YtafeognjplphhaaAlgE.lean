/-
  Algebras that are equal, and abelian ones: both texts.
-/
import Derived.Test.YtafeognjplphhaaAlgOk2
import Derived.Test.YtafeognjplphhaaSAlgebra
import Derived.Test.YtafeognjplphhaaCoord
namespace Go.Proofs.Ytafeognjplphhaa
open Go.ChangeShapes Go.WideShapes Go.ChangeAt Go.RowKit
set_option linter.unusedVariables false

noncomputable def eqA (P D : Int) (xs : List Int) (P' D' : Int) (xs' : List Int) : Bool := algB P D xs && (algB P' D' xs' && ((P == P') && ((D == D') && sameB xs xs')))

set_option maxRecDepth 100000 in
set_option maxHeartbeats 3200000 in
theorem equalAlgebras_spec {P D P' D' : Int} {a0 oa b0 ob n n' : Nat} {xs xs' : List Int} {w : World} {i : Bool} (h : Reads w (some ⟨a0, oa, none⟩) n xs) (hm : n ≤ 1048576) (h' : Reads w (some ⟨b0, ob, none⟩) n' xs') (hm' : n' ≤ 1048576) (hM : eqA P D xs P' D' xs' = i) :
    Calls Try.prog 47 #[.agg #[.int .i64 P, .int .i64 D, .slice (some ⟨a0, oa, none⟩) n n], .agg #[.int .i64 P', .int .i64 D', .slice (some ⟨b0, ob, none⟩) n' n']] w fun e w' => e = .returned (.bool i) ∧ Ext w w' := by
  subst hM
  have HR := Lib.hid h
  have HR' := Lib.hid h'
  have HA : Hid (eqA P D xs P' D' xs' = (algB P D xs && (algB P' D' xs' && ((P == P') && ((D == D') && sameB xs xs'))))) := rfl
  generalize eqA P D xs P' D' xs' = q at HA
  clear h h'
  rcases h1 : algB P D xs with _ | _
  · have HF : Hid (q = false) := by rw [Hid, HA.out, h1]; rfl
    have H1 := Lib.hid h1
    clear h1 HA
    go_enter Try.func47, Try.ntmps47
    have A0 := Lib.hid ((cells_new' w #[.int .i64 P, .int .i64 D, .slice (some ⟨a0, oa, none⟩) n n] 46 (w.heap.size) (by simp)).ext ((Ext.refl _).alloc (.cells #[.int .i64 P', .int .i64 D', .slice (some ⟨b0, ob, none⟩) n' n'] 46)))
    have A1 := Lib.hid (cells_new' (w.alloc (.cells #[.int .i64 P, .int .i64 D, .slice (some ⟨a0, oa, none⟩) n n] 46)) #[.int .i64 P', .int .i64 D', .slice (some ⟨b0, ob, none⟩) n' n'] 46 (w.heap.size + 1) (by simp))
    have E0 := Lib.hid (((Ext.refl w).alloc (.cells #[.int .i64 P, .int .i64 D, .slice (some ⟨a0, oa, none⟩) n n] 46)).alloc (.cells #[.int .i64 P', .int .i64 D', .slice (some ⟨b0, ob, none⟩) n' n'] 46))
    have lA0 := A0.out.1
    have qA00 := A0.out.2 0 _ rfl
    have qA01 := A0.out.2 1 _ rfl
    have qA02 := A0.out.2 2 _ rfl
    have lA1 := A1.out.1
    have qA10 := A1.out.2 0 _ rfl
    have qA11 := A1.out.2 1 _ rfl
    have qA12 := A1.out.2 2 _ rfl
    try simp only [World.size_alloc] at lA0 lA1
    go_wp2_with fail
    refine (algebraOk_spec (HR.out.ext E0.out) hm H1.out).mono ?_
    rintro e w1 ⟨rfl, h1⟩
    clear lA0 lA1 qA00 qA01 qA02 qA10 qA11 qA12
    have B0 := Lib.hid (A0.out.ext h1)
    have B1 := Lib.hid (A1.out.ext h1)
    have E1 := Lib.hid (E0.out.trans h1)
    clear A0 A1 E0 h1
    have lA0 := B0.out.1
    have qA00 := B0.out.2 0 _ rfl
    have qA01 := B0.out.2 1 _ rfl
    have qA02 := B0.out.2 2 _ rfl
    have lA1 := B1.out.1
    have qA10 := B1.out.2 0 _ rfl
    have qA11 := B1.out.2 1 _ rfl
    have qA12 := B1.out.2 2 _ rfl
    try simp only [World.size_alloc] at lA0 lA1
    go_wp2
    go_ret
    exact ⟨ret_bool HF.out.symm, E1.out⟩
  have H1 := Lib.hid h1
  rcases h2 : algB P' D' xs' with _ | _
  · have HF : Hid (q = false) := by rw [Hid, HA.out, h1, h2]; rfl
    have H2 := Lib.hid h2
    clear h1 h2 HA
    go_enter Try.func47, Try.ntmps47
    have A0 := Lib.hid ((cells_new' w #[.int .i64 P, .int .i64 D, .slice (some ⟨a0, oa, none⟩) n n] 46 (w.heap.size) (by simp)).ext ((Ext.refl _).alloc (.cells #[.int .i64 P', .int .i64 D', .slice (some ⟨b0, ob, none⟩) n' n'] 46)))
    have A1 := Lib.hid (cells_new' (w.alloc (.cells #[.int .i64 P, .int .i64 D, .slice (some ⟨a0, oa, none⟩) n n] 46)) #[.int .i64 P', .int .i64 D', .slice (some ⟨b0, ob, none⟩) n' n'] 46 (w.heap.size + 1) (by simp))
    have E0 := Lib.hid (((Ext.refl w).alloc (.cells #[.int .i64 P, .int .i64 D, .slice (some ⟨a0, oa, none⟩) n n] 46)).alloc (.cells #[.int .i64 P', .int .i64 D', .slice (some ⟨b0, ob, none⟩) n' n'] 46))
    have lA0 := A0.out.1
    have qA00 := A0.out.2 0 _ rfl
    have qA01 := A0.out.2 1 _ rfl
    have qA02 := A0.out.2 2 _ rfl
    have lA1 := A1.out.1
    have qA10 := A1.out.2 0 _ rfl
    have qA11 := A1.out.2 1 _ rfl
    have qA12 := A1.out.2 2 _ rfl
    try simp only [World.size_alloc] at lA0 lA1
    go_wp2_with fail
    refine (algebraOk_spec (HR.out.ext E0.out) hm H1.out).mono ?_
    rintro e w1 ⟨rfl, h1⟩
    clear lA0 lA1 qA00 qA01 qA02 qA10 qA11 qA12
    have B0 := Lib.hid (A0.out.ext h1)
    have B1 := Lib.hid (A1.out.ext h1)
    have E1 := Lib.hid (E0.out.trans h1)
    clear A0 A1 E0 h1
    have lA0 := B0.out.1
    have qA00 := B0.out.2 0 _ rfl
    have qA01 := B0.out.2 1 _ rfl
    have qA02 := B0.out.2 2 _ rfl
    have lA1 := B1.out.1
    have qA10 := B1.out.2 0 _ rfl
    have qA11 := B1.out.2 1 _ rfl
    have qA12 := B1.out.2 2 _ rfl
    try simp only [World.size_alloc] at lA0 lA1
    go_wp2_with fail
    refine (algebraOk_spec (HR'.out.ext E1.out) hm' H2.out).mono ?_
    rintro e w2 ⟨rfl, h2⟩
    clear lA0 lA1 qA00 qA01 qA02 qA10 qA11 qA12
    have C0 := Lib.hid (B0.out.ext h2)
    have C1 := Lib.hid (B1.out.ext h2)
    have E2 := Lib.hid (E1.out.trans h2)
    clear B0 B1 E1 h2
    have lA0 := C0.out.1
    have qA00 := C0.out.2 0 _ rfl
    have qA01 := C0.out.2 1 _ rfl
    have qA02 := C0.out.2 2 _ rfl
    have lA1 := C1.out.1
    have qA10 := C1.out.2 0 _ rfl
    have qA11 := C1.out.2 1 _ rfl
    have qA12 := C1.out.2 2 _ rfl
    try simp only [World.size_alloc] at lA0 lA1
    go_wp2
    go_ret
    exact ⟨ret_bool HF.out.symm, E2.out⟩
  have H2 := Lib.hid h2
  have HQ : Hid (q = ((P == P') && ((D == D') && sameB xs xs'))) := by rw [Hid, HA.out, h1, h2]; rfl
  clear h1 h2 HA
  rcases h3 : (P == P') with _ | _
  · have HF : Hid (q = false) := by rw [Hid, HQ.out, h3]; rfl
    clear HQ
    go_enter Try.func47, Try.ntmps47
    have A0 := Lib.hid ((cells_new' w #[.int .i64 P, .int .i64 D, .slice (some ⟨a0, oa, none⟩) n n] 46 (w.heap.size) (by simp)).ext ((Ext.refl _).alloc (.cells #[.int .i64 P', .int .i64 D', .slice (some ⟨b0, ob, none⟩) n' n'] 46)))
    have A1 := Lib.hid (cells_new' (w.alloc (.cells #[.int .i64 P, .int .i64 D, .slice (some ⟨a0, oa, none⟩) n n] 46)) #[.int .i64 P', .int .i64 D', .slice (some ⟨b0, ob, none⟩) n' n'] 46 (w.heap.size + 1) (by simp))
    have E0 := Lib.hid (((Ext.refl w).alloc (.cells #[.int .i64 P, .int .i64 D, .slice (some ⟨a0, oa, none⟩) n n] 46)).alloc (.cells #[.int .i64 P', .int .i64 D', .slice (some ⟨b0, ob, none⟩) n' n'] 46))
    have lA0 := A0.out.1
    have qA00 := A0.out.2 0 _ rfl
    have qA01 := A0.out.2 1 _ rfl
    have qA02 := A0.out.2 2 _ rfl
    have lA1 := A1.out.1
    have qA10 := A1.out.2 0 _ rfl
    have qA11 := A1.out.2 1 _ rfl
    have qA12 := A1.out.2 2 _ rfl
    try simp only [World.size_alloc] at lA0 lA1
    go_wp2_with fail
    refine (algebraOk_spec (HR.out.ext E0.out) hm H1.out).mono ?_
    rintro e w1 ⟨rfl, h1⟩
    clear lA0 lA1 qA00 qA01 qA02 qA10 qA11 qA12
    have B0 := Lib.hid (A0.out.ext h1)
    have B1 := Lib.hid (A1.out.ext h1)
    have E1 := Lib.hid (E0.out.trans h1)
    clear A0 A1 E0 h1
    have lA0 := B0.out.1
    have qA00 := B0.out.2 0 _ rfl
    have qA01 := B0.out.2 1 _ rfl
    have qA02 := B0.out.2 2 _ rfl
    have lA1 := B1.out.1
    have qA10 := B1.out.2 0 _ rfl
    have qA11 := B1.out.2 1 _ rfl
    have qA12 := B1.out.2 2 _ rfl
    try simp only [World.size_alloc] at lA0 lA1
    go_wp2_with fail
    refine (algebraOk_spec (HR'.out.ext E1.out) hm' H2.out).mono ?_
    rintro e w2 ⟨rfl, h2⟩
    clear lA0 lA1 qA00 qA01 qA02 qA10 qA11 qA12
    have C0 := Lib.hid (B0.out.ext h2)
    have C1 := Lib.hid (B1.out.ext h2)
    have E2 := Lib.hid (E1.out.trans h2)
    clear B0 B1 E1 h2
    have lA0 := C0.out.1
    have qA00 := C0.out.2 0 _ rfl
    have qA01 := C0.out.2 1 _ rfl
    have qA02 := C0.out.2 2 _ rfl
    have lA1 := C1.out.1
    have qA10 := C1.out.2 0 _ rfl
    have qA11 := C1.out.2 1 _ rfl
    have qA12 := C1.out.2 2 _ rfl
    try simp only [World.size_alloc] at lA0 lA1
    go_wp2
    go_ret
    exact ⟨ret_bool HF.out.symm, E2.out⟩
  rcases h4 : (D == D') with _ | _
  · have HF : Hid (q = false) := by rw [Hid, HQ.out, h3, h4]; rfl
    clear HQ
    go_enter Try.func47, Try.ntmps47
    have A0 := Lib.hid ((cells_new' w #[.int .i64 P, .int .i64 D, .slice (some ⟨a0, oa, none⟩) n n] 46 (w.heap.size) (by simp)).ext ((Ext.refl _).alloc (.cells #[.int .i64 P', .int .i64 D', .slice (some ⟨b0, ob, none⟩) n' n'] 46)))
    have A1 := Lib.hid (cells_new' (w.alloc (.cells #[.int .i64 P, .int .i64 D, .slice (some ⟨a0, oa, none⟩) n n] 46)) #[.int .i64 P', .int .i64 D', .slice (some ⟨b0, ob, none⟩) n' n'] 46 (w.heap.size + 1) (by simp))
    have E0 := Lib.hid (((Ext.refl w).alloc (.cells #[.int .i64 P, .int .i64 D, .slice (some ⟨a0, oa, none⟩) n n] 46)).alloc (.cells #[.int .i64 P', .int .i64 D', .slice (some ⟨b0, ob, none⟩) n' n'] 46))
    have lA0 := A0.out.1
    have qA00 := A0.out.2 0 _ rfl
    have qA01 := A0.out.2 1 _ rfl
    have qA02 := A0.out.2 2 _ rfl
    have lA1 := A1.out.1
    have qA10 := A1.out.2 0 _ rfl
    have qA11 := A1.out.2 1 _ rfl
    have qA12 := A1.out.2 2 _ rfl
    try simp only [World.size_alloc] at lA0 lA1
    go_wp2_with fail
    refine (algebraOk_spec (HR.out.ext E0.out) hm H1.out).mono ?_
    rintro e w1 ⟨rfl, h1⟩
    clear lA0 lA1 qA00 qA01 qA02 qA10 qA11 qA12
    have B0 := Lib.hid (A0.out.ext h1)
    have B1 := Lib.hid (A1.out.ext h1)
    have E1 := Lib.hid (E0.out.trans h1)
    clear A0 A1 E0 h1
    have lA0 := B0.out.1
    have qA00 := B0.out.2 0 _ rfl
    have qA01 := B0.out.2 1 _ rfl
    have qA02 := B0.out.2 2 _ rfl
    have lA1 := B1.out.1
    have qA10 := B1.out.2 0 _ rfl
    have qA11 := B1.out.2 1 _ rfl
    have qA12 := B1.out.2 2 _ rfl
    try simp only [World.size_alloc] at lA0 lA1
    go_wp2_with fail
    refine (algebraOk_spec (HR'.out.ext E1.out) hm' H2.out).mono ?_
    rintro e w2 ⟨rfl, h2⟩
    clear lA0 lA1 qA00 qA01 qA02 qA10 qA11 qA12
    have C0 := Lib.hid (B0.out.ext h2)
    have C1 := Lib.hid (B1.out.ext h2)
    have E2 := Lib.hid (E1.out.trans h2)
    clear B0 B1 E1 h2
    have lA0 := C0.out.1
    have qA00 := C0.out.2 0 _ rfl
    have qA01 := C0.out.2 1 _ rfl
    have qA02 := C0.out.2 2 _ rfl
    have lA1 := C1.out.1
    have qA10 := C1.out.2 0 _ rfl
    have qA11 := C1.out.2 1 _ rfl
    have qA12 := C1.out.2 2 _ rfl
    try simp only [World.size_alloc] at lA0 lA1
    go_wp2
    go_ret
    exact ⟨ret_bool HF.out.symm, E2.out⟩
  · have HF : Hid (q = sameB xs xs') := by rw [Hid, HQ.out, h3, h4]; rfl
    clear HQ
    go_enter Try.func47, Try.ntmps47
    have A0 := Lib.hid ((cells_new' w #[.int .i64 P, .int .i64 D, .slice (some ⟨a0, oa, none⟩) n n] 46 (w.heap.size) (by simp)).ext ((Ext.refl _).alloc (.cells #[.int .i64 P', .int .i64 D', .slice (some ⟨b0, ob, none⟩) n' n'] 46)))
    have A1 := Lib.hid (cells_new' (w.alloc (.cells #[.int .i64 P, .int .i64 D, .slice (some ⟨a0, oa, none⟩) n n] 46)) #[.int .i64 P', .int .i64 D', .slice (some ⟨b0, ob, none⟩) n' n'] 46 (w.heap.size + 1) (by simp))
    have E0 := Lib.hid (((Ext.refl w).alloc (.cells #[.int .i64 P, .int .i64 D, .slice (some ⟨a0, oa, none⟩) n n] 46)).alloc (.cells #[.int .i64 P', .int .i64 D', .slice (some ⟨b0, ob, none⟩) n' n'] 46))
    have lA0 := A0.out.1
    have qA00 := A0.out.2 0 _ rfl
    have qA01 := A0.out.2 1 _ rfl
    have qA02 := A0.out.2 2 _ rfl
    have lA1 := A1.out.1
    have qA10 := A1.out.2 0 _ rfl
    have qA11 := A1.out.2 1 _ rfl
    have qA12 := A1.out.2 2 _ rfl
    try simp only [World.size_alloc] at lA0 lA1
    go_wp2_with fail
    refine (algebraOk_spec (HR.out.ext E0.out) hm H1.out).mono ?_
    rintro e w1 ⟨rfl, h1⟩
    clear lA0 lA1 qA00 qA01 qA02 qA10 qA11 qA12
    have B0 := Lib.hid (A0.out.ext h1)
    have B1 := Lib.hid (A1.out.ext h1)
    have E1 := Lib.hid (E0.out.trans h1)
    clear A0 A1 E0 h1
    have lA0 := B0.out.1
    have qA00 := B0.out.2 0 _ rfl
    have qA01 := B0.out.2 1 _ rfl
    have qA02 := B0.out.2 2 _ rfl
    have lA1 := B1.out.1
    have qA10 := B1.out.2 0 _ rfl
    have qA11 := B1.out.2 1 _ rfl
    have qA12 := B1.out.2 2 _ rfl
    try simp only [World.size_alloc] at lA0 lA1
    go_wp2_with fail
    refine (algebraOk_spec (HR'.out.ext E1.out) hm' H2.out).mono ?_
    rintro e w2 ⟨rfl, h2⟩
    clear lA0 lA1 qA00 qA01 qA02 qA10 qA11 qA12
    have C0 := Lib.hid (B0.out.ext h2)
    have C1 := Lib.hid (B1.out.ext h2)
    have E2 := Lib.hid (E1.out.trans h2)
    clear B0 B1 E1 h2
    have lA0 := C0.out.1
    have qA00 := C0.out.2 0 _ rfl
    have qA01 := C0.out.2 1 _ rfl
    have qA02 := C0.out.2 2 _ rfl
    have lA1 := C1.out.1
    have qA10 := C1.out.2 0 _ rfl
    have qA11 := C1.out.2 1 _ rfl
    have qA12 := C1.out.2 2 _ rfl
    try simp only [World.size_alloc] at lA0 lA1
    go_wp2_with fail
    refine (l1Same_spec _ _ n n' _ _ xs xs' _ (HR.out.ext E2.out) (HR'.out.ext E2.out) hm hm').mono ?_
    rintro e w3 ⟨rfl, m, rfl⟩
    rw [← HF.out]
    go_wp2
    go_ret
    exact ⟨rfl, E2.out.drewN m⟩

set_option maxRecDepth 100000 in
set_option maxHeartbeats 3200000 in
theorem equalAlgebras_impl {P D P' D' : Int} {a0 oa b0 ob n n' : Nat} {xs xs' : List Int} {w : World} {i : Bool} (h : Reads w (some ⟨a0, oa, none⟩) n xs) (hm : n ≤ 1048576) (h' : Reads w (some ⟨b0, ob, none⟩) n' xs') (hm' : n' ≤ 1048576) (hM : eqA P D xs P' D' xs' = i) :
    Calls Try.prog 48 #[.agg #[.int .i64 P, .int .i64 D, .slice (some ⟨a0, oa, none⟩) n n], .agg #[.int .i64 P', .int .i64 D', .slice (some ⟨b0, ob, none⟩) n' n']] w fun e w' => e = .returned (.bool i) ∧ Ext w w' := by
  subst hM
  have HR := Lib.hid h
  have HR' := Lib.hid h'
  have HA : Hid (eqA P D xs P' D' xs' = (algB P D xs && (algB P' D' xs' && ((P == P') && ((D == D') && sameB xs xs'))))) := rfl
  generalize eqA P D xs P' D' xs' = q at HA
  clear h h'
  rcases h1 : algB P D xs with _ | _
  · have HF : Hid (q = false) := by rw [Hid, HA.out, h1]; rfl
    have H1 := Lib.hid h1
    clear h1 HA
    go_enter Try.func48, Try.ntmps48
    have A0 := Lib.hid ((cells_new' w #[.int .i64 P, .int .i64 D, .slice (some ⟨a0, oa, none⟩) n n] 46 (w.heap.size) (by simp)).ext ((Ext.refl _).alloc (.cells #[.int .i64 P', .int .i64 D', .slice (some ⟨b0, ob, none⟩) n' n'] 46)))
    have A1 := Lib.hid (cells_new' (w.alloc (.cells #[.int .i64 P, .int .i64 D, .slice (some ⟨a0, oa, none⟩) n n] 46)) #[.int .i64 P', .int .i64 D', .slice (some ⟨b0, ob, none⟩) n' n'] 46 (w.heap.size + 1) (by simp))
    have E0 := Lib.hid (((Ext.refl w).alloc (.cells #[.int .i64 P, .int .i64 D, .slice (some ⟨a0, oa, none⟩) n n] 46)).alloc (.cells #[.int .i64 P', .int .i64 D', .slice (some ⟨b0, ob, none⟩) n' n'] 46))
    have lA0 := A0.out.1
    have qA00 := A0.out.2 0 _ rfl
    have qA01 := A0.out.2 1 _ rfl
    have qA02 := A0.out.2 2 _ rfl
    have lA1 := A1.out.1
    have qA10 := A1.out.2 0 _ rfl
    have qA11 := A1.out.2 1 _ rfl
    have qA12 := A1.out.2 2 _ rfl
    try simp only [World.size_alloc] at lA0 lA1
    go_wp2_with fail
    refine (algebraOk_impl (HR.out.ext E0.out) hm H1.out).mono ?_
    rintro e w1 ⟨rfl, h1⟩
    clear lA0 lA1 qA00 qA01 qA02 qA10 qA11 qA12
    have B0 := Lib.hid (A0.out.ext h1)
    have B1 := Lib.hid (A1.out.ext h1)
    have E1 := Lib.hid (E0.out.trans h1)
    clear A0 A1 E0 h1
    have lA0 := B0.out.1
    have qA00 := B0.out.2 0 _ rfl
    have qA01 := B0.out.2 1 _ rfl
    have qA02 := B0.out.2 2 _ rfl
    have lA1 := B1.out.1
    have qA10 := B1.out.2 0 _ rfl
    have qA11 := B1.out.2 1 _ rfl
    have qA12 := B1.out.2 2 _ rfl
    try simp only [World.size_alloc] at lA0 lA1
    go_wp2
    go_ret
    exact ⟨ret_bool HF.out.symm, E1.out⟩
  have H1 := Lib.hid h1
  rcases h2 : algB P' D' xs' with _ | _
  · have HF : Hid (q = false) := by rw [Hid, HA.out, h1, h2]; rfl
    have H2 := Lib.hid h2
    clear h1 h2 HA
    go_enter Try.func48, Try.ntmps48
    have A0 := Lib.hid ((cells_new' w #[.int .i64 P, .int .i64 D, .slice (some ⟨a0, oa, none⟩) n n] 46 (w.heap.size) (by simp)).ext ((Ext.refl _).alloc (.cells #[.int .i64 P', .int .i64 D', .slice (some ⟨b0, ob, none⟩) n' n'] 46)))
    have A1 := Lib.hid (cells_new' (w.alloc (.cells #[.int .i64 P, .int .i64 D, .slice (some ⟨a0, oa, none⟩) n n] 46)) #[.int .i64 P', .int .i64 D', .slice (some ⟨b0, ob, none⟩) n' n'] 46 (w.heap.size + 1) (by simp))
    have E0 := Lib.hid (((Ext.refl w).alloc (.cells #[.int .i64 P, .int .i64 D, .slice (some ⟨a0, oa, none⟩) n n] 46)).alloc (.cells #[.int .i64 P', .int .i64 D', .slice (some ⟨b0, ob, none⟩) n' n'] 46))
    have lA0 := A0.out.1
    have qA00 := A0.out.2 0 _ rfl
    have qA01 := A0.out.2 1 _ rfl
    have qA02 := A0.out.2 2 _ rfl
    have lA1 := A1.out.1
    have qA10 := A1.out.2 0 _ rfl
    have qA11 := A1.out.2 1 _ rfl
    have qA12 := A1.out.2 2 _ rfl
    try simp only [World.size_alloc] at lA0 lA1
    go_wp2_with fail
    refine (algebraOk_impl (HR.out.ext E0.out) hm H1.out).mono ?_
    rintro e w1 ⟨rfl, h1⟩
    clear lA0 lA1 qA00 qA01 qA02 qA10 qA11 qA12
    have B0 := Lib.hid (A0.out.ext h1)
    have B1 := Lib.hid (A1.out.ext h1)
    have E1 := Lib.hid (E0.out.trans h1)
    clear A0 A1 E0 h1
    have lA0 := B0.out.1
    have qA00 := B0.out.2 0 _ rfl
    have qA01 := B0.out.2 1 _ rfl
    have qA02 := B0.out.2 2 _ rfl
    have lA1 := B1.out.1
    have qA10 := B1.out.2 0 _ rfl
    have qA11 := B1.out.2 1 _ rfl
    have qA12 := B1.out.2 2 _ rfl
    try simp only [World.size_alloc] at lA0 lA1
    go_wp2_with fail
    refine (algebraOk_impl (HR'.out.ext E1.out) hm' H2.out).mono ?_
    rintro e w2 ⟨rfl, h2⟩
    clear lA0 lA1 qA00 qA01 qA02 qA10 qA11 qA12
    have C0 := Lib.hid (B0.out.ext h2)
    have C1 := Lib.hid (B1.out.ext h2)
    have E2 := Lib.hid (E1.out.trans h2)
    clear B0 B1 E1 h2
    have lA0 := C0.out.1
    have qA00 := C0.out.2 0 _ rfl
    have qA01 := C0.out.2 1 _ rfl
    have qA02 := C0.out.2 2 _ rfl
    have lA1 := C1.out.1
    have qA10 := C1.out.2 0 _ rfl
    have qA11 := C1.out.2 1 _ rfl
    have qA12 := C1.out.2 2 _ rfl
    try simp only [World.size_alloc] at lA0 lA1
    go_wp2
    go_ret
    exact ⟨ret_bool HF.out.symm, E2.out⟩
  have H2 := Lib.hid h2
  have HQ : Hid (q = ((P == P') && ((D == D') && sameB xs xs'))) := by rw [Hid, HA.out, h1, h2]; rfl
  clear h1 h2 HA
  rcases h3 : (P == P') with _ | _
  · have HF : Hid (q = false) := by rw [Hid, HQ.out, h3]; rfl
    clear HQ
    go_enter Try.func48, Try.ntmps48
    have A0 := Lib.hid ((cells_new' w #[.int .i64 P, .int .i64 D, .slice (some ⟨a0, oa, none⟩) n n] 46 (w.heap.size) (by simp)).ext ((Ext.refl _).alloc (.cells #[.int .i64 P', .int .i64 D', .slice (some ⟨b0, ob, none⟩) n' n'] 46)))
    have A1 := Lib.hid (cells_new' (w.alloc (.cells #[.int .i64 P, .int .i64 D, .slice (some ⟨a0, oa, none⟩) n n] 46)) #[.int .i64 P', .int .i64 D', .slice (some ⟨b0, ob, none⟩) n' n'] 46 (w.heap.size + 1) (by simp))
    have E0 := Lib.hid (((Ext.refl w).alloc (.cells #[.int .i64 P, .int .i64 D, .slice (some ⟨a0, oa, none⟩) n n] 46)).alloc (.cells #[.int .i64 P', .int .i64 D', .slice (some ⟨b0, ob, none⟩) n' n'] 46))
    have lA0 := A0.out.1
    have qA00 := A0.out.2 0 _ rfl
    have qA01 := A0.out.2 1 _ rfl
    have qA02 := A0.out.2 2 _ rfl
    have lA1 := A1.out.1
    have qA10 := A1.out.2 0 _ rfl
    have qA11 := A1.out.2 1 _ rfl
    have qA12 := A1.out.2 2 _ rfl
    try simp only [World.size_alloc] at lA0 lA1
    go_wp2_with fail
    refine (algebraOk_impl (HR.out.ext E0.out) hm H1.out).mono ?_
    rintro e w1 ⟨rfl, h1⟩
    clear lA0 lA1 qA00 qA01 qA02 qA10 qA11 qA12
    have B0 := Lib.hid (A0.out.ext h1)
    have B1 := Lib.hid (A1.out.ext h1)
    have E1 := Lib.hid (E0.out.trans h1)
    clear A0 A1 E0 h1
    have lA0 := B0.out.1
    have qA00 := B0.out.2 0 _ rfl
    have qA01 := B0.out.2 1 _ rfl
    have qA02 := B0.out.2 2 _ rfl
    have lA1 := B1.out.1
    have qA10 := B1.out.2 0 _ rfl
    have qA11 := B1.out.2 1 _ rfl
    have qA12 := B1.out.2 2 _ rfl
    try simp only [World.size_alloc] at lA0 lA1
    go_wp2_with fail
    refine (algebraOk_impl (HR'.out.ext E1.out) hm' H2.out).mono ?_
    rintro e w2 ⟨rfl, h2⟩
    clear lA0 lA1 qA00 qA01 qA02 qA10 qA11 qA12
    have C0 := Lib.hid (B0.out.ext h2)
    have C1 := Lib.hid (B1.out.ext h2)
    have E2 := Lib.hid (E1.out.trans h2)
    clear B0 B1 E1 h2
    have lA0 := C0.out.1
    have qA00 := C0.out.2 0 _ rfl
    have qA01 := C0.out.2 1 _ rfl
    have qA02 := C0.out.2 2 _ rfl
    have lA1 := C1.out.1
    have qA10 := C1.out.2 0 _ rfl
    have qA11 := C1.out.2 1 _ rfl
    have qA12 := C1.out.2 2 _ rfl
    try simp only [World.size_alloc] at lA0 lA1
    go_wp2
    go_ret
    exact ⟨ret_bool HF.out.symm, E2.out⟩
  rcases h4 : (D == D') with _ | _
  · have HF : Hid (q = false) := by rw [Hid, HQ.out, h3, h4]; rfl
    clear HQ
    go_enter Try.func48, Try.ntmps48
    have A0 := Lib.hid ((cells_new' w #[.int .i64 P, .int .i64 D, .slice (some ⟨a0, oa, none⟩) n n] 46 (w.heap.size) (by simp)).ext ((Ext.refl _).alloc (.cells #[.int .i64 P', .int .i64 D', .slice (some ⟨b0, ob, none⟩) n' n'] 46)))
    have A1 := Lib.hid (cells_new' (w.alloc (.cells #[.int .i64 P, .int .i64 D, .slice (some ⟨a0, oa, none⟩) n n] 46)) #[.int .i64 P', .int .i64 D', .slice (some ⟨b0, ob, none⟩) n' n'] 46 (w.heap.size + 1) (by simp))
    have E0 := Lib.hid (((Ext.refl w).alloc (.cells #[.int .i64 P, .int .i64 D, .slice (some ⟨a0, oa, none⟩) n n] 46)).alloc (.cells #[.int .i64 P', .int .i64 D', .slice (some ⟨b0, ob, none⟩) n' n'] 46))
    have lA0 := A0.out.1
    have qA00 := A0.out.2 0 _ rfl
    have qA01 := A0.out.2 1 _ rfl
    have qA02 := A0.out.2 2 _ rfl
    have lA1 := A1.out.1
    have qA10 := A1.out.2 0 _ rfl
    have qA11 := A1.out.2 1 _ rfl
    have qA12 := A1.out.2 2 _ rfl
    try simp only [World.size_alloc] at lA0 lA1
    go_wp2_with fail
    refine (algebraOk_impl (HR.out.ext E0.out) hm H1.out).mono ?_
    rintro e w1 ⟨rfl, h1⟩
    clear lA0 lA1 qA00 qA01 qA02 qA10 qA11 qA12
    have B0 := Lib.hid (A0.out.ext h1)
    have B1 := Lib.hid (A1.out.ext h1)
    have E1 := Lib.hid (E0.out.trans h1)
    clear A0 A1 E0 h1
    have lA0 := B0.out.1
    have qA00 := B0.out.2 0 _ rfl
    have qA01 := B0.out.2 1 _ rfl
    have qA02 := B0.out.2 2 _ rfl
    have lA1 := B1.out.1
    have qA10 := B1.out.2 0 _ rfl
    have qA11 := B1.out.2 1 _ rfl
    have qA12 := B1.out.2 2 _ rfl
    try simp only [World.size_alloc] at lA0 lA1
    go_wp2_with fail
    refine (algebraOk_impl (HR'.out.ext E1.out) hm' H2.out).mono ?_
    rintro e w2 ⟨rfl, h2⟩
    clear lA0 lA1 qA00 qA01 qA02 qA10 qA11 qA12
    have C0 := Lib.hid (B0.out.ext h2)
    have C1 := Lib.hid (B1.out.ext h2)
    have E2 := Lib.hid (E1.out.trans h2)
    clear B0 B1 E1 h2
    have lA0 := C0.out.1
    have qA00 := C0.out.2 0 _ rfl
    have qA01 := C0.out.2 1 _ rfl
    have qA02 := C0.out.2 2 _ rfl
    have lA1 := C1.out.1
    have qA10 := C1.out.2 0 _ rfl
    have qA11 := C1.out.2 1 _ rfl
    have qA12 := C1.out.2 2 _ rfl
    try simp only [World.size_alloc] at lA0 lA1
    go_wp2
    go_ret
    exact ⟨ret_bool HF.out.symm, E2.out⟩
  · have HF : Hid (q = sameB xs xs') := by rw [Hid, HQ.out, h3, h4]; rfl
    clear HQ
    go_enter Try.func48, Try.ntmps48
    have A0 := Lib.hid ((cells_new' w #[.int .i64 P, .int .i64 D, .slice (some ⟨a0, oa, none⟩) n n] 46 (w.heap.size) (by simp)).ext ((Ext.refl _).alloc (.cells #[.int .i64 P', .int .i64 D', .slice (some ⟨b0, ob, none⟩) n' n'] 46)))
    have A1 := Lib.hid (cells_new' (w.alloc (.cells #[.int .i64 P, .int .i64 D, .slice (some ⟨a0, oa, none⟩) n n] 46)) #[.int .i64 P', .int .i64 D', .slice (some ⟨b0, ob, none⟩) n' n'] 46 (w.heap.size + 1) (by simp))
    have E0 := Lib.hid (((Ext.refl w).alloc (.cells #[.int .i64 P, .int .i64 D, .slice (some ⟨a0, oa, none⟩) n n] 46)).alloc (.cells #[.int .i64 P', .int .i64 D', .slice (some ⟨b0, ob, none⟩) n' n'] 46))
    have lA0 := A0.out.1
    have qA00 := A0.out.2 0 _ rfl
    have qA01 := A0.out.2 1 _ rfl
    have qA02 := A0.out.2 2 _ rfl
    have lA1 := A1.out.1
    have qA10 := A1.out.2 0 _ rfl
    have qA11 := A1.out.2 1 _ rfl
    have qA12 := A1.out.2 2 _ rfl
    try simp only [World.size_alloc] at lA0 lA1
    go_wp2_with fail
    refine (algebraOk_impl (HR.out.ext E0.out) hm H1.out).mono ?_
    rintro e w1 ⟨rfl, h1⟩
    clear lA0 lA1 qA00 qA01 qA02 qA10 qA11 qA12
    have B0 := Lib.hid (A0.out.ext h1)
    have B1 := Lib.hid (A1.out.ext h1)
    have E1 := Lib.hid (E0.out.trans h1)
    clear A0 A1 E0 h1
    have lA0 := B0.out.1
    have qA00 := B0.out.2 0 _ rfl
    have qA01 := B0.out.2 1 _ rfl
    have qA02 := B0.out.2 2 _ rfl
    have lA1 := B1.out.1
    have qA10 := B1.out.2 0 _ rfl
    have qA11 := B1.out.2 1 _ rfl
    have qA12 := B1.out.2 2 _ rfl
    try simp only [World.size_alloc] at lA0 lA1
    go_wp2_with fail
    refine (algebraOk_impl (HR'.out.ext E1.out) hm' H2.out).mono ?_
    rintro e w2 ⟨rfl, h2⟩
    clear lA0 lA1 qA00 qA01 qA02 qA10 qA11 qA12
    have C0 := Lib.hid (B0.out.ext h2)
    have C1 := Lib.hid (B1.out.ext h2)
    have E2 := Lib.hid (E1.out.trans h2)
    clear B0 B1 E1 h2
    have lA0 := C0.out.1
    have qA00 := C0.out.2 0 _ rfl
    have qA01 := C0.out.2 1 _ rfl
    have qA02 := C0.out.2 2 _ rfl
    have lA1 := C1.out.1
    have qA10 := C1.out.2 0 _ rfl
    have qA11 := C1.out.2 1 _ rfl
    have qA12 := C1.out.2 2 _ rfl
    try simp only [World.size_alloc] at lA0 lA1
    go_wp2_with fail
    refine (equal_fn _ _ n n' _ _ xs xs' _ (HR.out.ext E2.out) (HR'.out.ext E2.out) hm hm').mono ?_
    rintro e w3 ⟨rfl, m, rfl⟩
    rw [← HF.out]
    go_wp2
    go_ret
    exact ⟨rfl, E2.out.drewN m⟩

/-- An algebra as numbers. -/
structure Alg where
  p : Int
  d : Int
  t : List Int
def noAlg : Alg := ⟨0, 0, []⟩
noncomputable def abelA (P D : Int) : Alg := if dimB P D then ⟨P, D, List.replicate (D * D * D).toNat 0⟩ else noAlg
theorem cubeI {D : Int} (h : inB D 0 28 = true) : IntKind.i64.wrap (D * D) = D * D ∧ IntKind.i64.wrap (D * D * D) = D * D * D ∧ 0 ≤ D * D * D ∧ D * D * D ≤ 1048576 := by
  obtain ⟨h0, h1⟩ := inB_iff.1 h
  obtain ⟨D, rfl⟩ := Int.eq_ofNat_of_zero_le h0
  have hD : D ≤ 28 := by omega
  have h28 := cube28 hD
  have h27 : D * D ≤ 784 := Nat.mul_le_mul hD hD
  have e1 : (D : Int) * (D : Int) = ((D * D : Nat) : Int) := by simp
  have e2 : (D : Int) * (D : Int) * (D : Int) = ((D * D * D : Nat) : Int) := by simp
  refine ⟨IntWalk.i64_in _ ⟨by rw [e1]; omega, by rw [e1]; omega⟩, IntWalk.i64_in _ ⟨by rw [e2]; omega, by rw [e2]; omega⟩, by rw [e2]; omega, by rw [e2]; omega⟩

set_option maxHeartbeats 400000 in
theorem newLie_impl (P D : Int) (w : World) (h : inB D 0 28 = true) :
    Calls Try.prog 88 #[.int .i64 P, .int .i64 D] w fun e w' => ∃ B b, e = .returned (.pointer (some ⟨B, 0, none⟩)) ∧ Cells w' B [.int .i64 P, .int .i64 D, .slice (some ⟨b, 0, none⟩) (D * D * D).toNat (D * D * D).toNat] ∧ w.heap.size ≤ b ∧ b < w'.heap.size ∧ Has w' b (List.replicate (D * D * D).toNat 0) ∧ Ext w w' := by
  obtain ⟨v1, v2, g0, g1⟩ := cubeI h
  have hmk := make_intsz (D * D * D) g0 g1
  clear h g0 g1
  go_enter Try.func88, Try.ntmps88
  go_wp2
  go_ret
  exact ⟨w.heap.size + 1, w.heap.size, rfl, cells_new' _ _ _ _ (by simp), Nat.le_refl _, by simp; omega, (Has.new w _).ext ((Ext.refl _).alloc _), ((Ext.refl _).alloc _).alloc _⟩

set_option maxRecDepth 100000 in
set_option maxHeartbeats 1600000 in
theorem abelianAlgebra_spec {P D p d : Int} {xs : List Int} {w : World} (hM : abelA P D = ⟨p, d, xs⟩) :
    Calls Try.prog 43 #[.int .i64 P, .int .i64 D] w fun e w' => ∃ v, e = .returned v ∧ Ralg w w' v p d xs ∧ Ext w w' := by
  rcases hp : isP P with _ | _
  · simp only [abelA, dimB, hp, Bool.false_and, noAlg, Bool.false_eq_true, if_false, Alg.mk.injEq] at hM
    obtain ⟨rfl, rfl, rfl⟩ := hM
    go_enter Try.func43, Try.ntmps43
    go_wp2_with fail
    refine (isPrime_spec _ _).mono ?_
    rintro e w' ⟨rfl, rfl⟩
    rw [hp]
    go_wp2
    refine bodyPost_ret (v := .agg #[.int .i64 0, .int .i64 0, .slice none 0 0]) (by simp [results, Try.results43, go_sem]) rfl ⟨_, rfl, ⟨_, _, _, rfl, own_nil _ _ _, by omega⟩, (Ext.refl _).alloc _⟩
  rcases hq : inB D 0 28 with _ | _
  · simp only [abelA, dimB, hp, hq, Bool.and_false, noAlg, Bool.false_eq_true, if_false, Alg.mk.injEq] at hM
    obtain ⟨rfl, rfl, rfl⟩ := hM
    go_enter Try.func43, Try.ntmps43
    go_wp2_with fail
    refine (isPrime_spec _ _).mono ?_
    rintro e w' ⟨rfl, rfl⟩
    rw [hp]
    go_wp2_with fail
    refine (l1In_spec _ _ _ _).mono ?_
    rintro e w' ⟨rfl, rfl⟩
    rw [hq]
    go_wp2
    refine bodyPost_ret (v := .agg #[.int .i64 0, .int .i64 0, .slice none 0 0]) (by simp [results, Try.results43, go_sem]) rfl ⟨_, rfl, ⟨_, _, _, rfl, own_nil _ _ _, by omega⟩, (Ext.refl _).alloc _⟩
  simp only [abelA, dimB, hp, hq, Bool.and_self, if_true, Alg.mk.injEq] at hM
  obtain ⟨rfl, rfl, rfl⟩ := hM
  obtain ⟨v1, v2, g0, g1⟩ := cubeI hq
  have hmk := make_intsz (D * D * D) g0 g1
  have HG : Hid ((D * D * D).toNat ≤ 1048576) := by show (D * D * D).toNat ≤ 1048576; omega
  clear g0 g1
  go_enter Try.func43, Try.ntmps43
  go_wp2_with fail
  refine (isPrime_spec _ _).mono ?_
  rintro e w' ⟨rfl, rfl⟩
  rw [hp]
  go_wp2_with fail
  refine (l1In_spec _ _ _ _).mono ?_
  rintro e w' ⟨rfl, rfl⟩
  rw [hq]
  go_wp2
  refine bodyPost_ret (v := .agg #[.int .i64 P, .int .i64 D, .slice (some ⟨w.heap.size + 1, 0, none⟩) (D * D * D).toNat (D * D * D).toNat]) (by simp [results, Try.results43, go_sem]) rfl ⟨_, rfl, ⟨_, _, _, rfl, ?_, HG.out⟩, ?_⟩
  · exact (Has.new' _ _ _ (by simp)).own (by omega) (by simp) (by simp)
  · exact ((Ext.refl _).alloc _).alloc _

set_option maxRecDepth 100000 in
set_option maxHeartbeats 1600000 in
theorem abelianAlgebra_impl {P D p d : Int} {xs : List Int} {w : World} (hM : abelA P D = ⟨p, d, xs⟩) :
    Calls Try.prog 44 #[.int .i64 P, .int .i64 D] w fun e w' => ∃ v, e = .returned v ∧ Ralg w w' v p d xs ∧ Ext w w' := by
  rcases hb : dimB P D with _ | _
  · simp only [abelA, hb, noAlg, Bool.false_eq_true, if_false, Alg.mk.injEq] at hM
    obtain ⟨rfl, rfl, rfl⟩ := hM
    go_enter Try.func44, Try.ntmps44
    go_wp2_with fail
    refine (dimOk_impl _ _ _).mono ?_
    rintro e w' ⟨rfl, rfl⟩
    rw [hb]
    go_wp2
    refine bodyPost_ret (v := .agg #[.int .i64 0, .int .i64 0, .slice none 0 0]) (by simp [results, Try.results44, go_sem]) rfl ⟨_, rfl, ⟨_, _, _, rfl, own_nil _ _ _, by omega⟩, (Ext.refl _).alloc _⟩
  simp only [abelA, hb, if_true, Alg.mk.injEq] at hM
  obtain ⟨rfl, rfl, rfl⟩ := hM
  have hq : inB D 0 28 = true := by simp only [dimB, Bool.and_eq_true] at hb; exact hb.2
  obtain ⟨v1, v2, g0, g1⟩ := cubeI hq
  have HG : Hid ((D * D * D).toNat ≤ 1048576) := by show (D * D * D).toNat ≤ 1048576; omega
  clear g0 g1 v1 v2
  go_enter Try.func44, Try.ntmps44
  go_wp2_with fail
  refine (dimOk_impl _ _ _).mono ?_
  rintro e w' ⟨rfl, rfl⟩
  rw [hb]
  go_wp2_with fail
  refine (newLie_impl _ _ _ hq).mono ?_
  rintro e w1 ⟨B, b, rfl, hB, hlo, hhi, hh, hE⟩
  have HH := Lib.hid hh
  have HB := Lib.hid hB
  have lB := hB.1
  have q0 := hB.2 0 _ rfl
  have q1 := hB.2 1 _ rfl
  have q2 := hB.2 2 _ rfl
  have hc := hE.cells
  have hf := hE.frees
  have HE := Lib.hid hE
  simp at hlo
  have hle := hE.le
  simp at hle
  clear hh hB hE
  go_wp2
  refine bodyPost_ret (v := .agg #[.int .i64 P, .int .i64 D, .slice (some ⟨b, 0, none⟩) (D * D * D).toNat (D * D * D).toNat]) (by simp [results, Try.results44, go_sem, hc]) rfl ⟨_, rfl, ⟨_, _, _, rfl, ?_, HG.out⟩, ?_⟩
  · exact Own.mono (own3 (HH.out.own (lo := w.heap.size + 1) (hi := w1.heap.size) (by omega) (by omega) (by simp)) (by omega) _ _ _) (by omega) (by simp)
  · exact ext3 (((Ext.refl _).alloc _).trans HE.out) (Nat.le_refl _) _ _ _

end Go.Proofs.Ytafeognjplphhaa
