/-
  Inner products of lattice elements, in both texts.
-/
import Derived.Test.YtlnpaplbcocmkaaGreatLen
namespace Go.Proofs.YtlnpaplbcocmkaaGreat
open Go.ChangeShapes Go.WideShapes Go.ChangeAt Go.RowKit
set_option linter.unusedVariables false
set_option linter.unusedSimpArgs false

theorem reads_shape {w : World} {a : Option Addr} {n : Nat} {xs : List Int} (h : Reads w a n xs) (h0 : 0 < n) : ∃ b o, a = some ⟨b, o, none⟩ ∧ b < w.heap.size ∧ ∀ j, j < n → w.cell? ⟨b, o + j, none⟩ = some (.int .i64 (gi xs j)) := by
  rcases h.2 with h1 | h1
  · omega
  · exact h1
theorem innS_bnd {xs ls x y : List Int} {R : Nat} {B C : Int} (hB : 0 ≤ B) (hC : 0 ≤ C) (hx : ∀ e, -B ≤ gi x e ∧ gi x e ≤ B) (hl : ∀ e, 0 ≤ gi ls e ∧ gi ls e ≤ 3) (hw : ∀ i, -C ≤ wgS xs y R i R ∧ wgS xs y R i R ≤ C) : ∀ i : Nat, (-(B * 3) ≤ gi x i * gi ls i ∧ gi x i * gi ls i ≤ B * 3) ∧ (-(B * 3 * C) ≤ gi x i * gi ls i * wgS xs y R i R ∧ gi x i * gi ls i * wgS xs y R i R ≤ B * 3 * C) ∧ -(B * 3 * C * i) ≤ innS xs ls x y R i ∧ innS xs ls x y R i ≤ B * 3 * C * i := by
  intro i
  have a1 : ∀ i, -(B * 3) ≤ gi x i * gi ls i ∧ gi x i * gi ls i ≤ B * 3 := fun i => mul_bnd (hx i).1 (hx i).2 (by have := hl i; omega) (hl i).2
  have a2 : ∀ i, -(B * 3 * C) ≤ gi x i * gi ls i * wgS xs y R i R ∧ gi x i * gi ls i * wgS xs y R i R ≤ B * 3 * C := fun i => mul_bnd (a1 i).1 (a1 i).2 (hw i).1 (hw i).2
  refine ⟨a1 i, a2 i, ?_⟩
  induction i with
  | zero => simp [innS]
  | succ i ih =>
    have a3 := a2 i
    rw [innS, show ((i + 1 : Nat) : Int) = (i : Int) + 1 by simp, Int.mul_add, Int.mul_one]
    omega

set_option maxRecDepth 100000 in
set_option maxHeartbeats 6400000 in
theorem l5Inner_spec (R da od n cD m c m' c' : Nat) (xs ls ys zs : List Int) (a a' : Option Addr) (w : World) (hr : Reads w (some ⟨da, od, none⟩) n xs) (hn : n = R * R) (hR0 : 1 ≤ R) (hR : R ≤ 4) (hok : LenOk xs ls R) (hy : Reads w a m ys) (hm : m = R) (hyb : ∀ e, -1000 ≤ gi ys e ∧ gi ys e ≤ 1000) (hz : Reads w a' m' zs) (hm' : m' = R) (hzb : ∀ e, -1000 ≤ gi zs e ∧ gi zs e ≤ 1000) :
    Calls Tryz.prog 181 #[.agg #[.int .i64 (R : Nat), .slice (some ⟨da, od, none⟩) n cD], .slice a m c, .slice a' m' c'] w fun e w' => e = .returned (.int .i64 (innS xs ls ys zs R R)) ∧ Ext w w' := by
  subst hm
  subst hm'
  obtain ⟨ax, ox, rfl, hax, hxc⟩ := reads_shape hy (by omega)
  have HAX := Lib.hid hax
  have HXC := Lib.hid hxc
  have HN := Lib.hid hn
  have HR := Lib.hid hr
  have HZ := Lib.hid hz
  have HOK := Lib.hid hok
  have HZB : Hid (∀ e, -1000000 ≤ gi zs e ∧ gi zs e ≤ 1000000) := fun e => by have := hzb e; omega
  have HBD := Lib.hid (innS_bnd (xs := xs) (ls := ls) (x := ys) (y := zs) (R := m') (B := 1000) (C := 12000) (by omega) (by omega) hyb hok.bnd (fun i => by have := wgS_bnd hok.xb hzb m' i m'; omega))
  clear hax hxc hn hr hy hz hok hyb hzb
  have HBX := Lib.hid (cells_new w #[.int .i64 (m' : Nat), .slice (some ⟨da, od, none⟩) n cD] 27)
  go_enter Tryz.func181, Tryz.ntmps181
  go_wp2_with fail
  refine (l5Lengths_spec m' da od n cD xs ls _ (HR.out.ext ((Ext.refl w).alloc _)) HN.out hR0 hR HOK.out).mono ?_
  rintro e w2 ⟨b2, rfl, hb21, hb22, hh2, h2⟩
  have HE2 := Lib.hid (((Ext.refl w).alloc _).trans h2)
  have HB2 := Lib.hid (HBX.out.ext h2)
  have HL2 := Lib.hid hh2
  have lB := HB2.out.1
  have q0 := HB2.out.2 0 _ rfl
  have q1 := HB2.out.2 1 _ rfl
  clear hh2 h2 HBX
  go_wp2_with fail
  refine (l5Weight_spec m' da od n cD m' c' xs zs _ _ (HR.out.ext HE2.out) HN.out hR0 hR (HZ.out.ext HE2.out) rfl HOK.out.xb HZB.out).mono ?_
  rintro e w3 ⟨b, rfl, hb1, hb2, hh, h3⟩
  have HW := Lib.hid hh
  have HE := Lib.hid (HE2.out.trans h3)
  have HB3 := Lib.hid (HB2.out.ext h3)
  have HL3 := Lib.hid (HL2.out.ext h3)
  clear hh h3 HB2 HL2 lB q0 q1 HE2
  go_wp2_with fail
  go_loopw [10, 9] (fun z s wr => ∃ i q : Nat, i ≤ m' ∧ z = .int .i64 i ∧ s = .int .i64 (innS xs ls ys zs m' i) ∧ wr = w3.drewN q) (fun z _ _ => m' - (intOf z).toNat)
  case atStart => exact ⟨0, 0, by omega, rfl, rfl, rfl⟩
  case round =>
    obtain ⟨i, q, hi, rfl, rfl, rfl⟩ := hrel
    have lB := HB3.out.1
    have q0 := HB3.out.2 0 _ rfl
    by_cases hlt : i < m'
    · have hltI : (i : Int) < (m' : Int) := by omega
      have cd := HL3.out.cell i (by rw [HOK.out.len]; exact hlt)
      have ldl := HL3.out.lt
      have cw := HW.out.cell i (by rw [wgL_length]; exact hlt)
      rw [gi_wgL hlt] at cw
      have cx := (HE.out.cells ax (ox + i) HAX.out).trans (HXC.out i hlt)
      have lx := Nat.lt_of_lt_of_le HAX.out HE.out.le
      have hb := HBD.out i
      have hq1 := hb.1
      have hq2 := hb.2.1
      have hq3 := hb.2.2
      have hi4 : (i : Int) ≤ 4 := by omega
      have HS : Hid (innS xs ls ys zs m' (i + 1) = innS xs ls ys zs m' i + gi ys i * gi ls i * wgS xs zs m' i m') := rfl
      clear hb
      obtain ⟨s0, hs0⟩ : ∃ s0, innS xs ls ys zs m' i = s0 := ⟨_, rfl⟩
      obtain ⟨t0, ht0⟩ : ∃ t0, wgS xs zs m' i m' = t0 := ⟨_, rfl⟩
      obtain ⟨x0, hx0⟩ : ∃ x0, gi ys i = x0 := ⟨_, rfl⟩
      obtain ⟨d0, hd0⟩ : ∃ d0, gi ls i = d0 := ⟨_, rfl⟩
      rw [hs0] at HS hq3 ⊢
      rw [ht0] at HS hq2 cw
      rw [hx0] at HS hq1 hq2 cx
      rw [hd0] at HS hq1 hq2 cd
      have v1 : IntKind.i64.wrap (x0 * d0) = x0 * d0 := IntWalk.i64_in _ ⟨by omega, by omega⟩
      have v2 : IntKind.i64.wrap (x0 * d0 * t0) = x0 * d0 * t0 := IntWalk.i64_in _ ⟨by omega, by omega⟩
      have v3 : IntKind.i64.wrap (s0 + x0 * d0 * t0) = s0 + x0 * d0 * t0 := IntWalk.i64_in _ ⟨by omega, by omega⟩
      have HS2 := Lib.hid (congrArg (Value.int .i64) HS.out.symm)
      clear hs0 ht0 hx0 hd0 hq1 hq2 hq3 HS
      go_wp2_with fail
      go_quiet (fail)
      go_wp2
      exact ⟨⟨i + 1, q + nq, by omega, by simp, HS2.out, by simp⟩, by simp [intOf]; omega⟩
    · obtain rfl : m' = i := by omega
      go_wp2
      go_ret
      exact ⟨rfl, HE.out.drewN q⟩

set_option maxRecDepth 100000 in
set_option maxHeartbeats 6400000 in
theorem inner_impl (B LB R da od n cD m c m' c' : Nat) (v2 : Value) (xs ls ys zs : List Int) (a a' : Option Addr) (w : World) (hB : Cells w B [.int .i64 (R : Nat), .slice (some ⟨da, od, none⟩) n cD, v2, .slice (some ⟨LB, 0, none⟩) R R]) (hLB : Has w LB ls) (hr : Reads w (some ⟨da, od, none⟩) n xs) (hn : n = R * R) (hR0 : 1 ≤ R) (hR : R ≤ 4) (hok : LenOk xs ls R) (hy : Reads w a m ys) (hm : m = R) (hyb : ∀ e, -1000 ≤ gi ys e ∧ gi ys e ≤ 1000) (hz : Reads w a' m' zs) (hm' : m' = R) (hzb : ∀ e, -1000 ≤ gi zs e ∧ gi zs e ≤ 1000) :
    Calls Tryz.prog 203 #[.pointer (some ⟨B, 0, none⟩), .slice a m c, .slice a' m' c'] w fun e w' => e = .returned (.int .i64 (innS xs ls ys zs R R)) ∧ Ext w w' := by
  subst hm
  subst hm'
  obtain ⟨ax, ox, rfl, hax, hxc⟩ := reads_shape hy (by omega)
  have HAX := Lib.hid hax
  have HXC := Lib.hid hxc
  have HN := Lib.hid hn
  have HR := Lib.hid hr
  have HZ := Lib.hid hz
  have HOK := Lib.hid hok
  have HZB : Hid (∀ e, -1000000 ≤ gi zs e ∧ gi zs e ≤ 1000000) := fun e => by have := hzb e; omega
  have HBD := Lib.hid (innS_bnd (xs := xs) (ls := ls) (x := ys) (y := zs) (R := m') (B := 1000) (C := 12000) (by omega) (by omega) hyb hok.bnd (fun i => by have := wgS_bnd hok.xb hzb m' i m'; omega))
  clear hax hxc hn hr hy hz hok hyb hzb
  have HBX := Lib.hid hB
  have HLX := Lib.hid hLB
  clear hB hLB
  go_enter Tryz.func203, Tryz.ntmps203
  go_wp2_with fail
  refine (weight_impl B m' da od n cD m' c' _ _ xs zs _ _ HBX.out HR.out HN.out hR0 hR HZ.out rfl HOK.out.xb HZB.out).mono ?_
  rintro e w3 ⟨b, rfl, hb1, hb2, hh, h3⟩
  have HW := Lib.hid hh
  have HE := Lib.hid h3
  have HB3 := Lib.hid (HBX.out.ext h3)
  have HL3 := Lib.hid (HLX.out.ext h3)
  clear hh h3 HBX HLX
  go_wp2_with fail
  go_loopw [14, 7, 8, 9] (fun z s _ _ wr => ∃ i q : Nat, i ≤ m' ∧ z = .int .i64 i ∧ s = .int .i64 (innS xs ls ys zs m' i) ∧ wr = w3.drewN q) (fun z _ _ _ _ => m' - (intOf z).toNat)
  case atStart => exact ⟨0, 0, by omega, rfl, rfl, rfl⟩
  case round =>
    obtain ⟨i, q, hi, rfl, rfl, rfl⟩ := hrel
    by_cases hlt : i < m'
    · have hltI : (i : Int) < (m' : Int) := by omega
      have lB := HB3.out.1
      have q3 := HB3.out.2 3 _ rfl
      have cd := HL3.out.cell i (by rw [HOK.out.len]; exact hlt)
      have ldl := HL3.out.lt
      have cw := HW.out.cell i (by rw [wgL_length]; exact hlt)
      rw [gi_wgL hlt] at cw
      have cx := (HE.out.cells ax (ox + i) HAX.out).trans (HXC.out i hlt)
      have lx := Nat.lt_of_lt_of_le HAX.out HE.out.le
      have hb := HBD.out i
      have hq1 := hb.1
      have hq2 := hb.2.1
      have hq3 := hb.2.2
      have hi4 : (i : Int) ≤ 4 := by omega
      have HS : Hid (innS xs ls ys zs m' (i + 1) = innS xs ls ys zs m' i + gi ys i * gi ls i * wgS xs zs m' i m') := rfl
      clear hb
      obtain ⟨s0, hs0⟩ : ∃ s0, innS xs ls ys zs m' i = s0 := ⟨_, rfl⟩
      obtain ⟨t0, ht0⟩ : ∃ t0, wgS xs zs m' i m' = t0 := ⟨_, rfl⟩
      obtain ⟨x0, hx0⟩ : ∃ x0, gi ys i = x0 := ⟨_, rfl⟩
      obtain ⟨d0, hd0⟩ : ∃ d0, gi ls i = d0 := ⟨_, rfl⟩
      rw [hs0] at HS hq3 ⊢
      rw [ht0] at HS hq2 cw
      rw [hx0] at HS hq1 hq2 cx
      rw [hd0] at HS hq1 hq2 cd
      have v1 : IntKind.i64.wrap (x0 * d0) = x0 * d0 := IntWalk.i64_in _ ⟨by omega, by omega⟩
      have v2 : IntKind.i64.wrap (x0 * d0 * t0) = x0 * d0 * t0 := IntWalk.i64_in _ ⟨by omega, by omega⟩
      have v3 : IntKind.i64.wrap (s0 + x0 * d0 * t0) = s0 + x0 * d0 * t0 := IntWalk.i64_in _ ⟨by omega, by omega⟩
      have HS2 := Lib.hid (congrArg (Value.int .i64) HS.out.symm)
      clear hs0 ht0 hx0 hd0 hq1 hq2 hq3 HS
      go_wp2_with fail
      go_quiet (fail)
      go_wp2
      exact ⟨⟨i + 1, q + nq, by omega, by simp, HS2.out, by simp⟩, by simp [intOf]; omega⟩
    · obtain rfl : m' = i := by omega
      go_wp2
      go_ret
      exact ⟨rfl, HE.out.drewN q⟩
end Go.Proofs.YtlnpaplbcocmkaaGreat
