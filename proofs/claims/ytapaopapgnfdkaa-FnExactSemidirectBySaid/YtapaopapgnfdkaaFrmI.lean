/-
  Invariant forms, derivations, cocycles: the program's tests.
-/
import Derived.Test.YtapaopapgnfdkaaClos
import Derived.Test.YtapaopapgnfdkaaPrW
import Derived.Test.YtapaopapgnfdkaaPerf
import Derived.Test.YtapaopapgnfdkaaOrth
namespace Go.Proofs.Ytapaopapgnfdkaa
open Go.ChangeShapes Go.WideShapes Go.ChangeAt Go.RowKit
set_option linter.unusedVariables false
set_option linter.unusedSimpArgs false

theorem Cells.setOther {w : World} {B : Nat} {vs : List Value} (h : Cells w B vs) {p : Addr} (hp : p.block ≠ B) (v : Value) : Cells (w.setCell p v) B vs :=
  h.grown (grownBy_set (p := p) (grownBy_refl w (some p.block)) rfl v) (fun k hk => by simp at hk; omega)
theorem early1 {w : World} {B lo : Nat} {o0 v0 : Value} (h : Cells w B [o0]) : Cells (w.setCell ⟨B, 0, none⟩ v0) B [v0] := h.put 0 (by simp) v0
theorem fz_neg {xs : List Int} : fzR xs < 0 ↔ ∀ q, q < xs.length → gi xs q = 0 := by
  rw [← fz_all, fzR]
  split
  · rename_i h; exact ⟨fun _ => h, fun _ => by omega⟩
  · rename_i h; exact ⟨fun h2 => by omega, fun h2 => absurd h2 h⟩

set_option maxRecDepth 100000 in
set_option maxHeartbeats 1600000 in
theorem adjointRows_impl (P : Int) (D B a0 oa n d : Nat) (w : World) (hc : Cells w B [.int .i64 P, .int .i64 D, .slice (some ⟨a0, oa, none⟩) n d]) (hD : D ≤ 28) :
    Calls Try.prog 173 #[.pointer (some ⟨B, 0, none⟩)] w fun e w' => e = .returned (.agg #[.int .i64 P, .int .i64 D, .int .i64 ((D * D : Nat) : Int), .slice (some ⟨a0, oa, none⟩) n d]) ∧ Ext w w' := by
  have h27 : D * D ≤ 784 := Nat.mul_le_mul hD hD
  have e1 : (D : Int) * (D : Int) = ((D * D : Nat) : Int) := by simp
  have E1 := Lib.hid e1
  have g1 : 0 ≤ (D : Int) * (D : Int) := by rw [e1]; omega
  have g2 : (D : Int) * (D : Int) ≤ 784 := by rw [e1]; omega
  have v1 : IntKind.i64.wrap ((D : Int) * (D : Int)) = (D : Int) * (D : Int) := IntWalk.i64_in _ ⟨by omega, by omega⟩
  have lB := hc.1
  have q0 := hc.2 0 _ rfl
  have q1 := hc.2 1 _ rfl
  have q2 := hc.2 2 _ rfl
  have HE0 := Lib.hid (Ext.refl w)
  clear e1 hc
  rw [← E1.out]
  go_enter Try.func173, Try.ntmps173
  go_wp2_with fail
  go_region_held3 (fun w' => Ext w w' ∧ (∀ b o, b < w.heap.size → w'.cell? ⟨b, o, none⟩ = w.cell? ⟨b, o, none⟩)) ((refine ext2 ?_; with_reducible repeat (first | exact Ext.refl _ | exact And.left ‹Ext w _ ∧ _› | refine Ext.drew ?_ | refine Ext.drewN ?_ _ | refine Ext.alloc ?_ _ | refine Ext.setCell ?_ (by simp <;> omega) _))) (fail)
  go_wp2_with fail
  refine bodyPost_ret (v := .agg #[.int .i64 P, .int .i64 D, .int .i64 ((D : Int) * (D : Int)), .slice (some ⟨a0, oa, none⟩) n d]) (by simp [results, Try.results173, go_sem]) rfl ⟨rfl, ?_⟩
  with_reducible repeat (first | exact Ext.refl _ | refine Ext.drew ?_ | refine Ext.drewN ?_ _ | refine Ext.alloc ?_ _ | refine Ext.setCell ?_ (by simp <;> omega) _)

/-- The numbers that the readers read. -/
def rdX (P : Int) (D : Nat) (l fs : List Int) : List Int := mulTo P l fs (D * D) D D (D * D)
def rdY (P : Int) (D : Nat) (l fs : List Int) : List Int := mulTo P l (transTo fs D D D) (D * D) D D (D * D)
def rdM (P : Int) (D : Nat) (l ms : List Int) : List Int := mulTo P ms l D D (D * D) D
section
variable {P : Int} {D : Nat} {l fs : List Int}
theorem gi_rdX {i j k : Nat} (hi : i < D) (hj : j < D) (hk : k < D) : gi (rdX P D l fs) ((i * D + j) * D + k) = fvN D l fs i j k % P := by
  rw [rdX, at2_mulTo (i * D + j) k (place_lt hi hj) hk]; rfl
theorem gi_rdY {i j k : Nat} (hi : i < D) (hj : j < D) (hk : k < D) : gi (rdY P D l fs) ((i * D + j) * D + k) = fwN D l fs k i j % P := by
  rw [rdY, at2_mulTo (i * D + j) k (place_lt hi hj) hk, fwN]
  congr 1
  exact sumN_congr fun c hc => by rw [gi_transTo D (Nat.le_refl _) c k hc hk, if_pos hk]; rfl
theorem gi_rdM {i j k : Nat} (hi : i < D) (hj : j < D) (hk : k < D) : gi (rdM P D l fs) ((i * D + j) * D + k) = mvN D l fs i j k % P := by
  have e : (i * D + j) * D + k = i * (D * D) + (j * D + k) := by rw [Nat.add_mul, Nat.mul_assoc]; omega
  rw [rdM, e, at2_mulTo i (j * D + k) hi (place_lt hj hk), mvN]
  congr 1
  exact sumN_congr fun c hc => by rw [tb, show (c * D + j) * D + k = c * (D * D) + (j * D + k) by rw [Nat.add_mul, Nat.mul_assoc]; omega]; rfl
theorem rd_bd (hp : 2 ≤ P) (hp2 : P ≤ 10007) {xs : List Int} (h : Res xs P) (q : Nat) : 0 ≤ gi xs q ∧ gi xs q ≤ 10007 := by
  have := res_gi _ _ h (by omega) q
  omega
theorem emod2 (a b : Int) : Eqm P (a % P - b % P) (a - b) := (Eqm.emod a).sub (Eqm.emod b)
end

set_option maxRecDepth 100000 in
set_option maxHeartbeats 6400000 in
theorem faultsOfForm_impl (P : Int) (D B a0 oa n f0 fo nf : Nat) (l fs : List Int) (w : World) (hc : Cells w B [.int .i64 P, .int .i64 D, .slice (some ⟨a0, oa, none⟩) n n]) (hT : Reads w (some ⟨a0, oa, none⟩) n l) (hX : Reads w (some ⟨f0, fo, none⟩) nf fs) (hD : D ≤ 28) (hn : n = D * D * D) (hnf : nf = D * D) (hp : 2 ≤ P) (hp2 : P ≤ 10007) (hl : Res l P) (hx : Res fs P) :
    Calls Try.prog 96 #[.pointer (some ⟨B, 0, none⟩), .agg #[.int .i64 P, .int .i64 D, .int .i64 D, .slice (some ⟨f0, fo, none⟩) nf nf]] w fun e w' => ∃ a c, e = .returned (.slice a n c) ∧ Own w' w.heap.size w'.heap.size a n (tripL P D fun i j k => gi (rdX P D l fs) ((i * D + j) * D + k) - gi (rdY P D l fs) ((j * D + k) * D + i)) ∧ Ext w w' := by
  have h27 : D * D ≤ 784 := Nat.mul_le_mul hD hD
  have h28 := cube28 hD
  have hml : mulTo P l fs (D * D) D D (D * D) = rdX P D l fs := rfl
  have HBR : Hid (∀ w1, Ext w w1 → Calls Try.prog 172 #[.pointer (some ⟨B, 0, none⟩)] w1 fun e w' => e = .returned (.agg #[.int .i64 P, .int .i64 ((D : Int) * (D : Int)), .int .i64 D, .slice (some ⟨a0, oa, none⟩) n n]) ∧ Ext w1 w') := fun w1 h => by
    have h9 := bracketRows_impl P D B a0 oa n n w1 (hc.ext h) hD
    rw [Int.natCast_mul] at h9
    exact h9
  have HPX : Hid (∀ w1, Ext w w1 → Calls Try.prog 119 #[.agg #[.int .i64 P, .int .i64 ((D : Int) * (D : Int)), .int .i64 D, .slice (some ⟨a0, oa, none⟩) n n], .agg #[.int .i64 P, .int .i64 D, .int .i64 D, .slice (some ⟨f0, fo, none⟩) nf nf]] w1 fun e w' => ∃ b, e = .returned (.agg #[.int .i64 P, .int .i64 ((D : Int) * (D : Int)), .int .i64 D, .slice (some ⟨b, 0, none⟩) (D * D * D) (D * D * D)]) ∧ w1.heap.size ≤ b ∧ b < w'.heap.size ∧ Has w' b (rdX P D l fs) ∧ Ext w1 w') := fun w1 h => by
    have h9 := product_wide P (D * D) D D a0 oa f0 fo n nf n l fs w1 (hT.ext h) (hX.ext h) hn hnf (by omega) (by omega) (by omega) (by omega) (by omega) (by omega) hp hp2 hl hx (Nat.le_refl _) (by unfold maxLen; omega)
    rw [Int.natCast_mul] at h9
    exact h9
  have HRE : Hid (∀ w1 v0 v1 v2 v3, Calls Try.prog 171 #[.pointer (some ⟨B, 0, none⟩), .agg #[v0, v1, v2, v3]] w1 fun e w' => ∃ MB LB, e = .returned (.func (.func 216) #[] #[.pointer (some ⟨MB, 0, none⟩), .pointer (some ⟨LB, 0, none⟩)]) ∧ w1.heap.size ≤ MB ∧ w1.heap.size ≤ LB ∧ Cells w' MB [v0, v1, v2, v3] ∧ Cells w' LB [.pointer (some ⟨B, 0, none⟩)] ∧ Ext w1 w') := fun w1 v0 v1 v2 v3 => reader_impl B v0 v1 v2 v3 w1
  have HC := Lib.hid hc
  have HN := Lib.hid hn
  have HTR : Hid (∀ w1, Ext w w1 → Calls Try.prog 111 #[.agg #[.int .i64 P, .int .i64 D, .int .i64 D, .slice (some ⟨f0, fo, none⟩) nf nf]] w1 fun e w' => ∃ b, e = .returned (.agg #[.int .i64 P, .int .i64 D, .int .i64 D, .slice (some ⟨b, 0, none⟩) (D * D) (D * D)]) ∧ w1.heap.size ≤ b ∧ b < w'.heap.size ∧ Has w' b (transTo fs D D D) ∧ Ext w1 w') := fun w1 h => transpose_impl P D D f0 fo nf nf fs w1 (hX.ext h) hnf (by omega) (by omega) (by omega) (Nat.le_refl _) (by unfold maxLen; omega)
  have HPY : Hid (∀ w1 bt, Ext w w1 → Has w1 bt (transTo fs D D D) → Calls Try.prog 119 #[.agg #[.int .i64 P, .int .i64 ((D : Int) * (D : Int)), .int .i64 D, .slice (some ⟨a0, oa, none⟩) n n], .agg #[.int .i64 P, .int .i64 D, .int .i64 D, .slice (some ⟨bt, 0, none⟩) (D * D) (D * D)]] w1 fun e w' => ∃ b, e = .returned (.agg #[.int .i64 P, .int .i64 ((D : Int) * (D : Int)), .int .i64 D, .slice (some ⟨b, 0, none⟩) (D * D * D) (D * D * D)]) ∧ w1.heap.size ≤ b ∧ b < w'.heap.size ∧ Has w' b (rdY P D l fs) ∧ Ext w1 w') := fun w1 bt h hh => by
    have h9 := product_wide P (D * D) D D a0 oa bt 0 n (D * D) n l (transTo fs D D D) w1 (hT.ext h) (hh.reads (transTo_length _ _ _ _)) hn rfl (by omega) (by omega) (by omega) (by omega) (by omega) (by omega) hp hp2 hl (transTo_res hp hx _) (Nat.le_refl _) (by unfold maxLen; omega)
    rw [Int.natCast_mul] at h9
    exact h9
  have HRX : Hid (Res (rdX P D l fs) P) := mulTo_res _ (by omega) _ _ _ _ _ _
  have HLX : Hid ((rdX P D l fs).length = D * D * D) := by rw [Hid, rdX, mulTo_length]
  have HRY : Hid (Res (rdY P D l fs) P) := mulTo_res _ (by omega) _ _ _ _ _ _
  have HLY : Hid ((rdY P D l fs).length = D * D * D) := by rw [Hid, rdY, mulTo_length]
  clear hT hX hc hl hx hml hn hnf
  go_enter Try.func96, Try.ntmps96
  have A0_1 := Lib.hid (cells_new' w #[.int .i64 P, .int .i64 D, .int .i64 D, .slice (some ⟨f0, fo, none⟩) nf nf] 40 (w.heap.size) (by simp))
  have E_2 := Lib.hid ((Ext.refl w).alloc (.cells #[.int .i64 P, .int .i64 D, .int .i64 D, .slice (some ⟨f0, fo, none⟩) nf nf] 40))
  have hmf : ∀ (fn : Fn) (first cap : Array Value) (w : World), (Instr.makeFunc fn first cap).run Try.prog w = .ok (.func fn first cap) w := fun _ _ _ _ => rfl
  go_wp2_with fail
  generalize (w.alloc (.cells #[.int .i64 P, .int .i64 D, .int .i64 D, .slice (some ⟨f0, fo, none⟩) nf nf] 40)) = W0 at *
  have lA := A0_1.out.1
  have qA0 := A0_1.out.2 0 _ rfl
  have qA1 := A0_1.out.2 1 _ rfl
  have qA2 := A0_1.out.2 2 _ rfl
  have qA3 := A0_1.out.2 3 _ rfl
  go_cut [5] (fun s5 wx => ∃ XB MB LB rb, s5 = .pointer (some ⟨XB, 0, none⟩) ∧ Hid (Cells wx XB [.func (.func 216) #[] #[.pointer (some ⟨MB, 0, none⟩), .pointer (some ⟨LB, 0, none⟩)]]) ∧ Hid (Cells wx MB [.int .i64 P, .int .i64 ((D : Int) * (D : Int)), .int .i64 D, .slice (some ⟨rb, 0, none⟩) (D * D * D) (D * D * D)]) ∧ Hid (Cells wx LB [.pointer (some ⟨B, 0, none⟩)]) ∧ Hid (Has wx rb (rdX P D l fs)) ∧ Hid (Ext W0 wx))
  case first =>
    go_region_held3 (fun w' => Ext W0 w' ∧ (∀ b o, b < W0.heap.size → w'.cell? ⟨b, o, none⟩ = W0.cell? ⟨b, o, none⟩)) (first | (with_reducible exact ext2 (Ext.trans (And.left ‹Ext W0 _ ∧ _›) ‹Ext _ _›)) | (refine ext2 ?_; with_reducible repeat (first | exact Ext.refl _ | exact And.left ‹Ext W0 _ ∧ _› | refine Ext.drew ?_ | refine Ext.drewN ?_ _ | exact Ext.alloc (And.left ‹Ext W0 _ ∧ _›) _ | exact Ext.alloc ((Ext.refl _).drew) _ | exact Ext.alloc (((Ext.refl _).drew).trans h3) _ | exact Ext.alloc ((((Ext.refl _).drew).trans h3).trans h5) _ | exact Ext.alloc (((((Ext.refl _).drew).trans h3).trans h5).trans h6) _ | refine Ext.alloc ?_ _ | refine Ext.setCell ?_ (by have e0 : W0.drew.heap.size = W0.heap.size := rfl; simp <;> omega) _))) (first
      | (go_at_call 172; (with_reducible refine (HBR.out _ (E_2.out.trans (And.left ‹Ext W0 _ ∧ _›))).mono ?_); rintro e w3 ⟨rfl, h3⟩; have c_3 := h3.cells; have f_3 := h3.frees; have y_3 := h3.le; have x_3 := fun k hk => Nat.lt_of_lt_of_le (n := k) hk h3.le; (try simp only [World.size_drew] at y_3 x_3); (try simp only [World.size_alloc] at y_3 x_3); (try simp only [Nat.add_one_le_iff] at y_3))
      | (go_at_call 119; (with_reducible refine (HPX.out _ (E_2.out.trans (And.left ‹Ext W0 _ ∧ _›))).mono ?_); rintro e w5 ⟨rb, rfl, hr1, hr2, kx, h5⟩; have c_5 := h5.cells; have f_5 := h5.frees; have y_5 := h5.le; have x_5 := fun k hk => Nat.lt_of_lt_of_le (n := k) hk h5.le; (try simp only [World.size_drew] at y_5 x_5); (try simp only [World.size_alloc] at y_5 x_5); (try simp only [Nat.add_one_le_iff] at y_5))
      | (go_at_call 171; (with_reducible refine (HRE.out _ _ _ _ _).mono ?_); rintro e w6 ⟨MB, LB, rfl, hm1, hm2, km, kl, h6⟩; have c_6 := h6.cells; have f_6 := h6.frees; have y_6 := h6.le; have x_6 := fun k hk => Nat.lt_of_lt_of_le (n := k) hk h6.le; (try simp only [World.size_drew] at y_6 x_6); (try simp only [World.size_alloc] at y_6 x_6); (try simp only [Nat.add_one_le_iff] at y_6)))
    all_goals (go_wp2_with fail; go_meet; first
      | exact ⟨w6.heap.size, MB, LB, rb, rfl, cells_new _ _ _, km.ext ((Ext.refl _).alloc _), kl.ext ((Ext.refl _).alloc _), Has.alloc (by with_reducible first | exact kx.ext h6 | exact (kx.alloc _).ext h6) _, And.left ‹Ext W0 _ ∧ _›⟩
      | exact ⟨w5.heap.size, MB, LB, rb, rfl, early1 (lo := 0) ((cells_new w5 _ _).ext h6), Cells.setOther km (by (try simp only [World.size_alloc, World.size_drew] at hm1); (try simp only [World.size_alloc, World.size_drew] at hm2); (try simp only [World.size_alloc, World.size_drew] at hr1); simp <;> omega) _, Cells.setOther kl (by (try simp only [World.size_alloc, World.size_drew] at hm1); (try simp only [World.size_alloc, World.size_drew] at hm2); (try simp only [World.size_alloc, World.size_drew] at hr1); simp <;> omega) _, Has.setOther (by with_reducible first | exact kx.ext h6 | exact (kx.alloc _).ext h6) (by (try simp only [World.size_alloc, World.size_drew] at hm1); (try simp only [World.size_alloc, World.size_drew] at hm2); (try simp only [World.size_alloc, World.size_drew] at hr1); simp <;> omega) _, And.left ‹Ext W0 _ ∧ _›⟩
      | exact ⟨w3.heap.size, MB, LB, rb, rfl, early1 (lo := 0) (((cells_new w3 _ _).ext h5).ext h6), Cells.setOther km (by (try simp only [World.size_alloc, World.size_drew] at hm1); (try simp only [World.size_alloc, World.size_drew] at hm2); (try simp only [World.size_alloc, World.size_drew] at hr1); simp <;> omega) _, Cells.setOther kl (by (try simp only [World.size_alloc, World.size_drew] at hm1); (try simp only [World.size_alloc, World.size_drew] at hm2); (try simp only [World.size_alloc, World.size_drew] at hr1); simp <;> omega) _, Has.setOther (by with_reducible first | exact kx.ext h6 | exact (kx.alloc _).ext h6) (by (try simp only [World.size_alloc, World.size_drew] at hm1); (try simp only [World.size_alloc, World.size_drew] at hm2); (try simp only [World.size_alloc, World.size_drew] at hr1); simp <;> omega) _, And.left ‹Ext W0 _ ∧ _›⟩
      | exact ⟨W0.heap.size, MB, LB, rb, rfl, early1 (lo := 0) (((((cells_new W0 _ _).ext (Ext.drew (Ext.refl _))).ext h3).ext h5).ext h6), Cells.setOther km (by (try simp only [World.size_alloc, World.size_drew] at hm1); (try simp only [World.size_alloc, World.size_drew] at hm2); (try simp only [World.size_alloc, World.size_drew] at hr1); simp <;> omega) _, Cells.setOther kl (by (try simp only [World.size_alloc, World.size_drew] at hm1); (try simp only [World.size_alloc, World.size_drew] at hm2); (try simp only [World.size_alloc, World.size_drew] at hr1); simp <;> omega) _, Has.setOther (by with_reducible first | exact kx.ext h6 | exact (kx.alloc _).ext h6) (by (try simp only [World.size_alloc, World.size_drew] at hm1); (try simp only [World.size_alloc, World.size_drew] at hm2); (try simp only [World.size_alloc, World.size_drew] at hr1); simp <;> omega) _, And.left ‹Ext W0 _ ∧ _›⟩)
  case rest =>
    obtain ⟨X0, M0, L0, r0, rfl, CX0, CM0, CL0, HX0, EX0⟩ := hcut
    obtain ⟨W1, hwk⟩ : ∃ wk : World, wk = wc := ⟨_, rfl⟩
    subst hwk
    clear lA qA0 qA1 qA2 qA3
    have A0_1' := Lib.hid (A0_1.out.ext EX0.out)
    clear A0_1
    have E_2' := Lib.hid (E_2.out.trans EX0.out)
    clear E_2 EX0
    try go_wp2_with fail
    have lA := A0_1'.out.1
    have qA0 := A0_1'.out.2 0 _ rfl
    have qA1 := A0_1'.out.2 1 _ rfl
    have qA2 := A0_1'.out.2 2 _ rfl
    have qA3 := A0_1'.out.2 3 _ rfl
    go_cut [6] (fun s6 wx => ∃ XB MB LB rb, s6 = .pointer (some ⟨XB, 0, none⟩) ∧ Hid (Cells wx XB [.func (.func 216) #[] #[.pointer (some ⟨MB, 0, none⟩), .pointer (some ⟨LB, 0, none⟩)]]) ∧ Hid (Cells wx MB [.int .i64 P, .int .i64 ((D : Int) * (D : Int)), .int .i64 D, .slice (some ⟨rb, 0, none⟩) (D * D * D) (D * D * D)]) ∧ Hid (Cells wx LB [.pointer (some ⟨B, 0, none⟩)]) ∧ Hid (Has wx rb (rdY P D l fs)) ∧ Hid (Ext W1 wx))
    case first =>
      go_region_held3 (fun w' => Ext W1 w' ∧ (∀ b o, b < W1.heap.size → w'.cell? ⟨b, o, none⟩ = W1.cell? ⟨b, o, none⟩)) (first | (with_reducible exact ext2 (Ext.trans (And.left ‹Ext W1 _ ∧ _›) ‹Ext _ _›)) | (refine ext2 ?_; with_reducible repeat (first | exact Ext.refl _ | exact And.left ‹Ext W1 _ ∧ _› | refine Ext.drew ?_ | refine Ext.drewN ?_ _ | exact Ext.alloc (And.left ‹Ext W1 _ ∧ _›) _ | exact Ext.alloc ((Ext.refl _).drew) _ | exact Ext.alloc (((Ext.refl _).drew).trans h3) _ | exact Ext.alloc ((((Ext.refl _).drew).trans h3).trans h4) _ | exact Ext.alloc (((((Ext.refl _).drew).trans h3).trans h4).trans h5) _ | exact Ext.alloc ((((((Ext.refl _).drew).trans h3).trans h4).trans h5).trans h6) _ | refine Ext.alloc ?_ _ | refine Ext.setCell ?_ (by have e0 : W1.drew.heap.size = W1.heap.size := rfl; simp <;> omega) _))) (first
        | (go_at_call 172; (with_reducible refine (HBR.out _ (E_2'.out.trans (And.left ‹Ext W1 _ ∧ _›))).mono ?_); rintro e w3 ⟨rfl, h3⟩; have c_3 := h3.cells; have f_3 := h3.frees; have y_3 := h3.le; have x_3 := fun k hk => Nat.lt_of_lt_of_le (n := k) hk h3.le; (try simp only [World.size_drew] at y_3 x_3); (try simp only [World.size_alloc] at y_3 x_3); (try simp only [Nat.add_one_le_iff] at y_3); (try have z_3_0 : W1.heap.size < w3.heap.size := by omega))
        | (go_at_call 111; (with_reducible refine (HTR.out _ (E_2'.out.trans (And.left ‹Ext W1 _ ∧ _›))).mono ?_); rintro e w4 ⟨bt, rfl, ht1, ht2, kt, h4⟩; have c_4 := h4.cells; have f_4 := h4.frees; have y_4 := h4.le; have x_4 := fun k hk => Nat.lt_of_lt_of_le (n := k) hk h4.le; (try simp only [World.size_drew] at y_4 x_4); (try simp only [World.size_alloc] at y_4 x_4); (try simp only [Nat.add_one_le_iff] at y_4); (try have z_4_0 : W1.heap.size < w4.heap.size := by omega); (try have z_4_1 : w3.heap.size < w4.heap.size := by omega))
        | (go_at_call 119; (with_reducible refine (HPY.out _ bt (E_2'.out.trans (And.left ‹Ext W1 _ ∧ _›)) (by with_reducible first | exact kt | exact kt.alloc _)).mono ?_); rintro e w5 ⟨rb, rfl, hr1, hr2, kx, h5⟩; have c_5 := h5.cells; have f_5 := h5.frees; have y_5 := h5.le; have x_5 := fun k hk => Nat.lt_of_lt_of_le (n := k) hk h5.le; (try simp only [World.size_drew] at y_5 x_5); (try simp only [World.size_alloc] at y_5 x_5); (try simp only [Nat.add_one_le_iff] at y_5); (try have z_5_0 : W1.heap.size < w5.heap.size := by omega); (try have z_5_1 : w3.heap.size < w5.heap.size := by omega); (try have z_5_2 : w4.heap.size < w5.heap.size := by omega))
        | (go_at_call 171; (with_reducible refine (HRE.out _ _ _ _ _).mono ?_); rintro e w6 ⟨MB, LB, rfl, hm1, hm2, km, kl, h6⟩; have c_6 := h6.cells; have f_6 := h6.frees; have y_6 := h6.le; have x_6 := fun k hk => Nat.lt_of_lt_of_le (n := k) hk h6.le; (try simp only [World.size_drew] at y_6 x_6); (try simp only [World.size_alloc] at y_6 x_6); (try simp only [Nat.add_one_le_iff] at y_6); (try have z_6_0 : W1.heap.size < w6.heap.size := by omega); (try have z_6_1 : w3.heap.size < w6.heap.size := by omega); (try have z_6_2 : w4.heap.size < w6.heap.size := by omega); (try have z_6_3 : w5.heap.size < w6.heap.size := by omega)))
      all_goals (go_wp2_with fail; go_meet; first
        | exact ⟨w6.heap.size, MB, LB, rb, rfl, cells_new _ _ _, km.ext ((Ext.refl _).alloc _), kl.ext ((Ext.refl _).alloc _), Has.alloc (by with_reducible first | exact kx.ext h6 | exact (kx.alloc _).ext h6) _, And.left ‹Ext W1 _ ∧ _›⟩
        | exact ⟨w5.heap.size, MB, LB, rb, rfl, early1 (lo := 0) ((cells_new w5 _ _).ext h6), Cells.setOther km (by (try simp only [World.size_alloc, World.size_drew] at hm1); (try simp only [World.size_alloc, World.size_drew] at hm2); (try simp only [World.size_alloc, World.size_drew] at hr1); simp <;> omega) _, Cells.setOther kl (by (try simp only [World.size_alloc, World.size_drew] at hm1); (try simp only [World.size_alloc, World.size_drew] at hm2); (try simp only [World.size_alloc, World.size_drew] at hr1); simp <;> omega) _, Has.setOther (by with_reducible first | exact kx.ext h6 | exact (kx.alloc _).ext h6) (by (try simp only [World.size_alloc, World.size_drew] at hm1); (try simp only [World.size_alloc, World.size_drew] at hm2); (try simp only [World.size_alloc, World.size_drew] at hr1); simp <;> omega) _, And.left ‹Ext W1 _ ∧ _›⟩
        | exact ⟨w4.heap.size, MB, LB, rb, rfl, early1 (lo := 0) (((cells_new w4 _ _).ext h5).ext h6), Cells.setOther km (by (try simp only [World.size_alloc, World.size_drew] at hm1); (try simp only [World.size_alloc, World.size_drew] at hm2); (try simp only [World.size_alloc, World.size_drew] at hr1); simp <;> omega) _, Cells.setOther kl (by (try simp only [World.size_alloc, World.size_drew] at hm1); (try simp only [World.size_alloc, World.size_drew] at hm2); (try simp only [World.size_alloc, World.size_drew] at hr1); simp <;> omega) _, Has.setOther (by with_reducible first | exact kx.ext h6 | exact (kx.alloc _).ext h6) (by (try simp only [World.size_alloc, World.size_drew] at hm1); (try simp only [World.size_alloc, World.size_drew] at hm2); (try simp only [World.size_alloc, World.size_drew] at hr1); simp <;> omega) _, And.left ‹Ext W1 _ ∧ _›⟩
        | exact ⟨w3.heap.size, MB, LB, rb, rfl, early1 (lo := 0) ((((cells_new w3 _ _).ext h4).ext h5).ext h6), Cells.setOther km (by (try simp only [World.size_alloc, World.size_drew] at hm1); (try simp only [World.size_alloc, World.size_drew] at hm2); (try simp only [World.size_alloc, World.size_drew] at hr1); simp <;> omega) _, Cells.setOther kl (by (try simp only [World.size_alloc, World.size_drew] at hm1); (try simp only [World.size_alloc, World.size_drew] at hm2); (try simp only [World.size_alloc, World.size_drew] at hr1); simp <;> omega) _, Has.setOther (by with_reducible first | exact kx.ext h6 | exact (kx.alloc _).ext h6) (by (try simp only [World.size_alloc, World.size_drew] at hm1); (try simp only [World.size_alloc, World.size_drew] at hm2); (try simp only [World.size_alloc, World.size_drew] at hr1); simp <;> omega) _, And.left ‹Ext W1 _ ∧ _›⟩
        | exact ⟨W1.heap.size, MB, LB, rb, rfl, early1 (lo := 0) ((((((cells_new W1 _ _).ext (Ext.drew (Ext.refl _))).ext h3).ext h4).ext h5).ext h6), Cells.setOther km (by (try simp only [World.size_alloc, World.size_drew] at hm1); (try simp only [World.size_alloc, World.size_drew] at hm2); (try simp only [World.size_alloc, World.size_drew] at hr1); simp <;> omega) _, Cells.setOther kl (by (try simp only [World.size_alloc, World.size_drew] at hm1); (try simp only [World.size_alloc, World.size_drew] at hm2); (try simp only [World.size_alloc, World.size_drew] at hr1); simp <;> omega) _, Has.setOther (by with_reducible first | exact kx.ext h6 | exact (kx.alloc _).ext h6) (by (try simp only [World.size_alloc, World.size_drew] at hm1); (try simp only [World.size_alloc, World.size_drew] at hm2); (try simp only [World.size_alloc, World.size_drew] at hr1); simp <;> omega) _, And.left ‹Ext W1 _ ∧ _›⟩)
    case rest =>
      obtain ⟨X1, M1, L1, r1, rfl, CX1, CM1, CL1, HX1, EX1⟩ := hcut
      obtain ⟨W2, hwk⟩ : ∃ wk : World, wk = wc := ⟨_, rfl⟩
      subst hwk
      clear lA qA0 qA1 qA2 qA3
      have A0_1'' := Lib.hid (A0_1'.out.ext EX1.out)
      clear A0_1'
      have CX0' := Lib.hid (CX0.out.ext EX1.out)
      clear CX0
      have CM0' := Lib.hid (CM0.out.ext EX1.out)
      clear CM0
      have CL0' := Lib.hid (CL0.out.ext EX1.out)
      clear CL0
      have HX0' := Lib.hid (HX0.out.ext EX1.out)
      clear HX0
      have E_2'' := Lib.hid (E_2'.out.trans EX1.out)
      clear E_2' EX1
      try go_wp2_with fail
      have HQ0 : Hid (∀ w2, Ext W2 w2 → ∀ i j k, i < D → j < D → k < D → ∀ w1, Ext w2 w1 → Calls Try.prog 216 #[.int .i64 i, .int .i64 j, .int .i64 k, .pointer (some ⟨M0, 0, none⟩), .pointer (some ⟨L0, 0, none⟩)] w1 fun e w' => e = .returned (.int .i64 (gi (rdX P D l fs) ((i * D + j) * D + k))) ∧ Ext w1 w') := fun w2 h2 i j k hi hj hk w1 h1 => reader_fn P ((D : Int) * (D : Int)) D _ _ D B M0 L0 r0 0 (D * D * D) (D * D * D) _ i j k w1 (HC.out.ext ((E_2''.out.trans h2).trans h1)) (CM0'.out.ext (h2.trans h1)) (CL0'.out.ext (h2.trans h1)) (Has.reads (HX0'.out.ext (h2.trans h1)) HLX.out) rfl hD hi hj hk
      have HQ1 : Hid (∀ w2, Ext W2 w2 → ∀ i j k, i < D → j < D → k < D → ∀ w1, Ext w2 w1 → Calls Try.prog 216 #[.int .i64 i, .int .i64 j, .int .i64 k, .pointer (some ⟨M1, 0, none⟩), .pointer (some ⟨L1, 0, none⟩)] w1 fun e w' => e = .returned (.int .i64 (gi (rdY P D l fs) ((i * D + j) * D + k))) ∧ Ext w1 w') := fun w2 h2 i j k hi hj hk w1 h1 => reader_fn P ((D : Int) * (D : Int)) D _ _ D B M1 L1 r1 0 (D * D * D) (D * D * D) _ i j k w1 (HC.out.ext ((E_2''.out.trans h2).trans h1)) (CM1.out.ext (h2.trans h1)) (CL1.out.ext (h2.trans h1)) (Has.reads (HX1.out.ext (h2.trans h1)) HLY.out) rfl hD hi hj hk
      have HCB := Lib.hid (HC.out.ext E_2''.out)
      have lB := HCB.out.1
      have HFT : Hid (Calls Try.prog 174 #[.pointer (some ⟨B, 0, none⟩), .func (.func 176) #[] #[.pointer (some ⟨X0, 0, none⟩), .pointer (some ⟨X1, 0, none⟩)]] W2 fun e w' => ∃ a c, e = .returned (.slice a n c) ∧ Own w' W2.heap.size w'.heap.size a n (tripL P D fun i j k => gi (rdX P D l fs) ((i * D + j) * D + k) - gi (rdY P D l fs) ((j * D + k) * D + i)) ∧ Ext W2 w') :=
        forTriples_A P D B a0 oa n n X0 X1 (fun i j k => gi (rdX P D l fs) ((i * D + j) * D + k) - gi (rdY P D l fs) ((j * D + k) * D + i)) W2 HCB.out HN.out hD hp hp2 (fun i j k hi hj hk w1 h1 => clo_A X0 M0 L0 X1 M1 L1 D (fun i j k => gi (rdX P D l fs) ((i * D + j) * D + k)) (fun i j k => gi (rdY P D l fs) ((i * D + j) * D + k)) i j k w1 hi hj hk (CX0'.out.ext h1) (fun i j k hi hj hk w2 h2 => HQ0.out w1 h1 i j k hi hj hk w2 h2) (fun i j k => rd_bd hp hp2 HRX.out _) (CX1.out.ext h1) (fun i j k hi hj hk w2 h2 => HQ1.out w1 h1 i j k hi hj hk w2 h2) (fun i j k => rd_bd hp hp2 HRY.out _))
      go_wp2_with fail
      refine HFT.out.mono ?_
      rintro e w9 ⟨a, c, rfl, ho, h9⟩
      have HO := Lib.hid ho
      have E9 := Lib.hid (E_2''.out.trans h9)
      have hsz := E_2''.out.le
      clear ho h9
      go_wp2
      go_ret
      exact ⟨a, c, rfl, HO.out.mono hsz (Nat.le_refl _), E9.out⟩

set_option maxRecDepth 100000 in
set_option maxHeartbeats 6400000 in
theorem faultsOfMap_impl (P : Int) (D B a0 oa n f0 fo nf : Nat) (l fs : List Int) (w : World) (hc : Cells w B [.int .i64 P, .int .i64 D, .slice (some ⟨a0, oa, none⟩) n n]) (hT : Reads w (some ⟨a0, oa, none⟩) n l) (hX : Reads w (some ⟨f0, fo, none⟩) nf fs) (hD : D ≤ 28) (hn : n = D * D * D) (hnf : nf = D * D) (hp : 2 ≤ P) (hp2 : P ≤ 10007) (hl : Res l P) (hx : Res fs P) :
    Calls Try.prog 95 #[.pointer (some ⟨B, 0, none⟩), .agg #[.int .i64 P, .int .i64 D, .int .i64 D, .slice (some ⟨f0, fo, none⟩) nf nf]] w fun e w' => ∃ a c, e = .returned (.slice a n c) ∧ Own w' w.heap.size w'.heap.size a n (tripL P D fun i j k => gi (rdX P D l fs) ((i * D + j) * D + k) - gi (rdM P D l fs) ((i * D + j) * D + k) + gi (rdM P D l fs) ((j * D + i) * D + k)) ∧ Ext w w' := by
  have h27 : D * D ≤ 784 := Nat.mul_le_mul hD hD
  have h28 := cube28 hD
  have hml : mulTo P l fs (D * D) D D (D * D) = rdX P D l fs := rfl
  have HBR : Hid (∀ w1, Ext w w1 → Calls Try.prog 172 #[.pointer (some ⟨B, 0, none⟩)] w1 fun e w' => e = .returned (.agg #[.int .i64 P, .int .i64 ((D : Int) * (D : Int)), .int .i64 D, .slice (some ⟨a0, oa, none⟩) n n]) ∧ Ext w1 w') := fun w1 h => by
    have h9 := bracketRows_impl P D B a0 oa n n w1 (hc.ext h) hD
    rw [Int.natCast_mul] at h9
    exact h9
  have HPX : Hid (∀ w1, Ext w w1 → Calls Try.prog 119 #[.agg #[.int .i64 P, .int .i64 ((D : Int) * (D : Int)), .int .i64 D, .slice (some ⟨a0, oa, none⟩) n n], .agg #[.int .i64 P, .int .i64 D, .int .i64 D, .slice (some ⟨f0, fo, none⟩) nf nf]] w1 fun e w' => ∃ b, e = .returned (.agg #[.int .i64 P, .int .i64 ((D : Int) * (D : Int)), .int .i64 D, .slice (some ⟨b, 0, none⟩) (D * D * D) (D * D * D)]) ∧ w1.heap.size ≤ b ∧ b < w'.heap.size ∧ Has w' b (rdX P D l fs) ∧ Ext w1 w') := fun w1 h => by
    have h9 := product_wide P (D * D) D D a0 oa f0 fo n nf n l fs w1 (hT.ext h) (hX.ext h) hn hnf (by omega) (by omega) (by omega) (by omega) (by omega) (by omega) hp hp2 hl hx (Nat.le_refl _) (by unfold maxLen; omega)
    rw [Int.natCast_mul] at h9
    exact h9
  have HRE : Hid (∀ w1 v0 v1 v2 v3, Calls Try.prog 171 #[.pointer (some ⟨B, 0, none⟩), .agg #[v0, v1, v2, v3]] w1 fun e w' => ∃ MB LB, e = .returned (.func (.func 216) #[] #[.pointer (some ⟨MB, 0, none⟩), .pointer (some ⟨LB, 0, none⟩)]) ∧ w1.heap.size ≤ MB ∧ w1.heap.size ≤ LB ∧ Cells w' MB [v0, v1, v2, v3] ∧ Cells w' LB [.pointer (some ⟨B, 0, none⟩)] ∧ Ext w1 w') := fun w1 v0 v1 v2 v3 => reader_impl B v0 v1 v2 v3 w1
  have HC := Lib.hid hc
  have HN := Lib.hid hn
  have HAR : Hid (∀ w1, Ext w w1 → Calls Try.prog 173 #[.pointer (some ⟨B, 0, none⟩)] w1 fun e w' => e = .returned (.agg #[.int .i64 P, .int .i64 D, .int .i64 ((D : Int) * (D : Int)), .slice (some ⟨a0, oa, none⟩) n n]) ∧ Ext w1 w') := fun w1 h => by
    have h9 := adjointRows_impl P D B a0 oa n n w1 (hc.ext h) hD
    rw [Int.natCast_mul] at h9
    exact h9
  have HPM : Hid (∀ w1, Ext w w1 → Calls Try.prog 119 #[.agg #[.int .i64 P, .int .i64 D, .int .i64 D, .slice (some ⟨f0, fo, none⟩) nf nf], .agg #[.int .i64 P, .int .i64 D, .int .i64 ((D : Int) * (D : Int)), .slice (some ⟨a0, oa, none⟩) n n]] w1 fun e w' => ∃ b, e = .returned (.agg #[.int .i64 P, .int .i64 D, .int .i64 ((D : Int) * (D : Int)), .slice (some ⟨b, 0, none⟩) (D * D * D) (D * D * D)]) ∧ w1.heap.size ≤ b ∧ b < w'.heap.size ∧ Has w' b (rdM P D l fs) ∧ Ext w1 w') := fun w1 h => by
    have h9 := product_wide P D D (D * D) f0 fo a0 oa nf n nf fs l w1 (hX.ext h) (hT.ext h) hnf (by rw [hn, Nat.mul_assoc]) (by omega) (by omega) (by omega) (by rw [← Nat.mul_assoc]; omega) (by omega) (by rw [← Nat.mul_assoc]; omega) hp hp2 hx hl (Nat.le_refl _) (by unfold maxLen; omega)
    rw [← Nat.mul_assoc, Int.natCast_mul] at h9
    exact h9
  have HRX : Hid (Res (rdX P D l fs) P) := mulTo_res _ (by omega) _ _ _ _ _ _
  have HLX : Hid ((rdX P D l fs).length = D * D * D) := by rw [Hid, rdX, mulTo_length]
  have HRM : Hid (Res (rdM P D l fs) P) := mulTo_res _ (by omega) _ _ _ _ _ _
  have HLM : Hid ((rdM P D l fs).length = D * D * D) := by rw [Hid, rdM, mulTo_length] ; rw [Nat.mul_assoc]
  clear hT hX hc hl hx hml hn hnf
  go_enter Try.func95, Try.ntmps95
  have A0_1 := Lib.hid (cells_new' w #[.int .i64 P, .int .i64 D, .int .i64 D, .slice (some ⟨f0, fo, none⟩) nf nf] 40 (w.heap.size) (by simp))
  have E_2 := Lib.hid ((Ext.refl w).alloc (.cells #[.int .i64 P, .int .i64 D, .int .i64 D, .slice (some ⟨f0, fo, none⟩) nf nf] 40))
  have hmf : ∀ (fn : Fn) (first cap : Array Value) (w : World), (Instr.makeFunc fn first cap).run Try.prog w = .ok (.func fn first cap) w := fun _ _ _ _ => rfl
  go_wp2_with fail
  generalize (w.alloc (.cells #[.int .i64 P, .int .i64 D, .int .i64 D, .slice (some ⟨f0, fo, none⟩) nf nf] 40)) = W0 at *
  have lA := A0_1.out.1
  have qA0 := A0_1.out.2 0 _ rfl
  have qA1 := A0_1.out.2 1 _ rfl
  have qA2 := A0_1.out.2 2 _ rfl
  have qA3 := A0_1.out.2 3 _ rfl
  go_cut [5] (fun s5 wx => ∃ XB MB LB rb, s5 = .pointer (some ⟨XB, 0, none⟩) ∧ Hid (Cells wx XB [.func (.func 216) #[] #[.pointer (some ⟨MB, 0, none⟩), .pointer (some ⟨LB, 0, none⟩)]]) ∧ Hid (Cells wx MB [.int .i64 P, .int .i64 ((D : Int) * (D : Int)), .int .i64 D, .slice (some ⟨rb, 0, none⟩) (D * D * D) (D * D * D)]) ∧ Hid (Cells wx LB [.pointer (some ⟨B, 0, none⟩)]) ∧ Hid (Has wx rb (rdX P D l fs)) ∧ Hid (Ext W0 wx))
  case first =>
    go_region_held3 (fun w' => Ext W0 w' ∧ (∀ b o, b < W0.heap.size → w'.cell? ⟨b, o, none⟩ = W0.cell? ⟨b, o, none⟩)) (first | (with_reducible exact ext2 (Ext.trans (And.left ‹Ext W0 _ ∧ _›) ‹Ext _ _›)) | (refine ext2 ?_; with_reducible repeat (first | exact Ext.refl _ | exact And.left ‹Ext W0 _ ∧ _› | refine Ext.drew ?_ | refine Ext.drewN ?_ _ | exact Ext.alloc (And.left ‹Ext W0 _ ∧ _›) _ | exact Ext.alloc ((Ext.refl _).drew) _ | exact Ext.alloc (((Ext.refl _).drew).trans h3) _ | exact Ext.alloc ((((Ext.refl _).drew).trans h3).trans h5) _ | exact Ext.alloc (((((Ext.refl _).drew).trans h3).trans h5).trans h6) _ | refine Ext.alloc ?_ _ | refine Ext.setCell ?_ (by have e0 : W0.drew.heap.size = W0.heap.size := rfl; simp <;> omega) _))) (first
      | (go_at_call 172; (with_reducible refine (HBR.out _ (E_2.out.trans (And.left ‹Ext W0 _ ∧ _›))).mono ?_); rintro e w3 ⟨rfl, h3⟩; have c_3 := h3.cells; have f_3 := h3.frees; have y_3 := h3.le; have x_3 := fun k hk => Nat.lt_of_lt_of_le (n := k) hk h3.le; (try simp only [World.size_drew] at y_3 x_3); (try simp only [World.size_alloc] at y_3 x_3); (try simp only [Nat.add_one_le_iff] at y_3))
      | (go_at_call 119; (with_reducible refine (HPX.out _ (E_2.out.trans (And.left ‹Ext W0 _ ∧ _›))).mono ?_); rintro e w5 ⟨rb, rfl, hr1, hr2, kx, h5⟩; have c_5 := h5.cells; have f_5 := h5.frees; have y_5 := h5.le; have x_5 := fun k hk => Nat.lt_of_lt_of_le (n := k) hk h5.le; (try simp only [World.size_drew] at y_5 x_5); (try simp only [World.size_alloc] at y_5 x_5); (try simp only [Nat.add_one_le_iff] at y_5))
      | (go_at_call 171; (with_reducible refine (HRE.out _ _ _ _ _).mono ?_); rintro e w6 ⟨MB, LB, rfl, hm1, hm2, km, kl, h6⟩; have c_6 := h6.cells; have f_6 := h6.frees; have y_6 := h6.le; have x_6 := fun k hk => Nat.lt_of_lt_of_le (n := k) hk h6.le; (try simp only [World.size_drew] at y_6 x_6); (try simp only [World.size_alloc] at y_6 x_6); (try simp only [Nat.add_one_le_iff] at y_6)))
    all_goals (go_wp2_with fail; go_meet; first
      | exact ⟨w6.heap.size, MB, LB, rb, rfl, cells_new _ _ _, km.ext ((Ext.refl _).alloc _), kl.ext ((Ext.refl _).alloc _), Has.alloc (by with_reducible first | exact kx.ext h6 | exact (kx.alloc _).ext h6) _, And.left ‹Ext W0 _ ∧ _›⟩
      | exact ⟨w5.heap.size, MB, LB, rb, rfl, early1 (lo := 0) ((cells_new w5 _ _).ext h6), Cells.setOther km (by (try simp only [World.size_alloc, World.size_drew] at hm1); (try simp only [World.size_alloc, World.size_drew] at hm2); (try simp only [World.size_alloc, World.size_drew] at hr1); simp <;> omega) _, Cells.setOther kl (by (try simp only [World.size_alloc, World.size_drew] at hm1); (try simp only [World.size_alloc, World.size_drew] at hm2); (try simp only [World.size_alloc, World.size_drew] at hr1); simp <;> omega) _, Has.setOther (by with_reducible first | exact kx.ext h6 | exact (kx.alloc _).ext h6) (by (try simp only [World.size_alloc, World.size_drew] at hm1); (try simp only [World.size_alloc, World.size_drew] at hm2); (try simp only [World.size_alloc, World.size_drew] at hr1); simp <;> omega) _, And.left ‹Ext W0 _ ∧ _›⟩
      | exact ⟨w3.heap.size, MB, LB, rb, rfl, early1 (lo := 0) (((cells_new w3 _ _).ext h5).ext h6), Cells.setOther km (by (try simp only [World.size_alloc, World.size_drew] at hm1); (try simp only [World.size_alloc, World.size_drew] at hm2); (try simp only [World.size_alloc, World.size_drew] at hr1); simp <;> omega) _, Cells.setOther kl (by (try simp only [World.size_alloc, World.size_drew] at hm1); (try simp only [World.size_alloc, World.size_drew] at hm2); (try simp only [World.size_alloc, World.size_drew] at hr1); simp <;> omega) _, Has.setOther (by with_reducible first | exact kx.ext h6 | exact (kx.alloc _).ext h6) (by (try simp only [World.size_alloc, World.size_drew] at hm1); (try simp only [World.size_alloc, World.size_drew] at hm2); (try simp only [World.size_alloc, World.size_drew] at hr1); simp <;> omega) _, And.left ‹Ext W0 _ ∧ _›⟩
      | exact ⟨W0.heap.size, MB, LB, rb, rfl, early1 (lo := 0) (((((cells_new W0 _ _).ext (Ext.drew (Ext.refl _))).ext h3).ext h5).ext h6), Cells.setOther km (by (try simp only [World.size_alloc, World.size_drew] at hm1); (try simp only [World.size_alloc, World.size_drew] at hm2); (try simp only [World.size_alloc, World.size_drew] at hr1); simp <;> omega) _, Cells.setOther kl (by (try simp only [World.size_alloc, World.size_drew] at hm1); (try simp only [World.size_alloc, World.size_drew] at hm2); (try simp only [World.size_alloc, World.size_drew] at hr1); simp <;> omega) _, Has.setOther (by with_reducible first | exact kx.ext h6 | exact (kx.alloc _).ext h6) (by (try simp only [World.size_alloc, World.size_drew] at hm1); (try simp only [World.size_alloc, World.size_drew] at hm2); (try simp only [World.size_alloc, World.size_drew] at hr1); simp <;> omega) _, And.left ‹Ext W0 _ ∧ _›⟩)
  case rest =>
    obtain ⟨X0, M0, L0, r0, rfl, CX0, CM0, CL0, HX0, EX0⟩ := hcut
    obtain ⟨W1, hwk⟩ : ∃ wk : World, wk = wc := ⟨_, rfl⟩
    subst hwk
    clear lA qA0 qA1 qA2 qA3
    have A0_1' := Lib.hid (A0_1.out.ext EX0.out)
    clear A0_1
    have E_2' := Lib.hid (E_2.out.trans EX0.out)
    clear E_2 EX0
    try go_wp2_with fail
    have lA := A0_1'.out.1
    have qA0 := A0_1'.out.2 0 _ rfl
    have qA1 := A0_1'.out.2 1 _ rfl
    have qA2 := A0_1'.out.2 2 _ rfl
    have qA3 := A0_1'.out.2 3 _ rfl
    go_cut [6] (fun s6 wx => ∃ XB MB LB rb, s6 = .pointer (some ⟨XB, 0, none⟩) ∧ Hid (Cells wx XB [.func (.func 216) #[] #[.pointer (some ⟨MB, 0, none⟩), .pointer (some ⟨LB, 0, none⟩)]]) ∧ Hid (Cells wx MB [.int .i64 P, .int .i64 D, .int .i64 ((D : Int) * (D : Int)), .slice (some ⟨rb, 0, none⟩) (D * D * D) (D * D * D)]) ∧ Hid (Cells wx LB [.pointer (some ⟨B, 0, none⟩)]) ∧ Hid (Has wx rb (rdM P D l fs)) ∧ Hid (Ext W1 wx))
    case first =>
      go_region_held3 (fun w' => Ext W1 w' ∧ (∀ b o, b < W1.heap.size → w'.cell? ⟨b, o, none⟩ = W1.cell? ⟨b, o, none⟩)) (first | (with_reducible exact ext2 (Ext.trans (And.left ‹Ext W1 _ ∧ _›) ‹Ext _ _›)) | (refine ext2 ?_; with_reducible repeat (first | exact Ext.refl _ | exact And.left ‹Ext W1 _ ∧ _› | refine Ext.drew ?_ | refine Ext.drewN ?_ _ | exact Ext.alloc (And.left ‹Ext W1 _ ∧ _›) _ | exact Ext.alloc ((Ext.refl _).drew) _ | exact Ext.alloc (((Ext.refl _).drew).trans h3) _ | exact Ext.alloc ((((Ext.refl _).drew).trans h3).trans h5) _ | exact Ext.alloc (((((Ext.refl _).drew).trans h3).trans h5).trans h6) _ | refine Ext.alloc ?_ _ | refine Ext.setCell ?_ (by have e0 : W1.drew.heap.size = W1.heap.size := rfl; simp <;> omega) _))) (first
        | (go_at_call 173; (with_reducible refine (HAR.out _ (E_2'.out.trans (And.left ‹Ext W1 _ ∧ _›))).mono ?_); rintro e w3 ⟨rfl, h3⟩; have c_3 := h3.cells; have f_3 := h3.frees; have y_3 := h3.le; have x_3 := fun k hk => Nat.lt_of_lt_of_le (n := k) hk h3.le; (try simp only [World.size_drew] at y_3 x_3); (try simp only [World.size_alloc] at y_3 x_3); (try simp only [Nat.add_one_le_iff] at y_3))
        | (go_at_call 119; (with_reducible refine (HPM.out _ (E_2'.out.trans (And.left ‹Ext W1 _ ∧ _›))).mono ?_); rintro e w5 ⟨rb, rfl, hr1, hr2, kx, h5⟩; have c_5 := h5.cells; have f_5 := h5.frees; have y_5 := h5.le; have x_5 := fun k hk => Nat.lt_of_lt_of_le (n := k) hk h5.le; (try simp only [World.size_drew] at y_5 x_5); (try simp only [World.size_alloc] at y_5 x_5); (try simp only [Nat.add_one_le_iff] at y_5))
        | (go_at_call 171; (with_reducible refine (HRE.out _ _ _ _ _).mono ?_); rintro e w6 ⟨MB, LB, rfl, hm1, hm2, km, kl, h6⟩; have c_6 := h6.cells; have f_6 := h6.frees; have y_6 := h6.le; have x_6 := fun k hk => Nat.lt_of_lt_of_le (n := k) hk h6.le; (try simp only [World.size_drew] at y_6 x_6); (try simp only [World.size_alloc] at y_6 x_6); (try simp only [Nat.add_one_le_iff] at y_6)))
      all_goals (go_wp2_with fail; go_meet; first
        | exact ⟨w6.heap.size, MB, LB, rb, rfl, cells_new _ _ _, km.ext ((Ext.refl _).alloc _), kl.ext ((Ext.refl _).alloc _), Has.alloc (by with_reducible first | exact kx.ext h6 | exact (kx.alloc _).ext h6) _, And.left ‹Ext W1 _ ∧ _›⟩
        | exact ⟨w5.heap.size, MB, LB, rb, rfl, early1 (lo := 0) ((cells_new w5 _ _).ext h6), Cells.setOther km (by (try simp only [World.size_alloc, World.size_drew] at hm1); (try simp only [World.size_alloc, World.size_drew] at hm2); (try simp only [World.size_alloc, World.size_drew] at hr1); simp <;> omega) _, Cells.setOther kl (by (try simp only [World.size_alloc, World.size_drew] at hm1); (try simp only [World.size_alloc, World.size_drew] at hm2); (try simp only [World.size_alloc, World.size_drew] at hr1); simp <;> omega) _, Has.setOther (by with_reducible first | exact kx.ext h6 | exact (kx.alloc _).ext h6) (by (try simp only [World.size_alloc, World.size_drew] at hm1); (try simp only [World.size_alloc, World.size_drew] at hm2); (try simp only [World.size_alloc, World.size_drew] at hr1); simp <;> omega) _, And.left ‹Ext W1 _ ∧ _›⟩
        | exact ⟨w3.heap.size, MB, LB, rb, rfl, early1 (lo := 0) (((cells_new w3 _ _).ext h5).ext h6), Cells.setOther km (by (try simp only [World.size_alloc, World.size_drew] at hm1); (try simp only [World.size_alloc, World.size_drew] at hm2); (try simp only [World.size_alloc, World.size_drew] at hr1); simp <;> omega) _, Cells.setOther kl (by (try simp only [World.size_alloc, World.size_drew] at hm1); (try simp only [World.size_alloc, World.size_drew] at hm2); (try simp only [World.size_alloc, World.size_drew] at hr1); simp <;> omega) _, Has.setOther (by with_reducible first | exact kx.ext h6 | exact (kx.alloc _).ext h6) (by (try simp only [World.size_alloc, World.size_drew] at hm1); (try simp only [World.size_alloc, World.size_drew] at hm2); (try simp only [World.size_alloc, World.size_drew] at hr1); simp <;> omega) _, And.left ‹Ext W1 _ ∧ _›⟩
        | exact ⟨W1.heap.size, MB, LB, rb, rfl, early1 (lo := 0) (((((cells_new W1 _ _).ext (Ext.drew (Ext.refl _))).ext h3).ext h5).ext h6), Cells.setOther km (by (try simp only [World.size_alloc, World.size_drew] at hm1); (try simp only [World.size_alloc, World.size_drew] at hm2); (try simp only [World.size_alloc, World.size_drew] at hr1); simp <;> omega) _, Cells.setOther kl (by (try simp only [World.size_alloc, World.size_drew] at hm1); (try simp only [World.size_alloc, World.size_drew] at hm2); (try simp only [World.size_alloc, World.size_drew] at hr1); simp <;> omega) _, Has.setOther (by with_reducible first | exact kx.ext h6 | exact (kx.alloc _).ext h6) (by (try simp only [World.size_alloc, World.size_drew] at hm1); (try simp only [World.size_alloc, World.size_drew] at hm2); (try simp only [World.size_alloc, World.size_drew] at hr1); simp <;> omega) _, And.left ‹Ext W1 _ ∧ _›⟩)
    case rest =>
      obtain ⟨X1, M1, L1, r1, rfl, CX1, CM1, CL1, HX1, EX1⟩ := hcut
      obtain ⟨W2, hwk⟩ : ∃ wk : World, wk = wc := ⟨_, rfl⟩
      subst hwk
      clear lA qA0 qA1 qA2 qA3
      have A0_1'' := Lib.hid (A0_1'.out.ext EX1.out)
      clear A0_1'
      have CX0' := Lib.hid (CX0.out.ext EX1.out)
      clear CX0
      have CM0' := Lib.hid (CM0.out.ext EX1.out)
      clear CM0
      have CL0' := Lib.hid (CL0.out.ext EX1.out)
      clear CL0
      have HX0' := Lib.hid (HX0.out.ext EX1.out)
      clear HX0
      have E_2'' := Lib.hid (E_2'.out.trans EX1.out)
      clear E_2' EX1
      try go_wp2_with fail
      have HQ0 : Hid (∀ w2, Ext W2 w2 → ∀ i j k, i < D → j < D → k < D → ∀ w1, Ext w2 w1 → Calls Try.prog 216 #[.int .i64 i, .int .i64 j, .int .i64 k, .pointer (some ⟨M0, 0, none⟩), .pointer (some ⟨L0, 0, none⟩)] w1 fun e w' => e = .returned (.int .i64 (gi (rdX P D l fs) ((i * D + j) * D + k))) ∧ Ext w1 w') := fun w2 h2 i j k hi hj hk w1 h1 => reader_fn P ((D : Int) * (D : Int)) D _ _ D B M0 L0 r0 0 (D * D * D) (D * D * D) _ i j k w1 (HC.out.ext ((E_2''.out.trans h2).trans h1)) (CM0'.out.ext (h2.trans h1)) (CL0'.out.ext (h2.trans h1)) (Has.reads (HX0'.out.ext (h2.trans h1)) HLX.out) rfl hD hi hj hk
      have HQ1 : Hid (∀ w2, Ext W2 w2 → ∀ i j k, i < D → j < D → k < D → ∀ w1, Ext w2 w1 → Calls Try.prog 216 #[.int .i64 i, .int .i64 j, .int .i64 k, .pointer (some ⟨M1, 0, none⟩), .pointer (some ⟨L1, 0, none⟩)] w1 fun e w' => e = .returned (.int .i64 (gi (rdM P D l fs) ((i * D + j) * D + k))) ∧ Ext w1 w') := fun w2 h2 i j k hi hj hk w1 h1 => reader_fn P D ((D : Int) * (D : Int)) _ _ D B M1 L1 r1 0 (D * D * D) (D * D * D) _ i j k w1 (HC.out.ext ((E_2''.out.trans h2).trans h1)) (CM1.out.ext (h2.trans h1)) (CL1.out.ext (h2.trans h1)) (Has.reads (HX1.out.ext (h2.trans h1)) HLM.out) rfl hD hi hj hk
      have HCB := Lib.hid (HC.out.ext E_2''.out)
      have lB := HCB.out.1
      have HFT : Hid (Calls Try.prog 174 #[.pointer (some ⟨B, 0, none⟩), .func (.func 175) #[] #[.pointer (some ⟨X0, 0, none⟩), .pointer (some ⟨X1, 0, none⟩)]] W2 fun e w' => ∃ a c, e = .returned (.slice a n c) ∧ Own w' W2.heap.size w'.heap.size a n (tripL P D fun i j k => gi (rdX P D l fs) ((i * D + j) * D + k) - gi (rdM P D l fs) ((i * D + j) * D + k) + gi (rdM P D l fs) ((j * D + i) * D + k)) ∧ Ext W2 w') :=
        forTriples_B P D B a0 oa n n X0 X1 (fun i j k => gi (rdX P D l fs) ((i * D + j) * D + k) - gi (rdM P D l fs) ((i * D + j) * D + k) + gi (rdM P D l fs) ((j * D + i) * D + k)) W2 HCB.out HN.out hD hp hp2 (fun i j k hi hj hk w1 h1 => clo_B X0 M0 L0 X1 M1 L1 D (fun i j k => gi (rdX P D l fs) ((i * D + j) * D + k)) (fun i j k => gi (rdM P D l fs) ((i * D + j) * D + k)) i j k w1 hi hj hk (CX0'.out.ext h1) (fun i j k hi hj hk w2 h2 => HQ0.out w1 h1 i j k hi hj hk w2 h2) (fun i j k => rd_bd hp hp2 HRX.out _) (CX1.out.ext h1) (fun i j k hi hj hk w2 h2 => HQ1.out w1 h1 i j k hi hj hk w2 h2) (fun i j k => rd_bd hp hp2 HRM.out _))
      go_wp2_with fail
      refine HFT.out.mono ?_
      rintro e w9 ⟨a, c, rfl, ho, h9⟩
      have HO := Lib.hid ho
      have E9 := Lib.hid (E_2''.out.trans h9)
      have hsz := E_2''.out.le
      clear ho h9
      go_wp2
      go_ret
      exact ⟨a, c, rfl, HO.out.mono hsz (Nat.le_refl _), E9.out⟩

set_option maxRecDepth 100000 in
set_option maxHeartbeats 6400000 in
theorem isClosed_impl (P : Int) (D B a0 oa n f0 fo nf : Nat) (l fs : List Int) (w : World) (hc : Cells w B [.int .i64 P, .int .i64 D, .slice (some ⟨a0, oa, none⟩) n n]) (hT : Reads w (some ⟨a0, oa, none⟩) n l) (hX : Reads w (some ⟨f0, fo, none⟩) nf fs) (hD : D ≤ 28) (hn : n = D * D * D) (hnf : nf = D * D) (hp : 2 ≤ P) (hp2 : P ≤ 10007) (hl : Res l P) (hx : Res fs P) :
    Calls Try.prog 158 #[.pointer (some ⟨B, 0, none⟩), .agg #[.int .i64 P, .int .i64 D, .int .i64 D, .slice (some ⟨f0, fo, none⟩) nf nf]] w fun e w' => e = .returned (.bool (decide (fzR (tripL P D fun i j k => gi (rdX P D l fs) ((i * D + j) * D + k) + gi (rdX P D l fs) ((j * D + k) * D + i) + gi (rdX P D l fs) ((k * D + i) * D + j)) < 0))) ∧ Ext w w' := by
  have h27 : D * D ≤ 784 := Nat.mul_le_mul hD hD
  have h28 := cube28 hD
  have hml : mulTo P l fs (D * D) D D (D * D) = rdX P D l fs := rfl
  have HBR : Hid (∀ w1, Ext w w1 → Calls Try.prog 172 #[.pointer (some ⟨B, 0, none⟩)] w1 fun e w' => e = .returned (.agg #[.int .i64 P, .int .i64 ((D : Int) * (D : Int)), .int .i64 D, .slice (some ⟨a0, oa, none⟩) n n]) ∧ Ext w1 w') := fun w1 h => by
    have h9 := bracketRows_impl P D B a0 oa n n w1 (hc.ext h) hD
    rw [Int.natCast_mul] at h9
    exact h9
  have HPX : Hid (∀ w1, Ext w w1 → Calls Try.prog 119 #[.agg #[.int .i64 P, .int .i64 ((D : Int) * (D : Int)), .int .i64 D, .slice (some ⟨a0, oa, none⟩) n n], .agg #[.int .i64 P, .int .i64 D, .int .i64 D, .slice (some ⟨f0, fo, none⟩) nf nf]] w1 fun e w' => ∃ b, e = .returned (.agg #[.int .i64 P, .int .i64 ((D : Int) * (D : Int)), .int .i64 D, .slice (some ⟨b, 0, none⟩) (D * D * D) (D * D * D)]) ∧ w1.heap.size ≤ b ∧ b < w'.heap.size ∧ Has w' b (rdX P D l fs) ∧ Ext w1 w') := fun w1 h => by
    have h9 := product_wide P (D * D) D D a0 oa f0 fo n nf n l fs w1 (hT.ext h) (hX.ext h) hn hnf (by omega) (by omega) (by omega) (by omega) (by omega) (by omega) hp hp2 hl hx (Nat.le_refl _) (by unfold maxLen; omega)
    rw [Int.natCast_mul] at h9
    exact h9
  have HRE : Hid (∀ w1 v0 v1 v2 v3, Calls Try.prog 171 #[.pointer (some ⟨B, 0, none⟩), .agg #[v0, v1, v2, v3]] w1 fun e w' => ∃ MB LB, e = .returned (.func (.func 216) #[] #[.pointer (some ⟨MB, 0, none⟩), .pointer (some ⟨LB, 0, none⟩)]) ∧ w1.heap.size ≤ MB ∧ w1.heap.size ≤ LB ∧ Cells w' MB [v0, v1, v2, v3] ∧ Cells w' LB [.pointer (some ⟨B, 0, none⟩)] ∧ Ext w1 w') := fun w1 v0 v1 v2 v3 => reader_impl B v0 v1 v2 v3 w1
  have HC := Lib.hid hc
  have HN := Lib.hid hn
  have HRX : Hid (Res (rdX P D l fs) P) := mulTo_res _ (by omega) _ _ _ _ _ _
  have HLX : Hid ((rdX P D l fs).length = D * D * D) := by rw [Hid, rdX, mulTo_length]
  clear hT hX hc hl hx hml hn hnf
  go_enter Try.func158, Try.ntmps158
  have A0_1 := Lib.hid (cells_new' w #[.int .i64 P, .int .i64 D, .int .i64 D, .slice (some ⟨f0, fo, none⟩) nf nf] 40 (w.heap.size) (by simp))
  have E_2 := Lib.hid ((Ext.refl w).alloc (.cells #[.int .i64 P, .int .i64 D, .int .i64 D, .slice (some ⟨f0, fo, none⟩) nf nf] 40))
  have hmf : ∀ (fn : Fn) (first cap : Array Value) (w : World), (Instr.makeFunc fn first cap).run Try.prog w = .ok (.func fn first cap) w := fun _ _ _ _ => rfl
  go_wp2_with fail
  generalize (w.alloc (.cells #[.int .i64 P, .int .i64 D, .int .i64 D, .slice (some ⟨f0, fo, none⟩) nf nf] 40)) = W0 at *
  have lA := A0_1.out.1
  have qA0 := A0_1.out.2 0 _ rfl
  have qA1 := A0_1.out.2 1 _ rfl
  have qA2 := A0_1.out.2 2 _ rfl
  have qA3 := A0_1.out.2 3 _ rfl
  go_cut [5] (fun s5 wx => ∃ XB MB LB rb, s5 = .pointer (some ⟨XB, 0, none⟩) ∧ Hid (Cells wx XB [.func (.func 216) #[] #[.pointer (some ⟨MB, 0, none⟩), .pointer (some ⟨LB, 0, none⟩)]]) ∧ Hid (Cells wx MB [.int .i64 P, .int .i64 ((D : Int) * (D : Int)), .int .i64 D, .slice (some ⟨rb, 0, none⟩) (D * D * D) (D * D * D)]) ∧ Hid (Cells wx LB [.pointer (some ⟨B, 0, none⟩)]) ∧ Hid (Has wx rb (rdX P D l fs)) ∧ Hid (Ext W0 wx))
  case first =>
    go_region_held3 (fun w' => Ext W0 w' ∧ (∀ b o, b < W0.heap.size → w'.cell? ⟨b, o, none⟩ = W0.cell? ⟨b, o, none⟩)) (first | (with_reducible exact ext2 (Ext.trans (And.left ‹Ext W0 _ ∧ _›) ‹Ext _ _›)) | (refine ext2 ?_; with_reducible repeat (first | exact Ext.refl _ | exact And.left ‹Ext W0 _ ∧ _› | refine Ext.drew ?_ | refine Ext.drewN ?_ _ | exact Ext.alloc (And.left ‹Ext W0 _ ∧ _›) _ | exact Ext.alloc ((Ext.refl _).drew) _ | exact Ext.alloc (((Ext.refl _).drew).trans h3) _ | exact Ext.alloc ((((Ext.refl _).drew).trans h3).trans h5) _ | exact Ext.alloc (((((Ext.refl _).drew).trans h3).trans h5).trans h6) _ | refine Ext.alloc ?_ _ | refine Ext.setCell ?_ (by have e0 : W0.drew.heap.size = W0.heap.size := rfl; simp <;> omega) _))) (first
      | (go_at_call 172; (with_reducible refine (HBR.out _ (E_2.out.trans (And.left ‹Ext W0 _ ∧ _›))).mono ?_); rintro e w3 ⟨rfl, h3⟩; have c_3 := h3.cells; have f_3 := h3.frees; have y_3 := h3.le; have x_3 := fun k hk => Nat.lt_of_lt_of_le (n := k) hk h3.le; (try simp only [World.size_drew] at y_3 x_3); (try simp only [World.size_alloc] at y_3 x_3); (try simp only [Nat.add_one_le_iff] at y_3))
      | (go_at_call 119; (with_reducible refine (HPX.out _ (E_2.out.trans (And.left ‹Ext W0 _ ∧ _›))).mono ?_); rintro e w5 ⟨rb, rfl, hr1, hr2, kx, h5⟩; have c_5 := h5.cells; have f_5 := h5.frees; have y_5 := h5.le; have x_5 := fun k hk => Nat.lt_of_lt_of_le (n := k) hk h5.le; (try simp only [World.size_drew] at y_5 x_5); (try simp only [World.size_alloc] at y_5 x_5); (try simp only [Nat.add_one_le_iff] at y_5))
      | (go_at_call 171; (with_reducible refine (HRE.out _ _ _ _ _).mono ?_); rintro e w6 ⟨MB, LB, rfl, hm1, hm2, km, kl, h6⟩; have c_6 := h6.cells; have f_6 := h6.frees; have y_6 := h6.le; have x_6 := fun k hk => Nat.lt_of_lt_of_le (n := k) hk h6.le; (try simp only [World.size_drew] at y_6 x_6); (try simp only [World.size_alloc] at y_6 x_6); (try simp only [Nat.add_one_le_iff] at y_6)))
    all_goals (go_wp2_with fail; go_meet; first
      | exact ⟨w6.heap.size, MB, LB, rb, rfl, cells_new _ _ _, km.ext ((Ext.refl _).alloc _), kl.ext ((Ext.refl _).alloc _), Has.alloc (by with_reducible first | exact kx.ext h6 | exact (kx.alloc _).ext h6) _, And.left ‹Ext W0 _ ∧ _›⟩
      | exact ⟨w5.heap.size, MB, LB, rb, rfl, early1 (lo := 0) ((cells_new w5 _ _).ext h6), Cells.setOther km (by (try simp only [World.size_alloc, World.size_drew] at hm1); (try simp only [World.size_alloc, World.size_drew] at hm2); (try simp only [World.size_alloc, World.size_drew] at hr1); simp <;> omega) _, Cells.setOther kl (by (try simp only [World.size_alloc, World.size_drew] at hm1); (try simp only [World.size_alloc, World.size_drew] at hm2); (try simp only [World.size_alloc, World.size_drew] at hr1); simp <;> omega) _, Has.setOther (by with_reducible first | exact kx.ext h6 | exact (kx.alloc _).ext h6) (by (try simp only [World.size_alloc, World.size_drew] at hm1); (try simp only [World.size_alloc, World.size_drew] at hm2); (try simp only [World.size_alloc, World.size_drew] at hr1); simp <;> omega) _, And.left ‹Ext W0 _ ∧ _›⟩
      | exact ⟨w3.heap.size, MB, LB, rb, rfl, early1 (lo := 0) (((cells_new w3 _ _).ext h5).ext h6), Cells.setOther km (by (try simp only [World.size_alloc, World.size_drew] at hm1); (try simp only [World.size_alloc, World.size_drew] at hm2); (try simp only [World.size_alloc, World.size_drew] at hr1); simp <;> omega) _, Cells.setOther kl (by (try simp only [World.size_alloc, World.size_drew] at hm1); (try simp only [World.size_alloc, World.size_drew] at hm2); (try simp only [World.size_alloc, World.size_drew] at hr1); simp <;> omega) _, Has.setOther (by with_reducible first | exact kx.ext h6 | exact (kx.alloc _).ext h6) (by (try simp only [World.size_alloc, World.size_drew] at hm1); (try simp only [World.size_alloc, World.size_drew] at hm2); (try simp only [World.size_alloc, World.size_drew] at hr1); simp <;> omega) _, And.left ‹Ext W0 _ ∧ _›⟩
      | exact ⟨W0.heap.size, MB, LB, rb, rfl, early1 (lo := 0) (((((cells_new W0 _ _).ext (Ext.drew (Ext.refl _))).ext h3).ext h5).ext h6), Cells.setOther km (by (try simp only [World.size_alloc, World.size_drew] at hm1); (try simp only [World.size_alloc, World.size_drew] at hm2); (try simp only [World.size_alloc, World.size_drew] at hr1); simp <;> omega) _, Cells.setOther kl (by (try simp only [World.size_alloc, World.size_drew] at hm1); (try simp only [World.size_alloc, World.size_drew] at hm2); (try simp only [World.size_alloc, World.size_drew] at hr1); simp <;> omega) _, Has.setOther (by with_reducible first | exact kx.ext h6 | exact (kx.alloc _).ext h6) (by (try simp only [World.size_alloc, World.size_drew] at hm1); (try simp only [World.size_alloc, World.size_drew] at hm2); (try simp only [World.size_alloc, World.size_drew] at hr1); simp <;> omega) _, And.left ‹Ext W0 _ ∧ _›⟩)
  case rest =>
    obtain ⟨X0, M0, L0, r0, rfl, CX0, CM0, CL0, HX0, EX0⟩ := hcut
    obtain ⟨W1, hwk⟩ : ∃ wk : World, wk = wc := ⟨_, rfl⟩
    subst hwk
    clear lA qA0 qA1 qA2 qA3
    have A0_1' := Lib.hid (A0_1.out.ext EX0.out)
    clear A0_1
    have E_2' := Lib.hid (E_2.out.trans EX0.out)
    clear E_2 EX0
    try go_wp2_with fail
    have HQ0 : Hid (∀ w2, Ext W1 w2 → ∀ i j k, i < D → j < D → k < D → ∀ w1, Ext w2 w1 → Calls Try.prog 216 #[.int .i64 i, .int .i64 j, .int .i64 k, .pointer (some ⟨M0, 0, none⟩), .pointer (some ⟨L0, 0, none⟩)] w1 fun e w' => e = .returned (.int .i64 (gi (rdX P D l fs) ((i * D + j) * D + k))) ∧ Ext w1 w') := fun w2 h2 i j k hi hj hk w1 h1 => reader_fn P ((D : Int) * (D : Int)) D _ _ D B M0 L0 r0 0 (D * D * D) (D * D * D) _ i j k w1 (HC.out.ext ((E_2'.out.trans h2).trans h1)) (CM0.out.ext (h2.trans h1)) (CL0.out.ext (h2.trans h1)) (Has.reads (HX0.out.ext (h2.trans h1)) HLX.out) rfl hD hi hj hk
    have HCB := Lib.hid (HC.out.ext E_2'.out)
    have lB := HCB.out.1
    have HFT : Hid (Calls Try.prog 174 #[.pointer (some ⟨B, 0, none⟩), .func (.func 213) #[] #[.pointer (some ⟨X0, 0, none⟩)]] W1 fun e w' => ∃ a c, e = .returned (.slice a n c) ∧ Own w' W1.heap.size w'.heap.size a n (tripL P D fun i j k => gi (rdX P D l fs) ((i * D + j) * D + k) + gi (rdX P D l fs) ((j * D + k) * D + i) + gi (rdX P D l fs) ((k * D + i) * D + j)) ∧ Ext W1 w') :=
      forTriples_C P D B a0 oa n n X0 (fun i j k => gi (rdX P D l fs) ((i * D + j) * D + k) + gi (rdX P D l fs) ((j * D + k) * D + i) + gi (rdX P D l fs) ((k * D + i) * D + j)) W1 HCB.out HN.out hD hp hp2 (fun i j k hi hj hk w1 h1 => clo_C X0 M0 L0 D (fun i j k => gi (rdX P D l fs) ((i * D + j) * D + k)) i j k w1 hi hj hk (CX0.out.ext h1) (fun i j k hi hj hk w2 h2 => HQ0.out w1 h1 i j k hi hj hk w2 h2) (fun i j k => rd_bd hp hp2 HRX.out _))
    go_wp2_with fail
    refine HFT.out.mono ?_
    rintro e w9 ⟨a, c, rfl, ho, h9⟩
    have HO := Lib.hid ho
    have E9 := Lib.hid (E_2'.out.trans h9)
    have hsz := E_2'.out.le
    clear ho h9
    have HFN : Hid (Calls Try.prog 152 #[.slice a n c] w9 fun e w' => e = .returned (.int .i64 (fzR (tripL P D fun i j k => gi (rdX P D l fs) ((i * D + j) * D + k) + gi (rdX P D l fs) ((j * D + k) * D + i) + gi (rdX P D l fs) ((k * D + i) * D + j)))) ∧ w9 = w') := firstNonzero_impl a n c _ w9 HO.out.reads (by have := HN.out; unfold maxLen; omega)
    obtain ⟨fz, hfz⟩ : ∃ z, fzR (tripL P D fun i j k => gi (rdX P D l fs) ((i * D + j) * D + k) + gi (rdX P D l fs) ((j * D + k) * D + i) + gi (rdX P D l fs) ((k * D + i) * D + j)) = z := ⟨_, rfl⟩
    rw [hfz] at HFN
    have HFZ := Lib.hid hfz
    clear hfz
    rcases hz : decide (fz < 0) with _ | _
    all_goals
      have HZ := Lib.hid hz
      go_wp2_with fail
      refine HFN.out.mono ?_
      rintro e w' ⟨rfl, rfl⟩
      go_wp2
      go_ret
      exact ⟨ret_bool (by rw [HFZ.out]; exact HZ.out.symm), E9.out⟩

open Classical in
noncomputable def frmB (P : Int) (D : Nat) (l fs : List Int) : Bool := decide (InvI P D l fs)
open Classical in
noncomputable def derB (P : Int) (D : Nat) (l fs : List Int) : Bool := decide (DerI P D l fs)
/-- What alternates, as the program asks it. -/
def AltF (P : Int) (D : Nat) (fs : List Int) : Prop := (∀ i, i < D → at2 D fs i i = 0) ∧ ∀ i, i < D → ∀ j, j < D → Eqm P (at2 D fs i j + at2 D fs j i) 0
open Classical in
noncomputable def cycB (P : Int) (D : Nat) (l fs : List Int) : Bool := decide (AltF P D fs ∧ CycI P D l fs)
theorem frmB_iff {P : Int} {D : Nat} {l fs : List Int} : frmB P D l fs = true ↔ InvI P D l fs := by simp only [frmB, decide_eq_true_eq]
theorem derB_iff {P : Int} {D : Nat} {l fs : List Int} : derB P D l fs = true ↔ DerI P D l fs := by simp only [derB, decide_eq_true_eq]
theorem cycB_iff {P : Int} {D : Nat} {l fs : List Int} : cycB P D l fs = true ↔ AltF P D fs ∧ CycI P D l fs := by simp only [cycB, decide_eq_true_eq]
noncomputable def invF (P D : Int) (l : List Int) (P1 R1 C1 : Int) (fs : List Int) : Bool := algB P D l && (formB P D P1 R1 C1 fs && frmB P D.toNat l fs)
noncomputable def derF (P D : Int) (l : List Int) (P1 R1 C1 : Int) (fs : List Int) : Bool := algB P D l && (formB P D P1 R1 C1 fs && derB P D.toNat l fs)
noncomputable def cycF (P D : Int) (l : List Int) (P1 R1 C1 : Int) (fs : List Int) : Bool := algB P D l && (formB P D P1 R1 C1 fs && cycB P D.toNat l fs)
section
variable {P : Int} {D : Nat} {l fs : List Int}
theorem trip_neg {val : Nat → Nat → Nat → Int} : fzR (tripL P D val) < 0 ↔ ∀ i, i < D → ∀ j, j < D → ∀ k, k < D → Eqm P (val i j k) 0 := by
  rw [fz_neg, tripL_length, tripL_zero]
theorem frm_trip : decide (fzR (tripL P D fun i j k => gi (rdX P D l fs) ((i * D + j) * D + k) - gi (rdY P D l fs) ((j * D + k) * D + i)) < 0) = frmB P D l fs := by
  rw [Bool.eq_iff_iff, decide_eq_true_eq, trip_neg, frmB_iff]
  refine forall_congr' fun i => forall_congr' fun hi => forall_congr' fun j => forall_congr' fun hj => forall_congr' fun k => forall_congr' fun hk => ?_
  rw [gi_rdX hi hj hk, gi_rdY hj hk hi]
  exact ⟨fun h => (emod2 _ _).symm.trans h, fun h => (emod2 _ _).trans h⟩
theorem der_trip : decide (fzR (tripL P D fun i j k => gi (rdX P D l fs) ((i * D + j) * D + k) - gi (rdM P D l fs) ((i * D + j) * D + k) + gi (rdM P D l fs) ((j * D + i) * D + k)) < 0) = derB P D l fs := by
  rw [Bool.eq_iff_iff, decide_eq_true_eq, trip_neg, derB_iff]
  refine forall_congr' fun i => forall_congr' fun hi => forall_congr' fun j => forall_congr' fun hj => forall_congr' fun k => forall_congr' fun hk => ?_
  rw [gi_rdX hi hj hk, gi_rdM hi hj hk, gi_rdM hj hi hk]
  have e := (emod2 (P := P) (fvN D l fs i j k) (mvN D l fs i j k)).add (Eqm.emod (P := P) (mvN D l fs j i k))
  exact ⟨fun h => e.symm.trans h, fun h => e.trans h⟩
theorem cyc_trip : fzR (tripL P D fun i j k => gi (rdX P D l fs) ((i * D + j) * D + k) + gi (rdX P D l fs) ((j * D + k) * D + i) + gi (rdX P D l fs) ((k * D + i) * D + j)) < 0 ↔ CycI P D l fs := by
  rw [trip_neg]
  refine forall_congr' fun i => forall_congr' fun hi => forall_congr' fun j => forall_congr' fun hj => forall_congr' fun k => forall_congr' fun hk => ?_
  rw [gi_rdX hi hj hk, gi_rdX hj hk hi, gi_rdX hk hi hj]
  have e := ((Eqm.emod (P := P) (fvN D l fs i j k)).add (Eqm.emod (P := P) (fvN D l fs j k i))).add (Eqm.emod (P := P) (fvN D l fs k i j))
  exact ⟨fun h => e.symm.trans h, fun h => e.trans h⟩
end

set_option maxRecDepth 100000 in
set_option maxHeartbeats 3200000 in
theorem isDerivation_impl {P D : Int} {a0 oa n : Nat} {l : List Int} {P1 R1 C1 : Int} {f0 fo nf : Nat} {fs : List Int} {w : World} {i : Bool} (hT : Reads w (some ⟨a0, oa, none⟩) n l) (hm0 : n ≤ 1048576) (hX : Reads w (some ⟨f0, fo, none⟩) nf fs) (hm1 : nf ≤ 1048576) (hM : derF P D l P1 R1 C1 fs = i) :
    Calls Try.prog 75 #[.agg #[.int .i64 P, .int .i64 D, .slice (some ⟨a0, oa, none⟩) n n], .agg #[.int .i64 P1, .int .i64 R1, .int .i64 C1, .slice (some ⟨f0, fo, none⟩) nf nf]] w fun e w' => e = .returned (.bool i) ∧ Ext w w' := by
  subst hM
  have HT := Lib.hid hT
  have HX := Lib.hid hX
  have hmx : nf ≤ maxLen := by unfold maxLen; omega
  have HA : Hid (derF P D l P1 R1 C1 fs = (algB P D l && (formB P D P1 R1 C1 fs && derB P D.toNat l fs))) := rfl
  generalize derF P D l P1 R1 C1 fs = q at HA
  rcases h0 : algB P D l with _ | _
  · have HF : Hid (q = false) := by rw [Hid, HA.out, h0]; rfl
    have H0 := Lib.hid h0
    clear h0 hT hX HA
    go_enter Try.func75, Try.ntmps75
    have A0_1 := Lib.hid ((cells_new' w #[.int .i64 P, .int .i64 D, .slice (some ⟨a0, oa, none⟩) n n] 28 (w.heap.size) (by simp)).ext ((Ext.refl _).alloc (.cells #[.int .i64 P1, .int .i64 R1, .int .i64 C1, .slice (some ⟨f0, fo, none⟩) nf nf] 40)))
    have A1_2 := Lib.hid (cells_new' (w.alloc (.cells #[.int .i64 P, .int .i64 D, .slice (some ⟨a0, oa, none⟩) n n] 28)) #[.int .i64 P1, .int .i64 R1, .int .i64 C1, .slice (some ⟨f0, fo, none⟩) nf nf] 40 (w.heap.size + 1) (by simp))
    have E_3 := Lib.hid (((Ext.refl w).alloc (.cells #[.int .i64 P, .int .i64 D, .slice (some ⟨a0, oa, none⟩) n n] 28)).alloc (.cells #[.int .i64 P1, .int .i64 R1, .int .i64 C1, .slice (some ⟨f0, fo, none⟩) nf nf] 40))
    have lA0 := A0_1.out.1
    have qA00 := A0_1.out.2 0 _ rfl
    have qA01 := A0_1.out.2 1 _ rfl
    have qA02 := A0_1.out.2 2 _ rfl
    have lA1 := A1_2.out.1
    have qA10 := A1_2.out.2 0 _ rfl
    have qA11 := A1_2.out.2 1 _ rfl
    have qA12 := A1_2.out.2 2 _ rfl
    have qA13 := A1_2.out.2 3 _ rfl
    try simp only [World.size_alloc] at lA0 lA1
    go_wp2_with fail
    refine (wrap_impl P _ a0 oa n n l _ (HT.out.ext E_3.out) hm0 (Nat.le_refl _) (by unfold maxLen; omega)).mono ?_
    rintro e w_4 ⟨B, rfl, hb, hlo, h_4⟩
    clear lA0 qA00 qA01 qA02 lA1 qA10 qA11 qA12 qA13
    have A0_5 := Lib.hid (A0_1.out.ext h_4)
    clear A0_1
    have A1_6 := Lib.hid (A1_2.out.ext h_4)
    clear A1_2
    have E_7 := Lib.hid (E_3.out.trans h_4)
    clear E_3
    have B_8 := Lib.hid hb
    clear hb hlo
    rw [H0.out]
    have lA0 := A0_5.out.1
    have qA00 := A0_5.out.2 0 _ rfl
    have qA01 := A0_5.out.2 1 _ rfl
    have qA02 := A0_5.out.2 2 _ rfl
    have lA1 := A1_6.out.1
    have qA10 := A1_6.out.2 0 _ rfl
    have qA11 := A1_6.out.2 1 _ rfl
    have qA12 := A1_6.out.2 2 _ rfl
    have qA13 := A1_6.out.2 3 _ rfl
    try simp only [World.size_alloc] at lA0 lA1
    go_wp2
    go_ret
    exact ⟨ret_bool HF.out.symm, E_7.out⟩
  have H0 := Lib.hid h0
  rcases h1 : formB P D P1 R1 C1 fs with _ | _
  · have HF : Hid (q = false) := by rw [Hid, HA.out, h0, h1]; rfl
    have H1 := Lib.hid h1
    clear h0 h1 hT hX HA
    go_enter Try.func75, Try.ntmps75
    have A0_1 := Lib.hid ((cells_new' w #[.int .i64 P, .int .i64 D, .slice (some ⟨a0, oa, none⟩) n n] 28 (w.heap.size) (by simp)).ext ((Ext.refl _).alloc (.cells #[.int .i64 P1, .int .i64 R1, .int .i64 C1, .slice (some ⟨f0, fo, none⟩) nf nf] 40)))
    have A1_2 := Lib.hid (cells_new' (w.alloc (.cells #[.int .i64 P, .int .i64 D, .slice (some ⟨a0, oa, none⟩) n n] 28)) #[.int .i64 P1, .int .i64 R1, .int .i64 C1, .slice (some ⟨f0, fo, none⟩) nf nf] 40 (w.heap.size + 1) (by simp))
    have E_3 := Lib.hid (((Ext.refl w).alloc (.cells #[.int .i64 P, .int .i64 D, .slice (some ⟨a0, oa, none⟩) n n] 28)).alloc (.cells #[.int .i64 P1, .int .i64 R1, .int .i64 C1, .slice (some ⟨f0, fo, none⟩) nf nf] 40))
    have lA0 := A0_1.out.1
    have qA00 := A0_1.out.2 0 _ rfl
    have qA01 := A0_1.out.2 1 _ rfl
    have qA02 := A0_1.out.2 2 _ rfl
    have lA1 := A1_2.out.1
    have qA10 := A1_2.out.2 0 _ rfl
    have qA11 := A1_2.out.2 1 _ rfl
    have qA12 := A1_2.out.2 2 _ rfl
    have qA13 := A1_2.out.2 3 _ rfl
    try simp only [World.size_alloc] at lA0 lA1
    go_wp2_with fail
    refine (wrap_impl P _ a0 oa n n l _ (HT.out.ext E_3.out) hm0 (Nat.le_refl _) (by unfold maxLen; omega)).mono ?_
    rintro e w_4 ⟨B, rfl, hb, hlo, h_4⟩
    clear lA0 qA00 qA01 qA02 lA1 qA10 qA11 qA12 qA13
    have A0_5 := Lib.hid (A0_1.out.ext h_4)
    clear A0_1
    have A1_6 := Lib.hid (A1_2.out.ext h_4)
    clear A1_2
    have E_7 := Lib.hid (E_3.out.trans h_4)
    clear E_3
    have B_8 := Lib.hid hb
    clear hb hlo
    rw [H0.out]
    have lA0 := A0_5.out.1
    have qA00 := A0_5.out.2 0 _ rfl
    have qA01 := A0_5.out.2 1 _ rfl
    have qA02 := A0_5.out.2 2 _ rfl
    have lA1 := A1_6.out.1
    have qA10 := A1_6.out.2 0 _ rfl
    have qA11 := A1_6.out.2 1 _ rfl
    have qA12 := A1_6.out.2 2 _ rfl
    have qA13 := A1_6.out.2 3 _ rfl
    try simp only [World.size_alloc] at lA0 lA1
    go_wp2_with fail
    refine (hasSquare_impl _ _ _ _ _ B f0 fo nf _ fs _ B_8.out (HX.out.ext E_7.out) hmx).mono ?_
    rintro e w_9 ⟨rfl, h_9⟩
    clear lA0 qA00 qA01 qA02 lA1 qA10 qA11 qA12 qA13
    have A0_10 := Lib.hid (A0_5.out.ext h_9)
    clear A0_5
    have A1_11 := Lib.hid (A1_6.out.ext h_9)
    clear A1_6
    have B_12 := Lib.hid (B_8.out.ext h_9)
    clear B_8
    have E_13 := Lib.hid (E_7.out.trans h_9)
    clear E_7
    rw [H1.out]
    have lA0 := A0_10.out.1
    have qA00 := A0_10.out.2 0 _ rfl
    have qA01 := A0_10.out.2 1 _ rfl
    have qA02 := A0_10.out.2 2 _ rfl
    have lA1 := A1_11.out.1
    have qA10 := A1_11.out.2 0 _ rfl
    have qA11 := A1_11.out.2 1 _ rfl
    have qA12 := A1_11.out.2 2 _ rfl
    have qA13 := A1_11.out.2 3 _ rfl
    try simp only [World.size_alloc] at lA0 lA1
    go_wp2
    go_ret
    exact ⟨ret_bool HF.out.symm, E_13.out⟩
  have H1 := Lib.hid h1
  have HA2 : Hid (q = derB P D.toNat l fs) := by rw [Hid, HA.out, h0, h1]; rfl
  clear HA
  obtain ⟨D, rfl, hA⟩ := algB_parts h0 hT.1
  obtain ⟨rfl, rfl, rfl, hnf, hres⟩ := formB_parts h1 hX.1
  rw [Int.toNat_natCast] at HA2
  have hp := isP_lo hA.pr
  have hp2 := isP_hi hA.pr
  have hD := hA.dim
  have h27 : D * D ≤ 784 := Nat.mul_le_mul hD hD
  have h28 := cube28 hD
  have HNN := Lib.hid hA.len
  have HFQ : Hid (∀ w1, Ext w w1 → ∀ B, Cells w1 B [.int .i64 P1, .int .i64 D, .slice (some ⟨a0, oa, none⟩) n n] → Calls Try.prog 95 #[.pointer (some ⟨B, 0, none⟩), .agg #[.int .i64 P1, .int .i64 D, .int .i64 D, .slice (some ⟨f0, fo, none⟩) nf nf]] w1 fun e w' => ∃ a c, e = .returned (.slice a n c) ∧ Own w' w1.heap.size w'.heap.size a n (tripL P1 D fun i j k => gi (rdX P1 D l fs) ((i * D + j) * D + k) - gi (rdM P1 D l fs) ((i * D + j) * D + k) + gi (rdM P1 D l fs) ((j * D + i) * D + k)) ∧ Ext w1 w') := fun w1 h B hc => faultsOfMap_impl P1 D B a0 oa n f0 fo nf l fs w1 hc (hT.ext h) (hX.ext h) hD hA.len hnf hp hp2 hA.res hres
  have HTQ : Hid (decide (fzR (tripL P1 D fun i j k => gi (rdX P1 D l fs) ((i * D + j) * D + k) - gi (rdM P1 D l fs) ((i * D + j) * D + k) + gi (rdM P1 D l fs) ((j * D + i) * D + k)) < 0) = derB P1 D l fs) := der_trip
  clear hT hX hA hres h0 h1 hnf
  go_enter Try.func75, Try.ntmps75
  have A0_1 := Lib.hid ((cells_new' w #[.int .i64 P1, .int .i64 D, .slice (some ⟨a0, oa, none⟩) n n] 28 (w.heap.size) (by simp)).ext ((Ext.refl _).alloc (.cells #[.int .i64 P1, .int .i64 D, .int .i64 D, .slice (some ⟨f0, fo, none⟩) nf nf] 40)))
  have A1_2 := Lib.hid (cells_new' (w.alloc (.cells #[.int .i64 P1, .int .i64 D, .slice (some ⟨a0, oa, none⟩) n n] 28)) #[.int .i64 P1, .int .i64 D, .int .i64 D, .slice (some ⟨f0, fo, none⟩) nf nf] 40 (w.heap.size + 1) (by simp))
  have E_3 := Lib.hid (((Ext.refl w).alloc (.cells #[.int .i64 P1, .int .i64 D, .slice (some ⟨a0, oa, none⟩) n n] 28)).alloc (.cells #[.int .i64 P1, .int .i64 D, .int .i64 D, .slice (some ⟨f0, fo, none⟩) nf nf] 40))
  have lA0 := A0_1.out.1
  have qA00 := A0_1.out.2 0 _ rfl
  have qA01 := A0_1.out.2 1 _ rfl
  have qA02 := A0_1.out.2 2 _ rfl
  have lA1 := A1_2.out.1
  have qA10 := A1_2.out.2 0 _ rfl
  have qA11 := A1_2.out.2 1 _ rfl
  have qA12 := A1_2.out.2 2 _ rfl
  have qA13 := A1_2.out.2 3 _ rfl
  try simp only [World.size_alloc] at lA0 lA1
  go_wp2_with fail
  refine (wrap_impl P1 _ a0 oa n n l _ (HT.out.ext E_3.out) hm0 (Nat.le_refl _) (by unfold maxLen; omega)).mono ?_
  rintro e w_4 ⟨B, rfl, hb, hlo, h_4⟩
  clear lA0 qA00 qA01 qA02 lA1 qA10 qA11 qA12 qA13
  have A0_5 := Lib.hid (A0_1.out.ext h_4)
  clear A0_1
  have A1_6 := Lib.hid (A1_2.out.ext h_4)
  clear A1_2
  have E_7 := Lib.hid (E_3.out.trans h_4)
  clear E_3
  have B_8 := Lib.hid hb
  clear hb hlo
  rw [H0.out]
  have lA0 := A0_5.out.1
  have qA00 := A0_5.out.2 0 _ rfl
  have qA01 := A0_5.out.2 1 _ rfl
  have qA02 := A0_5.out.2 2 _ rfl
  have lA1 := A1_6.out.1
  have qA10 := A1_6.out.2 0 _ rfl
  have qA11 := A1_6.out.2 1 _ rfl
  have qA12 := A1_6.out.2 2 _ rfl
  have qA13 := A1_6.out.2 3 _ rfl
  try simp only [World.size_alloc] at lA0 lA1
  go_wp2_with fail
  refine (hasSquare_impl _ _ _ _ _ B f0 fo nf _ fs _ B_8.out (HX.out.ext E_7.out) hmx).mono ?_
  rintro e w_9 ⟨rfl, h_9⟩
  clear lA0 qA00 qA01 qA02 lA1 qA10 qA11 qA12 qA13
  have A0_10 := Lib.hid (A0_5.out.ext h_9)
  clear A0_5
  have A1_11 := Lib.hid (A1_6.out.ext h_9)
  clear A1_6
  have B_12 := Lib.hid (B_8.out.ext h_9)
  clear B_8
  have E_13 := Lib.hid (E_7.out.trans h_9)
  clear E_7
  rw [H1.out]
  have lA0 := A0_10.out.1
  have qA00 := A0_10.out.2 0 _ rfl
  have qA01 := A0_10.out.2 1 _ rfl
  have qA02 := A0_10.out.2 2 _ rfl
  have lA1 := A1_11.out.1
  have qA10 := A1_11.out.2 0 _ rfl
  have qA11 := A1_11.out.2 1 _ rfl
  have qA12 := A1_11.out.2 2 _ rfl
  have qA13 := A1_11.out.2 3 _ rfl
  try simp only [World.size_alloc] at lA0 lA1
  go_wp2_with fail
  clear lA0 qA00 qA01 qA02 lA1 qA10 qA11 qA12 qA13
  refine (HFQ.out _ E_13.out _ B_12.out).mono ?_
  rintro e w9 ⟨a, c, rfl, ho, h9⟩
  have HFN : Hid (Calls Try.prog 152 #[.slice a n c] w9 fun e w' => e = .returned (.int .i64 (fzR (tripL P1 D fun i j k => gi (rdX P1 D l fs) ((i * D + j) * D + k) - gi (rdM P1 D l fs) ((i * D + j) * D + k) + gi (rdM P1 D l fs) ((j * D + i) * D + k)))) ∧ w9 = w') := firstNonzero_impl a n c _ w9 ho.reads (by have := HNN.out; unfold maxLen; omega)
  have E9 := Lib.hid (E_13.out.trans h9)
  clear ho h9
  obtain ⟨fz, hfz⟩ : ∃ z, fzR (tripL P1 D fun i j k => gi (rdX P1 D l fs) ((i * D + j) * D + k) - gi (rdM P1 D l fs) ((i * D + j) * D + k) + gi (rdM P1 D l fs) ((j * D + i) * D + k)) = z := ⟨_, rfl⟩
  rw [hfz] at HFN HTQ
  clear hfz
  rcases hz : decide (fz < 0) with _ | _
  all_goals
    have HF : Hid (q = decide (fz < 0)) := HA2.out.trans HTQ.out.symm
    rw [hz] at HF
    go_wp2_with fail
    refine HFN.out.mono ?_
    rintro e w' ⟨rfl, rfl⟩
    go_wp2
    go_ret
    exact ⟨ret_bool HF.out.symm, E9.out⟩
end Go.Proofs.Ytapaopapgnfdkaa
