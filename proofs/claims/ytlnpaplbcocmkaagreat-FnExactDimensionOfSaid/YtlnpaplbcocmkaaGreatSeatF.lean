/-
  Facts on the whole program of this seat, asked once for all of its laws.
-/
import Derived.Test.YtlnpaplbcocmkaaGreatFr
namespace Go.Proofs.YtlnpaplbcocmkaaGreat
theorem and2 {a b : Bool} (h : a = true) (h' : b = true) : (a && b) = true := by rw [h, h']; rfl
set_option maxRecDepth 1000000 in
set_option maxHeartbeats 40000000 in
theorem seat_laid : laidOutB Tryz.pinned.checked.prog = true := by kernel_rfl
set_option maxRecDepth 1000000 in
set_option maxHeartbeats 40000000 in
theorem seat_maps : mapsRowed Tryz.pinned.checked.prog = true := by kernel_rfl
set_option maxRecDepth 1000000 in
set_option maxHeartbeats 40000000 in
theorem seat_heard : Tryz.pinned.checked.prog.stopsHeard = true := by kernel_rfl
set_option maxRecDepth 1000000 in
set_option maxHeartbeats 40000000 in
theorem seat_enter : Tryz.pinned.checked.prog.mayEnter = true := by kernel_rfl
set_option maxRecDepth 1000000 in
set_option maxHeartbeats 40000000 in
theorem seat_lifts0 : (Rows.fnExactWeylOrderRow.lifted == Tryz.pinned.checked.prog.liftsFinal) = true := by kernel_rfl
theorem seat_lifts {x} (h : x = Rows.fnExactWeylOrderRow.lifted) : (x == Tryz.pinned.checked.prog.liftsFinal) = true := h ▸ seat_lifts0
set_option maxRecDepth 1000000 in
set_option maxHeartbeats 40000000 in
theorem seat_plain0 : (Rows.fnExactWeylOrderRow.plainKeys == Tryz.pinned.checked.prog.plainKeys) = true := by kernel_rfl
theorem seat_plain {x} (h : x = Rows.fnExactWeylOrderRow.plainKeys) : (x == Tryz.pinned.checked.prog.plainKeys) = true := h ▸ seat_plain0
set_option maxRecDepth 1000000 in
set_option maxHeartbeats 40000000 in
theorem seat_make0 : (Tryz.pinned.checked.prog.make == some Rows.fnExactWeylOrderRow.make) = true := by kernel_rfl
theorem seat_make {x} (h : x = Rows.fnExactWeylOrderRow.make) : (Tryz.pinned.checked.prog.make == some x) = true := h ▸ seat_make0
end Go.Proofs.YtlnpaplbcocmkaaGreat
