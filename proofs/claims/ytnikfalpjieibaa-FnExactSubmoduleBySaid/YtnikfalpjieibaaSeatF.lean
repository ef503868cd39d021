/-
  Facts on the whole program of this seat, asked once for all of its laws.
-/
import Derived.Test.YtnikfalpjieibaaFr
namespace Go.Proofs.Ytnikfalpjieibaa
theorem and2 {a b : Bool} (h : a = true) (h' : b = true) : (a && b) = true := by rw [h, h']; rfl
set_option maxRecDepth 1000000 in
set_option maxHeartbeats 40000000 in
theorem seat_laid : laidOutB Try.pinned.checked.prog = true := by kernel_rfl
set_option maxRecDepth 1000000 in
set_option maxHeartbeats 40000000 in
theorem seat_maps : mapsRowed Try.pinned.checked.prog = true := by kernel_rfl
set_option maxRecDepth 1000000 in
set_option maxHeartbeats 40000000 in
theorem seat_heard : Try.pinned.checked.prog.stopsHeard = true := by kernel_rfl
set_option maxRecDepth 1000000 in
set_option maxHeartbeats 40000000 in
theorem seat_enter : Try.pinned.checked.prog.mayEnter = true := by kernel_rfl
set_option maxRecDepth 1000000 in
set_option maxHeartbeats 40000000 in
theorem seat_lifts0 : (Rows.fnExactIsModuleRow.lifted == Try.pinned.checked.prog.liftsFinal) = true := by kernel_rfl
theorem seat_lifts {x} (h : x = Rows.fnExactIsModuleRow.lifted) : (x == Try.pinned.checked.prog.liftsFinal) = true := h ▸ seat_lifts0
set_option maxRecDepth 1000000 in
set_option maxHeartbeats 40000000 in
theorem seat_plain0 : (Rows.fnExactIsModuleRow.plainKeys == Try.pinned.checked.prog.plainKeys) = true := by kernel_rfl
theorem seat_plain {x} (h : x = Rows.fnExactIsModuleRow.plainKeys) : (x == Try.pinned.checked.prog.plainKeys) = true := h ▸ seat_plain0
set_option maxRecDepth 1000000 in
set_option maxHeartbeats 40000000 in
theorem seat_make0 : (Try.pinned.checked.prog.make == some Rows.fnExactIsModuleRow.make) = true := by kernel_rfl
theorem seat_make {x} (h : x = Rows.fnExactIsModuleRow.make) : (Try.pinned.checked.prog.make == some x) = true := h ▸ seat_make0
end Go.Proofs.Ytnikfalpjieibaa
