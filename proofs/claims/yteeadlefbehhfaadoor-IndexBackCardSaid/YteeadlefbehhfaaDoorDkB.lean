/-
  What stands ahead of a disk's calls: the power, the file of a name, whether a name may be.
-/
import Derived.Test.YteeadlefbehhfaaDoorDkH
import Derived.Test.YteeadlefbehhfaaDoorErrors
import Derived.Test.YteeadlefbehhfaaDoorIs
namespace Go.Proofs.YteeadlefbehhfaaDoor
open Go.RowKit Go.Maps

/-- An error that is nil, or one of the package's. -/
def errR (p : Nat → Addr) : Option Nat → Value
  | none => .nilIface
  | some j => errV (p j)
/-- The errors that a disk tells. -/
abbrev SentsD (w : World) (p : Nat → Addr) : Prop := SentsOn (fun j => 4 ≤ j ∧ j ≤ 9) w p
theorem SentsD.c9 {w : World} {p : Nat → Addr} (h : SentsD w p) : w.cell? ⟨11, 0, none⟩ = some (errV (p 9)) := h.cell 9 (by omega)
theorem SentsD.c8 {w : World} {p : Nat → Addr} (h : SentsD w p) : w.cell? ⟨10, 0, none⟩ = some (errV (p 8)) := h.cell 8 (by omega)
theorem SentsD.c7 {w : World} {p : Nat → Addr} (h : SentsD w p) : w.cell? ⟨9, 0, none⟩ = some (errV (p 7)) := h.cell 7 (by omega)
theorem SentsD.c6 {w : World} {p : Nat → Addr} (h : SentsD w p) : w.cell? ⟨8, 0, none⟩ = some (errV (p 6)) := h.cell 6 (by omega)
theorem SentsD.c5 {w : World} {p : Nat → Addr} (h : SentsD w p) : w.cell? ⟨7, 0, none⟩ = some (errV (p 5)) := h.cell 5 (by omega)
theorem SentsD.c4 {w : World} {p : Nat → Addr} (h : SentsD w p) : w.cell? ⟨1, 0, none⟩ = some (errV (p 4)) := h.cell 4 (by omega)

theorem box_cell {w : World} {b : Nat} {c : Array Value} {t : TypeId} {fz : Nat × Nat} (h : w.heap[b]? = some (.cells c t fz)) (k : Nat) : w.cell? ⟨b, k, none⟩ = c[k]? := by simp [World.cell?, h]
theorem box_free {w : World} {b : Nat} {c : Array Value} {t : TypeId} (h : w.heap[b]? = some (.cells c t (0, 0))) (k : Nat) : w.frozen? ⟨b, k, none⟩ = false := by simp [World.frozen?, h]

end Go.Proofs.YteeadlefbehhfaaDoor
