/-
  The two tables of sums, where memory of the call's own is made.
-/
import Derived.Test.YthemdcdgiccjkaaDoorFirst
import Derived.Test.YthemdcdgiccjkaaDoorOwnB
namespace Go.Proofs.YthemdcdgiccjkaaDoor
open Go.RowKit Crc

/-- (Till round 2 it asked '4 ≤ C': where the tables lay in that seat.) -/
theorem Tabs.below {w w' : World} {C : Nat} (h : Tabs w) (hb : Below C w w') (hC : w.heap.size ≤ C) : Tabs w' :=
  ⟨fun y => (hb.cell (Nat.lt_of_lt_of_le h.lt.1 hC)).trans (h.lo y), fun y => (hb.cell (Nat.lt_of_lt_of_le h.lt.2 hC)).trans (h.hi y)⟩
end Go.Proofs.YthemdcdgiccjkaaDoor
