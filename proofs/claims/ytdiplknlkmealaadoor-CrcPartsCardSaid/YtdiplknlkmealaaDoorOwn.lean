/-
  The two tables of sums, where memory of the call's own is made.
-/
import Derived.Test.YtdiplknlkmealaaDoorFirst
import Derived.Test.YtdiplknlkmealaaDoorOwnB
namespace Go.Proofs.YtdiplknlkmealaaDoor
open Go.RowKit Crc

theorem Tabs.below {w w' : World} {C : Nat} (h : Tabs w) (hb : Below C w w') (hC : 4 ≤ C) : Tabs w' :=
  ⟨fun y => (hb.cell (by show 2 < C; omega)).trans (h.lo y), fun y => (hb.cell (by show 3 < C; omega)).trans (h.hi y)⟩
end Go.Proofs.YtdiplknlkmealaaDoor
