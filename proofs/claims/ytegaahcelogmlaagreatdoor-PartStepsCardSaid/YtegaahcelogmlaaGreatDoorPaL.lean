/-
  PartLost, walked.
-/
import Derived.Test.YtegaahcelogmlaaGreatDoorW1
namespace Go.Proofs.YtegaahcelogmlaaGreatDoor
open Go.RowKit Go.Maps

theorem o_valid : Dk.valid [111] = true := by decide

end Go.Proofs.YtegaahcelogmlaaGreatDoor
