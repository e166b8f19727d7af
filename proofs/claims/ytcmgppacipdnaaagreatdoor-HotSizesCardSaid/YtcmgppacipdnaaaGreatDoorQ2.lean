/-
  What every frame of this program asks.
-/
import Derived.Test.YtcmgppacipdnaaaGreatDoorRows
import Derived.Test.YtcmgppacipdnaaaGreatDoorQ0
import Derived.LaidMore
import Derived.OpenShut
import Derived.ChangeOld
import Derived.Stop.Joined
namespace Go.Proofs.YtcmgppacipdnaaaGreatDoor
open Go.RowKit Go.ChangeShapes Go.WideShapes Go.ChangeAt

theorem own : ownKnob Tryz.prog.godebug = none := by kernel_rfl
theorem laidOut : laidOutB Tryz.prog = true := by kernel_rfl
end Go.Proofs.YtcmgppacipdnaaaGreatDoor
