/-
  What every frame of this program asks.
-/
import Derived.Test.YtoaioijgmbhhnaaDoorRows
import Derived.Test.YtoaioijgmbhhnaaDoorWords
import Derived.LaidMore
import Derived.OpenShut
import Derived.ChangeOld
import Derived.Stop.Joined
namespace Go.Proofs.YtoaioijgmbhhnaaDoor
open Go.RowKit Go.ChangeShapes Go.WideShapes Go.ChangeAt

theorem own : ownKnob Tryd.prog.godebug = none := by kernel_rfl
theorem laidOut : laidOutB Tryd.prog = true := by kernel_rfl
theorem cells_u8 : Tryd.prog.cellsOf 5 = 1 := by kernel_rfl
end Go.Proofs.YtoaioijgmbhhnaaDoor
