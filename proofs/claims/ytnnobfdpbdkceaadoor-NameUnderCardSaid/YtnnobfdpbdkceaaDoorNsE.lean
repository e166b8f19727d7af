/-
  What a laid error of errors.New gives: the variable holds a pointer to its text.
-/
import Derived.Test.YtnnobfdpbdkceaaDoorFrame0
import Derived.Test.YtnnobfdpbdkceaaDoorCards
import Derived.Test.YtnnobfdpbdkceaaDoorTie
import Derived.LaidLaws
import Derived.LaidMore
import Derived.LaidEqlPtr
import Derived.OpenShut
import Derived.ChangeOld
import Derived.Stop.Joined
import Derived.Stop.ErrReads
namespace Go.Proofs.YtnnobfdpbdkceaaDoor
open Go.RowKit Go.ChangeShapes Go.WideShapes Go.ChangeAt

theorem es_star : "*" ++ "errors.errorString" = "*errors.errorString" := by decide
theorem str_cells : Tryd.prog.cellsOf 9 = 1 := by kernel_rfl

/-- An error's datum. -/
def sentD (txt : List UInt8) : DataW Unit := .iface "*errors.errorString" (.ptr (.agg [.lit (.string txt)]))
def placeOf (a : Addr) : MemPlace := .cell a.block a.off

end Go.Proofs.YtnnobfdpbdkceaaDoor
