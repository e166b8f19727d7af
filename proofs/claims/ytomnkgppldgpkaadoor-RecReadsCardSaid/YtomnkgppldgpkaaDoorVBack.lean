/-
  The walk through VintBack: a number's bytes are read as it, whatever stands behind; cut off they end too early.
-/
import Derived.Test.YtomnkgppldgpkaaDoorVGet
import Derived.Test.YtomnkgppldgpkaaDoorVFirst
import Derived.Test.YtomnkgppldgpkaaDoorHSame
import Derived.Test.YtomnkgppldgpkaaDoorIs
namespace Go.Proofs.YtomnkgppldgpkaaDoor
open Go.RowKit

end Go.Proofs.YtomnkgppldgpkaaDoor
