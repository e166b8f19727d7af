/-
  The walk through VintBack: a number's bytes are read as it, whatever stands behind; cut off they end too early.
-/
import Derived.Test.YtoaioijgmbhhnaaDoorVGet
import Derived.Test.YtoaioijgmbhhnaaDoorVint
import Derived.Test.YtoaioijgmbhhnaaDoorHSame
import Derived.Test.YtoaioijgmbhhnaaDoorIs
namespace Go.Proofs.YtoaioijgmbhhnaaDoor
open Go.RowKit

end Go.Proofs.YtoaioijgmbhhnaaDoor
