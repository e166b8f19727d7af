/-
  The call of a disk that cuts a file: Cut.
-/
import Derived.Test.YtnjcngmmgceijaaDoorDkN
namespace Go.Proofs.YtnjcngmmgceijaaDoor
open Go.RowKit Go.Maps

end Go.Proofs.YtnjcngmmgceijaaDoor
