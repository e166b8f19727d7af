/-
  Package name: objects' names read back.
-/
import Derived.Test.YtnnobfdpbdkceaaDoorNsQ
namespace Go.Proofs.YtnnobfdpbdkceaaDoor
open Go.RowKit Go.Shelf

end Go.Proofs.YtnnobfdpbdkceaaDoor
