/-
  The reference's copy of bytes, and its equality of bytes.
-/
import Derived.Test.YtdiplknlkmealaaDoorRows7
import Derived.Test.YtdiplknlkmealaaDoorErrors
import Derived.Test.YtdiplknlkmealaaDoorHBytes
