/-
  What the laid variables give the walks, where a row lists the errors that an index's Read tells, beside the tables of sums.
-/
import Derived.Test.YteeadlefbehhfaaDoorFrameA
import Derived.Test.YteeadlefbehhfaaDoorFrameS
import Derived.Test.YteeadlefbehhfaaDoorIxRm
import Derived.LaidLaws
import Derived.Stop.ErrReads
namespace Go.Proofs.YteeadlefbehhfaaDoor
open Go.RowKit Crc Go.ChangeShapes Go.WideShapes Go.ChangeAt

def laidFour : List (String × DataW Unit) := [("cordwood/api.ErrEnd", Rows.laid_cordwood_api_ErrEnd), ("cordwood/api.ErrSum", Rows.laid_cordwood_api_ErrSum), ("cordwood/api.ErrShape", Rows.laid_cordwood_api_ErrShape), ("cordwood/api.ErrRange", Rows.laid_cordwood_api_ErrRange), ("cordwood/crc.lowHalf", Rows.laid_cordwood_crc_lowHalf), ("cordwood/crc.highHalf", Rows.laid_cordwood_crc_highHalf)]
theorem sents_of_four {W : World} (h : laidMetH Tryd.prog laidFour W) : ∃ p, SentsI W p := by
  have h2 := h.filter (fun x => x.1 != "cordwood/crc.lowHalf" && x.1 != "cordwood/crc.highHalf")
  rw [MakeChecks.laidMetH_plain _ _ _ (by kernel_rfl)] at h2
  obtain ⟨p, hp⟩ := sents_of_js (W := W) [0, 1, 2, 4] (by decide) h2
  exact ⟨p, hp.mono fun j hj => by simp; omega⟩
theorem tabs_of_four {W : World} (h : laidMetH Tryd.prog laidFour W) : Tabs W := by
  have h2 := h.filter (fun x => x.1 == "cordwood/crc.lowHalf" || x.1 == "cordwood/crc.highHalf")
  exact tabs_of_laid h2
theorem door_met_four (os : Os) (args : Array Value) : laidMetH Tryd.prog laidFour ((World.doorLaid Tryd.prog 400 os).forCall (fun _ _ => 0) ⟨#[], args, []⟩).memory :=
  laidMetH_of_parts3 (fuel := 8) (laidMet_of_run' 8 (by kernel_rfl) (by kernel_rfl)) (by kernel_rfl) (by kernel_rfl)
end Go.Proofs.YteeadlefbehhfaaDoor
