/-
  What the laid variables give the walks: the nineteen errors, each its own pointer, and the tables of sums.
-/
import Derived.Test.YtfjanenooembkaaDoorQ3
import Derived.Test.YtfjanenooembkaaDoorQ1
import Derived.LaidLaws
import Derived.Stop.ErrReads
namespace Go.Proofs.YtfjanenooembkaaDoor
open Go.RowKit Crc Go.ChangeShapes Go.WideShapes Go.ChangeAt

/-- All that the rows with errors list. -/
def laidAll : List (String × DataW Unit) := [("cordwood/api.ErrEnd", Rows.laid_cordwood_api_ErrEnd), ("cordwood/api.ErrSum", Rows.laid_cordwood_api_ErrSum), ("cordwood/api.ErrShape", Rows.laid_cordwood_api_ErrShape), ("cordwood/api.ErrMany", Rows.laid_cordwood_api_ErrMany), ("cordwood/api.ErrRange", Rows.laid_cordwood_api_ErrRange), ("cordwood/api.ErrName", Rows.laid_cordwood_api_ErrName), ("cordwood/api.ErrNone", Rows.laid_cordwood_api_ErrNone), ("cordwood/api.ErrThere", Rows.laid_cordwood_api_ErrThere), ("cordwood/api.ErrFull", Rows.laid_cordwood_api_ErrFull), ("cordwood/api.ErrCrash", Rows.laid_cordwood_api_ErrCrash), ("cordwood/api.ErrStore", Rows.laid_cordwood_api_ErrStore), ("cordwood/api.ErrKind", Rows.laid_cordwood_api_ErrKind), ("cordwood/api.ErrState", Rows.laid_cordwood_api_ErrState), ("cordwood/api.ErrFenced", Rows.laid_cordwood_api_ErrFenced), ("cordwood/api.ErrOutside", Rows.laid_cordwood_api_ErrOutside), ("cordwood/api.ErrUnavail", Rows.laid_cordwood_api_ErrUnavail), ("cordwood/api.ErrWord", Rows.laid_cordwood_api_ErrWord), ("cordwood/api.ErrNumber", Rows.laid_cordwood_api_ErrNumber), ("cordwood/api.ErrClosed", Rows.laid_cordwood_api_ErrClosed), ("cordwood/crc.lowHalf", Rows.laid_cordwood_crc_lowHalf), ("cordwood/crc.highHalf", Rows.laid_cordwood_crc_highHalf)]

theorem sents_of_laid {W : World} (h : laidMetH Tryd.prog laidAll W) : ∃ p, Sents W p := by
  have h2 := h.filter (fun x => x.1 != "cordwood/crc.lowHalf" && x.1 != "cordwood/crc.highHalf")
  rw [MakeChecks.laidMetH_plain _ _ _ (by kernel_rfl)] at h2
  exact sents_of_met h2
theorem tabs_of_all {W : World} (h : laidMetH Tryd.prog laidAll W) : Tabs W := by
  have h2 := h.filter (fun x => x.1 == "cordwood/crc.lowHalf" || x.1 == "cordwood/crc.highHalf")
  exact tabs_of_laid h2
theorem door_met_all (os : Os) (args : Array Value) : laidMetH Tryd.prog laidAll ((World.doorLaid Tryd.prog 400 os).forCall (fun _ _ => 0) ⟨#[], args, []⟩).memory :=
  laidMetH_of_parts3 (fuel := 8) (laidMet_of_run' 8 (by kernel_rfl) (by kernel_rfl)) (by kernel_rfl) (by kernel_rfl)
end Go.Proofs.YtfjanenooembkaaDoor
