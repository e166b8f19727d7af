/-
  What the laid variables give the walks, where a row lists the errors that point tells, beside the tables of sums.
-/
import Derived.Test.YtfjanenooembkaaDoorQ3
import Derived.Test.YtfjanenooembkaaDoorQ1
import Derived.Test.YtfjanenooembkaaDoorQ8
import Derived.LaidLaws
import Derived.Stop.ErrReads
namespace Go.Proofs.YtfjanenooembkaaDoor
open Go.RowKit Crc Go.ChangeShapes Go.WideShapes Go.ChangeAt

def laidP : List (String × DataW Unit) := [("cordwood/api.ErrEnd", Rows.laid_cordwood_api_ErrEnd), ("cordwood/api.ErrSum", Rows.laid_cordwood_api_ErrSum), ("cordwood/api.ErrRange", Rows.laid_cordwood_api_ErrRange), ("cordwood/api.ErrName", Rows.laid_cordwood_api_ErrName), ("cordwood/api.ErrNone", Rows.laid_cordwood_api_ErrNone), ("cordwood/api.ErrThere", Rows.laid_cordwood_api_ErrThere), ("cordwood/api.ErrFull", Rows.laid_cordwood_api_ErrFull), ("cordwood/api.ErrCrash", Rows.laid_cordwood_api_ErrCrash), ("cordwood/crc.lowHalf", Rows.laid_cordwood_crc_lowHalf), ("cordwood/crc.highHalf", Rows.laid_cordwood_crc_highHalf)]
theorem sents_of_p {W : World} (h : laidMetH Tryd.prog laidP W) : ∃ p, SentsP W p := by
  have h2 := h.filter (fun x => x.1 != "cordwood/crc.lowHalf" && x.1 != "cordwood/crc.highHalf")
  rw [MakeChecks.laidMetH_plain _ _ _ (by kernel_rfl)] at h2
  obtain ⟨p, hp⟩ := sents_of_js (W := W) [0, 1, 4, 5, 6, 7, 8, 9] (by decide) h2
  exact ⟨p, hp.mono fun j hj => by simp; omega⟩
theorem tabs_of_p {W : World} (h : laidMetH Tryd.prog laidP W) : Tabs W := by
  have h2 := h.filter (fun x => x.1 == "cordwood/crc.lowHalf" || x.1 == "cordwood/crc.highHalf")
  exact tabs_of_laid h2
theorem door_met_p (os : Os) (args : Array Value) : laidMetH Tryd.prog laidP ((World.doorLaid Tryd.prog 400 os).forCall (fun _ _ => 0) ⟨#[], args, []⟩).memory :=
  laidMetH_of_parts3 (fuel := 8) (laidMet_of_run' 8 (by kernel_rfl) (by kernel_rfl)) (by kernel_rfl) (by kernel_rfl)
end Go.Proofs.YtfjanenooembkaaDoor
