/-
  What the laid errors give the walks, where a row lists those of a disk alone.
-/
import Derived.Test.YtnjcngmmgceijaaDoorFrameX
import Derived.Test.YtnjcngmmgceijaaDoorDkB
namespace Go.Proofs.YtnjcngmmgceijaaDoor
open Go.RowKit Go.ChangeShapes Go.WideShapes Go.ChangeAt

def laidD : List (String × DataW Unit) := [("cordwood/api.ErrRange", Rows.laid_cordwood_api_ErrRange), ("cordwood/api.ErrName", Rows.laid_cordwood_api_ErrName), ("cordwood/api.ErrNone", Rows.laid_cordwood_api_ErrNone), ("cordwood/api.ErrThere", Rows.laid_cordwood_api_ErrThere), ("cordwood/api.ErrFull", Rows.laid_cordwood_api_ErrFull), ("cordwood/api.ErrCrash", Rows.laid_cordwood_api_ErrCrash)]
theorem sents_of_d {W : World} (h : laidMetH Tryd.prog laidD W) : ∃ p, SentsD W p := by
  rw [MakeChecks.laidMetH_plain _ _ _ (by kernel_rfl)] at h
  obtain ⟨p, hp⟩ := sents_of_js (W := W) [4, 5, 6, 7, 8, 9] (by decide) h
  exact ⟨p, hp.mono fun j hj => by simp; omega⟩
theorem door_met_d (os : Os) (args : Array Value) : laidMetH Tryd.prog laidD ((World.doorLaid Tryd.prog 400 os).forCall (fun _ _ => 0) ⟨#[], args, []⟩).memory :=
  laidMetH_of_parts3 (fuel := 8) (laidMet_of_run' 8 (by kernel_rfl) (by kernel_rfl)) (by kernel_rfl) (by kernel_rfl)
end Go.Proofs.YtnjcngmmgceijaaDoor
