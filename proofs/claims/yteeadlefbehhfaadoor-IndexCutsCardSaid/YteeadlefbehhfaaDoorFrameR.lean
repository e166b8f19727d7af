/-
  What the laid error gives the walks, where a row lists ErrRange alone.
-/
import Derived.Test.YteeadlefbehhfaaDoorFrameX
import Derived.Test.YteeadlefbehhfaaDoorIxS
namespace Go.Proofs.YteeadlefbehhfaaDoor
open Go.RowKit Go.ChangeShapes Go.WideShapes Go.ChangeAt

def laidR : List (String × DataW Unit) := [("cordwood/api.ErrRange", Rows.laid_cordwood_api_ErrRange)]
theorem sents_of_r {W : World} (h : laidMetH Tryd.prog laidR W) : ∃ p, Sent4 W p := by
  rw [MakeChecks.laidMetH_plain _ _ _ (by kernel_rfl)] at h
  obtain ⟨p, hp⟩ := sents_of_js (W := W) [4] (by decide) h
  exact ⟨p, hp.mono fun j hj => by simp; omega⟩
theorem door_met_r (os : Os) (args : Array Value) : laidMetH Tryd.prog laidR ((World.doorLaid Tryd.prog 400 os).forCall (fun _ _ => 0) ⟨#[], args, []⟩).memory :=
  laidMetH_of_parts3 (fuel := 8) (laidMet_of_run' 8 (by kernel_rfl) (by kernel_rfl)) (by kernel_rfl) (by kernel_rfl)
end Go.Proofs.YteeadlefbehhfaaDoor
