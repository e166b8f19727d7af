/-
  What the laid variables give the walks, where a row lists all errors, the tables of sums and of powers of ten.
-/
import Derived.Test.YtfdppggdgdnnaaaGreatDoorZ22
namespace Go.Proofs.YtfdppggdgdnnaaaGreatDoor
open Go.RowKit Crc Go.ChangeShapes Go.WideShapes Go.ChangeAt

def laidH : List (String × DataW Unit) := [("math/bits.deBruijn32tab", Rows.laid_math_bits_deBruijn32tab), ("math/bits.deBruijn64tab", Rows.laid_math_bits_deBruijn64tab), ("internal/strconv.uint64pow10", Rows.laid_internal_strconv_uint64pow10), ("cordwood/api.ErrEnd", Rows.laid_cordwood_api_ErrEnd), ("cordwood/api.ErrSum", Rows.laid_cordwood_api_ErrSum), ("cordwood/api.ErrShape", Rows.laid_cordwood_api_ErrShape), ("cordwood/api.ErrMany", Rows.laid_cordwood_api_ErrMany), ("cordwood/api.ErrRange", Rows.laid_cordwood_api_ErrRange), ("cordwood/api.ErrName", Rows.laid_cordwood_api_ErrName), ("cordwood/api.ErrNone", Rows.laid_cordwood_api_ErrNone), ("cordwood/api.ErrThere", Rows.laid_cordwood_api_ErrThere), ("cordwood/api.ErrFull", Rows.laid_cordwood_api_ErrFull), ("cordwood/api.ErrCrash", Rows.laid_cordwood_api_ErrCrash), ("cordwood/api.ErrStore", Rows.laid_cordwood_api_ErrStore), ("cordwood/api.ErrKind", Rows.laid_cordwood_api_ErrKind), ("cordwood/api.ErrState", Rows.laid_cordwood_api_ErrState), ("cordwood/api.ErrFenced", Rows.laid_cordwood_api_ErrFenced), ("cordwood/api.ErrOutside", Rows.laid_cordwood_api_ErrOutside), ("cordwood/api.ErrUnavail", Rows.laid_cordwood_api_ErrUnavail), ("cordwood/api.ErrWord", Rows.laid_cordwood_api_ErrWord), ("cordwood/api.ErrNumber", Rows.laid_cordwood_api_ErrNumber), ("cordwood/api.ErrClosed", Rows.laid_cordwood_api_ErrClosed), ("cordwood/crc.lowHalf", Rows.laid_cordwood_crc_lowHalf), ("cordwood/crc.highHalf", Rows.laid_cordwood_crc_highHalf)]
theorem sents_of_h {W : World} (h : laidMetH Tryz.prog laidH W) : ∃ p, Sents W p := by
  have h2 := h.filter (fun x => !isTab x.1)
  rw [MakeChecks.laidMetH_plain _ _ _ (by kernel_rfl)] at h2
  obtain ⟨p, hp⟩ := sents_of_js (W := W) [0, 1, 2, 3, 4, 5, 6, 7, 8, 9, 10, 11, 12, 13, 14, 15, 16, 17, 18] (by decide) h2
  exact ⟨p, hp.mono fun j hj => by simp; omega⟩
theorem tabs_of_h {W : World} (h : laidMetH Tryz.prog laidH W) : Tabs W := by
  have h2 := h.filter (fun x => x.1 == "cordwood/crc.lowHalf" || x.1 == "cordwood/crc.highHalf")
  exact tabs_of_laid h2
theorem pow_of_h {W : World} (h : laidMetH Tryz.prog laidH W) : PowTab W := pow_of_laid h rfl
theorem door_met_h (os : Os) (args : Array Value) : laidMetH Tryz.prog laidH ((World.doorLaid Tryz.prog 400 os).forCall (fun _ _ => 0) ⟨#[], args, []⟩).memory :=
  laidMetH_of_parts3 (fuel := 8) (laidMet_of_run' 8 (by kernel_rfl) (by kernel_rfl)) (by kernel_rfl) (by kernel_rfl)
end Go.Proofs.YtfdppggdgdnnaaaGreatDoor
