/-
  What the laid variables give the walks, where a row lists what a log in segments goes by: the errors it tells, or all of them, those of numbers in text, the tables.
-/
import Derived.Test.YtcmgppacipdnaaaGreatDoorQFrameA
import Derived.Test.YtcmgppacipdnaaaGreatDoorQFrameS
import Derived.Test.YtcmgppacipdnaaaGreatDoorQSgN
import Derived.LaidLaws
import Derived.Stop.ErrReads
import Derived.Lib.LaidTab
namespace Go.Proofs.YtcmgppacipdnaaaGreatDoor
open Go.RowKit Crc Go.ChangeShapes Go.WideShapes Go.ChangeAt

def isTab (s : String) : Bool := s == "math/bits.deBruijn32tab" || s == "math/bits.deBruijn64tab" || s == "internal/strconv.uint64pow10" || s == "cordwood/crc.lowHalf" || s == "cordwood/crc.highHalf"
theorem pow_of_laid {W : World} {L : List (String × DataW Unit)} (h : laidMetH Tryz.prog L W) (hL : L.filter (fun x => x.1 == "internal/strconv.uint64pow10") = [("internal/strconv.uint64pow10", Rows.laid_internal_strconv_uint64pow10)]) : PowTab W := by
  have h2 := h.filter (fun x => x.1 == "internal/strconv.uint64pow10")
  rw [hL, MakeChecks.laidMetH_plain _ _ _ (by kernel_rfl)] at h2
  have h3 : laidMet Tryz.prog [("internal/strconv.uint64pow10", Lib.tabData .u64 Lib.pow10Tab)] W := h2
  exact Lib.tabIs_of_head (g := 23) (t := 313) (e := 124) (n := 20) (by kernel_rfl) (by kernel_rfl) Tryz.underlying313 Tryz.underlying124 (by kernel_rfl) (by kernel_rfl) h3
def isOther (s : String) : Bool := isTab s || s == "strconv.ErrRange" || s == "strconv.ErrSyntax"
def laidM : List (String × DataW Unit) := [("math/bits.deBruijn32tab", Rows.laid_math_bits_deBruijn32tab), ("math/bits.deBruijn64tab", Rows.laid_math_bits_deBruijn64tab), ("internal/strconv.uint64pow10", Rows.laid_internal_strconv_uint64pow10), ("strconv.ErrRange", Rows.laid_strconv_ErrRange), ("strconv.ErrSyntax", Rows.laid_strconv_ErrSyntax), ("cordwood/api.ErrEnd", Rows.laid_cordwood_api_ErrEnd), ("cordwood/api.ErrSum", Rows.laid_cordwood_api_ErrSum), ("cordwood/api.ErrShape", Rows.laid_cordwood_api_ErrShape), ("cordwood/api.ErrMany", Rows.laid_cordwood_api_ErrMany), ("cordwood/api.ErrRange", Rows.laid_cordwood_api_ErrRange), ("cordwood/api.ErrName", Rows.laid_cordwood_api_ErrName), ("cordwood/api.ErrNone", Rows.laid_cordwood_api_ErrNone), ("cordwood/api.ErrThere", Rows.laid_cordwood_api_ErrThere), ("cordwood/api.ErrFull", Rows.laid_cordwood_api_ErrFull), ("cordwood/api.ErrCrash", Rows.laid_cordwood_api_ErrCrash), ("cordwood/api.ErrStore", Rows.laid_cordwood_api_ErrStore), ("cordwood/api.ErrKind", Rows.laid_cordwood_api_ErrKind), ("cordwood/api.ErrState", Rows.laid_cordwood_api_ErrState), ("cordwood/api.ErrFenced", Rows.laid_cordwood_api_ErrFenced), ("cordwood/api.ErrOutside", Rows.laid_cordwood_api_ErrOutside), ("cordwood/api.ErrUnavail", Rows.laid_cordwood_api_ErrUnavail), ("cordwood/api.ErrWord", Rows.laid_cordwood_api_ErrWord), ("cordwood/api.ErrNumber", Rows.laid_cordwood_api_ErrNumber), ("cordwood/api.ErrClosed", Rows.laid_cordwood_api_ErrClosed), ("cordwood/crc.lowHalf", Rows.laid_cordwood_crc_lowHalf), ("cordwood/crc.highHalf", Rows.laid_cordwood_crc_highHalf)]
theorem sents_of_m {W : World} (h : laidMetH Tryz.prog laidM W) : ∃ p, Sents W p := by
  have h2 := h.filter (fun x => !isOther x.1)
  rw [MakeChecks.laidMetH_plain _ _ _ (by kernel_rfl)] at h2
  obtain ⟨p, hp⟩ := sents_of_js (W := W) [0, 1, 2, 3, 4, 5, 6, 7, 8, 9, 10, 11, 12, 13, 14, 15, 16, 17, 18] (by decide) h2
  exact ⟨p, hp.mono fun j hj => by simp; omega⟩
theorem tabs_of_m {W : World} (h : laidMetH Tryz.prog laidM W) : Tabs W := by
  have h2 := h.filter (fun x => x.1 == "cordwood/crc.lowHalf" || x.1 == "cordwood/crc.highHalf")
  exact tabs_of_laid h2
theorem pow_of_m {W : World} (h : laidMetH Tryz.prog laidM W) : PowTab W := pow_of_laid h rfl
theorem door_met_m (os : Os) (args : Array Value) : laidMetH Tryz.prog laidM ((World.doorLaid Tryz.prog 2000 os).forCall (fun _ _ => 0) ⟨#[], args, []⟩).memory :=
  laidMetH_of_parts3 (fuel := 8) (laidMet_of_run' 8 (by kernel_rfl) (by kernel_rfl)) (by kernel_rfl) (by kernel_rfl)
theorem SentsK.g {W : World} {p : Nat → Addr} (h : SentsOn (fun j => j < 10 ∨ j = 12 ∨ j = 14) W p) : SentsG W p := h.mono fun j hj => by omega
theorem Sents.g {W : World} {p : Nat → Addr} (h : Sents W p) : SentsG W p := h.mono fun j hj => by omega
end Go.Proofs.YtcmgppacipdnaaaGreatDoor
