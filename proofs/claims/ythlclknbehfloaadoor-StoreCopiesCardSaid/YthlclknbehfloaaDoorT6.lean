/-
  What the laid variables give the walks: the two short tables of sums, cell by cell.
  What the laid variables give the walks: the nineteen errors, each its own pointer, and the tables of sums.
-/
import Derived.Test.YthlclknbehfloaaDoorCards
import Derived.Test.YthlclknbehfloaaDoorTie
import Derived.Test.YthlclknbehfloaaDoorT5
import Derived.Test.YthlclknbehfloaaDoorT1
import Derived.Lib.LaidTab
import Derived.LaidMore
import Derived.OpenShut
import Derived.ChangeOld
import Derived.Stop.Joined
import Derived.Test.YthlclknbehfloaaDoorT2
import Derived.LaidLaws
import Derived.Stop.ErrReads
namespace Go.Proofs.YthlclknbehfloaaDoor
open Go.RowKit Crc Go.ChangeShapes Go.WideShapes Go.ChangeAt

theorem g_low : Tryd.prog.globalNamed "cordwood/crc.lowHalf" = some 4 := by kernel_rfl
theorem g_high : Tryd.prog.globalNamed "cordwood/crc.highHalf" = some 5 := by kernel_rfl
theorem ty_low : (Tryd.prog.globals[4]?).map (·.type) = some 104 := by kernel_rfl
theorem ty_high : (Tryd.prog.globals[5]?).map (·.type) = some 104 := by kernel_rfl
theorem cells_u32 : Tryd.prog.cellsOf 36 = 1 := by kernel_rfl
theorem cells_tab : Tryd.prog.cellsOf 104 = 16 := by kernel_rfl
/-- The two tables, as a row lists them. -/
def laidTabs : List (String × DataW Unit) := [("cordwood/crc.lowHalf", Rows.laid_cordwood_crc_lowHalf), ("cordwood/crc.highHalf", Rows.laid_cordwood_crc_highHalf)]
theorem low_data {H : Type} : (Rows.laid_cordwood_crc_lowHalf : DataW H) = Lib.tabData .u32 (lowT.map fun n : Nat => (n : Int)) := rfl
theorem high_data {H : Type} : (Rows.laid_cordwood_crc_highHalf : DataW H) = Lib.tabData .u32 (highT.map fun n : Nat => (n : Int)) := rfl
theorem low_lt : ∀ n ∈ lowT, n < 4294967296 := by decide
theorem high_lt : ∀ n ∈ highT, n < 4294967296 := by decide

theorem getD_cast (l : List Nat) (i : Nat) : (l.map fun n : Nat => (n : Int)).getD i 0 = ((l.getD i 0 : Nat) : Int) := by
  simp only [List.getD, List.getElem?_map]
  cases l[i]? <;> rfl
theorem tabs_of_low {W : World} (h : Lib.TabIs Tryd.prog W "cordwood/crc.lowHalf" .u32 (lowT.map fun n : Nat => (n : Int))) (y : UInt8) : W.cell? ⟨4, idx (y &&& 15), none⟩ = some (.int .u32 (U (low y))) := by
  have hi : idx (y &&& 15) < 16 := by unfold idx; rw [and15]; omega
  rw [h.cell g_low _ (by simpa [lowT] using hi)]
  congr 2
  have hlt : lowT.getD (y &&& 15).toNat 0 < 4294967296 := by
    have hl : (y &&& 15).toNat < lowT.length := hi
    simp only [List.getD, List.getElem?_eq_getElem hl, Option.getD_some]
    exact low_lt _ (List.getElem_mem hl)
  unfold U low idx
  rw [BitVec.toNat_ofNat, Nat.mod_eq_of_lt hlt]
  exact getD_cast _ _
theorem tabs_of_high {W : World} (h : Lib.TabIs Tryd.prog W "cordwood/crc.highHalf" .u32 (highT.map fun n : Nat => (n : Int))) (y : UInt8) : W.cell? ⟨5, idx (y >>> 4), none⟩ = some (.int .u32 (U (high y))) := by
  have hi : idx (y >>> 4) < 16 := by unfold idx; rw [shr4]; have := y.toNat_lt; omega
  rw [h.cell g_high _ (by simpa [highT] using hi)]
  congr 2
  have hl : (y >>> 4).toNat < highT.length := hi
  have hlt : highT.getD (y >>> 4).toNat 0 < 4294967296 := by
    simp only [List.getD, List.getElem?_eq_getElem hl, Option.getD_some]
    exact high_lt _ (List.getElem_mem hl)
  unfold U high idx
  rw [BitVec.toNat_ofNat, Nat.mod_eq_of_lt hlt]
  exact getD_cast _ _

theorem tabs_of_laid {W : World} (h : laidMetH Tryd.prog laidTabs W) : Tabs W := by
  have h1 := h
  have h2 := h.filter (fun x => x.1 == "cordwood/crc.highHalf")
  rw [MakeChecks.laidMetH_plain _ _ _ (by kernel_rfl)] at h1 h2
  have h2' : laidMet Tryd.prog [("cordwood/crc.highHalf", Lib.tabData .u32 (highT.map fun n : Nat => (n : Int)))] W := h2
  have h1' : laidMet Tryd.prog (("cordwood/crc.lowHalf", Lib.tabData .u32 (lowT.map fun n : Nat => (n : Int))) :: [("cordwood/crc.highHalf", Rows.laid_cordwood_crc_highHalf)]) W := h1
  exact ⟨tabs_of_low (Lib.tabIs_of_head g_low ty_low Tryd.underlying104 Tryd.underlying36 cells_u32 cells_tab h1'),
    tabs_of_high (Lib.tabIs_of_head g_high ty_high Tryd.underlying104 Tryd.underlying36 cells_u32 cells_tab h2')⟩
theorem Tabs.size {W : World} (h : Tabs W) : 4 ≤ W.heap.size := by
  have hc := h.hi 0
  rcases Nat.lt_or_ge 5 W.heap.size with h | h
  · omega
  · simp [World.cell?, Array.getElem?_eq_none h] at hc

end Go.Proofs.YthlclknbehfloaaDoor

namespace Go.Proofs.YthlclknbehfloaaDoor
open Go.RowKit Crc Go.ChangeShapes Go.WideShapes Go.ChangeAt

/-- All that the rows with errors list. -/
def laidAll : List (String × DataW Unit) := [("cordwood/api.ErrEnd", Rows.laid_cordwood_api_ErrEnd), ("cordwood/api.ErrSum", Rows.laid_cordwood_api_ErrSum), ("cordwood/api.ErrShape", Rows.laid_cordwood_api_ErrShape), ("cordwood/api.ErrMany", Rows.laid_cordwood_api_ErrMany), ("cordwood/api.ErrRange", Rows.laid_cordwood_api_ErrRange), ("cordwood/api.ErrName", Rows.laid_cordwood_api_ErrName), ("cordwood/api.ErrNone", Rows.laid_cordwood_api_ErrNone), ("cordwood/api.ErrThere", Rows.laid_cordwood_api_ErrThere), ("cordwood/api.ErrFull", Rows.laid_cordwood_api_ErrFull), ("cordwood/api.ErrCrash", Rows.laid_cordwood_api_ErrCrash), ("cordwood/api.ErrStore", Rows.laid_cordwood_api_ErrStore), ("cordwood/api.ErrKind", Rows.laid_cordwood_api_ErrKind), ("cordwood/api.ErrState", Rows.laid_cordwood_api_ErrState), ("cordwood/api.ErrFenced", Rows.laid_cordwood_api_ErrFenced), ("cordwood/api.ErrOutside", Rows.laid_cordwood_api_ErrOutside), ("cordwood/api.ErrUnavail", Rows.laid_cordwood_api_ErrUnavail), ("cordwood/api.ErrWord", Rows.laid_cordwood_api_ErrWord), ("cordwood/api.ErrNumber", Rows.laid_cordwood_api_ErrNumber), ("cordwood/api.ErrClosed", Rows.laid_cordwood_api_ErrClosed), ("cordwood/crc.lowHalf", Rows.laid_cordwood_crc_lowHalf), ("cordwood/crc.highHalf", Rows.laid_cordwood_crc_highHalf)]

theorem sents_of_laid {W : World} (h : laidMetH Tryd.prog laidAll W) : ∃ p, Sents W p := by
  have h2 := h.filter (fun x => x.1 != "cordwood/crc.lowHalf" && x.1 != "cordwood/crc.highHalf")
  rw [MakeChecks.laidMetH_plain _ _ _ (by kernel_rfl)] at h2
  exact sents_of_met h2
theorem tabs_of_all {W : World} (h : laidMetH Tryd.prog laidAll W) : Tabs W := by
  have h2 := h.filter (fun x => x.1 == "cordwood/crc.lowHalf" || x.1 == "cordwood/crc.highHalf")
  exact tabs_of_laid h2
theorem door_met_all (os : Os) (args : Array Value) : laidMetH Tryd.prog laidAll ((World.doorLaid Tryd.prog 400 os).forCall (fun _ _ => 0) ⟨#[], args, []⟩).memory :=
  laidMetH_of_parts3 (fuel := 8) (laidMet_of_run' 8 (by kernel_rfl) (by kernel_rfl)) (by kernel_rfl) (by kernel_rfl)
end Go.Proofs.YthlclknbehfloaaDoor
