/-
  What the laid variables give the walks: the two short tables of sums, cell by cell.
-/
import Derived.Test.YtcmgppacipdnaaaGreatDoorCards
import Derived.Test.YtcmgppacipdnaaaGreatDoorTie
import Derived.Test.YtcmgppacipdnaaaGreatDoorQTable
import Derived.Lib.LaidTab
import Derived.LaidMore
import Derived.OpenShut
import Derived.ChangeOld
import Derived.Stop.Joined
namespace Go.Proofs.YtcmgppacipdnaaaGreatDoor
open Go.RowKit Crc Go.ChangeShapes Go.WideShapes Go.ChangeAt

theorem g_low : Tryz.prog.globalNamed "cordwood/crc.lowHalf" = some 19 := by kernel_rfl
theorem g_high : Tryz.prog.globalNamed "cordwood/crc.highHalf" = some 20 := by kernel_rfl
theorem ty_low : (Tryz.prog.globals[19]?).map (·.type) = some 239 := by kernel_rfl
theorem ty_high : (Tryz.prog.globals[20]?).map (·.type) = some 239 := by kernel_rfl
theorem cells_u32 : Tryz.prog.cellsOf 127 = 1 := by kernel_rfl
theorem cells_tab : Tryz.prog.cellsOf 239 = 16 := by kernel_rfl
/-- The two tables, as a row lists them. -/
def laidTabs : List (String × DataW Unit) := [("cordwood/crc.lowHalf", Rows.laid_cordwood_crc_lowHalf), ("cordwood/crc.highHalf", Rows.laid_cordwood_crc_highHalf)]
theorem low_lt : ∀ n ∈ lowT, n < 4294967296 := by decide
theorem high_lt : ∀ n ∈ highT, n < 4294967296 := by decide

theorem getD_cast (l : List Nat) (i : Nat) : (l.map fun n : Nat => (n : Int)).getD i 0 = ((l.getD i 0 : Nat) : Int) := by
  simp only [List.getD, List.getElem?_map]
  cases l[i]? <;> rfl
theorem tabs_of_low {W : World} (h : Lib.TabIs Tryz.prog W "cordwood/crc.lowHalf" .u32 (lowT.map fun n : Nat => (n : Int))) (y : UInt8) : W.cell? ⟨19, idx (y &&& 15), none⟩ = some (.int .u32 (U (low y))) := by
  have hi : idx (y &&& 15) < 16 := by unfold idx; rw [and15]; omega
  rw [h.cell g_low _ (by simpa [lowT] using hi)]
  congr 2
  have hlt : lowT.getD (y &&& 15).toNat 0 < 4294967296 := by
    have hl : (y &&& 15).toNat < lowT.length := hi
    simp only [List.getD, List.getElem?_eq_getElem hl, Option.getD_some]
    exact low_lt _ (List.getElem_mem hl)
  unfold U low idx
  rw [BitVec.toNat_ofNat, Nat.mod_eq_of_lt hlt]
  exact getD_cast _ _
theorem tabs_of_high {W : World} (h : Lib.TabIs Tryz.prog W "cordwood/crc.highHalf" .u32 (highT.map fun n : Nat => (n : Int))) (y : UInt8) : W.cell? ⟨20, idx (y >>> 4), none⟩ = some (.int .u32 (U (high y))) := by
  have hi : idx (y >>> 4) < 16 := by unfold idx; rw [shr4]; have := y.toNat_lt; omega
  rw [h.cell g_high _ (by simpa [highT] using hi)]
  congr 2
  have hl : (y >>> 4).toNat < highT.length := hi
  have hlt : highT.getD (y >>> 4).toNat 0 < 4294967296 := by
    simp only [List.getD, List.getElem?_eq_getElem hl, Option.getD_some]
    exact high_lt _ (List.getElem_mem hl)
  unfold U high idx
  rw [BitVec.toNat_ofNat, Nat.mod_eq_of_lt hlt]
  exact getD_cast _ _

theorem tabs_of_laid {W : World} (h : laidMetH Tryz.prog laidTabs W) : Tabs W := by
  have h1 := h
  have h2 := h.filter (fun x => x.1 == "cordwood/crc.highHalf")
  rw [MakeChecks.laidMetH_plain _ _ _ (by kernel_rfl)] at h1 h2
  have h2' : laidMet Tryz.prog [("cordwood/crc.highHalf", Lib.tabData .u32 (highT.map fun n : Nat => (n : Int)))] W := h2
  have h1' : laidMet Tryz.prog (("cordwood/crc.lowHalf", Lib.tabData .u32 (lowT.map fun n : Nat => (n : Int))) :: [("cordwood/crc.highHalf", Rows.laid_cordwood_crc_highHalf)]) W := h1
  exact ⟨tabs_of_low (Lib.tabIs_of_head g_low ty_low Tryz.underlying239 Tryz.underlying127 cells_u32 cells_tab h1'),
    tabs_of_high (Lib.tabIs_of_head g_high ty_high Tryz.underlying239 Tryz.underlying127 cells_u32 cells_tab h2')⟩
theorem Tabs.size {W : World} (h : Tabs W) : 4 ≤ W.heap.size := by
  have hc := h.hi 0
  rcases Nat.lt_or_ge 20 W.heap.size with h | h
  · omega
  · simp [World.cell?, Array.getElem?_eq_none h] at hc

end Go.Proofs.YtcmgppacipdnaaaGreatDoor
