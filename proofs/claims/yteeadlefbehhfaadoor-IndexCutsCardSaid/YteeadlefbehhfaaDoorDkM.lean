/-
  A disk's maps of names: looked up, stored into, struck from, at the operation; and whether a name may be.
-/
import Derived.Test.YteeadlefbehhfaaDoorDkB
import Derived.Maps.OwnIn
import Derived.Deep.QuietTactic
import Derived.BigQuiet
namespace Go.Proofs.YteeadlefbehhfaaDoor
open Go.RowKit Go.Maps Go.ChangeMaps Go.MapKept

theorem str_key {k : Dk.Nm} (hk : k.length ≤ 9223372036854775807) : keyOf Tryd.prog 9 (encStr k) = some (.string k) := by
  have := Go.WideMaps.keyOf_string_mk (P := Tryd.prog) Tryd.underlying9 (s := ⟨k.toArray⟩) (by simpa [maxLen, ByteArray.size] using hk)
  simpa using this
end Go.Proofs.YteeadlefbehhfaaDoor
namespace Go.Proofs.YteeadlefbehhfaaDoor
open Go.RowKit

theorem str_at (k : Dk.Nm) (i : Nat) (h : i < k.length) (W : World) : (Instr.index 9 (encStr k) (.int .i64 (i : Int))).run Tryd.prog W = .ok (.int .u8 (B (k.getD i 0))) W := by
  have hg : (⟨k.toArray⟩ : ByteArray)[i]? = some k[i] := by
    rw [getElem?_pos (⟨k.toArray⟩ : ByteArray) i (by simpa [ByteArray.size] using h)]
    rfl
  simp [Instr.index, run_underlying Tryd.underlying9, asIntOf, hg, B, List.getD, h]

theorem okByte_iff (c : UInt8) : Dk.okByte c = true ↔ (97 ≤ B c ∧ B c ≤ 122) ∨ (48 ≤ B c ∧ B c ≤ 57) ∨ B c = 46 ∨ B c = 45 ∨ B c = 95 := by
  unfold Dk.okByte B
  simp [UInt8.le_iff_toNat_le, ← UInt8.toNat_inj]
  omega
theorem all_take (k : Dk.Nm) (j : Nat) (hj : j < k.length) (h : (k.take j).all Dk.okByte = true) (hb : Dk.okByte (k.getD j 0) = true) : (k.take (j + 1)).all Dk.okByte = true := by
  rw [List.take_succ_eq_append_getElem hj, List.all_append, h]
  simpa [List.getD, hj] using hb
theorem not_all (k : Dk.Nm) (j : Nat) (hj : j < k.length) (hb : Dk.okByte (k.getD j 0) ≠ true) : Dk.valid k = false := by
  have : k.all Dk.okByte = false := by
    rw [List.all_eq_false]
    exact ⟨k[j], List.getElem_mem _, by simpa [List.getD, hj] using hb⟩
  simp [Dk.valid, this]

end Go.Proofs.YteeadlefbehhfaaDoor
