/-
  The reference's names: numbers, kinds, valid bytes.
-/
import Derived.Test.YtnnobfdpbdkceaaDoorNsT
namespace Go.Proofs.YtnnobfdpbdkceaaDoor
open Go.RowKit Go.Shelf

theorem str_index (l : List UInt8) (i : Nat) (h : i < l.length) (W : World) : (Instr.index 9 (str l) (.int .i64 (i : Int))).run Tryd.prog W = .ok (.int .u8 (B (l.getD i 0))) W := by
  have hg : (⟨l.toArray⟩ : ByteArray)[i]? = some l[i] := by
    rw [getElem?_pos (⟨l.toArray⟩ : ByteArray) i (by simpa [ByteArray.size] using h)]
    rfl
  simp [Instr.index, run_underlying Tryd.underlying9, asIntOf, hg, B, List.getD, h]
instance (c : UInt8) : Decidable (Nm.digit c) := inferInstanceAs (Decidable (_ ∧ _))
def numB (s : List UInt8) : Int × Bool := if ∀ c ∈ s, Nm.digit c then ((Nm.val 0 s : Int), true) else (0, false)
theorem take_snoc8 (s : List UInt8) (k : Nat) (h : k < s.length) : s.take (k + 1) = s.take k ++ [s.getD k 0] := by
  rw [List.take_succ_eq_append_getElem h]
  simp [List.getD, h]
theorem getD_mem8 (s : List UInt8) (k : Nat) (h : k < s.length) : s.getD k 0 ∈ s := by
  rw [show s.getD k 0 = s[k] from by simp [List.getD, h]]
  exact List.getElem_mem _

end Go.Proofs.YtnnobfdpbdkceaaDoor
