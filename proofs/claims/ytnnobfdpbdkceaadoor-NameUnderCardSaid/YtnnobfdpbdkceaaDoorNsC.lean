/-
  The library's functions that package name calls, by the shelf's contracts.
-/
import Derived.Test.YtnnobfdpbdkceaaDoorNsL
import Derived.Test.YtnnobfdpbdkceaaDoorNmR
import Derived.Test.YtnnobfdpbdkceaaDoorWords
import Derived.WalkKit
import Derived.ProofKit
import Derived.Below
import Derived.Shelf.Strings.Prefix
import Derived.Shelf.Strings.SlTrimAscii
import Derived.Shelf.Strings.SplitShaped
import Derived.Shelf.Strings.Repeat
import Derived.Shelf.Strings.OnBuilder
import Derived.Shelf.Strconv.AtoiAll
import Derived.Shelf.Strconv.ParseIntPublic10
import Derived.Shelf.Strconv.Itoa4
import Derived.Shelf.Slices.CompactS
namespace Go.Proofs.YtnnobfdpbdkceaaDoor
open Go.RowKit Go.Shelf

abbrev str (l : List UInt8) : Value := .string ⟨l.toArray⟩
theorem repeatX : Builder.Extra Tryd.prog lay_repeatF_ren := { sizeBuilder := by kernel_rfl, liesBuilder := by kernel_rfl, t5 := Tryd.underlying5, a5 := Tryd.isAgg5, z5 := Tryd.sizeOf5, v5 := Tryd.zeroValue5, infoByte := by kernel_rfl, cellsByte := by kernel_rfl, sizeByte := by kernel_rfl, neB5 := by decide }
theorem joinX : Builder.Extra Tryd.prog lay_joinF_ren := { sizeBuilder := by kernel_rfl, liesBuilder := by kernel_rfl, t5 := Tryd.underlying5, a5 := Tryd.isAgg5, z5 := Tryd.sizeOf5, v5 := Tryd.zeroValue5, infoByte := by kernel_rfl, cellsByte := by kernel_rfl, sizeByte := by kernel_rfl, neB5 := by decide }

theorem hasPrefix_any (s p : List UInt8) (w : World) : Calls Tryd.prog 14 #[str s, str p] w fun e w' => e = .returned (.bool (Lib.hasPrefix s p)) ∧ w' = w :=
  Any.strings_HasPrefix lay_hasPrefixF ⟨s.toArray⟩ ⟨p.toArray⟩ w
/-- As many noughts. -/
theorem noughts_any (c : Nat) (w : World) (hc : c ≤ 1000) : Calls Tryd.prog 26 #[.string ⟨#[48]⟩, .int .i64 (c : Int)] w fun e w' => e = .returned (str (List.replicate c 48)) ∧ Below w.heap.size w w' :=
  (Any.strings_Repeat lay_repeatF repeatX ⟨#[48]⟩ c w (by omega) (by show 1 * c ≤ _; omega)).mono fun e w' ⟨he, hb⟩ => ⟨by
    rw [he]
    have h := Lib.repeatL_replicate 48 1 c
    rw [Nat.mul_one] at h
    show Ending.returned (str (Lib.repeatL [48] c)) = _
    rw [show ([48] : List UInt8) = List.replicate 1 48 from rfl, h], hb⟩
end Go.Proofs.YtnnobfdpbdkceaaDoor
