/-
  The walk through the chapter's example: Put of 300.
-/
import Derived.Test.YtomnkgppldgpkaaDoorVint
import Derived.Test.YtomnkgppldgpkaaDoorHSame
import Derived.Test.YtomnkgppldgpkaaDoorOwnArg
namespace Go.Proofs.YtomnkgppldgpkaaDoor
open Go.RowKit

theorem put_at (A : Option Addr) (cap k : Nat) (l : List UInt8) (n : Nat) (w : World) (hk : l.length = k) (hn : n < 18446744073709551616) (hl : k ≤ 1000000) (hr : Reads w A l) :
    Calls Tryd.prog 72 #[.slice A k cap, .int .u64 n] w fun e w' => ∃ v, e = .returned v ∧ Own w' w.heap.size v (l ++ Vi.put n) ∧ Below w.heap.size w w' := by
  subst hk; exact put_any A cap l n w hn hl hr
theorem putInt_at (A : Option Addr) (cap k : Nat) (l : List UInt8) (n : Int) (w : World) (hk : l.length = k) (h1 : -9223372036854775808 ≤ n) (h2 : n ≤ 9223372036854775807) (hl : k ≤ 1000000) (hr : Reads w A l) :
    Calls Tryd.prog 59 #[.slice A k cap, .int .i64 n] w fun e w' => ∃ v, e = .returned v ∧ Own w' w.heap.size v (l ++ Vi.put (Vi.zz n)) ∧ Below w.heap.size w w' := by
  subst hk; exact putInt_any A cap l n w h1 h2 hl hr
/-- Put of nothing ahead. -/
theorem put_nil (n : Nat) (w : World) (hn : n < 18446744073709551616) :
    Calls Tryd.prog 72 #[.slice none 0 0, .int .u64 n] w fun e w' => ∃ A c, e = .returned (.slice A (Vi.size n) c) ∧ Own w' w.heap.size (.slice A (Vi.size n) c) (Vi.put n) ∧ Arg w' A c (Vi.put n) ∧ Below w.heap.size w w' :=
  (put_at none 0 0 [] n w rfl hn (by omega) (.inl rfl)).mono fun e w' ⟨v, he, ho, hb⟩ => by
    obtain ⟨A, c, hv, hr⟩ := ho.arg
    subst hv
    exact ⟨A, c, he, ho, hr, hb⟩
theorem putInt_nil (n : Int) (w : World) (h1 : -9223372036854775808 ≤ n) (h2 : n ≤ 9223372036854775807) :
    Calls Tryd.prog 59 #[.slice none 0 0, .int .i64 n] w fun e w' => ∃ A c, e = .returned (.slice A (Vi.size (Vi.zz n)) c) ∧ Own w' w.heap.size (.slice A (Vi.size (Vi.zz n)) c) (Vi.put (Vi.zz n)) ∧ Arg w' A c (Vi.put (Vi.zz n)) ∧ Below w.heap.size w w' :=
  (putInt_at none 0 0 [] n w rfl h1 h2 (by omega) (.inl rfl)).mono fun e w' ⟨v, he, ho, hb⟩ => by
    obtain ⟨A, c, hv, hr⟩ := ho.arg
    subst hv
    exact ⟨A, c, he, ho, hr, hb⟩

theorem put_300 : Vi.put 300 = [172, 2] := by
  rw [Vi.put_ge (by omega), Vi.put_lt (by omega)]; decide
theorem size_300 : Vi.size 300 = 2 := by unfold Vi.size; rw [put_300]; rfl
end Go.Proofs.YtomnkgppldgpkaaDoor
