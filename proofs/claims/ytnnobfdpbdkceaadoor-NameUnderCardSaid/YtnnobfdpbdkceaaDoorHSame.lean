/-
  The statements' own helper Number.
  The statements' own copy of bytes.
  The statements' own equality of bytes.
-/
import Derived.Test.YtnnobfdpbdkceaaDoorOwnB
import Derived.WalkKit
import Derived.ProofKit
import Derived.Below
import Derived.BigQuiet
import Derived.Deep.QuietTactic
import Derived.Outline
import Derived.LoopTactic
import Derived.Deep.LoopGhost
namespace Go.Proofs.YtnnobfdpbdkceaaDoor
open Go.RowKit
attribute [local go_sem] BtoNat x8 and8_15

theorem tmod_up (n b : Int) (hb : 0 < b) (hn : n < 0) (hm : n % b ≠ 0) : n.tmod b = n % b - b := by
  rw [Int.tmod_eq_emod]
  rw [if_neg]
  · simp; omega
  · rintro (h | h)
    · omega
    · exact hm (Int.emod_eq_zero_of_dvd h)
theorem tmod_nil (n b : Int) (hm : n % b = 0) : n.tmod b = 0 := Int.tmod_eq_zero_of_dvd (Int.dvd_of_emod_eq_zero hm)

theorem number_any (n b : Int) (w : World) (hb : 0 < b) (hb1 : b ≤ 9223372036854775807) (h1 : -9223372036854775808 ≤ n) (h2 : n ≤ 9223372036854775807) :
    Calls Tryd.prog 6 #[.int .i64 n, .int .i64 b] w fun e w' => e = .returned (.int .i64 (n % b)) ∧ w = w' := by
  have m1 := Int.emod_nonneg n (show b ≠ 0 by omega)
  have m2 := Int.emod_lt_of_pos n hb
  by_cases h0 : 0 ≤ n
  · go_enter Tryd.func6, Tryd.ntmps6
    go_wp2
    go_ret
    exact ⟨rfl, rfl⟩
  · by_cases hm : n % b = 0
    · have t := tmod_nil n b hm
      rw [hm]
      clear hm m1 m2
      go_enter Tryd.func6, Tryd.ntmps6
      go_wp2
      go_ret
      exact ⟨rfl, rfl⟩
    · have t := tmod_up n b hb (by omega) hm
      have e : n % b - b + b = n % b := by omega
      generalize n % b = r at *
      go_enter Tryd.func6, Tryd.ntmps6
      go_wp2
      go_ret
      exact ⟨rfl, rfl⟩

def num (n : Int) (b : Nat) : Nat := (n % (b : Int)).toNat
theorem num_lt (n : Int) (b : Nat) (h : 0 < b) : num n b < b := by
  unfold num
  have m1 := Int.emod_nonneg n (show (b : Int) ≠ 0 by omega)
  have m2 := Int.emod_lt_of_pos n (show 0 < (b : Int) by omega)
  omega
theorem num_at (n c : Int) (b : Nat) (w : World) (hc : c = b) (hb : 0 < b) (hb1 : b ≤ 9223372036854775807) (h1 : -9223372036854775808 ≤ n) (h2 : n ≤ 9223372036854775807) :
    Calls Tryd.prog 6 #[.int .i64 n, .int .i64 c] w fun e w' => e = .returned (.int .i64 (num n b : Nat)) ∧ w = w' := by
  subst hc
  have m1 := Int.emod_nonneg n (show (b : Int) ≠ 0 by omega)
  refine (number_any n b w (by omega) (by omega) h1 h2).mono fun e w' ⟨he, hw⟩ => ⟨?_, hw⟩
  rw [he]; unfold num; rw [Int.toNat_of_nonneg m1]
end Go.Proofs.YtnnobfdpbdkceaaDoor

namespace Go.Proofs.YtnnobfdpbdkceaaDoor
open Go.RowKit
attribute [local go_sem] BtoNat x8 and8_15

end Go.Proofs.YtnnobfdpbdkceaaDoor

namespace Go.Proofs.YtnnobfdpbdkceaaDoor
open Go.RowKit
attribute [local go_sem] BtoNat x8 and8_15

end Go.Proofs.YtnnobfdpbdkceaaDoor
