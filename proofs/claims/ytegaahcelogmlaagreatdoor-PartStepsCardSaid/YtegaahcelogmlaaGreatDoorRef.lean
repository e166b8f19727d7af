/-
  The reference's sums, bit by bit, and what stands on them: the same plain answers.
-/
import Derived.Test.YtegaahcelogmlaaGreatDoorB2
import Derived.Test.YtegaahcelogmlaaGreatDoorT1
namespace Go.Proofs.YtegaahcelogmlaaGreatDoor
open Go.RowKit Crc

theorem xB32 (a : BitVec 32) (x : UInt8) : bits .xor .u32 (U a) (B x) = U (a ^^^ w8 x) := by
  rw [← x32]
  congr 1
theorem sts_succ (n : Nat) (c : BitVec 32) : sts (n + 1) c = st (sts n c) := by rw [sts_add]; rfl
attribute [local go_sem] BtoNat x32 n32 x8 and8_15 mod256 wrap8 xs32 Bd16toNat mul2 cv8 xB32

end Go.Proofs.YtegaahcelogmlaaGreatDoor
