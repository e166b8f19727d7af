/-
  A slice of numbers of 64 bits in memory.
-/
import Derived.Test.YteeadlefbehhfaaDoorArgsI
namespace Go.Proofs.YteeadlefbehhfaaDoor
open Go.RowKit

/-- A slice that reads as these numbers of 64 bits. -/
def Nums (w : World) (A : Option Addr) (us : List Nat) : Prop :=
  us = [] ∨ ∃ b off, A = some ⟨b, off, none⟩ ∧ b < w.heap.size ∧ ∀ k, k < us.length → w.cell? ⟨b, off + k, none⟩ = some (.int .u64 (us.getD k 0 : Nat))
end Go.Proofs.YteeadlefbehhfaaDoor
