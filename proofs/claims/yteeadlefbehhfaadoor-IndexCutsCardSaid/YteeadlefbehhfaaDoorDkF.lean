/-
  The file of a name; what is ahead of a call that changes a file; the first bytes of a file kept.
-/
import Derived.Test.YteeadlefbehhfaaDoorDkM
namespace Go.Proofs.YteeadlefbehhfaaDoor
open Go.RowKit Go.Maps

theorem neq_nilD (a : Addr) (w : World) : (binOp .neq 26 (errV a) .nilIface).run Tryd.prog w = .ok (.bool true) w := by
  obtain ⟨ms, i, j, h1, h2, h3, h4, h5⟩ := es_facts
  have h : ∀ d : Nat, (Op.equalIn (d + 1) 26 (errV a) .nilIface).run Tryd.prog w = .ok false w := fun d => by simp [Op.equalIn, run_underlying h1, errV]
  simp only [binOp]
  simp [Op.equal, Op.maxDepth, h 9999]

end Go.Proofs.YteeadlefbehhfaaDoor
