/-
  The names of a disk copied: maps.Clone.
-/
import Derived.Test.YtnjcngmmgceijaaDoorDkL
import Derived.Laws.Externs
import Derived.MapKept
namespace Go.Proofs.YtnjcngmmgceijaaDoor
open Go.RowKit Go.Maps

theorem map_type : Tryd.prog.underlying 55 = some (.map 9 63) := by kernel_rfl
set_option maxRecDepth 100000 in
/-- No map that is there equals nil. -/
theorem map_not_nil (b : Nat) (w : World) : (binOp .eql 55 (.map (some b)) (.map none)).run Tryd.prog w = .ok (.bool false) w := by
  have h : ∀ d : Nat, (Op.equalIn (d + 1) 55 (.map (some b)) (.map none)).run Tryd.prog w = .ok false w := fun d => by simp [Op.equalIn, run_underlying map_type]
  simp only [binOp]
  simp [Op.equal, Op.maxDepth, h 9999]
set_option maxRecDepth 100000 in
/-- The map within an interface. -/
theorem map_within (b : Nat) (xT : TypeId) (w : World) : (Instr.typeAssert (.iface 55 (.map (some b))) xT 55 false).run Tryd.prog w = .ok (.map (some b)) w := by
  simp [Instr.typeAssert, run_underlying map_type, go_sem, Result.andThen]
set_option maxRecDepth 100000 in
/-- What the model's own clone does at a map. -/
theorem map_twin (b : Nat) (es : Array MapEntry) (clock : Nat) (w : World) (h : w.heap[b]? = some (.map es clock)) :
    (callFunc 51 #[.iface 55 (.map (some b))]).run Tryd.prog w = .ok (.value (.iface 55 (.map (some w.heap.size)))) (w.alloc (.map es clock)) := by
  rw [run_callFunc_extern Tryd.func51 (by kernel_rfl) (by kernel_rfl) (by kernel_rfl) (e := Extern.MapsClone.clone) (by kernel_rfl)]
  have e : (Extern.MapsClone.clone #[.iface 55 (.map (some b))]).run Tryd.prog w = .ok (.iface 55 (.map (some w.heap.size))) (w.alloc (.map es clock)) := by
    show ((getObj b >>= _ : Sem Value)).run Tryd.prog w = _
    rw [Sem.run_bind, MapKept.run_getObj_map h]
    rfl
  rw [e]
  rfl

set_option maxRecDepth 100000 in
theorem mapClone_any (b n : Nat) (f : Dk.Dir) (w : World) (h : NamesAt w b n f) :
    Calls Tryd.prog 37 #[.map (some b)] w fun e w' => e = .returned (.map (some w.heap.size)) ∧ NamesAt w' w.heap.size n f ∧ Below w.heap.size w w' ∧ w'.heap.size = w.heap.size + 1 := by
  obtain ⟨D, ⟨es, clock, hb, hF, hs, hD⟩, hat⟩ := h.ex
  have hlt := h.lt
  have hq := fun W => map_not_nil b W
  have hw := fun (i : Nat) (xT : TypeId) (W : World) => map_within i xT W
  have HN : Hid (NamesAt (w.alloc (.map es clock)) w.heap.size n f) := hide ⟨D, ⟨es, clock, heap_alloc_new _ _, hF, hs, hD⟩, hat⟩
  have hc := map_twin b es clock w hb
  clear h hF hs hD hat hb
  go_enter Tryd.func37, Tryd.ntmps37
  go_wp2_with fail
  go_ret
  exact ⟨rfl, HN.out, balloc (Below.refl _ _) _, by simp⟩
end Go.Proofs.YtnjcngmmgceijaaDoor
