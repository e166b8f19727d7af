/-
  Package name: names read back.
-/
import Derived.Test.YtnnobfdpbdkceaaDoorNsO
namespace Go.Proofs.YtnnobfdpbdkceaaDoor
open Go.RowKit Go.Shelf

/-- A variable of the library's that holds an error. -/
def ErrVar (g : Nat) (w : World) : Prop := ∃ ev, w.cell? ⟨g, 0, none⟩ = some ev ∧ (ev = .nilIface ∨ ∃ te pe, ev = .iface te pe)
theorem ErrVar.below {g : Nat} {w w' : World} (h : ErrVar g w) (hb : Below w.heap.size w w') : ErrVar g w' := by
  obtain ⟨ev, h1, h2⟩ := h
  exact ⟨ev, (hb.cell (p := ⟨g, 0, none⟩) (World.block_lt_of_cell? w _ h1)).trans h1, h2⟩
theorem err_type : ∃ ms, Tryd.prog.underlying 51 = some (.interface ms) := by
  have h1 : (match Tryd.prog.underlying 51 with | some (.interface _) => true | _ => false) = true := by kernel_rfl
  cases hu : Tryd.prog.underlying 51 with
  | none => rw [hu] at h1; cases h1
  | some u =>
    rw [hu] at h1
    cases u with
    | interface ms => exact ⟨ms, rfl⟩
    | _ => cases h1
theorem neq_err (T : TypeId) (v : Value) (w : World) : (binOp .neq 51 (.iface T v) .nilIface).run Tryd.prog w = .ok (.bool true) w := by
  obtain ⟨ms, h1⟩ := err_type
  have h : ∀ d : Nat, (Op.equalIn (d + 1) 51 (.iface T v) .nilIface).run Tryd.prog w = .ok false w := fun d => by simp [Op.equalIn, run_underlying h1]
  simp only [binOp]
  simp [Op.equal, Op.maxDepth, h 9999]

/-- What a text says of a segment. -/
def baseOf (s : List UInt8) : Int × Bool := if s = Nm.segN (Nm.val 0 (s.drop 4)) ∧ Nm.right (Nm.val 0 (s.drop 4) : Int) then ((Nm.val 0 (s.drop 4) : Int), true) else (0, false)
theorem baseOf_yes (n : Nat) (h : Nm.right (n : Int)) : baseOf (Nm.segN n) = ((n : Int), true) := by
  have e : Nm.val 0 ((Nm.segN n).drop 4) = n := by
    show Nm.val 0 (Nm.dgs 13 n) = n
    exact Nm.val_dgs 13 n (by have := Nm.right_lt h; simpa using this)
  unfold baseOf
  rw [e, if_pos ⟨rfl, h⟩]
theorem baseOf_no (s : List UInt8) (h : ∀ n : Nat, Nm.right (n : Int) → s ≠ Nm.segN n) : baseOf s = (0, false) := by
  unfold baseOf
  rw [if_neg fun h2 => h _ h2.2 h2.1]
theorem trim_seg (n : Nat) : Lib.trimPrefix (Nm.segN n) Nm.log = Nm.dgs 13 n := by
  unfold Lib.trimPrefix Nm.segN
  simp [Nm.log, Lib.hasPrefix]
theorem seg_ne_nil (s : List UInt8) (v : Int) (hs : ∀ n : Nat, Nm.right (n : Int) → s ≠ Nm.segN n) (h0 : s ≠ []) : Nm.seg v ≠ s := by
  unfold Nm.seg
  split
  · rename_i hr
    intro e
    obtain ⟨n, rfl⟩ := Int.eq_ofNat_of_zero_le hr.1
    exact hs n hr (by simpa using e.symm)
  · exact fun e => h0 e.symm

end Go.Proofs.YtnnobfdpbdkceaaDoor
