/-
  Slices of bytes in memory of the call's own: a row of parts, appended to.
-/
import Derived.Test.YtdiplknlkmealaaDoorFinds
import Derived.Test.YtdiplknlkmealaaDoorMix
namespace Go.Proofs.YtdiplknlkmealaaDoor
open Go.RowKit Crc

theorem part_info : (Tryd.prog.info? 22).map (fun i => (i.zero, i.size, i.bytes)) = some (some (.slice none 0 0), 1, 24) := by kernel_rfl

/-- A row of parts that the call owns. -/
def Pieces (w : World) (base : Nat) (v : Value) (ps : List Part) : Prop := w.ownsRow base 22 1 v ps.length (ps.map Part.val)
theorem Pieces.nil (w : World) (base : Nat) : Pieces w base (.slice none 0 0) [] := World.ownsRow_nil w base _ 1
theorem vals_one (ps : List Part) : ∀ u ∈ ps.map Part.val, u.oneCell' = true := by
  intro u hu
  obtain ⟨x, _, rfl⟩ := List.mem_map.1 hu
  rfl

section
variable {w : World} {ops : Array Oper} {rest : List Oper} {o : Oper} {a : Act} {Q : Exit → Act → World → Prop}
/-- append(s, x), s the call's own, x in a new block of one cell. -/
theorem wpList_piece (hgd : o.guard = none) (s x : Operand) (ho : o.op = .call { callee := .builtin .append, args := #[s, x], argTypes := #[41, 41] })
    (base : Nat) (v : Value) (ps : List Part) (hs : a.eval s = v) (hown : Pieces w base v ps) (g : Nat) (p : Part) (c : Nat) (hx : a.eval x = .slice (some ⟨g, 0, none⟩) 1 c) (hc : w.cell? ⟨g, 0, none⟩ = some p.val)
    (hlen : ps.length ≤ 1000000) (hbase : base ≤ w.heap.size)
    (h : ∀ v' w', Pieces w' base v' (ps ++ [p]) → w.grownBy w' v.ownBlock → (v'.ownBlock = v.ownBlock ∨ v'.ownBlock = some w.heap.size) → wpList Tryd.prog ops Q rest (a.put o.dst v') w') : wpList Tryd.prog ops Q (o :: rest) a w := by
  obtain ⟨i, hi, hz, hs1, hby⟩ := info_parts part_info
  refine wpList_plain hgd fun K hK => ?_
  have hnews : ∀ j u, ([p.val] : List Value)[j]? = some u → w.cell? ((⟨g, 0, none⟩ : Addr).add j) = some u := by
    intro j u hu
    cases j with
    | zero =>
      simp at hu
      subst hu
      exact hc
    | succ j => simp at hu
  obtain ⟨v', w', hrun, h2, h3, _, h5⟩ := run_append_own_at (P := Tryd.prog) w base 41 o.type 22 i _ 1 24 Tryd.underlying41 hi hz hs1 hby rfl (by omega) v ps.length (ps.map Part.val) hown ⟨g, 0, none⟩ 1 c [p.val] (by simp) hnews (vals_one [p])
    (by simp only [maxLen]; omega) (by omega) hbase
  unfold Oper.wp execOp
  simp only [ho, resolve, invoke, builtin, Sem.run_bind, Sem.run_pure, Result.andThen_ok, List.map_toArray, List.map_cons, List.map_nil, hs, hx, hrun]
  refine hK _ _ (h v' w' ?_ h3 h5)
  unfold Pieces
  rw [List.length_append, show (ps ++ [p]).map Part.val = ps.map Part.val ++ [p.val] from by simp]
  exact h2
end
end Go.Proofs.YtdiplknlkmealaaDoor
