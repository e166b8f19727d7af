/-
  Package index: Add.
-/
import Derived.Test.YteeadlefbehhfaaDoorIxB
namespace Go.Proofs.YteeadlefbehhfaaDoor
open Go.RowKit

theorem mk_info : (Tryd.prog.info? 52).map (fun i => (i.zero, i.size, i.bytes)) = some (some (.agg #[.int .i64 0, .int .i64 0, .int .i64 0]), 3, 24) := by kernel_rfl
theorem ad_info : (Tryd.prog.info? 98).map (fun i => (i.zero, i.size, i.bytes)) = some (some (.agg #[.int .i64 0, .int .i64 0]), 2, 16) := by kernel_rfl

theorem IxL.setTime {w : World} {X : Nat} {mv av : Value} {s : Ix.St} {S : Nat → Prop} (h : IxL w X mv av s S) (t : Int) :
    IxL (w.setCell ⟨X, 3, none⟩ (.int .i64 t)) X mv av ⟨s.every, s.marks, s.adds, t⟩ S ∧ Chg S w (w.setCell ⟨X, 3, none⟩ (.int .i64 t)) := by
  obtain ⟨n1, n2, -, -⟩ := h.ne
  refine ⟨⟨heap_setCell_same w X 3 _ _ _ h.box, ownsRow_same h.marks fun g hg => Below.heap_setCell _ _ _ _ (fun e => n1 (by rw [hg, e])), ownsRow_same h.adds fun g hg => Below.heap_setCell _ _ _ _ (fun e => n2 (by rw [hg, e])), h.mX, h.mM, h.mA⟩, Chg.setCell w X 3 _ h.mX⟩
/-- The box stays where a row grows. -/
theorem IxL.boxed {w w1 w2 : World} {X : Nat} {mv av : Value} {s : Ix.St} {S : Nat → Prop} (h : IxL w X mv av s S) (hb : Below w.heap.size w w1) {row : Option Nat} (hg : w1.grownBy w2 row) (hr : row ≠ some X) : w2.heap[X]? = some (.cells (ixCells s mv av) 94 (0, 0)) := by
  have hX := (Array.getElem?_eq_some_iff.1 h.box).1
  have hs := hb.size
  exact (hg.block X (by omega) (fun e => hr e.symm)).trans ((hb.block X hX).trans h.box)
theorem IxL.pushAd {w w1 w2 : World} {X : Nat} {mv av v' : Value} {s : Ix.St} {S : Nat → Prop} (h : IxL w X mv av s S) (hb : Below w.heap.size w w1) (a : Ix.Ad) (ho : w2.ownsRow 0 98 2 v' (s.adds.length + 1) (s.adds.flatMap adCells ++ adCells a)) (hg : w1.grownBy w2 av.ownBlock) (hv : v'.ownBlock = av.ownBlock ∨ v'.ownBlock = some w1.heap.size) :
    IxL (w2.setCell ⟨X, 2, none⟩ v') X mv v' ⟨s.every, s.marks, s.adds ++ [a], s.time⟩ (Up S w (w2.setCell ⟨X, 2, none⟩ v')) ∧ Chg S w (w2.setCell ⟨X, 2, none⟩ v') := by
  obtain ⟨n1, n2, n3, n4⟩ := h.ne
  have hX := (Array.getElem?_eq_some_iff.1 h.box).1
  have hbs := hb.size
  have hgs := hg.size
  have hbx := h.boxed hb hg n2
  have hnx : v'.ownBlock ≠ some X := fun e => by
    rcases hv with k | k
    · exact n2 (k ▸ e)
    · rw [k] at e; injection e with e; omega
  have hsz : (w2.setCell ⟨X, 2, none⟩ v').heap.size = w2.heap.size := by simp
  refine ⟨⟨heap_setCell_same w2 X 2 _ _ _ hbx, ownsRow_same h.marks fun g hgm => ?_, ?_, .inl h.mX, fun g hgm => .inl (h.mM g hgm), fun g hga => ?_⟩, ?_⟩
  · have hlt := (h.marks.lt g hgm).2
    rw [Below.heap_setCell _ _ _ _ (fun e => n1 (by rw [hgm, e])), hg.block g (by omega) (fun e => by
      rcases n3 with k | k
      · rw [k] at hgm; cases hgm
      · exact k (by rw [hgm, e])), hb.block g hlt]
  · have e : (s.adds ++ [a]).length = s.adds.length + 1 := by simp
    have e2 : (s.adds ++ [a]).flatMap adCells = s.adds.flatMap adCells ++ adCells a := by simp
    show World.ownsRow _ 0 _ 2 v' (s.adds ++ [a]).length ((s.adds ++ [a]).flatMap adCells)
    rw [e, e2]
    exact ownsRow_same ho fun g hga => Below.heap_setCell _ _ _ _ (fun e => hnx (by rw [hga, e]))
  · rcases hv with k | k
    · exact .inl (h.mA g (k ▸ hga))
    · rw [k] at hga; injection hga with hga; subst hga
      refine .inr ⟨hbs, ?_⟩
      rw [hsz]
      exact (ho.lt _ k).2
  · refine (Chg.of_below hb).trans ((Chg.of_grown (S := S) hg fun k hk => h.mA k hk).trans (Chg.setCell w2 X 2 _ h.mX) fun _ _ t => t) fun _ _ t => t
theorem IxL.pushMk {w w1 w2 : World} {X : Nat} {mv av v' : Value} {s : Ix.St} {S : Nat → Prop} (h : IxL w X mv av s S) (hb : Below w.heap.size w w1) (a : Ix.Mark) (ho : w2.ownsRow 0 52 3 v' (s.marks.length + 1) (s.marks.flatMap mkCells ++ mkCells a)) (hg : w1.grownBy w2 mv.ownBlock) (hv : v'.ownBlock = mv.ownBlock ∨ v'.ownBlock = some w1.heap.size) :
    IxL (w2.setCell ⟨X, 1, none⟩ v') X v' av ⟨s.every, s.marks ++ [a], s.adds, s.time⟩ (Up S w (w2.setCell ⟨X, 1, none⟩ v')) ∧ Chg S w (w2.setCell ⟨X, 1, none⟩ v') := by
  obtain ⟨n1, n2, n3, n4⟩ := h.ne
  have hX := (Array.getElem?_eq_some_iff.1 h.box).1
  have hbs := hb.size
  have hgs := hg.size
  have hbx := h.boxed hb hg n1
  have hnx : v'.ownBlock ≠ some X := fun e => by
    rcases hv with k | k
    · exact n1 (k ▸ e)
    · rw [k] at e; injection e with e; omega
  have hsz : (w2.setCell ⟨X, 1, none⟩ v').heap.size = w2.heap.size := by simp
  refine ⟨⟨heap_setCell_same w2 X 1 _ _ _ hbx, ?_, ownsRow_same h.adds fun g hgm => ?_, .inl h.mX, fun g hga => ?_, fun g hgm => .inl (h.mA g hgm)⟩, ?_⟩
  · have e : (s.marks ++ [a]).length = s.marks.length + 1 := by simp
    have e2 : (s.marks ++ [a]).flatMap mkCells = s.marks.flatMap mkCells ++ mkCells a := by simp
    show World.ownsRow _ 0 _ 3 v' (s.marks ++ [a]).length ((s.marks ++ [a]).flatMap mkCells)
    rw [e, e2]
    exact ownsRow_same ho fun g hga => Below.heap_setCell _ _ _ _ (fun e => hnx (by rw [hga, e]))
  · have hlt := (h.adds.lt g hgm).2
    rw [Below.heap_setCell _ _ _ _ (fun e => n2 (by rw [hgm, e])), hg.block g (by omega) (fun e => by
      rcases n4 with k | k
      · rw [k] at hgm; cases hgm
      · exact k (by rw [hgm, e])), hb.block g hlt]
  · rcases hv with k | k
    · exact .inl (h.mM g (k ▸ hga))
    · rw [k] at hga; injection hga with hga; subst hga
      refine .inr ⟨hbs, ?_⟩
      rw [hsz]
      exact (ho.lt _ k).2
  · refine (Chg.of_below hb).trans ((Chg.of_grown (S := S) hg fun k hk => h.mM k hk).trans (Chg.setCell w2 X 1 _ h.mX) fun _ _ t => t) fun _ _ t => t
end Go.Proofs.YteeadlefbehhfaaDoor
