/-
  SegFull walked.
-/
import Derived.Test.YtfdppggdgdnnaaaGreatDoorZ19
import Derived.Test.YtfdppggdgdnnaaaGreatDoorZ21
import Derived.Test.YtfdppggdgdnnaaaGreatDoorZ16
import Derived.Test.YtfdppggdgdnnaaaGreatDoorZ7
import Derived.Deep.CutBlock
import Derived.Deep.CutRange
namespace Go.Proofs.YtfdppggdgdnnaaaGreatDoor
open Go.RowKit Go.Maps Go.Sort

/-- SegFull on its way: a segment of batches of one epoch, so many at most. -/
structure Fu (w1 : World) (S T : Nat → Prop) (Bd X : Nat) (room : Int) (x k : Nat) (d : Dk.St) (s : Sg.St) (bs : List Rc.Bat) (w : World) : Prop where
  sg : SgW w1 S T (k + 3) Bd d X s w
  md : Md d s room ((bs.flatMap Rc.bytes).length : Nat) (Dk.upd (fun _ => none) (Nm.seg 0) (some x)) (Sg.begin (Nm.seg 0) 0 10) x bs
  len : bs.length ≤ k
  off : ∃ a : Nat, (Sg.last s.edges).off = a ∧ a ≤ 5 * k
  ep : (Sg.last s.edges).ep ≤ 1
  small : ∀ b ∈ bs, (Rc.bytes b).length ≤ 300
theorem Fu.bytes {w1 w : World} {S T : Nat → Prop} {Bd X : Nat} {room : Int} {x k : Nat} {d : Dk.St} {s : Sg.St} {bs : List Rc.Bat} (h : Fu w1 S T Bd X room x k d s bs w) : (bs.flatMap Rc.bytes).length ≤ 300 * k := by
  have h1 := flat_len_le Rc.bytes 300 bs h.small
  have h2 := h.len
  omega
theorem Fu.quiet {w1 w w' : World} {S T : Nat → Prop} {Bd X : Nat} {room : Int} {x k : Nat} {d : Dk.St} {s : Sg.St} {bs : List Rc.Bat} (h : Fu w1 S T Bd X room x k d s bs w) (hb : Below w.heap.size w w') : Fu w1 S T Bd X room x k d s bs w' := ⟨h.sg.grow hb, h.md, h.len, h.off, h.ep, h.small⟩
/-- A batch that lies there as a value. -/
def NewAt (lo : Nat) (w : World) (A : Option Addr) (c : Nat) (b : Rc.Bat) : Prop := ∃ l0 wk, lo ≤ l0 ∧ NewBat l0 wk A c b ∧ Above l0 wk w
theorem NewAt.grow {lo : Nat} {w w' : World} {A : Option Addr} {c : Nat} {b : Rc.Bat} (h : NewAt lo w A c b) (hb : Below w.heap.size w w') : NewAt lo w' A c b := by
  obtain ⟨l0, wk, h1, h2, h3⟩ := h
  exact ⟨l0, wk, h1, h2, h3.trans (Above.of_below hb)⟩
def heldBat (lo : Nat) (b : Rc.Bat) : Held (fun a b : World => Below a.heap.size a b) :=
  ⟨fun v w => ∃ A c, v = batV b.base b.epoch A b.recs.length c ∧ NewAt lo w A c b, fun _ _ _ ⟨A, c, h1, h2⟩ hg => ⟨A, c, h1, h2.grow hg⟩⟩
def heldBats (lo : Nat) (b : Rc.Bat) : Held (fun a b : World => Below a.heap.size a b) :=
  ⟨fun v w => ∃ A c qs, v = .slice A 1 c ∧ 1 ≤ c ∧ BRow w lo (.slice A 1 c) qs ∧ qs.map (·.b) = [b], fun _ _ _ ⟨A, c, qs, h1, h2, h3, h4⟩ hg => ⟨A, c, qs, h1, h2, h3.below hg, h4⟩⟩
def heldPBat (lo : Nat) (b : Rc.Bat) : Held (fun a b : World => Below a.heap.size a b) :=
  ⟨fun v w => ∃ g A c, v = .pointer (some ⟨g, 0, none⟩) ∧ g < w.heap.size ∧ w.cell? ⟨g, 0, none⟩ = some (.int .i64 b.base) ∧ w.cell? ⟨g, 1, none⟩ = some (.int .i64 b.epoch) ∧ w.cell? ⟨g, 2, none⟩ = some (.slice A b.recs.length c) ∧ NewAt lo w A c b, fun _ _ _ ⟨g, A, c, h1, h2, q0, q1, q2, q3⟩ hg => ⟨g, A, c, h1, Nat.lt_of_lt_of_le h2 hg.size, (hg.cell (p := ⟨g, 0, none⟩) h2).trans q0, (hg.cell (p := ⟨g, 1, none⟩) h2).trans q1, (hg.cell (p := ⟨g, 2, none⟩) h2).trans q2, q3.grow hg⟩⟩
/-- The first of a row of one batch. -/
theorem BRow.one {w : World} {lo : Nat} {A : Option Addr} {c : Nat} {qs : List PBat} {b : Rc.Bat} (h : BRow w lo (.slice A 1 c) qs) (he : qs.map (·.b) = [b]) : ∃ g Ax cx, A = some ⟨g, 0, none⟩ ∧ g < w.heap.size ∧ w.cell? ⟨g, 0, none⟩ = some (.int .i64 b.base) ∧ w.cell? ⟨g, 1, none⟩ = some (.int .i64 b.epoch) ∧ w.cell? ⟨g, 2, none⟩ = some (.slice Ax b.recs.length cx) ∧ NewAt lo w Ax cx b := by
  obtain ⟨q, rfl⟩ : ∃ q, qs = [q] := List.length_eq_one_iff.1 (by have := congrArg List.length he; simpa using this)
  have hq : q.b = b := by simpa using he
  subst hq
  have hown := h.own
  rcases hown.2 with ⟨e, _⟩ | ⟨g, cap, cur, e, _⟩
  · cases e
  · injection e with e1 _ _
    subst e1
    have cl : ∀ (j : Nat) (v : Value), (PBat.cells q)[j]? = some v → w.cell? ⟨g, j, none⟩ = some v := fun j v hv => by
      have hc := hown.cells (g := g) rfl j v (by simpa using hv)
      rw [Addr.add_lit] at hc
      simpa using hc
    obtain ⟨l0, wk, h0, h1, h2, -⟩ := h.el q List.mem_cons_self
    have c0 := cl 0 _ rfl
    exact ⟨g, q.A, q.c, rfl, World.block_lt_of_cell? w _ c0, c0, cl 1 _ rfl, cl 2 _ rfl, l0, wk, h0, h1, h2⟩
def heldOne (lo : Nat) (z : Int) : Held (fun a b : World => Below a.heap.size a b) :=
  ⟨fun v w => ∃ g, lo ≤ g ∧ v = .slice (some ⟨g, 0, none⟩) 1 1 ∧ g < w.heap.size ∧ w.cell? ⟨g, 0, none⟩ = some (.int .i64 z), fun _ _ _ ⟨g, h0, h1, h2, h3⟩ hg => ⟨g, h0, h1, Nat.lt_of_lt_of_le h2 hg.size, (hg.cell (p := ⟨g, 0, none⟩) h2).trans h3⟩⟩
def heldNewB (lo : Nat) : Held (fun a b : World => Below a.heap.size a b) :=
  ⟨fun v w => ∃ g, lo ≤ g ∧ v = .pointer (some ⟨g, 0, none⟩) ∧ w.heap[g]? = some boxB, fun _ _ _ ⟨g, h0, h1, h2⟩ hg => ⟨g, h0, h1, (hg.block g (Array.getElem?_eq_some_iff.1 h2).1).trans h2⟩⟩

/-- The box written. -/
theorem boxed {wr w5 : World} {gB : Nat} {Ab : Option Addr} {cb : Nat} {b : Rc.Bat} (h5 : Below wr.heap.size wr w5) (hg : wr.heap.size ≤ gB) (hc : w5.heap[gB]? = some boxB) (hn : NewAt wr.heap.size w5 Ab cb b) (w6 : World) (hw : w6 = ((w5.setCell ⟨gB, 0, none⟩ (.int .i64 b.base)).setCell ⟨gB, 1, none⟩ (.int .i64 b.epoch)).setCell ⟨gB, 2, none⟩ (.slice Ab b.recs.length cb)) (S : Nat → Prop) (hS : ∀ k, S k → k < wr.heap.size) :
    Below wr.heap.size wr w6 ∧ ∀ W, Chg S w6 W → IsBat W Ab cb b ∧ W.cell? ⟨gB, 0, none⟩ = some (.int .i64 b.base) ∧ W.cell? ⟨gB, 1, none⟩ = some (.int .i64 b.epoch) ∧ W.cell? ⟨gB, 2, none⟩ = some (.slice Ab b.recs.length cb) := by
  have hz : w6.heap.size = w5.heap.size := by rw [hw]; simp
  have hbk : ∀ k, k ≠ gB → w6.heap[k]? = w5.heap[k]? := fun k hk => by
    rw [hw, Below.heap_setCell _ _ _ _ (by exact hk), Below.heap_setCell _ _ _ _ (by exact hk), Below.heap_setCell _ _ _ _ (by exact hk)]
  have hgz : gB < w5.heap.size := (Array.getElem?_eq_some_iff.1 hc).1
  have h6 : Below wr.heap.size wr w6 := by
    rw [hw]
    exact ((h5.setCell (p := ⟨gB, 0, none⟩) hg _).setCell (p := ⟨gB, 1, none⟩) hg _).setCell (p := ⟨gB, 2, none⟩) hg _
  have hSg : ¬ S gB := fun h => by have := hS gB h; omega
  have ne : ∀ {i j : Nat} {u : Value} {W : World}, i ≠ j → (W.setCell ⟨gB, j, none⟩ u).cell? ⟨gB, i, none⟩ = W.cell? ⟨gB, i, none⟩ := fun hne => World.cell?_setCell_other _ _ _ _ (by intro e; injection e with _ e _; exact hne e.symm)
  have b0 : w5.cell? ⟨gB, 0, none⟩ = some (.int .i64 0) := box_cell hc 0
  have b1 : w5.cell? ⟨gB, 1, none⟩ = some (.int .i64 0) := box_cell hc 1
  have b2 : w5.cell? ⟨gB, 2, none⟩ = some (.slice none 0 0) := box_cell hc 2
  refine ⟨h6, fun W hW => ⟨?_, hW.cell ?_ hSg, hW.cell ?_ hSg, hW.cell ?_ hSg⟩⟩
  · obtain ⟨l0, wk, g1, g2, g3⟩ := hn
    refine g2.beside g3 hc (by have := hW.size; omega) fun k k1 k2 k3 => ?_
    rw [hW.block k (by omega) (fun h => by have := hS k h; omega), hbk k k3]
  · rw [hw, ne (by omega), ne (by omega), World.cell?_setCell_same _ _ _ b0]
  · rw [hw, ne (by omega), World.cell?_setCell_same _ _ _ ((ne (by omega)).trans b1)]
  · rw [hw, World.cell?_setCell_same _ _ _ ((ne (by omega)).trans ((ne (by omega)).trans b2))]

end Go.Proofs.YtfdppggdgdnnaaaGreatDoor
