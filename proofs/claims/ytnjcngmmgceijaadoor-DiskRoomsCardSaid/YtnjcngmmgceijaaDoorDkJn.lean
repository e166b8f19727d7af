/-
  The names of a disk fall back to a copy of the durable ones.
-/
import Derived.Test.YtnjcngmmgceijaaDoorDkU
namespace Go.Proofs.YtnjcngmmgceijaaDoor
open Go.RowKit Go.Maps Go.Sort Go.Shelf

/-- The names are a new map: a copy of the durable ones. -/
theorem DiskL.renamed {w w' : World} {Bd nb db : Nat} {sv : Value} {ids : List Nat} {row : Nat → Value} {s : Dk.St} {S : Nat → Prop} (h : DiskL w Bd nb db sv ids row s S) (nb2 : Nat)
    (hbox : w'.heap[Bd]? = some (.cells (diskCells s nb2 db sv) 58 (0, 0))) (hn : NamesAt w' nb2 s.calls.toNat s.dur) (hk : ∀ k, k < w.heap.size → k ≠ Bd → w'.heap[k]? = w.heap[k]?) (hnb : w.heap.size ≤ nb2) :
    DiskL w' Bd nb2 db sv ids row { s with names := s.dur } (Up S w w') := by
  have lt : ∀ {k : Nat} {o : Obj}, w.heap[k]? = some o → k < w.heap.size := fun h => (Array.getElem?_eq_some_iff.1 h).1
  obtain ⟨m, hd, hm⟩ := h.dur
  have kc : ∀ {k : Nat} {c : Array Value} {t : TypeId}, w.heap[k]? = some (.cells c t (0, 0)) → t ≠ 58 → w'.heap[k]? = w.heap[k]? := fun h1 h2 => hk _ (lt h1) (types_ne h1 h.box h2)
  refine { box := hbox, names := hn, dur := ⟨m, hd.same (hk _ hd.lt (map_ne hd h.box)), hm⟩, ne := by have := hd.lt; omega, since := ownsRow_same h.since fun g hg => ?_, nodup := h.nodup, file := fun i hi => ?_, apart := h.apart, nref := h.dref, dref := h.dref, sref := h.sref, calls := h.calls, mBd := .inl h.mBd, mnb := .inr ⟨hnb, hn.lt⟩, mdb := .inl h.mdb, msv := fun g hg => .inl (h.msv g hg), mid := fun i hi => .inl (h.mid i hi), mrow := fun i hi g hg => .inl (h.mrow i hi g hg) }
  · obtain ⟨cur, h2⟩ := rowBlock_at h.since hg
    exact kc h2 (by decide)
  · have hfi := h.file i hi
    refine hfi.same (kc hfi.box (by decide)) fun g hg => ?_
    obtain ⟨cur, h4⟩ := ownBlock_lt hfi.row hg
    exact kc h4 (by decide)

end Go.Proofs.YtnjcngmmgceijaaDoor
