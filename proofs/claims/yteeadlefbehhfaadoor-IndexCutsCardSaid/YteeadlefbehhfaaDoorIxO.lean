/-
  An index beside other rows: its blocks by an explicit set.
-/
import Derived.Test.YteeadlefbehhfaaDoorIxX
import Derived.Test.YteeadlefbehhfaaDoorIxR
namespace Go.Proofs.YteeadlefbehhfaaDoor
open Go.RowKit

structure IxO (w0 : World) (X : Nat) (s : Ix.St) (S : Nat → Prop) (w : World) : Prop where
  ix : IxAt w X s S
  lo : ∀ k, S k → w0.heap.size ≤ k ∧ k < w.heap.size
  bel : Below w0.heap.size w0 w
  ok : Ix.Ok s
theorem IxO.below {w0 : World} {X : Nat} {s : Ix.St} {S : Nat → Prop} {w w' : World} (h : IxO w0 X s S w) (hb : Below w.heap.size w w') : IxO w0 X s S w' :=
  ⟨h.ix.same fun k _ hk => hb.block k hk, fun k hk => ⟨(h.lo k hk).1, Nat.lt_of_lt_of_le (h.lo k hk).2 hb.size⟩, h.bel.trans (hb.mono h.bel.size), h.ok⟩
theorem IxO.add {w0 : World} {X : Nat} {s : Ix.St} {S : Nat → Prop} {w : World} (h : IxO w0 X s S w) (p : Nat → Addr) (hs : Sent4 w0 p) (o t q z : Int) (hn : s.adds.length ≤ 1000000) (hm : s.marks.length ≤ 1000000) :
    Calls Tryd.prog 19 #[.pointer (some ⟨X, 0, none⟩), .int .i64 o, .int .i64 t, .int .i64 q, .int .i64 z] w fun r w' => r = .returned (errR p (Ix.add s o t q z).1) ∧ IxO w0 X (Ix.add s o t q z).2 (Up S w w') w' ∧ Chg S w w' := by
  refine (ixAdd_any X s _ p o t q z w h.ix h.ok hn hm ((hs.below h.bel).cell 4 rfl)).mono ?_
  rintro r w' ⟨rfl, hi, hc⟩
  have hz := h.bel.size
  have hcs := hc.size
  refine ⟨rfl, ⟨hi, fun k hk => ?_, h.bel.trans (hc.below hz fun k hk => (h.lo k hk).1), h.ok.add o t q z⟩, hc⟩
  rcases hk with hk | hk
  · have := h.lo k hk; omega
  · omega
theorem IxO.grow {w0 : World} {X : Nat} {s : Ix.St} {S : Nat → Prop} {w w1 w2 : World} {row : Option Nat} (h : IxO w0 X s S w) (hb : Below w.heap.size w w1) (hg : w1.grownBy w2 row) (hr : ∀ g, row = some g → ¬ S g ∧ w0.heap.size ≤ g) : IxO w0 X s S w2 := by
  have h1 := hb.size
  have h2 := hg.size
  have h0 := h.bel.size
  refine ⟨h.ix.same fun k hk hkw => ?_, fun k hk => ?_, (h.bel.trans (hb.mono h0)).grown hg (by omega) fun g e => (hr g e).2, h.ok⟩
  · exact (hg.block k (by omega) fun e => (hr k e.symm).1 hk).trans (hb.block k hkw)
  · have := h.lo k hk; omega
theorem new_ixO (w0 : World) (e : Int) (w : World) (hb : Below w0.heap.size w0 w) (h : 1 ≤ e ∧ e ≤ 1048576) :
    Calls Tryd.prog 18 #[.int .i64 e] w fun r w' => r = .returned (.tuple #[.pointer (some ⟨w.heap.size, 0, none⟩), .nilIface]) ∧ IxO w0 w.heap.size (Ix.new e) (fun k => w.heap.size ≤ k ∧ k < w'.heap.size) w' ∧ Below w.heap.size w w' := by
  refine (ixNew_any e w h).mono ?_
  rintro r w' ⟨rfl, hi, hb'⟩
  have := hb.size
  exact ⟨rfl, ⟨hi, fun k hk => ⟨by omega, hk.2⟩, hb.trans (hb'.mono hb.size), Ix.Ok.new e h⟩, hb'⟩

/-- A row of ints of one's own. -/
def OwnI (w : World) (base : Nat) (v : Value) (l : List Int) : Prop := w.ownsRow base 3 1 v l.length (l.map (.int .i64 ·))
theorem int_info : (Tryd.prog.info? 3).map (fun i => (i.zero, i.size, i.bytes)) = some (some (.int .i64 0), 1, 8) := by kernel_rfl
theorem OwnI.get {w : World} {base : Nat} {v : Value} {l : List Int} (h : OwnI w base v l) : ∃ A c, v = .slice A l.length c ∧ ∀ k, k < l.length → ∃ g, A = some ⟨g, 0, none⟩ ∧ l.length ≤ c ∧ w.cell? ⟨g, k, none⟩ = some (.int .i64 (l.getD k 0)) := by
  rcases h.2 with ⟨e, e2⟩ | ⟨g, cap, cur, e, _, hh, hcap, _⟩
  · exact ⟨none, 0, by rw [e, e2], fun k hk => by omega⟩
  · refine ⟨_, cap, e, fun k hk => ⟨g, rfl, by omega, ?_⟩⟩
    have hc := World.ownsRow.cells (g := g) h (by rw [e]; rfl) k (.int .i64 (l.getD k 0)) (by simp [List.getD, hk])
    rwa [Addr.add_lit, Nat.zero_add] at hc
theorem OwnI.same {w w' : World} {base : Nat} {v : Value} {l : List Int} (h : OwnI w base v l) (hk : ∀ g, v.ownBlock = some g → w'.heap[g]? = w.heap[g]?) : OwnI w' base v l := ownsRow_same h hk

namespace Ix
theorem lastT {e : Int} {z : Nat → Int} (m : Nat) : ∃ L, (stF e z (m + 1)).marks.length = L + 1 ∧ L ≤ m ∧ ∀ (h : L < (stF e z (m + 1)).marks.length), ((stF e z (m + 1)).marks[L]).time = (lm e z m : Nat) := by
  have hl := mksF_last (e := e) (z := z) m
  have hle := mksF_len (e := e) (z := z) (m + 1)
  have h0 : (stF e z (m + 1)).marks.length = (mksF e z (m + 1)).length := by simp [stF]
  have hp : 0 < (mksF e z (m + 1)).length := by
    rcases List.eq_nil_or_concat (mksF e z (m + 1)) with e0 | ⟨_, _, e0⟩
    · rw [e0] at hl; cases hl
    · rw [e0]; simp
  refine ⟨(mksF e z (m + 1)).length - 1, by omega, by omega, fun h => ?_⟩
  rw [List.getLast?_eq_getElem?, List.getElem?_eq_getElem (by omega)] at hl
  have hl' := Option.some.inj hl
  simp only [stF, List.getElem_map, hl', mkF]
end Ix
theorem last_row {w : World} {base : Nat} {v : Value} {e : Int} {z : Nat → Int} {m L : Nat} (hL : (Ix.stF e z (m + 1)).marks.length = L + 1) (ht : ∀ (h : L < (Ix.stF e z (m + 1)).marks.length), ((Ix.stF e z (m + 1)).marks[L]).time = (Ix.lm e z m : Nat))
    (h : w.ownsRow base 52 3 v (Ix.stF e z (m + 1)).marks.length ((Ix.stF e z (m + 1)).marks.flatMap mkCells)) : ∃ g c, v = .slice (some ⟨g, 0, none⟩) (L + 1) c ∧ L + 1 ≤ c ∧ w.cell? ⟨g, L * 3 + 1, none⟩ = some (.int .i64 (Ix.lm e z m : Nat)) := by
  obtain ⟨g, c, e1, hc, hk⟩ := mk_row h (by omega)
  obtain ⟨-, k2, -⟩ := hk L (by omega)
  rw [ht] at k2
  exact ⟨g, c, by rw [e1, hL], by omega, k2⟩
end Go.Proofs.YteeadlefbehhfaaDoor
