/-
  An index beside other rows: its blocks by an explicit set.
  Two indexes side by side.
-/
import Derived.Test.YteeadlefbehhfaaDoorIxW
import Derived.Test.YteeadlefbehhfaaDoorIxR
import Derived.Test.YteeadlefbehhfaaDoorIxCp
import Derived.Test.YteeadlefbehhfaaDoorIxY
namespace Go.Proofs.YteeadlefbehhfaaDoor
open Go.RowKit

structure IxO (w0 : World) (X : Nat) (s : Ix.St) (S : Nat → Prop) (w : World) : Prop where
  ix : IxAt w X s S
  lo : ∀ k, S k → w0.heap.size ≤ k ∧ k < w.heap.size
  bel : Below w0.heap.size w0 w
  ok : Ix.Ok s
theorem IxO.below {w0 : World} {X : Nat} {s : Ix.St} {S : Nat → Prop} {w w' : World} (h : IxO w0 X s S w) (hb : Below w.heap.size w w') : IxO w0 X s S w' :=
  ⟨h.ix.same fun k _ hk => hb.block k hk, fun k hk => ⟨(h.lo k hk).1, Nat.lt_of_lt_of_le (h.lo k hk).2 hb.size⟩, h.bel.trans (hb.mono h.bel.size), h.ok⟩
theorem IxO.add {w0 : World} {X : Nat} {s : Ix.St} {S : Nat → Prop} {w : World} (h : IxO w0 X s S w) (p : Nat → Addr) (hs : Sent4 w0 p) (o t q z : Int) (hn : s.adds.length ≤ 1000000) (hm : s.marks.length ≤ 1000000) :
    Calls Tryd.prog 19 #[.pointer (some ⟨X, 0, none⟩), .int .i64 o, .int .i64 t, .int .i64 q, .int .i64 z] w fun r w' => r = .returned (errR p (Ix.add s o t q z).1) ∧ IxO w0 X (Ix.add s o t q z).2 (Up S w w') w' ∧ Chg S w w' := by
  refine (ixAdd_any X s _ p o t q z w h.ix h.ok hn hm ((hs.below h.bel).cell 4 rfl)).mono ?_
  rintro r w' ⟨rfl, hi, hc⟩
  have hz := h.bel.size
  have hcs := hc.size
  refine ⟨rfl, ⟨hi, fun k hk => ?_, h.bel.trans (hc.below hz fun k hk => (h.lo k hk).1), h.ok.add o t q z⟩, hc⟩
  rcases hk with hk | hk
  · have := h.lo k hk; omega
  · omega
theorem IxO.grow {w0 : World} {X : Nat} {s : Ix.St} {S : Nat → Prop} {w w1 w2 : World} {row : Option Nat} (h : IxO w0 X s S w) (hb : Below w.heap.size w w1) (hg : w1.grownBy w2 row) (hr : ∀ g, row = some g → ¬ S g ∧ w0.heap.size ≤ g) : IxO w0 X s S w2 := by
  have h1 := hb.size
  have h2 := hg.size
  have h0 := h.bel.size
  refine ⟨h.ix.same fun k hk hkw => ?_, fun k hk => ?_, (h.bel.trans (hb.mono h0)).grown hg (by omega) fun g e => (hr g e).2, h.ok⟩
  · exact (hg.block k (by omega) fun e => (hr k e.symm).1 hk).trans (hb.block k hkw)
  · have := h.lo k hk; omega
theorem new_ixO (w0 : World) (e : Int) (w : World) (hb : Below w0.heap.size w0 w) (h : 1 ≤ e ∧ e ≤ 1048576) :
    Calls Tryd.prog 18 #[.int .i64 e] w fun r w' => r = .returned (.tuple #[.pointer (some ⟨w.heap.size, 0, none⟩), .nilIface]) ∧ IxO w0 w.heap.size (Ix.new e) (fun k => w.heap.size ≤ k ∧ k < w'.heap.size) w' ∧ Below w.heap.size w w' := by
  refine (ixNew_any e w h).mono ?_
  rintro r w' ⟨rfl, hi, hb'⟩
  have := hb.size
  exact ⟨rfl, ⟨hi, fun k hk => ⟨by omega, hk.2⟩, hb.trans (hb'.mono hb.size), Ix.Ok.new e h⟩, hb'⟩

/-- A row of ints of one's own. -/
def OwnI (w : World) (base : Nat) (v : Value) (l : List Int) : Prop := w.ownsRow base 3 1 v l.length (l.map (.int .i64 ·))
theorem int_info : (Tryd.prog.info? 3).map (fun i => (i.zero, i.size, i.bytes)) = some (some (.int .i64 0), 1, 8) := by kernel_rfl
theorem OwnI.get {w : World} {base : Nat} {v : Value} {l : List Int} (h : OwnI w base v l) : ∃ A c, v = .slice A l.length c ∧ ∀ k, k < l.length → ∃ g, A = some ⟨g, 0, none⟩ ∧ l.length ≤ c ∧ w.cell? ⟨g, k, none⟩ = some (.int .i64 (l.getD k 0)) := by
  rcases h.2 with ⟨e, e2⟩ | ⟨g, cap, cur, e, _, hh, hcap, _⟩
  · exact ⟨none, 0, by rw [e, e2], fun k hk => by omega⟩
  · refine ⟨_, cap, e, fun k hk => ⟨g, rfl, by omega, ?_⟩⟩
    have hc := World.ownsRow.cells (g := g) h (by rw [e]; rfl) k (.int .i64 (l.getD k 0)) (by simp [List.getD, hk])
    rwa [Addr.add_lit, Nat.zero_add] at hc
theorem OwnI.same {w w' : World} {base : Nat} {v : Value} {l : List Int} (h : OwnI w base v l) (hk : ∀ g, v.ownBlock = some g → w'.heap[g]? = w.heap[g]?) : OwnI w' base v l := ownsRow_same h hk

namespace Ix
theorem lastT {e : Int} {z : Nat → Int} (m : Nat) : ∃ L, (stF e z (m + 1)).marks.length = L + 1 ∧ L ≤ m ∧ ∀ (h : L < (stF e z (m + 1)).marks.length), ((stF e z (m + 1)).marks[L]).time = (lm e z m : Nat) := by
  have hl := mksF_last (e := e) (z := z) m
  have hle := mksF_len (e := e) (z := z) (m + 1)
  have h0 : (stF e z (m + 1)).marks.length = (mksF e z (m + 1)).length := by simp [stF]
  have hp : 0 < (mksF e z (m + 1)).length := by
    rcases List.eq_nil_or_concat (mksF e z (m + 1)) with e0 | ⟨_, _, e0⟩
    · rw [e0] at hl; cases hl
    · rw [e0]; simp
  refine ⟨(mksF e z (m + 1)).length - 1, by omega, by omega, fun h => ?_⟩
  rw [List.getLast?_eq_getElem?, List.getElem?_eq_getElem (by omega)] at hl
  have hl' := Option.some.inj hl
  simp only [stF, List.getElem_map, hl', mkF]
end Ix
theorem last_row {w : World} {base : Nat} {v : Value} {e : Int} {z : Nat → Int} {m L : Nat} (hL : (Ix.stF e z (m + 1)).marks.length = L + 1) (ht : ∀ (h : L < (Ix.stF e z (m + 1)).marks.length), ((Ix.stF e z (m + 1)).marks[L]).time = (Ix.lm e z m : Nat))
    (h : w.ownsRow base 52 3 v (Ix.stF e z (m + 1)).marks.length ((Ix.stF e z (m + 1)).marks.flatMap mkCells)) : ∃ g c, v = .slice (some ⟨g, 0, none⟩) (L + 1) c ∧ L + 1 ≤ c ∧ w.cell? ⟨g, L * 3 + 1, none⟩ = some (.int .i64 (Ix.lm e z m : Nat)) := by
  obtain ⟨g, c, e1, hc, hk⟩ := mk_row h (by omega)
  obtain ⟨-, k2, -⟩ := hk L (by omega)
  rw [ht] at k2
  exact ⟨g, c, by rw [e1, hL], by omega, k2⟩
end Go.Proofs.YteeadlefbehhfaaDoor

namespace Go.Proofs.YteeadlefbehhfaaDoor
open Go.RowKit

structure Two (w0 : World) (X Y : Nat) (s t : Ix.St) (w : World) : Prop where
  ex : ∃ S T : Nat → Prop, IxO w0 X s S w ∧ IxO w0 Y t T w ∧ ∀ k, S k → ¬ T k

theorem Two.swap {w0 : World} {X Y : Nat} {s t : Ix.St} {w : World} (h : Two w0 X Y s t w) : Two w0 Y X t s w := by
  obtain ⟨S, T, hs, ht, hd⟩ := h.ex
  exact ⟨T, S, ht, hs, fun k h1 h2 => hd k h2 h1⟩
theorem Two.below {w0 : World} {X Y : Nat} {s t : Ix.St} {w w' : World} (h : Two w0 X Y s t w) (hb : Below w.heap.size w w') : Two w0 X Y s t w' := by
  obtain ⟨S, T, hs, ht, hd⟩ := h.ex
  exact ⟨S, T, hs.below hb, ht.below hb, hd⟩
theorem Two.bel {w0 : World} {X Y : Nat} {s t : Ix.St} {w : World} (h : Two w0 X Y s t w) : Below w0.heap.size w0 w := by
  obtain ⟨S, T, hs, ht, hd⟩ := h.ex
  exact hs.bel
/-- A change within one's blocks, or new ones, leaves the other. -/
theorem IxO.other {w0 : World} {Y : Nat} {t : Ix.St} {S T : Nat → Prop} {w w' : World} (h : IxO w0 Y t T w) (hc : Chg S w w') (hb : Below w0.heap.size w0 w') (hd : ∀ k, S k → ¬ T k) : IxO w0 Y t T w' :=
  ⟨h.ix.same fun k hk hl => hc.block k hl fun hs => hd k hs hk, fun k hk => ⟨(h.lo k hk).1, Nat.lt_of_lt_of_le (h.lo k hk).2 hc.size⟩, hb, h.ok⟩
theorem Two.addX {w0 : World} {X Y : Nat} {s t : Ix.St} {w : World} (h : Two w0 X Y s t w) (p : Nat → Addr) (hs : Sent4 w0 p) (o q a z : Int) (hn : s.adds.length ≤ 1000000) (hm : s.marks.length ≤ 1000000) :
    Calls Tryd.prog 19 #[.pointer (some ⟨X, 0, none⟩), .int .i64 o, .int .i64 q, .int .i64 a, .int .i64 z] w fun r w' => r = .returned (errR p (Ix.add s o q a z).1) ∧ Two w0 X Y (Ix.add s o q a z).2 t w' := by
  obtain ⟨S, T, h1, h2, hd⟩ := h.ex
  refine (h1.add p hs o q a z hn hm).mono ?_
  rintro r w' ⟨rfl, hi, hc⟩
  refine ⟨rfl, ⟨_, T, hi, h2.other hc hi.bel hd, fun k hk hT => ?_⟩⟩
  rcases hk with hk | hk
  · exact hd k hk hT
  · have := (h2.lo k hT).2; omega
theorem Two.addY {w0 : World} {X Y : Nat} {s t : Ix.St} {w : World} (h : Two w0 X Y s t w) (p : Nat → Addr) (hs : Sent4 w0 p) (o q a z : Int) (hn : t.adds.length ≤ 1000000) (hm : t.marks.length ≤ 1000000) :
    Calls Tryd.prog 19 #[.pointer (some ⟨Y, 0, none⟩), .int .i64 o, .int .i64 q, .int .i64 a, .int .i64 z] w fun r w' => r = .returned (errR p (Ix.add t o q a z).1) ∧ Two w0 X Y s (Ix.add t o q a z).2 w' := by
  refine (h.swap.addX p hs o q a z hn hm).mono ?_
  rintro r w' ⟨rfl, hi⟩
  exact ⟨rfl, hi.swap⟩
theorem Two.cutX {w0 : World} {X Y : Nat} {s t : Ix.St} {w : World} (h : Two w0 X Y s t w) (p : Int) (hn : s.adds.length ≤ 1000000) (hm : s.marks.length ≤ 1000000)
    (hm1 : ∀ a b, a ≤ b → b < s.marks.length → p ≤ (s.marks.getD a ⟨0, 0, 0⟩).pos → p ≤ (s.marks.getD b ⟨0, 0, 0⟩).pos)
    (hm2 : ∀ a b, a ≤ b → b < s.adds.length → p ≤ (s.adds.getD a ⟨0, 0⟩).pos → p ≤ (s.adds.getD b ⟨0, 0⟩).pos) :
    Calls Tryd.prog 22 #[.pointer (some ⟨X, 0, none⟩), .int .i64 p] w fun r w' => r = .returned (.tuple #[]) ∧ Two w0 X Y (s.cut p) t w' := by
  obtain ⟨S, T, h1, h2, hd⟩ := h.ex
  refine (ixCut_any X s S p w h1.ix hm hn (fun k hk => (h1.lo k hk).2) hm1 hm2).mono ?_
  rintro r w' ⟨rfl, hi, hc⟩
  have hb := h1.bel.trans (hc.below h1.bel.size fun k hk => (h1.lo k hk).1)
  exact ⟨rfl, ⟨S, T, ⟨hi, fun k hk => ⟨(h1.lo k hk).1, Nat.lt_of_lt_of_le (h1.lo k hk).2 hc.size⟩, hb, h1.ok.cut p⟩, h2.other hc hb hd, hd⟩⟩
theorem Two.marksX {w0 : World} {X Y : Nat} {s t : Ix.St} {w : World} (h : Two w0 X Y s t w) (hm : s.marks.length ≤ 1000000) :
    Calls Tryd.prog 14 #[.pointer (some ⟨X, 0, none⟩)] w fun r w' => ∃ A c, r = .returned (.slice A s.marks.length c) ∧ s.marks.length ≤ c ∧ (∀ k, k < s.marks.length → ∃ g, A = some ⟨g, 0, none⟩ ∧ g < w'.heap.size ∧ w'.cell? ⟨g, k * 3, none⟩ = some (.int .i64 (s.marks.getD k ⟨0, 0, 0⟩).off) ∧ w'.cell? ⟨g, k * 3 + 1, none⟩ = some (.int .i64 (s.marks.getD k ⟨0, 0, 0⟩).time) ∧ w'.cell? ⟨g, k * 3 + 2, none⟩ = some (.int .i64 (s.marks.getD k ⟨0, 0, 0⟩).pos)) ∧ Below w.heap.size w w' := by
  obtain ⟨S, T, h1, h2, hd⟩ := h.ex
  refine (marks_any X s S w (by omega) h1.ix).mono ?_
  rintro r w' ⟨v, rfl, hv, hb⟩
  rcases Nat.eq_zero_or_pos s.marks.length with h0 | h0
  · rcases hv.2 with ⟨e, _⟩ | ⟨g, cap, cur, e, _, hh, hcap, _⟩
    · exact ⟨none, 0, by rw [e, h0], by omega, fun k hk => by omega, hb⟩
    · exact ⟨_, cap, by rw [e], by omega, fun k hk => by omega, hb⟩
  · obtain ⟨g, c, rfl, hc, hcell⟩ := mk_row hv h0
    refine ⟨_, c, rfl, hc, fun k hk => ⟨g, rfl, ?_, ?_⟩, hb⟩
    · exact World.block_lt_of_cell? _ _ (hcell 0 h0).1
    · have eg : s.marks.getD k ⟨0, 0, 0⟩ = s.marks[k] := by simp [List.getD, hk]
      rw [eg]; exact hcell k hk
theorem Two.marksY {w0 : World} {X Y : Nat} {s t : Ix.St} {w : World} (h : Two w0 X Y s t w) (hm : t.marks.length ≤ 1000000) :
    Calls Tryd.prog 14 #[.pointer (some ⟨Y, 0, none⟩)] w fun r w' => ∃ A c, r = .returned (.slice A t.marks.length c) ∧ t.marks.length ≤ c ∧ (∀ k, k < t.marks.length → ∃ g, A = some ⟨g, 0, none⟩ ∧ g < w'.heap.size ∧ w'.cell? ⟨g, k * 3, none⟩ = some (.int .i64 (t.marks.getD k ⟨0, 0, 0⟩).off) ∧ w'.cell? ⟨g, k * 3 + 1, none⟩ = some (.int .i64 (t.marks.getD k ⟨0, 0, 0⟩).time) ∧ w'.cell? ⟨g, k * 3 + 2, none⟩ = some (.int .i64 (t.marks.getD k ⟨0, 0, 0⟩).pos)) ∧ Below w.heap.size w w' := h.swap.marksX hm
/-- A second index, made beside the first. -/
theorem new_two (w0 : World) (X : Nat) (s : Ix.St) (S : Nat → Prop) (e : Int) (w : World) (h1 : IxO w0 X s S w) (h : 1 ≤ e ∧ e ≤ 1048576) :
    Calls Tryd.prog 18 #[.int .i64 e] w fun r w' => r = .returned (.tuple #[.pointer (some ⟨w.heap.size, 0, none⟩), .nilIface]) ∧ Two w0 X w.heap.size s (Ix.new e) w' := by
  refine (new_ixO w0 e w h1.bel h).mono ?_
  rintro r w' ⟨rfl, hi, hb⟩
  exact ⟨rfl, ⟨S, _, h1.below hb, hi, fun k hk hT => by have := (h1.lo k hk).2; omega⟩⟩
end Go.Proofs.YteeadlefbehhfaaDoor
