/-
  Package index: When.
  A session with an index; Long.
  first() of the index's statements.
-/
import Derived.Test.YtoaioijgmbhhnaaDoorIxA
import Derived.Test.YtoaioijgmbhhnaaDoorHSame
namespace Go.Proofs.YtoaioijgmbhhnaaDoor
open Go.RowKit

namespace Ix
/-- The first mark whose time is not below t. -/
def St.when (s : St) (t : Int) : Int × Bool := match s.marks.find? (fun m => decide (t ≤ m.time)) with | some m => (m.off, true) | none => (0, false)
theorem when_at {s : St} {t : Int} (j : Nat) (hj : j < s.marks.length) (hb : ∀ i (h : i < s.marks.length), i < j → s.marks[i].time < t) (ht : t ≤ s.marks[j].time) : s.when t = (s.marks[j].off, true) := by
  have : s.marks.find? (fun m => decide (t ≤ m.time)) = some s.marks[j] := by
    rw [List.find?_eq_some_iff_getElem]
    exact ⟨by simp [ht], j, hj, rfl, fun i hi => by have := hb i (by omega) hi; simp; omega⟩
  unfold St.when; rw [this]
theorem when_none {s : St} {t : Int} (hb : ∀ i (h : i < s.marks.length), s.marks[i].time < t) : s.when t = (0, false) := by
  have : s.marks.find? (fun m => decide (t ≤ m.time)) = none := by
    rw [List.find?_eq_none]
    intro m hm
    obtain ⟨i, hi, rfl⟩ := List.getElem_of_mem hm
    have := hb i hi
    simp; omega
  unfold St.when; rw [this]
end Ix

end Go.Proofs.YtoaioijgmbhhnaaDoor

namespace Go.Proofs.YtoaioijgmbhhnaaDoor
open Go.RowKit

/-- ErrRange as the program lays it. -/
abbrev Sent4 (w : World) (p : Nat → Addr) : Prop := SentsOn (fun j => j = 4) w p
/-- An index at X since w0. -/
structure IxS (w0 : World) (X : Nat) (s : Ix.St) (w : World) : Prop where
  ix : IxAt w X s (fun k => w0.heap.size ≤ k ∧ k < w.heap.size)
  bel : Below w0.heap.size w0 w
  ok : Ix.Ok s
theorem IxS.drew {w0 : World} {X : Nat} {s : Ix.St} {w : World} (h : IxS w0 X s w) (q : Nat) : IxS w0 X s (w.drewN q) := ⟨h.ix.same fun _ _ _ => rfl, below_drewN h.bel q, h.ok⟩
theorem IxS.below {w0 : World} {X : Nat} {s : Ix.St} {w w' : World} (h : IxS w0 X s w) (hb : Below w.heap.size w w') : IxS w0 X s w' :=
  ⟨(h.ix.same fun k _ hk => hb.block k hk).mono fun k hk => ⟨hk.1, Nat.lt_of_lt_of_le hk.2 hb.size⟩, h.bel.trans (hb.mono h.bel.size), h.ok⟩
theorem new_ixS (w0 : World) (e : Int) (w : World) (hb : Below w0.heap.size w0 w) (h : 1 ≤ e ∧ e ≤ 1048576) :
    Calls Tryd.prog 42 #[.int .i64 e] w fun r w' => r = .returned (.tuple #[.pointer (some ⟨w.heap.size, 0, none⟩), .nilIface]) ∧ IxS w0 w.heap.size (Ix.new e) w' := by
  refine (ixNew_any e w h).mono ?_
  rintro r w' ⟨rfl, hi, hb'⟩
  have := hb.size
  exact ⟨rfl, hi.mono fun k hk => ⟨by omega, hk.2⟩, hb.trans (hb'.mono hb.size), Ix.Ok.new e h⟩
theorem Ix.Ok.add {s : Ix.St} (h : Ix.Ok s) (o t p z : Int) : Ix.Ok (Ix.add s o t p z).2 := by
  unfold Ix.add
  split
  · rename_i hg; exact h.put o t p hg.1 hg.2.1 hg.2.2.2.1
  · exact h
theorem IxS.add {w0 : World} {X : Nat} {s : Ix.St} {w : World} (h : IxS w0 X s w) (p : Nat → Addr) (hs : Sent4 w0 p) (o t q z : Int) (hn : s.adds.length ≤ 1000000) (hm : s.marks.length ≤ 1000000) :
    Calls Tryd.prog 43 #[.pointer (some ⟨X, 0, none⟩), .int .i64 o, .int .i64 t, .int .i64 q, .int .i64 z] w fun r w' => r = .returned (errR p (Ix.add s o t q z).1) ∧ IxS w0 X (Ix.add s o t q z).2 w' := by
  refine (ixAdd_any X s _ p o t q z w h.ix h.ok hn hm ((hs.below h.bel).cell 4 rfl)).mono ?_
  rintro r w' ⟨rfl, hi, hc⟩
  have hz := h.bel.size
  have hcs := hc.size
  refine ⟨rfl, hi.mono fun k hk => ?_, h.bel.trans (hc.below hz fun k hk => hk.1), h.ok.add o t q z⟩
  rcases hk with hk | hk
  · exact ⟨hk.1, by omega⟩
  · exact ⟨by omega, hk.2⟩

end Go.Proofs.YtoaioijgmbhhnaaDoor

namespace Go.Proofs.YtoaioijgmbhhnaaDoor
open Go.RowKit

theorem mk_row {w : World} {base : Nat} {v : Value} {l : List Ix.Mark} (h : w.ownsRow base 91 3 v l.length (l.flatMap mkCells)) (hne : 0 < l.length) :
    ∃ g c, v = .slice (some ⟨g, 0, none⟩) l.length c ∧ l.length ≤ c ∧ ∀ k (hk : k < l.length), w.cell? ⟨g, k * 3, none⟩ = some (.int .i64 l[k].off) ∧ w.cell? ⟨g, k * 3 + 1, none⟩ = some (.int .i64 l[k].time) ∧ w.cell? ⟨g, k * 3 + 2, none⟩ = some (.int .i64 l[k].pos) := by
  rcases h.2 with ⟨_, e⟩ | ⟨g, cap, cur, e, _, hh, hcap, _⟩
  · omega
  · refine ⟨g, cap, e, by omega, fun k hk => ?_⟩
    obtain ⟨k1, k2, k3⟩ := mk_at l k hk
    have hc := h.cells (g := g) (by rw [e]; rfl)
    refine ⟨?_, ?_, ?_⟩
    · have := hc _ _ k1; rwa [Addr.add_lit, Nat.zero_add] at this
    · have := hc _ _ k2; rwa [Addr.add_lit, Nat.zero_add] at this
    · have := hc _ _ k3; rwa [Addr.add_lit, Nat.zero_add] at this

set_option maxRecDepth 100000 in
theorem firstI_any (w : World) (p : Nat → Addr) (hs : Sent4 w p) : Calls Tryd.prog 19 #[] w fun e w' => e = .returned (.bool true) ∧ Below w.heap.size w w' := by
  have HS := hide hs
  have HNEW := hide (new_ixS w 100 w (Below.refl _ _) (by omega))
  have a1 : Ix.add (Ix.new 100) 0 0 0 60 = (none, ⟨100, [⟨0, 0, 0⟩], [⟨0, 0⟩], 0⟩) := by kernel_rfl
  have a2 : Ix.add ⟨100, [⟨0, 0, 0⟩], [⟨0, 0⟩], 0⟩ 1 0 60 60 = (none, ⟨100, [⟨0, 0, 0⟩], [⟨0, 0⟩, ⟨1, 60⟩], 0⟩) := by kernel_rfl
  have a3 : Ix.add ⟨100, [⟨0, 0, 0⟩], [⟨0, 0⟩, ⟨1, 60⟩], 0⟩ 2 0 120 60 = (none, ⟨100, [⟨0, 0, 0⟩, ⟨2, 0, 120⟩], [⟨0, 0⟩, ⟨1, 60⟩, ⟨2, 120⟩], 0⟩) := by kernel_rfl
  have H1 := hide (fun V h => IxS.add (w0 := w) (X := w.heap.size) (w := V) h p HS.out 0 0 0 60 (by decide) (by decide) : ∀ V, IxS w w.heap.size (Ix.new 100) V → _)
  have H2 := hide (fun V h => IxS.add (w0 := w) (X := w.heap.size) (w := V) h p HS.out 1 0 60 60 (by decide) (by decide) : ∀ V, IxS w w.heap.size ⟨100, [⟨0, 0, 0⟩], [⟨0, 0⟩], 0⟩ V → _)
  have H3 := hide (fun V h => IxS.add (w0 := w) (X := w.heap.size) (w := V) h p HS.out 2 0 120 60 (by decide) (by decide) : ∀ V, IxS w w.heap.size ⟨100, [⟨0, 0, 0⟩], [⟨0, 0⟩, ⟨1, 60⟩], 0⟩ V → _)
  rw [a1] at H1
  rw [a2] at H2
  rw [a3] at H3
  clear a1 a2 a3 hs
  simp only [errR] at H1 H2 H3
  go_enter Tryd.func19, Tryd.ntmps19
  go_wp2_with (first
    | (go_at_call 42; refine HNEW.out.mono ?_; rintro e w1 ⟨rfl, h1⟩; have I1 := hide h1; clear h1)
    | (go_at_call 43; have _t := I3; refine (H3.out _ I3.out).mono ?_; rintro e w4 ⟨rfl, h1⟩; have I4 := hide h1; clear h1 I3)
    | (go_at_call 43; have _t := I2; refine (H2.out _ I2.out).mono ?_; rintro e w3 ⟨rfl, h1⟩; have I3 := hide h1; clear h1 I2)
    | (go_at_call 43; have _t := I1; refine (H1.out _ I1.out).mono ?_; rintro e w2 ⟨rfl, h1⟩; have I2 := hide h1; clear h1 I1)
    | (go_at_call 24; refine (marks_any _ _ _ _ (by decide) I4.out.ix).mono ?_; rintro e w5 ⟨v, rfl, hv, hb⟩; obtain ⟨g, c, rfl, hc, hcell⟩ := mk_row hv (by decide); obtain ⟨-, -, p0⟩ := hcell 0 (by decide); obtain ⟨-, -, p1⟩ := hcell 1 (by decide); have HB5 := hide hb; have hc2 : 2 ≤ c := hc; clear hcell hv hb hc; simp only [List.length_cons, List.length_nil, List.getElem_cons_zero, List.getElem_cons_succ] at *)
    | fail)
  go_ret
  exact ⟨rfl, I4.out.bel.trans (HB5.out.mono I4.out.bel.size)⟩
end Go.Proofs.YtoaioijgmbhhnaaDoor
