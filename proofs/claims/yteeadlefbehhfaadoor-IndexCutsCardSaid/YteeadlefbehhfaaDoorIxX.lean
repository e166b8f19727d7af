/-
  first() of the index's statements.
-/
import Derived.Test.YteeadlefbehhfaaDoorIxS
namespace Go.Proofs.YteeadlefbehhfaaDoor
open Go.RowKit

theorem mk_row {w : World} {base : Nat} {v : Value} {l : List Ix.Mark} (h : w.ownsRow base 52 3 v l.length (l.flatMap mkCells)) (hne : 0 < l.length) :
    ∃ g c, v = .slice (some ⟨g, 0, none⟩) l.length c ∧ l.length ≤ c ∧ ∀ k (hk : k < l.length), w.cell? ⟨g, k * 3, none⟩ = some (.int .i64 l[k].off) ∧ w.cell? ⟨g, k * 3 + 1, none⟩ = some (.int .i64 l[k].time) ∧ w.cell? ⟨g, k * 3 + 2, none⟩ = some (.int .i64 l[k].pos) := by
  rcases h.2 with ⟨_, e⟩ | ⟨g, cap, cur, e, _, hh, hcap, _⟩
  · omega
  · refine ⟨g, cap, e, by omega, fun k hk => ?_⟩
    obtain ⟨k1, k2, k3⟩ := mk_at l k hk
    have hc := h.cells (g := g) (by rw [e]; rfl)
    refine ⟨?_, ?_, ?_⟩
    · have := hc _ _ k1; rwa [Addr.add_lit, Nat.zero_add] at this
    · have := hc _ _ k2; rwa [Addr.add_lit, Nat.zero_add] at this
    · have := hc _ _ k3; rwa [Addr.add_lit, Nat.zero_add] at this

set_option maxRecDepth 100000 in
theorem firstI_any (w : World) (p : Nat → Addr) (hs : Sent4 w p) : Calls Tryd.prog 9 #[] w fun e w' => e = .returned (.bool true) ∧ Below w.heap.size w w' := by
  have HS := hide hs
  have HNEW := hide (new_ixS w 100 w (Below.refl _ _) (by omega))
  have a1 : Ix.add (Ix.new 100) 0 0 0 60 = (none, ⟨100, [⟨0, 0, 0⟩], [⟨0, 0⟩], 0⟩) := by kernel_rfl
  have a2 : Ix.add ⟨100, [⟨0, 0, 0⟩], [⟨0, 0⟩], 0⟩ 1 0 60 60 = (none, ⟨100, [⟨0, 0, 0⟩], [⟨0, 0⟩, ⟨1, 60⟩], 0⟩) := by kernel_rfl
  have a3 : Ix.add ⟨100, [⟨0, 0, 0⟩], [⟨0, 0⟩, ⟨1, 60⟩], 0⟩ 2 0 120 60 = (none, ⟨100, [⟨0, 0, 0⟩, ⟨2, 0, 120⟩], [⟨0, 0⟩, ⟨1, 60⟩, ⟨2, 120⟩], 0⟩) := by kernel_rfl
  have H1 := hide (fun V h => IxS.add (w0 := w) (X := w.heap.size) (w := V) h p HS.out 0 0 0 60 (by decide) (by decide) : ∀ V, IxS w w.heap.size (Ix.new 100) V → _)
  have H2 := hide (fun V h => IxS.add (w0 := w) (X := w.heap.size) (w := V) h p HS.out 1 0 60 60 (by decide) (by decide) : ∀ V, IxS w w.heap.size ⟨100, [⟨0, 0, 0⟩], [⟨0, 0⟩], 0⟩ V → _)
  have H3 := hide (fun V h => IxS.add (w0 := w) (X := w.heap.size) (w := V) h p HS.out 2 0 120 60 (by decide) (by decide) : ∀ V, IxS w w.heap.size ⟨100, [⟨0, 0, 0⟩], [⟨0, 0⟩, ⟨1, 60⟩], 0⟩ V → _)
  rw [a1] at H1
  rw [a2] at H2
  rw [a3] at H3
  clear a1 a2 a3 hs
  simp only [errR] at H1 H2 H3
  go_enter Tryd.func9, Tryd.ntmps9
  go_wp2_with (first
    | (go_at_call 18; refine HNEW.out.mono ?_; rintro e w1 ⟨rfl, h1⟩; have I1 := hide h1; clear h1)
    | (go_at_call 19; have _t := I3; refine (H3.out _ I3.out).mono ?_; rintro e w4 ⟨rfl, h1⟩; have I4 := hide h1; clear h1 I3)
    | (go_at_call 19; have _t := I2; refine (H2.out _ I2.out).mono ?_; rintro e w3 ⟨rfl, h1⟩; have I3 := hide h1; clear h1 I2)
    | (go_at_call 19; have _t := I1; refine (H1.out _ I1.out).mono ?_; rintro e w2 ⟨rfl, h1⟩; have I2 := hide h1; clear h1 I1)
    | (go_at_call 14; refine (marks_any _ _ _ _ (by decide) I4.out.ix).mono ?_; rintro e w5 ⟨v, rfl, hv, hb⟩; obtain ⟨g, c, rfl, hc, hcell⟩ := mk_row hv (by decide); obtain ⟨-, -, p0⟩ := hcell 0 (by decide); obtain ⟨-, -, p1⟩ := hcell 1 (by decide); have HB5 := hide hb; have hc2 : 2 ≤ c := hc; clear hcell hv hb hc; simp only [List.length_cons, List.length_nil, List.getElem_cons_zero, List.getElem_cons_succ] at *)
    | fail)
  go_ret
  exact ⟨rfl, I4.out.bel.trans (HB5.out.mono I4.out.bel.size)⟩
end Go.Proofs.YteeadlefbehhfaaDoor
