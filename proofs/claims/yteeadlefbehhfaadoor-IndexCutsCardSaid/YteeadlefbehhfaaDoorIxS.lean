/-
  A session with an index; Long.
-/
import Derived.Test.YteeadlefbehhfaaDoorIxW
import Derived.Test.YteeadlefbehhfaaDoorHSame
namespace Go.Proofs.YteeadlefbehhfaaDoor
open Go.RowKit

/-- ErrRange as the program lays it. -/
abbrev Sent4 (w : World) (p : Nat → Addr) : Prop := SentsOn (fun j => j = 4) w p
/-- An index at X since w0. -/
structure IxS (w0 : World) (X : Nat) (s : Ix.St) (w : World) : Prop where
  ix : IxAt w X s (fun k => w0.heap.size ≤ k ∧ k < w.heap.size)
  bel : Below w0.heap.size w0 w
  ok : Ix.Ok s
theorem IxS.drew {w0 : World} {X : Nat} {s : Ix.St} {w : World} (h : IxS w0 X s w) (q : Nat) : IxS w0 X s (w.drewN q) := ⟨h.ix.same fun _ _ _ => rfl, below_drewN h.bel q, h.ok⟩
theorem IxS.below {w0 : World} {X : Nat} {s : Ix.St} {w w' : World} (h : IxS w0 X s w) (hb : Below w.heap.size w w') : IxS w0 X s w' :=
  ⟨(h.ix.same fun k _ hk => hb.block k hk).mono fun k hk => ⟨hk.1, Nat.lt_of_lt_of_le hk.2 hb.size⟩, h.bel.trans (hb.mono h.bel.size), h.ok⟩
theorem new_ixS (w0 : World) (e : Int) (w : World) (hb : Below w0.heap.size w0 w) (h : 1 ≤ e ∧ e ≤ 1048576) :
    Calls Tryd.prog 18 #[.int .i64 e] w fun r w' => r = .returned (.tuple #[.pointer (some ⟨w.heap.size, 0, none⟩), .nilIface]) ∧ IxS w0 w.heap.size (Ix.new e) w' := by
  refine (ixNew_any e w h).mono ?_
  rintro r w' ⟨rfl, hi, hb'⟩
  have := hb.size
  exact ⟨rfl, hi.mono fun k hk => ⟨by omega, hk.2⟩, hb.trans (hb'.mono hb.size), Ix.Ok.new e h⟩
theorem Ix.Ok.add {s : Ix.St} (h : Ix.Ok s) (o t p z : Int) : Ix.Ok (Ix.add s o t p z).2 := by
  unfold Ix.add
  split
  · rename_i hg; exact h.put o t p hg.1 hg.2.1 hg.2.2.2.1
  · exact h
theorem IxS.add {w0 : World} {X : Nat} {s : Ix.St} {w : World} (h : IxS w0 X s w) (p : Nat → Addr) (hs : Sent4 w0 p) (o t q z : Int) (hn : s.adds.length ≤ 1000000) (hm : s.marks.length ≤ 1000000) :
    Calls Tryd.prog 19 #[.pointer (some ⟨X, 0, none⟩), .int .i64 o, .int .i64 t, .int .i64 q, .int .i64 z] w fun r w' => r = .returned (errR p (Ix.add s o t q z).1) ∧ IxS w0 X (Ix.add s o t q z).2 w' := by
  refine (ixAdd_any X s _ p o t q z w h.ix h.ok hn hm ((hs.below h.bel).cell 4 rfl)).mono ?_
  rintro r w' ⟨rfl, hi, hc⟩
  have hz := h.bel.size
  have hcs := hc.size
  refine ⟨rfl, hi.mono fun k hk => ?_, h.bel.trans (hc.below hz fun k hk => hk.1), h.ok.add o t q z⟩
  rcases hk with hk | hk
  · exact ⟨hk.1, by omega⟩
  · exact ⟨by omega, hk.2⟩

theorem long_ix (n b : Int) (w : World) (hb : 0 < b) (hb1 : b ≤ 9223372036854775807) (h1 : -9223372036854775808 ≤ n) (h2 : n ≤ 9223372036854775807) :
    Calls Tryd.prog 23 #[.int .i64 n, .int .i64 b] w fun e w' => e = .returned (.int .i64 (n % b)) ∧ w = w' := by
  have m1 := Int.emod_nonneg n (show b ≠ 0 by omega)
  have m2 := Int.emod_lt_of_pos n hb
  by_cases h0 : 0 ≤ n
  · go_enter Tryd.func23, Tryd.ntmps23
    go_wp2
    go_ret
    exact ⟨rfl, rfl⟩
  · by_cases hm : n % b = 0
    · have t := tmod_nil n b hm
      rw [hm]
      clear hm m1 m2
      go_enter Tryd.func23, Tryd.ntmps23
      go_wp2
      go_ret
      exact ⟨rfl, rfl⟩
    · have t := tmod_up n b hb (by omega) hm
      have e : n % b - b + b = n % b := by omega
      generalize n % b = r at *
      go_enter Tryd.func23, Tryd.ntmps23
      go_wp2
      go_ret
      exact ⟨rfl, rfl⟩
end Go.Proofs.YteeadlefbehhfaaDoor
