/-
  Two indexes side by side.
-/
import Derived.Test.YteeadlefbehhfaaDoorIxCp
import Derived.Test.YteeadlefbehhfaaDoorIxO
import Derived.Test.YteeadlefbehhfaaDoorIxY
namespace Go.Proofs.YteeadlefbehhfaaDoor
open Go.RowKit

structure Two (w0 : World) (X Y : Nat) (s t : Ix.St) (w : World) : Prop where
  ex : ∃ S T : Nat → Prop, IxO w0 X s S w ∧ IxO w0 Y t T w ∧ ∀ k, S k → ¬ T k

theorem Two.swap {w0 : World} {X Y : Nat} {s t : Ix.St} {w : World} (h : Two w0 X Y s t w) : Two w0 Y X t s w := by
  obtain ⟨S, T, hs, ht, hd⟩ := h.ex
  exact ⟨T, S, ht, hs, fun k h1 h2 => hd k h2 h1⟩
theorem Two.below {w0 : World} {X Y : Nat} {s t : Ix.St} {w w' : World} (h : Two w0 X Y s t w) (hb : Below w.heap.size w w') : Two w0 X Y s t w' := by
  obtain ⟨S, T, hs, ht, hd⟩ := h.ex
  exact ⟨S, T, hs.below hb, ht.below hb, hd⟩
theorem Two.bel {w0 : World} {X Y : Nat} {s t : Ix.St} {w : World} (h : Two w0 X Y s t w) : Below w0.heap.size w0 w := by
  obtain ⟨S, T, hs, ht, hd⟩ := h.ex
  exact hs.bel
/-- A change within one's blocks, or new ones, leaves the other. -/
theorem IxO.other {w0 : World} {Y : Nat} {t : Ix.St} {S T : Nat → Prop} {w w' : World} (h : IxO w0 Y t T w) (hc : Chg S w w') (hb : Below w0.heap.size w0 w') (hd : ∀ k, S k → ¬ T k) : IxO w0 Y t T w' :=
  ⟨h.ix.same fun k hk hl => hc.block k hl fun hs => hd k hs hk, fun k hk => ⟨(h.lo k hk).1, Nat.lt_of_lt_of_le (h.lo k hk).2 hc.size⟩, hb, h.ok⟩
theorem Two.addX {w0 : World} {X Y : Nat} {s t : Ix.St} {w : World} (h : Two w0 X Y s t w) (p : Nat → Addr) (hs : Sent4 w0 p) (o q a z : Int) (hn : s.adds.length ≤ 1000000) (hm : s.marks.length ≤ 1000000) :
    Calls Tryd.prog 19 #[.pointer (some ⟨X, 0, none⟩), .int .i64 o, .int .i64 q, .int .i64 a, .int .i64 z] w fun r w' => r = .returned (errR p (Ix.add s o q a z).1) ∧ Two w0 X Y (Ix.add s o q a z).2 t w' := by
  obtain ⟨S, T, h1, h2, hd⟩ := h.ex
  refine (h1.add p hs o q a z hn hm).mono ?_
  rintro r w' ⟨rfl, hi, hc⟩
  refine ⟨rfl, ⟨_, T, hi, h2.other hc hi.bel hd, fun k hk hT => ?_⟩⟩
  rcases hk with hk | hk
  · exact hd k hk hT
  · have := (h2.lo k hT).2; omega
theorem Two.addY {w0 : World} {X Y : Nat} {s t : Ix.St} {w : World} (h : Two w0 X Y s t w) (p : Nat → Addr) (hs : Sent4 w0 p) (o q a z : Int) (hn : t.adds.length ≤ 1000000) (hm : t.marks.length ≤ 1000000) :
    Calls Tryd.prog 19 #[.pointer (some ⟨Y, 0, none⟩), .int .i64 o, .int .i64 q, .int .i64 a, .int .i64 z] w fun r w' => r = .returned (errR p (Ix.add t o q a z).1) ∧ Two w0 X Y s (Ix.add t o q a z).2 w' := by
  refine (h.swap.addX p hs o q a z hn hm).mono ?_
  rintro r w' ⟨rfl, hi⟩
  exact ⟨rfl, hi.swap⟩
theorem Two.cutX {w0 : World} {X Y : Nat} {s t : Ix.St} {w : World} (h : Two w0 X Y s t w) (p : Int) (hn : s.adds.length ≤ 1000000) (hm : s.marks.length ≤ 1000000)
    (hm1 : ∀ a b, a ≤ b → b < s.marks.length → p ≤ (s.marks.getD a ⟨0, 0, 0⟩).pos → p ≤ (s.marks.getD b ⟨0, 0, 0⟩).pos)
    (hm2 : ∀ a b, a ≤ b → b < s.adds.length → p ≤ (s.adds.getD a ⟨0, 0⟩).pos → p ≤ (s.adds.getD b ⟨0, 0⟩).pos) :
    Calls Tryd.prog 22 #[.pointer (some ⟨X, 0, none⟩), .int .i64 p] w fun r w' => r = .returned (.tuple #[]) ∧ Two w0 X Y (s.cut p) t w' := by
  obtain ⟨S, T, h1, h2, hd⟩ := h.ex
  refine (ixCut_any X s S p w h1.ix hm hn (fun k hk => (h1.lo k hk).2) hm1 hm2).mono ?_
  rintro r w' ⟨rfl, hi, hc⟩
  have hb := h1.bel.trans (hc.below h1.bel.size fun k hk => (h1.lo k hk).1)
  exact ⟨rfl, ⟨S, T, ⟨hi, fun k hk => ⟨(h1.lo k hk).1, Nat.lt_of_lt_of_le (h1.lo k hk).2 hc.size⟩, hb, h1.ok.cut p⟩, h2.other hc hb hd, hd⟩⟩
theorem Two.marksX {w0 : World} {X Y : Nat} {s t : Ix.St} {w : World} (h : Two w0 X Y s t w) (hm : s.marks.length ≤ 1000000) :
    Calls Tryd.prog 14 #[.pointer (some ⟨X, 0, none⟩)] w fun r w' => ∃ A c, r = .returned (.slice A s.marks.length c) ∧ s.marks.length ≤ c ∧ (∀ k, k < s.marks.length → ∃ g, A = some ⟨g, 0, none⟩ ∧ g < w'.heap.size ∧ w'.cell? ⟨g, k * 3, none⟩ = some (.int .i64 (s.marks.getD k ⟨0, 0, 0⟩).off) ∧ w'.cell? ⟨g, k * 3 + 1, none⟩ = some (.int .i64 (s.marks.getD k ⟨0, 0, 0⟩).time) ∧ w'.cell? ⟨g, k * 3 + 2, none⟩ = some (.int .i64 (s.marks.getD k ⟨0, 0, 0⟩).pos)) ∧ Below w.heap.size w w' := by
  obtain ⟨S, T, h1, h2, hd⟩ := h.ex
  refine (marks_any X s S w (by omega) h1.ix).mono ?_
  rintro r w' ⟨v, rfl, hv, hb⟩
  rcases Nat.eq_zero_or_pos s.marks.length with h0 | h0
  · rcases hv.2 with ⟨e, _⟩ | ⟨g, cap, cur, e, _, hh, hcap, _⟩
    · exact ⟨none, 0, by rw [e, h0], by omega, fun k hk => by omega, hb⟩
    · exact ⟨_, cap, by rw [e], by omega, fun k hk => by omega, hb⟩
  · obtain ⟨g, c, rfl, hc, hcell⟩ := mk_row hv h0
    refine ⟨_, c, rfl, hc, fun k hk => ⟨g, rfl, ?_, ?_⟩, hb⟩
    · exact World.block_lt_of_cell? _ _ (hcell 0 h0).1
    · have eg : s.marks.getD k ⟨0, 0, 0⟩ = s.marks[k] := by simp [List.getD, hk]
      rw [eg]; exact hcell k hk
theorem Two.marksY {w0 : World} {X Y : Nat} {s t : Ix.St} {w : World} (h : Two w0 X Y s t w) (hm : t.marks.length ≤ 1000000) :
    Calls Tryd.prog 14 #[.pointer (some ⟨Y, 0, none⟩)] w fun r w' => ∃ A c, r = .returned (.slice A t.marks.length c) ∧ t.marks.length ≤ c ∧ (∀ k, k < t.marks.length → ∃ g, A = some ⟨g, 0, none⟩ ∧ g < w'.heap.size ∧ w'.cell? ⟨g, k * 3, none⟩ = some (.int .i64 (t.marks.getD k ⟨0, 0, 0⟩).off) ∧ w'.cell? ⟨g, k * 3 + 1, none⟩ = some (.int .i64 (t.marks.getD k ⟨0, 0, 0⟩).time) ∧ w'.cell? ⟨g, k * 3 + 2, none⟩ = some (.int .i64 (t.marks.getD k ⟨0, 0, 0⟩).pos)) ∧ Below w.heap.size w w' := h.swap.marksX hm
/-- A second index, made beside the first. -/
theorem new_two (w0 : World) (X : Nat) (s : Ix.St) (S : Nat → Prop) (e : Int) (w : World) (h1 : IxO w0 X s S w) (h : 1 ≤ e ∧ e ≤ 1048576) :
    Calls Tryd.prog 18 #[.int .i64 e] w fun r w' => r = .returned (.tuple #[.pointer (some ⟨w.heap.size, 0, none⟩), .nilIface]) ∧ Two w0 X w.heap.size s (Ix.new e) w' := by
  refine (new_ixO w0 e w h1.bel h).mono ?_
  rintro r w' ⟨rfl, hi, hb⟩
  exact ⟨rfl, ⟨S, _, h1.below hb, hi, fun k hk hT => by have := (h1.lo k hk).2; omega⟩⟩
end Go.Proofs.YteeadlefbehhfaaDoor
