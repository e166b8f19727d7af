/-
  What is owned, as an argument; what stays of an argument; its pieces.
-/
import Derived.Test.YthemdcdgiccjkaaDoorArgs
import Derived.Test.YthemdcdgiccjkaaDoorCuts
namespace Go.Proofs.YthemdcdgiccjkaaDoor
open Go.RowKit

theorem Own.arg {w : World} {base : Nat} {v : Value} {l : List UInt8} (h : Own w base v l) : ∃ A c, v = .slice A l.length c ∧ Arg w A c l := by
  obtain ⟨A, c, hv, hr, hn⟩ := h.reads
  refine ⟨A, c, hv, ?_⟩
  rcases h.2 with ⟨e, h0⟩ | ⟨g, cap, cur, e, hg, hh, hc, hm, hs, ht⟩
  · rw [hv] at e
    injection e with e1 e2 e3
    subst e3
    exact ⟨by omega, by omega, fun _ => rfl, hr⟩
  · rw [hv] at e
    injection e with e1 e2 e3
    subst e3
    exact ⟨hc, by simpa [maxLen] using hm, fun h => (hn h).2, hr⟩
theorem Arg.below {w w' : World} {C : Nat} {A : Option Addr} {cap : Nat} {l : List UInt8} (h : Arg w A cap l) (hb : Below C w w') (hC : w.heap.size ≤ C) : Arg w' A cap l := ⟨h.le, h.max, h.nil, h.reads.below hb hC⟩
theorem Arg.drewN {w : World} {A : Option Addr} {cap : Nat} {l : List UInt8} (h : Arg w A cap l) (n : Nat) : Arg (w.drewN n) A cap l := ⟨h.le, h.max, h.nil, h.reads⟩
theorem Arg.alloc {w : World} {A : Option Addr} {cap : Nat} {l : List UInt8} (h : Arg w A cap l) (o : Obj) : Arg (w.alloc o) A cap l := ⟨h.le, h.max, h.nil, h.reads.alloc o⟩
theorem Arg.first {w : World} {A : Option Addr} {cap : Nat} {l : List UInt8} (h : Arg w A cap l) (q : Nat) : Arg w A cap (l.take q) := ⟨by have := h.le; rw [List.length_take]; omega, h.max, h.nil, h.reads.first q⟩
theorem Arg.cut {w : World} {A : Option Addr} {cap : Nat} {l : List UInt8} (h : Arg w A cap l) (q : Nat) (hq : q ≤ l.length) : Arg w (cutA A cap q) (cap - q) (l.drop q) :=
  ⟨by have := h.le; rw [List.length_drop]; omega, by have := h.max; omega, fun e => by
    unfold cutA at e
    split at e
    · omega
    · cases A with
      | none => have := h.nil rfl; omega
      | some a => simp at e, h.reads.cut cap q h.le h.nil hq⟩
end Go.Proofs.YthemdcdgiccjkaaDoor
