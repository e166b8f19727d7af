/-
  From a row's reading of a slice of bytes to what the walks are told of it.
  What is owned, as an argument; what stays of an argument; its pieces.
-/
import Derived.Test.YtoaioijgmbhhnaaDoorOwnB
import Derived.Test.YtoaioijgmbhhnaaDoorFrame0
import Derived.Test.YtoaioijgmbhhnaaDoorCuts
namespace Go.Proofs.YtoaioijgmbhhnaaDoor
open Go.RowKit Go.ChangeShapes Go.WideShapes Go.ChangeAt

/-- What a walk is told of a slice of bytes that came in. -/
structure Arg (w : World) (A : Option Addr) (cap : Nat) (l : List UInt8) : Prop where
  le : l.length ≤ cap
  max : cap ≤ 9223372036854775807
  nil : A = none → cap = 0
  reads : Reads w A l

theorem arg_of {H : Type} {enc : TypeId × Value → H} {W : World} {base : Nat} {spare : Nat → Bool} {held : Bool} {a : Option Addr} {len cap : Nat} {d : DataW H} {p : List MemPlace}
    (h : DataW.Trod enc Tryd.prog W base spare held 30 (.slice a len cap) d p) : ∃ l, l.length = len ∧ Arg W a cap l := by
  obtain ⟨fuel, hf⟩ := h
  rcases open_ints Tryd.underlying30 Tryd.underlying5 cells_u8 hf with ⟨hcs, _⟩ | ⟨x, l, c, zs, hcs, _, hl, hm, hz, _, hcell, hwz⟩
  · simp [Value.cells] at hcs
    obtain ⟨rfl, rfl, rfl⟩ := hcs
    exact ⟨[], rfl, ⟨Nat.le_refl _, by omega, fun _ => rfl, .inl rfl⟩⟩
  · simp [Value.cells] at hcs
    obtain ⟨rfl, rfl, rfl⟩ := hcs
    have hzl : len ≤ zs.length := by split at hz <;> omega
    refine ⟨(zs.take len).map fun z => UInt8.ofNat z.toNat, by simp; omega, ⟨by simp; omega, by simpa [maxLen] using hm, fun e => (by cases e), ?_⟩⟩
    by_cases h0 : len = 0
    · subst h0; exact .inl (by simp)
    · obtain ⟨b, off, spot⟩ := x
      have hc := hcell 0 (by omega)
      have hspot : spot = none := by simpa [Addr.add] using World.cell?_spot hc
      subst hspot
      refine .inr ⟨b, off, rfl, ?_, fun k hk => ?_⟩
      · rcases Nat.lt_or_ge b W.heap.size with h | h
        · exact h
        · exfalso
          simp [World.cell?, Addr.add, Array.getElem?_eq_none h] at hc
      · have hk' : k < len := by simp at hk; omega
        have hck := hcell k (by omega)
        rw [Addr.add_lit] at hck
        rw [hck]
        congr 2
        have hmem : zs.getD k 0 ∈ zs := by
          simp only [List.getD, List.getElem?_eq_getElem (show k < zs.length by omega), Option.getD_some]
          exact List.getElem_mem _
        have hb := bounds_u8 (hwz _ hmem)
        have e : ((zs.take len).map fun z => UInt8.ofNat z.toNat).getD k 0 = UInt8.ofNat (zs.getD k 0).toNat := by
          simp [List.getD, hk', show k < zs.length by omega]
        rw [e]
        unfold B
        rw [UInt8.toNat_ofNat']
        omega

end Go.Proofs.YtoaioijgmbhhnaaDoor

namespace Go.Proofs.YtoaioijgmbhhnaaDoor
open Go.RowKit

theorem Own.arg {w : World} {base : Nat} {v : Value} {l : List UInt8} (h : Own w base v l) : ∃ A c, v = .slice A l.length c ∧ Arg w A c l := by
  obtain ⟨A, c, hv, hr, hn⟩ := h.reads
  refine ⟨A, c, hv, ?_⟩
  rcases h.2 with ⟨e, h0⟩ | ⟨g, cap, cur, e, hg, hh, hc, hm, hs, ht⟩
  · rw [hv] at e
    injection e with e1 e2 e3
    subst e3
    exact ⟨by omega, by omega, fun _ => rfl, hr⟩
  · rw [hv] at e
    injection e with e1 e2 e3
    subst e3
    exact ⟨hc, by simpa [maxLen] using hm, fun h => (hn h).2, hr⟩
theorem Arg.below {w w' : World} {C : Nat} {A : Option Addr} {cap : Nat} {l : List UInt8} (h : Arg w A cap l) (hb : Below C w w') (hC : w.heap.size ≤ C) : Arg w' A cap l := ⟨h.le, h.max, h.nil, h.reads.below hb hC⟩
theorem Arg.drewN {w : World} {A : Option Addr} {cap : Nat} {l : List UInt8} (h : Arg w A cap l) (n : Nat) : Arg (w.drewN n) A cap l := ⟨h.le, h.max, h.nil, h.reads⟩
theorem Arg.alloc {w : World} {A : Option Addr} {cap : Nat} {l : List UInt8} (h : Arg w A cap l) (o : Obj) : Arg (w.alloc o) A cap l := ⟨h.le, h.max, h.nil, h.reads.alloc o⟩
theorem Arg.first {w : World} {A : Option Addr} {cap : Nat} {l : List UInt8} (h : Arg w A cap l) (q : Nat) : Arg w A cap (l.take q) := ⟨by have := h.le; rw [List.length_take]; omega, h.max, h.nil, h.reads.first q⟩
theorem Arg.cut {w : World} {A : Option Addr} {cap : Nat} {l : List UInt8} (h : Arg w A cap l) (q : Nat) (hq : q ≤ l.length) : Arg w (cutA A cap q) (cap - q) (l.drop q) :=
  ⟨by have := h.le; rw [List.length_drop]; omega, by have := h.max; omega, fun e => by
    unfold cutA at e
    split at e
    · omega
    · cases A with
      | none => have := h.nil rfl; omega
      | some a => simp at e, h.reads.cut cap q h.le h.nil hq⟩
end Go.Proofs.YtoaioijgmbhhnaaDoor
