/-
  From a row's reading of a slice of bytes to what the walks are told of it.
-/
import Derived.Test.YthemdcdgiccjkaaDoorOwnB
import Derived.Test.YthemdcdgiccjkaaDoorFrame0
namespace Go.Proofs.YthemdcdgiccjkaaDoor
open Go.RowKit Go.ChangeShapes Go.WideShapes Go.ChangeAt

/-- What a walk is told of a slice of bytes that came in. -/
structure Arg (w : World) (A : Option Addr) (cap : Nat) (l : List UInt8) : Prop where
  le : l.length ≤ cap
  max : cap ≤ 9223372036854775807
  nil : A = none → cap = 0
  reads : Reads w A l

theorem arg_of {H : Type} {enc : TypeId × Value → H} {W : World} {base : Nat} {spare : Nat → Bool} {held : Bool} {a : Option Addr} {len cap : Nat} {d : DataW H} {p : List MemPlace}
    (h : DataW.Trod enc Tryd.prog W base spare held 22 (.slice a len cap) d p) : ∃ l, l.length = len ∧ Arg W a cap l := by
  obtain ⟨fuel, hf⟩ := h
  rcases open_ints Tryd.underlying22 Tryd.underlying5 cells_u8 hf with ⟨hcs, _⟩ | ⟨x, l, c, zs, hcs, _, hl, hm, hz, _, hcell, hwz⟩
  · simp [Value.cells] at hcs
    obtain ⟨rfl, rfl, rfl⟩ := hcs
    exact ⟨[], rfl, ⟨Nat.le_refl _, by omega, fun _ => rfl, .inl rfl⟩⟩
  · simp [Value.cells] at hcs
    obtain ⟨rfl, rfl, rfl⟩ := hcs
    have hzl : len ≤ zs.length := by split at hz <;> omega
    refine ⟨(zs.take len).map fun z => UInt8.ofNat z.toNat, by simp; omega, ⟨by simp; omega, by simpa [maxLen] using hm, fun e => (by cases e), ?_⟩⟩
    by_cases h0 : len = 0
    · subst h0; exact .inl (by simp)
    · obtain ⟨b, off, spot⟩ := x
      have hc := hcell 0 (by omega)
      have hspot : spot = none := by simpa [Addr.add] using World.cell?_spot hc
      subst hspot
      refine .inr ⟨b, off, rfl, ?_, fun k hk => ?_⟩
      · rcases Nat.lt_or_ge b W.heap.size with h | h
        · exact h
        · exfalso
          simp [World.cell?, Addr.add, Array.getElem?_eq_none h] at hc
      · have hk' : k < len := by simp at hk; omega
        have hck := hcell k (by omega)
        rw [Addr.add_lit] at hck
        rw [hck]
        congr 2
        have hmem : zs.getD k 0 ∈ zs := by
          simp only [List.getD, List.getElem?_eq_getElem (show k < zs.length by omega), Option.getD_some]
          exact List.getElem_mem _
        have hb := bounds_u8 (hwz _ hmem)
        have e : ((zs.take len).map fun z => UInt8.ofNat z.toNat).getD k 0 = UInt8.ofNat (zs.getD k 0).toNat := by
          simp [List.getD, hk', show k < zs.length by omega]
        rw [e]
        unfold B
        rw [UInt8.toNat_ofNat']
        omega

end Go.Proofs.YthemdcdgiccjkaaDoor
