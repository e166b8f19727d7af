/-
  From a row's reading of a slice of texts to what a walk is told of it.
-/
import Derived.Test.YtnnobfdpbdkceaaDoorNsF
import Derived.Test.YtnnobfdpbdkceaaDoorTxO
import Derived.SliceStrings
namespace Go.Proofs.YtnnobfdpbdkceaaDoor
open Go.RowKit Go.Sort Go.ChangeShapes Go.WideShapes Go.ChangeAt Go.ChangeMaps

theorem text_cells : Tryd.prog.cellsOf 9 = 1 := by kernel_rfl
theorem enc_data (s : ByteArray) : Value.string s = encStr s.data.toList := by cases s; simp [encStr]
theorem txrow_of {H : Type} {enc : TypeId × Value → H} {W : World} {base : Nat} {held : Bool} {a : Option Addr} {len cap : Nat} {d : DataW H} {p : List MemPlace}
    (h : DataW.Trod enc Tryd.prog W base (fun _ => true) held 22 (.slice a len cap) d p) : ∃ xs : List (List UInt8), xs.length = len ∧ (len ≤ cap ∧ cap ≤ 9223372036854775807 ∧ (a = none → cap = 0) ∧ ReadsT W a xs) := by
  obtain ⟨fuel, hf⟩ := h
  rcases open_strings Tryd.underlying22 Tryd.underlying9 text_cells hf with ⟨hcs, _⟩ | ⟨x, l, c, ss, hcs, _, hl, hm, hlen, _, hcell, _⟩
  · simp [Value.cells] at hcs
    obtain ⟨rfl, rfl, rfl⟩ := hcs
    exact ⟨[], rfl, Nat.le_refl _, by omega, fun _ => rfl, .inl rfl⟩
  · simp [Value.cells] at hcs
    obtain ⟨rfl, rfl, rfl⟩ := hcs
    simp only [if_true] at hlen
    refine ⟨(ss.take len).map fun s => s.data.toList, by simp; omega, hl, by simpa [maxLen] using hm, fun e => (by cases e), ?_⟩
    by_cases h0 : len = 0
    · subst h0; exact .inl (by simp)
    · obtain ⟨b, off, spot⟩ := x
      have hc := hcell 0 (by omega)
      have hspot : spot = none := by simpa [Addr.add] using World.cell?_spot hc
      subst hspot
      refine .inr ⟨b, off, rfl, ?_, fun k hk => ?_⟩
      · rcases Nat.lt_or_ge b W.heap.size with h | h
        · exact h
        · exfalso
          simp [World.cell?, Addr.add, Array.getElem?_eq_none h] at hc
      · have hk' : k < len := by simp at hk; omega
        have hck := hcell k (by omega)
        rw [Addr.add_lit] at hck
        rw [hck, enc_data]
        congr 2
        simp [List.getD, hk', show k < ss.length by omega]
end Go.Proofs.YtnnobfdpbdkceaaDoor
