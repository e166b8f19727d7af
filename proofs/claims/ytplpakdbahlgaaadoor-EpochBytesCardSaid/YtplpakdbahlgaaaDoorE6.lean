/-
  What a row's reading says of an argument of ints.
  A slice of numbers of 64 bits in memory.
  What a row's reading says of an argument of numbers of 64 bits, and of texts.
-/
import Derived.Test.YtplpakdbahlgaaaDoorE1
import Derived.Below
import Derived.OpenShut
import Derived.Deep.Matrix
namespace Go.Proofs.YtplpakdbahlgaaaDoor
open Go.RowKit Go.ChangeShapes Go.WideShapes Go.ChangeAt

/-- A slice that reads as these ints. -/
def Ints (w : World) (A : Option Addr) (zs : List Int) : Prop :=
  zs = [] ∨ ∃ b off, A = some ⟨b, off, none⟩ ∧ b < w.heap.size ∧ ∀ k, k < zs.length → w.cell? ⟨b, off + k, none⟩ = some (.int .i64 (zs.getD k 0))
theorem Ints.below {w w' : World} {C : Nat} {A : Option Addr} {zs : List Int} (h : Ints w A zs) (hb : Below C w w') (hC : w.heap.size ≤ C) : Ints w' A zs := by
  rcases h with h | ⟨b, off, e, hlt, hc⟩
  · exact .inl h
  · exact .inr ⟨b, off, e, by have := hb.size; omega, fun k hk => (hb.cell (p := ⟨b, off + k, none⟩) (by show b < C; omega)).trans (hc k hk)⟩
theorem cells_int : Tryd.prog.cellsOf 3 = 1 := by kernel_rfl
theorem ints_of {H : Type} {enc : TypeId × Value → H} {W : World} {base : Nat} {spare : Nat → Bool} {held : Bool} {a : Option Addr} {len cap : Nat} {d : DataW H} {p : List MemPlace}
    (h : DataW.Trod enc Tryd.prog W base spare held 64 (.slice a len cap) d p) : ∃ zs : List Int, zs.length = len ∧ len ≤ cap ∧ cap ≤ 9223372036854775807 ∧ Ints W a zs ∧ ∀ k, k < len → -9223372036854775808 ≤ zs.getD k 0 ∧ zs.getD k 0 ≤ 9223372036854775807 := by
  obtain ⟨fuel, hf⟩ := h
  rcases open_ints Tryd.underlying64 Tryd.underlying3 cells_int hf with ⟨hcs, _⟩ | ⟨x, l, c, zs, hcs, _, hl, hm, hz, _, hcell, hwz⟩
  · simp [Value.cells] at hcs
    obtain ⟨rfl, rfl, rfl⟩ := hcs
    exact ⟨[], rfl, Nat.le_refl _, by omega, .inl rfl, fun k hk => by omega⟩
  · simp [Value.cells] at hcs
    obtain ⟨rfl, rfl, rfl⟩ := hcs
    have hzl : len ≤ zs.length := by split at hz <;> omega
    have e : ∀ k, k < len → (zs.take len).getD k 0 = zs.getD k 0 := fun k hk => by simp [List.getD, hk]
    refine ⟨zs.take len, by simp; omega, hl, by simpa [maxLen] using hm, ?_, fun k hk => ?_⟩
    · by_cases h0 : len = 0
      · subst h0; exact .inl (by simp)
      · obtain ⟨b, off, spot⟩ := x
        have hc := hcell 0 (by omega)
        have hspot : spot = none := by simpa [Addr.add] using World.cell?_spot hc
        subst hspot
        refine .inr ⟨b, off, rfl, ?_, fun k hk => ?_⟩
        · rcases Nat.lt_or_ge b W.heap.size with h | h
          · exact h
          · exfalso
            simp [World.cell?, Addr.add, Array.getElem?_eq_none h] at hc
        · have hk' : k < len := by simp at hk; omega
          have hck := hcell k (by omega)
          rw [Addr.add_lit] at hck
          rw [hck, e k hk']
    · rw [e k hk]
      have hmem : zs.getD k 0 ∈ zs := by
        simp only [List.getD, List.getElem?_eq_getElem (show k < zs.length by omega), Option.getD_some]
        exact List.getElem_mem _
      exact bounds_i64 (hwz _ hmem)
end Go.Proofs.YtplpakdbahlgaaaDoor

namespace Go.Proofs.YtplpakdbahlgaaaDoor
open Go.RowKit

/-- A slice that reads as these numbers of 64 bits. -/
def Nums (w : World) (A : Option Addr) (us : List Nat) : Prop :=
  us = [] ∨ ∃ b off, A = some ⟨b, off, none⟩ ∧ b < w.heap.size ∧ ∀ k, k < us.length → w.cell? ⟨b, off + k, none⟩ = some (.int .u64 (us.getD k 0 : Nat))
end Go.Proofs.YtplpakdbahlgaaaDoor

namespace Go.Proofs.YtplpakdbahlgaaaDoor
open Go.RowKit Go.ChangeShapes Go.WideShapes Go.ChangeAt

theorem cells_i64 : Tryd.prog.cellsOf 2 = 1 := by kernel_rfl
theorem cells_u64 : Tryd.prog.cellsOf 88 = 1 := by kernel_rfl
theorem cells_bytes : Tryd.prog.cellsOf 45 = 1 := by kernel_rfl

/-- A slice of integers of one kind. -/
theorem kinds_of {H : Type} {enc : TypeId × Value → H} {W : World} {base : Nat} {spare : Nat → Bool} {held : Bool} {a : Option Addr} {len cap : Nat} {d : DataW H} {p : List MemPlace} {t e : TypeId} {K : IntKind}
    (ht : Tryd.prog.underlying t = some (.slice e)) (he : Tryd.prog.underlying e = some (.int K)) (ce : Tryd.prog.cellsOf e = 1)
    (h : DataW.Trod enc Tryd.prog W base spare held t (.slice a len cap) d p) : ∃ zs : List Int, zs.length = len ∧ len ≤ cap ∧ cap ≤ 9223372036854775807 ∧ (∀ k, k < len → (Lit.int K (zs.getD k 0)).wf = true) ∧
      (zs = [] ∨ ∃ b off, a = some ⟨b, off, none⟩ ∧ b < W.heap.size ∧ ∀ k, k < zs.length → W.cell? ⟨b, off + k, none⟩ = some (.int K (zs.getD k 0))) := by
  obtain ⟨fuel, hf⟩ := h
  rcases open_ints ht he ce hf with ⟨hcs, _⟩ | ⟨x, l, c, zs, hcs, _, hl, hm, hz, _, hcell, hwz⟩
  · simp [Value.cells] at hcs
    obtain ⟨rfl, rfl, rfl⟩ := hcs
    exact ⟨[], rfl, Nat.le_refl _, by omega, fun k hk => by omega, .inl rfl⟩
  · simp [Value.cells] at hcs
    obtain ⟨rfl, rfl, rfl⟩ := hcs
    have hzl : len ≤ zs.length := by split at hz <;> omega
    have e : ∀ k, k < len → (zs.take len).getD k 0 = zs.getD k 0 := fun k hk => by simp [List.getD, hk]
    refine ⟨zs.take len, by simp; omega, hl, by simpa [maxLen] using hm, fun k hk => ?_, ?_⟩
    · rw [e k hk]
      have hmem : zs.getD k 0 ∈ zs := by
        simp only [List.getD, List.getElem?_eq_getElem (show k < zs.length by omega), Option.getD_some]
        exact List.getElem_mem _
      exact hwz _ hmem
    · by_cases h0 : len = 0
      · subst h0; exact .inl (by simp)
      · obtain ⟨b, off, spot⟩ := x
        have hc := hcell 0 (by omega)
        have hspot : spot = none := by simpa [Addr.add] using World.cell?_spot hc
        subst hspot
        refine .inr ⟨b, off, rfl, ?_, fun k hk => ?_⟩
        · rcases Nat.lt_or_ge b W.heap.size with h | h
          · exact h
          · exfalso
            simp [World.cell?, Addr.add, Array.getElem?_eq_none h] at hc
        · have hk' : k < len := by simp at hk; omega
          have hck := hcell k (by omega)
          rw [Addr.add_lit] at hck
          rw [hck, e k hk']
theorem reads_of_ints {W : World} {a : Addr} {zs : List Int} {n cap : Nat} (hl : n ≤ cap) (hz : zs.length = cap) (hw : ∀ z ∈ zs, (Lit.int .u8 z).wf = true) (hcell : ∀ c, c < cap → W.cell? (a.add c) = some (.int .u8 (zs.getD c 0))) :
    Reads W (some a) ((zs.take n).map fun z => UInt8.ofNat z.toNat) := by
  by_cases h0 : n = 0
  · subst h0; exact .inl (by simp)
  · obtain ⟨b, off, spot⟩ := a
    have hc := hcell 0 (by omega)
    have hspot : spot = none := by simpa [Addr.add] using World.cell?_spot hc
    subst hspot
    refine .inr ⟨b, off, rfl, ?_, fun k hk => ?_⟩
    · rcases Nat.lt_or_ge b W.heap.size with h | h
      · exact h
      · exfalso
        simp [World.cell?, Addr.add, Array.getElem?_eq_none h] at hc
    · have hk' : k < n := by simp at hk; omega
      have hck := hcell k (by omega)
      rw [Addr.add_lit] at hck
      rw [hck]
      congr 2
      have hmem : zs.getD k 0 ∈ zs := by
        simp only [List.getD, List.getElem?_eq_getElem (show k < zs.length by omega), Option.getD_some]
        exact List.getElem_mem _
      have hb := bounds_u8 (hw _ hmem)
      have e : ((zs.take n).map fun z => UInt8.ofNat z.toNat).getD k 0 = UInt8.ofNat (zs.getD k 0).toNat := by
        simp [List.getD, hk', show k < zs.length by omega]
      rw [e]
      unfold B
      rw [UInt8.toNat_ofNat']
      omega

end Go.Proofs.YtplpakdbahlgaaaDoor
