/-
  Package name: what a text says of an object.
-/
import Derived.Test.YtnnobfdpbdkceaaDoorNsP
namespace Go.Proofs.YtnnobfdpbdkceaaDoor
open Go.RowKit Go.Shelf

/-- The library's bound on a search. -/
def MaxVar (w : World) : Prop := ∃ m : Int, w.cell? ⟨1, 0, none⟩ = some (.int .i64 m)
theorem MaxVar.below {w w' : World} (h : MaxVar w) (hb : Below w.heap.size w w') : MaxVar w' := by
  obtain ⟨m, h⟩ := h
  exact ⟨m, (hb.cell (p := ⟨1, 0, none⟩) (World.block_lt_of_cell? w _ h)).trans h⟩
theorem split_len (sep : List UInt8) : ∀ (k : Nat) (s : List UInt8), ∀ x ∈ Lib.splitK sep 0 k s, x.length ≤ s.length
  | 0, s, x, h => by rw [List.mem_singleton.1 h]; exact Nat.le_refl _
  | k + 1, s, x, h => by
    unfold Lib.splitK at h
    split at h
    · rw [List.mem_singleton.1 h]; exact Nat.le_refl _
    · rcases List.mem_cons.1 h with e | e
      · subst e; rw [List.length_take]; exact Nat.min_le_right _ _
      · have := split_len sep k _ x e
        simp at this
        omega
theorem str_data (b : ByteArray) : Value.string b = str b.data.toList := by cases b; simp
/-- What a text says of an object. -/
structure Pt where
  id : Int
  kind : List UInt8
  base : Int
  ok : Bool
def ptId (s : List UInt8) : Nat := Nm.val 0 ((s.drop 4).take 10)
def ptKind (s : List UInt8) : List UInt8 := (s.drop 15).take (s.length - 29)
def ptBase (s : List UInt8) : Nat := Nm.val 0 (s.drop (s.length - 13))
def partsOf (s : List UInt8) : Pt := if s = Nm.objN (ptId s) (ptKind s) (ptBase s) ∧ Nm.idly (ptId s : Int) ∧ Nm.kindly (ptKind s) = true ∧ Nm.right (ptBase s : Int) then ⟨ptId s, ptKind s, ptBase s, true⟩ else ⟨0, [], 0, false⟩
def PtV (p : Pt) : Value := .tuple #[.int .i64 p.id, str p.kind, .int .i64 p.base, .bool p.ok]
theorem ptObj (i : Nat) (k : List UInt8) (b : Nat) (hi : i < 10 ^ 10) (hb : b < 10 ^ 13) : ptId (Nm.objN i k b) = i ∧ ptKind (Nm.objN i k b) = k ∧ ptBase (Nm.objN i k b) = b := by
  have l1 := Nm.dgs_length 10 i
  have l2 := Nm.dgs_length 13 b
  have e1 : ((Nm.objN i k b).drop 4).take 10 = Nm.dgs 10 i := by
    show (Nm.dgs 10 i ++ _).take 10 = _
    rw [← l1, List.take_left']
    rfl
  have e2 : (Nm.objN i k b).drop 15 = k ++ (45 :: Nm.dgs 13 b) := by
    show (Nm.dgs 10 i ++ (45 :: (k ++ (45 :: Nm.dgs 13 b)))).drop 11 = _
    rw [List.drop_append, l1]
    simp [List.drop_eq_nil_of_le, l1]
  have hl := Nm.objN_length i k b
  have e3 : (Nm.objN i k b).drop ((Nm.objN i k b).length - 13) = Nm.dgs 13 b := by
    rw [hl, show 29 + k.length - 13 = 15 + (k.length + 1) by omega, ← List.drop_drop, e2]
    rw [List.drop_append]
    simp
  refine ⟨?_, ?_, ?_⟩
  · unfold ptId
    rw [e1, Nm.val_dgs 10 i hi]
  · unfold ptKind
    rw [e2, hl, show 29 + k.length - 29 = k.length by omega]
    simp
  · unfold ptBase
    rw [e3, Nm.val_dgs 13 b hb]
theorem partsOf_yes (i : Nat) (k : List UInt8) (b : Nat) (h1 : Nm.idly (i : Int)) (h2 : Nm.kindly k = true) (h3 : Nm.right (b : Int)) : partsOf (Nm.objN i k b) = ⟨i, k, b, true⟩ := by
  obtain ⟨a, c, d⟩ := ptObj i k b (by have := Nm.idly_lt h1; simpa using this) (by have := Nm.right_lt h3; simpa using this)
  unfold partsOf
  rw [a, c, d, if_pos ⟨rfl, h1, h2, h3⟩]
theorem partsOf_no (s : List UInt8) (h : ∀ (i : Nat) k (b : Nat), Nm.idly (i : Int) → Nm.kindly k = true → Nm.right (b : Int) → s ≠ Nm.objN i k b) : partsOf s = ⟨0, [], 0, false⟩ := by
  unfold partsOf
  rw [if_neg fun h2 => h _ _ _ h2.2.1 h2.2.2.1 h2.2.2.2 h2.1]
theorem obj_ne (s : List UInt8) (i : Int) (k : List UInt8) (b : Int) (h : ∀ (i : Nat) k (b : Nat), Nm.idly (i : Int) → Nm.kindly k = true → Nm.right (b : Int) → s ≠ Nm.objN i k b) (h0 : s ≠ []) : Nm.obj i k b ≠ s := by
  unfold Nm.obj
  split
  · rename_i hr
    obtain ⟨h1, h2, h3⟩ := hr
    intro e
    obtain ⟨n, rfl⟩ := Int.eq_ofNat_of_zero_le h1.1
    obtain ⟨m, rfl⟩ := Int.eq_ofNat_of_zero_le h3.1
    exact h n k m h1 h2 h3 (by simpa using e.symm)
  · exact fun e => h0 e.symm
end Go.Proofs.YtnnobfdpbdkceaaDoor
