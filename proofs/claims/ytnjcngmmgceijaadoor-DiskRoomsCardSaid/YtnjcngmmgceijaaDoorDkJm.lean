/-
  What a crash keeps of each file, over a list that grows at its end.
-/
import Derived.Test.YtnjcngmmgceijaaDoorDkJn
namespace Go.Proofs.YtnjcngmmgceijaaDoor

/-- One file is kept so far. -/
def Dk.St.keepOne (picks : List Int) (i f : Nat) (s : Dk.St) : Dk.St :=
  { s.setFile f ((s.files f).keep ((s.files f).synced + Dk.pick picks i ((s.files f).bytes.length - (s.files f).synced))) with used := s.used + (((s.files f).synced + Dk.pick picks i ((s.files f).bytes.length - (s.files f).synced) : Nat) : Int) }
theorem keepAll_snoc (picks : List Int) : ∀ (l : List Nat) (i f : Nat) (s : Dk.St), Dk.St.keepAll picks i (l ++ [f]) s = (Dk.St.keepAll picks i l s).keepOne picks (i + l.length) f := by
  intro l
  induction l with
  | nil => intro i f s; simp [Dk.St.keepAll, Dk.St.keepOne]
  | cons x l ih =>
    intro i f s
    simp only [List.cons_append, Dk.St.keepAll, List.length_cons]
    rw [ih]
    congr 1
    omega
theorem keepAll_take (picks : List Int) (ys : List Nat) (j : Nat) (hj : j < ys.length) (s : Dk.St) : Dk.St.keepAll picks 1 (ys.take (j + 1)) s = (Dk.St.keepAll picks 1 (ys.take j) s).keepOne picks (1 + j) (ys.getD j 0) := by
  have e : ys.take (j + 1) = ys.take j ++ [ys.getD j 0] := by
    rw [List.take_add_one, List.getElem?_eq_getElem hj, Option.toList_some]
    simp [List.getD, hj]
  rw [e, keepAll_snoc, List.length_take, Nat.min_eq_left (by omega)]
/-- A row of files, read. -/
structure FileRow (w : World) (base : Nat) (A : Option Addr) (c : Nat) (ys : List Nat) : Prop where
  le : ys.length ≤ c
  max : c ≤ 9223372036854775807
  nil : A = none → c = 0
  get : ∀ j, j < ys.length → ∃ g, base ≤ g ∧ A = some ⟨g, 0, none⟩ ∧ w.cell? ⟨g, j, none⟩ = some (fileE (ys.getD j 0))
theorem files_read {w : World} {base : Nat} {v : Value} {ys : List Nat} (h : w.ownsRow base 63 1 v ys.length (ys.map fileE)) : ∃ A c, v = .slice A ys.length c ∧ FileRow w base A c ys := by
  rcases h.2 with ⟨e, h0⟩ | ⟨g, cap, cur, e, hg, hh, hle, hmax, -, -⟩
  · exact ⟨none, 0, by rw [e, h0], by omega, by omega, fun _ => rfl, fun j hj => by omega⟩
  · subst e
    refine ⟨_, _, rfl, hle, by unfold maxLen at hmax; omega, fun e => (by cases e), fun j hj => ⟨g, hg, rfl, ?_⟩⟩
    rw [h.cellAt j (by omega)]
    simp [List.getD, hj]
end Go.Proofs.YtnjcngmmgceijaaDoor
