/-
  The files that have a name, the elder first: elderFirst.
-/
import Derived.Test.YtnjcngmmgceijaaDoorDkG
namespace Go.Proofs.YtnjcngmmgceijaaDoor
open Go.RowKit Go.Maps Go.Sort Go.Shelf

set_option maxRecDepth 100000 in
theorem elderFirst_any (b nn : Nat) (f : Dk.Dir) (bn : Nat → Int) (w : World) (h : NamesAt w b nn f) (hnn : nn ≤ 1099511627775) (hb : ∀ k i, f k = some i → w.cell? ⟨i, 0, none⟩ = some (.int .i64 (bn i))) :
    Calls Tryd.prog 38 #[.map (some b)] w fun e w' =>
      ∃ (v : Value) (ys : List Nat), e = .returned v ∧ ((∃ xs, Dk.Vals f xs ∧ ys.Perm xs) ∧ ys.length ≤ nn) ∧ ys.Pairwise (fun a c => bn a ≤ bn c) ∧ w'.ownsRow w.heap.size 63 1 v ys.length (ys.map fileE) ∧ Below w.heap.size w w' := by
  have hVA := fun W => values_any b W
  obtain ⟨W, hW⟩ : ∃ W, W = w.alloc (.cells #[.map (some b)] 55) := ⟨_, rfl⟩
  have hb1 : Below w.heap.size w W := by rw [hW]; exact balloc (Below.refl _ _) _
  have hm : W.cell? ⟨w.heap.size, 0, none⟩ = some (.map (some b)) := by rw [hW]; simp
  have hz : W.heap.size = w.heap.size + 1 := by rw [hW]; simp
  have HSF := hide (sortedFunc_any w.heap.size b nn f bn W hm (h.same (hb1.block b h.lt)) hnn (fun k i hk => (hb1.cell (p := ⟨i, 0, none⟩) (World.block_lt_of_cell? w _ (hb k i hk))).trans (hb k i hk)))
  have HB1 := hide hb1
  have HZ := hide hz
  have HW := hide hW
  have HVA := hide hVA
  clear hb1 hm hz hW h hb hVA
  go_enter Tryd.func38, Tryd.ntmps38
  go_wp2_with (first
    | (go_at_call 53; refine (HVA.out _).mono ?_; rintro e w1 ⟨rfl, rfl⟩; rw [← HW.out])
    | (go_at_call 52; refine HSF.out.mono ?_; rintro e w2 ⟨v, ys, rfl, hv, hpw, hrow, hb2⟩)
    | fail)
  go_ret
  refine ⟨v, ys, rfl, hv, hpw, ?_, HB1.out.trans (hb2.mono HB1.out.size)⟩
  have := HZ.out
  exact ⟨hrow.1, by
    rcases hrow.2 with h | ⟨g, cap, cur, e, h1, h2⟩
    · exact .inl h
    · exact .inr ⟨g, cap, cur, e, by omega, h2⟩⟩
end Go.Proofs.YtnjcngmmgceijaaDoor
