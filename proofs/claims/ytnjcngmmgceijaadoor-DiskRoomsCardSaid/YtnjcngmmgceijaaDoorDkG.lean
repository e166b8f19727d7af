/-
  The files of a map of names, the elder first: slices.SortedFunc, elderFirst.
-/
import Derived.Test.YtnjcngmmgceijaaDoorDkO
namespace Go.Proofs.YtnjcngmmgceijaaDoor
open Go.RowKit Go.Maps Go.Sort Go.Shelf

theorem vals_mem {f : Dk.Dir} {xs : List Nat} (h : Dk.Vals f xs) : ∀ x ∈ xs, ∃ k, f k = some x := by
  obtain ⟨ks, _, _, e⟩ := h
  intro x hx
  have h1 : some x ∈ ks.map f := by rw [← e]; exact List.mem_map.2 ⟨x, hx, rfl⟩
  obtain ⟨k, _, hk⟩ := List.mem_map.1 h1
  exact ⟨k, hk⟩

set_option maxRecDepth 100000 in
set_option maxHeartbeats 1000000 in
theorem sortedFunc_any (Bm b nn : Nat) (f : Dk.Dir) (bn : Nat → Int) (w : World) (hm : w.cell? ⟨Bm, 0, none⟩ = some (.map (some b))) (h : NamesAt w b nn f) (hnn : nn ≤ 1099511627775) (hb : ∀ k i, f k = some i → w.cell? ⟨i, 0, none⟩ = some (.int .i64 (bn i))) :
    Calls Tryd.prog 52 #[.func (.func 63) #[] #[.pointer (some ⟨Bm, 0, none⟩)], .func (.func 54) #[] #[]] w fun e w' =>
      ∃ (v : Value) (ys : List Nat), e = .returned v ∧ ((∃ xs, Dk.Vals f xs ∧ ys.Perm xs) ∧ ys.length ≤ nn) ∧ ys.Pairwise (fun a c => bn a ≤ bn c) ∧ w'.ownsRow w.heap.size 63 1 v ys.length (ys.map fileE) ∧ Below w.heap.size w w' := by
  have HCO := hide (callsIn_wide.1 (collect_in Fence.wide 10 trivial trivial trivial rfl (by omega) Bm b nn f w hm h (by omega)))
  have HNN := hide (fun xs (hv : Dk.Vals f xs) => vals_mem hv)
  have HB := hide hb
  clear h hm hb
  go_enter Tryd.func52, Tryd.ntmps52
  go_upto_region 2 with (first
    | (go_at_call 61; refine HCO.out.mono ?_; rintro e w1 ⟨v, xs, rfl, ⟨hvals, hxl⟩, hrow, hbl⟩)
    | fail)
  have HVA := hide hvals
  have HBL := hide hbl
  cases xs with
  | nil =>
    obtain ⟨A, c, rfl⟩ : ∃ A c, v = .slice A 0 c := by
      rcases hrow.2 with ⟨rfl, _⟩ | ⟨g, cap, cur, rfl, _⟩
      · exact ⟨_, _, rfl⟩
      · exact ⟨_, _, rfl⟩
    have HRO := hide hrow
    have HSO := hide (fun W => AnyF.slices_SortFunc_none (P := Tryd.prog) (ρ := lay_sortF_ren) { lay_sortF with } A c (.func (.func 54) #[] #[]) W)
    clear hvals hbl hrow
    go_wp2_with (first
      | (go_at_call 62; refine (HSO.out _).mono ?_; rintro e w2 ⟨rfl, rfl⟩)
      | fail)
    go_ret
    exact ⟨_, [], rfl, ⟨⟨[], HVA.out, List.Perm.refl _⟩, Nat.zero_le _⟩, List.Pairwise.nil, HRO.out, HBL.out⟩
  | cons x0 xs' =>
    obtain ⟨g, cap, cur, rfl, hbg, hgb⟩ : ∃ g cap cur, v = .slice (some ⟨g, 0, none⟩) (x0 :: xs').length cap ∧ w.heap.size ≤ g ∧ w1.heap[g]? = some (.cells cur 63 (0, 0)) := by
      rcases hrow.2 with ⟨_, h0⟩ | ⟨g, cap, cur, e, h1, h2, _⟩
      · simp at h0
      · exact ⟨g, cap, cur, e, h1, h2⟩
    have hlen : (x0 :: xs').length ≤ 1099511627775 := by omega
    have HSO := hide (sort_any w.heap.size g cap _ (x0 :: xs') bn w1 hrow rfl (by simp) (by omega) (fun x hx => by
      obtain ⟨k, hk⟩ := HNN.out _ hvals x hx
      have hc := HB.out k x hk
      have hlt := World.block_lt_of_cell? w _ hc
      exact ⟨by show x ≠ g; have : x < w.heap.size := hlt; omega, Nat.lt_of_lt_of_le hlt hbl.size, (hbl.cell (p := ⟨x, 0, none⟩) hlt).trans hc⟩))
    generalize hnl : (x0 :: xs').length = n at *
    clear hvals hbl hrow hgb
    go_wp2_with (first
      | (go_at_call 62; refine HSO.out.mono ?_; rintro e w2 ⟨rfl, ys, hperm, hpw, hrow2, hc2⟩)
      | fail)
    go_ret
    have hyl : ys.length = n := by rw [hperm.length_eq, hnl]
    refine ⟨_, ys, rfl, ⟨⟨_, HVA.out, hperm⟩, by rw [hyl]; exact hxl⟩, hpw, by rw [hyl]; exact hrow2, HBL.out.trans ?_⟩
    exact hc2.below HBL.out.size (fun k e => by subst e; exact hbg)
end Go.Proofs.YtnjcngmmgceijaaDoor
