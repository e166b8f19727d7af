/-
  Package index: New, isBehind, isDue.
-/
import Derived.Test.YteeadlefbehhfaaDoorIxH
import Derived.Test.YteeadlefbehhfaaDoorIs
import Derived.WalkKit
import Derived.ProofKit
import Derived.BigQuiet
import Derived.Deep.QuietTactic
import Derived.Outline
import Derived.LoopTactic
namespace Go.Proofs.YteeadlefbehhfaaDoor
open Go.RowKit

set_option maxRecDepth 100000 in
theorem ixNew_any (e : Int) (w : World) (h : 1 ≤ e ∧ e ≤ 1048576) :
    Calls Tryd.prog 18 #[.int .i64 e] w fun r w' => r = .returned (.tuple #[.pointer (some ⟨w.heap.size, 0, none⟩), .nilIface]) ∧ IxAt w' w.heap.size (Ix.new e) (fun k => w.heap.size ≤ k ∧ k < w'.heap.size) ∧ Below w.heap.size w w' := by
  have d1 : decide (e < 1) = false := by simp; omega
  have d2 : decide (1048576 < e) = false := by simp; omega
  go_enter Tryd.func18, Tryd.ntmps18
  go_wp2_with fail
  go_returns
  refine ⟨rfl, ⟨.slice none 0 0, .slice none 0 0, ⟨heap_alloc_new _ _, World.ownsRow_nil _ _ _ _, World.ownsRow_nil _ _ _ _, ⟨Nat.le_refl _, by simp⟩, fun g hg => (by cases hg), fun g hg => (by cases hg)⟩⟩, balloc (Below.refl _ _) _⟩

theorem last_split {α : Type} {l : List α} (h : l ≠ []) : ∃ a, l = l.dropLast ++ [a] ∧ l.getLast? = some a ∧ l.length = l.dropLast.length + 1 :=
  ⟨l.getLast h, (List.dropLast_concat_getLast h).symm, (by match l, h with | _ :: _, _ => rfl), by rw [List.length_dropLast]; have := List.length_pos_iff.2 h; omega⟩

set_option maxRecDepth 100000 in
theorem behind_any (X : Nat) (mv av : Value) (s : Ix.St) (S : Nat → Prop) (o p : Int) (w : World) (h : IxL w X mv av s S) (hn : s.adds.length ≤ 1000000) :
    Calls Tryd.prog 56 #[.pointer (some ⟨X, 0, none⟩), .agg #[.int .i64 o, .int .i64 p]] w fun r w' => r = .returned (.bool (decide (Ix.behind s.adds o p))) ∧ Below w.heap.size w w' := by
  have hX := (Array.getElem?_eq_some_iff.1 h.box).1
  obtain ⟨W, hW⟩ : ∃ W, W = w.alloc (.cells #[.int .i64 o, .int .i64 p] 98) := ⟨_, rfl⟩
  have hb : Below w.heap.size w W := by rw [hW]; exact balloc (Below.refl _ _) _
  have c2 : W.cell? ⟨X, 2, none⟩ = some av := by
    have e := hb.cell (p := ⟨X, 2, none⟩) hX
    rw [e]; exact box_cell h.box 2
  have b0 : W.cell? ⟨w.heap.size, 0, none⟩ = some (.int .i64 o) := by rw [hW]; simp
  have b1 : W.cell? ⟨w.heap.size, 1, none⟩ = some (.int .i64 p) := by rw [hW, World.cell?_alloc_mark]; rfl
  have HW := hide hW
  have HB := hide hb
  by_cases h0 : s.adds = []
  · obtain ⟨A, c, rfl⟩ : ∃ A c, av = .slice A 0 c := by
      rcases h.adds.2 with ⟨e, _⟩ | ⟨g, cap, cur, e, _⟩
      · exact ⟨none, 0, e⟩
      · exact ⟨_, _, by rw [e, h0]; rfl⟩
    have e : decide (Ix.behind s.adds o p) = true := decide_eq_true (fun a ha => by rw [h0] at ha; cases ha)
    rw [e]
    clear h e h0 hb hW hn
    go_enter Tryd.func56, Tryd.ntmps56
    go_upto_region 1 with fail
    rw [← HW.out]
    go_wp2_with fail
    go_quiet (fail)
    go_wp2_with fail
    go_ret
    exact ⟨rfl, below_drewN HB.out _⟩
  · obtain ⟨a, hl, hg, hlen⟩ := last_split h0
    obtain ⟨n, hN⟩ : ∃ n, n = s.adds.dropLast.length := ⟨_, rfl⟩
    rw [← hN] at hlen
    obtain ⟨g, cap, rfl, hgl, hcap, hcx⟩ : ∃ g cap, av = .slice (some ⟨g, 0, none⟩) (n + 1) cap ∧ g < w.heap.size ∧ n + 1 ≤ cap ∧ (w.cell? ⟨g, n * 2, none⟩ = some (.int .i64 a.off) ∧ w.cell? ⟨g, n * 2 + 1, none⟩ = some (.int .i64 a.pos)) := by
      rcases h.adds.2 with ⟨_, e⟩ | ⟨g, cap, cur, e, _, hh, hcap, _⟩
      · rw [hlen] at e; omega
      · obtain ⟨k1, k2⟩ := ad_at s.adds n (by omega)
        have e1 : s.adds[n]'(by omega) = a := by
          have : s.adds[n]? = some a := by rw [hl, hN]; simp
          rw [List.getElem?_eq_getElem (by omega)] at this
          exact Option.some.inj this
        rw [e1] at k1 k2
        have hc := h.adds.cells (g := g) (by rw [e]; rfl)
        refine ⟨g, cap, by rw [e, hlen], (Array.getElem?_eq_some_iff.1 hh).1, by omega, ?_, ?_⟩
        · have := hc _ _ k1; rwa [Addr.add_lit, Nat.zero_add] at this
        · have := hc _ _ k2; rwa [Addr.add_lit, Nat.zero_add] at this
    have g0 : W.cell? ⟨g, n * 2, none⟩ = some (.int .i64 a.off) := (hb.cell (p := ⟨g, n * 2, none⟩) hgl).trans hcx.1
    have g1 : W.cell? ⟨g, n * 2 + 1, none⟩ = some (.int .i64 a.pos) := (hb.cell (p := ⟨g, n * 2 + 1, none⟩) hgl).trans hcx.2
    have hbe : Ix.behind s.adds o p ↔ a.off < o ∧ a.pos < p := ⟨fun hh => hh a hg, fun hh b hb => by rw [hg] at hb; cases hb; exact hh⟩
    have hn1 : n + 1 ≤ 1000000 := by omega
    have hz0 : ((n : Int) + 1 == 0) = false := by rw [beq_eq_false_iff_ne]; omega
    clear h hl hg hlen hN hcx hb hW hn h0
    obtain ⟨ao, ap⟩ := a
    simp only at g0 g1 hbe
    by_cases h1 : ao < o
    · by_cases h2 : ap < p
      · rw [decide_eq_true (hbe.2 ⟨h1, h2⟩)]
        clear hbe
        go_enter Tryd.func56, Tryd.ntmps56
        go_upto_region 1 with fail
        rw [← HW.out]
        go_wp2_with fail
        go_quiet (fail)
        go_wp2_with fail
        go_ret
        exact ⟨rfl, below_drewN HB.out _⟩
      · rw [decide_eq_false (fun hh => h2 (hbe.1 hh).2)]
        clear hbe
        go_enter Tryd.func56, Tryd.ntmps56
        go_upto_region 1 with fail
        rw [← HW.out]
        go_wp2_with fail
        go_quiet (fail)
        go_wp2_with fail
        go_ret
        exact ⟨by simp [h2], below_drewN HB.out _⟩
    · rw [decide_eq_false (fun hh => h1 (hbe.1 hh).1)]
      clear hbe
      have h1' : o ≤ ao := by omega
      have h1d : decide (ao < o) = false := decide_eq_false h1
      go_enter Tryd.func56, Tryd.ntmps56
      go_upto_region 1 with fail
      rw [← HW.out]
      go_wp2_with fail
      go_quiet (fail)
      go_wp2_with fail
      go_ret
      exact ⟨rfl, below_drewN HB.out _⟩
end Go.Proofs.YteeadlefbehhfaaDoor
