/-
  Package index: isDue, Add.
-/
import Derived.Test.YteeadlefbehhfaaDoorIxA
import Derived.Deep.RegionLaw
namespace Go.Proofs.YteeadlefbehhfaaDoor
open Go.RowKit

set_option maxRecDepth 100000 in
theorem due_any (X : Nat) (mv av : Value) (s : Ix.St) (S : Nat → Prop) (p : Int) (w : World) (h : IxL w X mv av s S) (hok : Ix.Ok s) (hp : Ix.okP p) (hn : s.marks.length ≤ 1000000) :
    Calls Tryd.prog 57 #[.pointer (some ⟨X, 0, none⟩), .int .i64 p] w fun r w' => r = .returned (.bool (decide (Ix.due s p))) ∧ ∃ q, w' = w.drewN q := by
  have c1 : w.cell? ⟨X, 1, none⟩ = some mv := box_cell h.box 1
  have c0 : w.cell? ⟨X, 0, none⟩ = some (.int .i64 s.every) := box_cell h.box 0
  by_cases h0 : s.marks = []
  · obtain ⟨A, c, rfl⟩ : ∃ A c, mv = .slice A 0 c := by
      rcases h.marks.2 with ⟨e, _⟩ | ⟨g, cap, cur, e, _⟩
      · exact ⟨none, 0, e⟩
      · exact ⟨_, _, by rw [e, h0]; rfl⟩
    have e : decide (Ix.due s p) = true := decide_eq_true (fun a ha => by rw [h0] at ha; cases ha)
    rw [e]
    clear h e h0 hn hok hp
    go_enter Tryd.func57, Tryd.ntmps57
    go_wp2_with fail
    go_quiet (fail)
    go_wp2_with fail
    go_ret
    exact ⟨rfl, _, rfl⟩
  · obtain ⟨a, hl, hg, hlen⟩ := last_split h0
    obtain ⟨n, hN⟩ : ∃ n, n = s.marks.dropLast.length := ⟨_, rfl⟩
    rw [← hN] at hlen
    have hi : s.marks[n]'(by omega) = a := by
      have : s.marks[n]? = some a := by rw [hl, hN]; simp
      rw [List.getElem?_eq_getElem (by omega)] at this
      exact Option.some.inj this
    obtain ⟨g, cap, rfl, hcap, g2⟩ : ∃ g cap, mv = .slice (some ⟨g, 0, none⟩) (n + 1) cap ∧ n + 1 ≤ cap ∧ w.cell? ⟨g, n * 3 + 2, none⟩ = some (.int .i64 a.pos) := by
      rcases h.marks.2 with ⟨_, e⟩ | ⟨g, cap, cur, e, _, hh, hcap, _⟩
      · rw [hlen] at e; omega
      · obtain ⟨k1, k2, k3⟩ := mk_at s.marks n (by omega)
        rw [hi] at k3
        have hc := h.marks.cells (g := g) (by rw [e]; rfl)
        refine ⟨g, cap, by rw [e, hlen], by omega, ?_⟩
        have := hc _ _ k3; rwa [Addr.add_lit, Nat.zero_add] at this
    have hap := (hok.marks a (by rw [← hi]; exact List.getElem_mem _)).2.2
    have hev := hok.every
    have hbe : Ix.due s p ↔ s.every ≤ p - a.pos := ⟨fun hh => hh a hg, fun hh b hb => by rw [hg] at hb; cases hb; exact hh⟩
    have hn1 : n + 1 ≤ 1000000 := by omega
    have hz0 : ((n : Int) + 1 == 0) = false := by rw [beq_eq_false_iff_ne]; omega
    unfold Ix.okP at hap hp
    clear h hl hg hlen hN hn h0 hi hok
    obtain ⟨ao, at_, ap⟩ := a
    simp only at g2 hbe hap
    generalize s.every = ev at *
    have hw : IntKind.i64.wrap (p - ap) = p - ap := by rw [IntKind.wrap_i64]; omega
    by_cases h1 : ev ≤ p - ap
    · rw [decide_eq_true (hbe.2 h1)]
      clear hbe
      go_enter Tryd.func57, Tryd.ntmps57
      go_wp2_with fail
      go_quiet (fail)
      go_wp2_with fail
      go_ret
      exact ⟨by simp [h1], _, rfl⟩
    · rw [decide_eq_false (fun hh => h1 (hbe.1 hh))]
      clear hbe
      go_enter Tryd.func57, Tryd.ntmps57
      go_wp2_with fail
      go_quiet (fail)
      go_wp2_with fail
      go_ret
      exact ⟨by simp [h1], _, rfl⟩

theorem rightO_any (o : Int) (w : World) : Calls Tryd.prog 53 #[.int .i64 o] w fun r w' => r = .returned (.bool (decide (Ix.okO o))) ∧ w' = w := by
  by_cases h1 : 0 ≤ o
  · have d1 : decide (0 ≤ o) = true := by simp [h1]
    by_cases h2 : o ≤ 1099511627776
    · have d2 : decide (o ≤ 1099511627776) = true := by simp [h2]
      rw [decide_eq_true (show Ix.okO o from ⟨h1, h2⟩)]
      go_enter Tryd.func53, Tryd.ntmps53
      go_wp2_with fail
      go_ret
      exact ⟨rfl, rfl⟩
    · have d2 : decide (o ≤ 1099511627776) = false := by simp; omega
      rw [decide_eq_false (fun hh : Ix.okO o => h2 hh.2)]
      go_enter Tryd.func53, Tryd.ntmps53
      go_wp2_with fail
      go_ret
      exact ⟨rfl, rfl⟩
  · have d1 : decide (0 ≤ o) = false := by simp; omega
    rw [decide_eq_false (fun hh : Ix.okO o => h1 hh.1)]
    go_enter Tryd.func53, Tryd.ntmps53
    go_wp2_with fail
    go_ret
    exact ⟨rfl, rfl⟩
theorem rightT_any (o : Int) (w : World) : Calls Tryd.prog 54 #[.int .i64 o] w fun r w' => r = .returned (.bool (decide (Ix.okT o))) ∧ w' = w := by
  by_cases h1 : -1099511627776 ≤ o
  · have d1 : decide (-1099511627776 ≤ o) = true := by simp [h1]
    by_cases h2 : o ≤ 1099511627776
    · have d2 : decide (o ≤ 1099511627776) = true := by simp [h2]
      rw [decide_eq_true (show Ix.okT o from ⟨h1, h2⟩)]
      go_enter Tryd.func54, Tryd.ntmps54
      go_wp2_with fail
      go_ret
      exact ⟨rfl, rfl⟩
    · have d2 : decide (o ≤ 1099511627776) = false := by simp; omega
      rw [decide_eq_false (fun hh : Ix.okT o => h2 hh.2)]
      go_enter Tryd.func54, Tryd.ntmps54
      go_wp2_with fail
      go_ret
      exact ⟨rfl, rfl⟩
  · have d1 : decide (-1099511627776 ≤ o) = false := by simp; omega
    rw [decide_eq_false (fun hh : Ix.okT o => h1 hh.1)]
    go_enter Tryd.func54, Tryd.ntmps54
    go_wp2_with fail
    go_ret
    exact ⟨rfl, rfl⟩
theorem rightP_any (o : Int) (w : World) : Calls Tryd.prog 55 #[.int .i64 o] w fun r w' => r = .returned (.bool (decide (Ix.okP o))) ∧ w' = w := by
  by_cases h1 : 0 ≤ o
  · have d1 : decide (0 ≤ o) = true := by simp [h1]
    by_cases h2 : o ≤ 1073741824
    · have d2 : decide (o ≤ 1073741824) = true := by simp [h2]
      rw [decide_eq_true (show Ix.okP o from ⟨h1, h2⟩)]
      go_enter Tryd.func55, Tryd.ntmps55
      go_wp2_with fail
      go_ret
      exact ⟨rfl, rfl⟩
    · have d2 : decide (o ≤ 1073741824) = false := by simp; omega
      rw [decide_eq_false (fun hh : Ix.okP o => h2 hh.2)]
      go_enter Tryd.func55, Tryd.ntmps55
      go_wp2_with fail
      go_ret
      exact ⟨rfl, rfl⟩
  · have d1 : decide (0 ≤ o) = false := by simp; omega
    rw [decide_eq_false (fun hh : Ix.okP o => h1 hh.1)]
    go_enter Tryd.func55, Tryd.ntmps55
    go_wp2_with fail
    go_ret
    exact ⟨rfl, rfl⟩
end Go.Proofs.YteeadlefbehhfaaDoor
