/-
  Package index: When.
-/
import Derived.Test.YteeadlefbehhfaaDoorIxF
namespace Go.Proofs.YteeadlefbehhfaaDoor
open Go.RowKit

namespace Ix
/-- The first mark whose time is not below t. -/
def St.when (s : St) (t : Int) : Int × Bool := match s.marks.find? (fun m => decide (t ≤ m.time)) with | some m => (m.off, true) | none => (0, false)
theorem when_at {s : St} {t : Int} (j : Nat) (hj : j < s.marks.length) (hb : ∀ i (h : i < s.marks.length), i < j → s.marks[i].time < t) (ht : t ≤ s.marks[j].time) : s.when t = (s.marks[j].off, true) := by
  have : s.marks.find? (fun m => decide (t ≤ m.time)) = some s.marks[j] := by
    rw [List.find?_eq_some_iff_getElem]
    exact ⟨by simp [ht], j, hj, rfl, fun i hi => by have := hb i (by omega) hi; simp; omega⟩
  unfold St.when; rw [this]
theorem when_none {s : St} {t : Int} (hb : ∀ i (h : i < s.marks.length), s.marks[i].time < t) : s.when t = (0, false) := by
  have : s.marks.find? (fun m => decide (t ≤ m.time)) = none := by
    rw [List.find?_eq_none]
    intro m hm
    obtain ⟨i, hi, rfl⟩ := List.getElem_of_mem hm
    have := hb i hi
    simp; omega
  unfold St.when; rw [this]
end Ix

set_option maxRecDepth 100000 in
theorem when_any (X : Nat) (s : Ix.St) (S : Nat → Prop) (t : Int) (w : World) (hn : s.marks.length ≤ 1000000) (h : IxAt w X s S) :
    Calls Tryd.prog 21 #[.pointer (some ⟨X, 0, none⟩), .int .i64 t] w fun e w' => e = .returned (.tuple #[.int .i64 (s.when t).1, .bool (s.when t).2]) ∧ Below w.heap.size w w' := by
  obtain ⟨mv, av, h⟩ := h
  have c1 : w.cell? ⟨X, 1, none⟩ = some mv := box_cell h.box 1
  obtain ⟨A, n, c, rfl⟩ := own_slice h.marks
  have hl : n = s.marks.length := by
    rcases h.marks.2 with ⟨e, k⟩ | ⟨g, cap, cur, e, _⟩
    · injection e with _ e1 _; omega
    · injection e
  have hcell : ∀ k (hk : k < s.marks.length), ∃ g, A = some ⟨g, 0, none⟩ ∧ g < w.heap.size ∧ n ≤ c ∧ w.cell? ⟨g, k * 3, none⟩ = some (.int .i64 s.marks[k].off) ∧ w.cell? ⟨g, k * 3 + 1, none⟩ = some (.int .i64 s.marks[k].time) ∧ w.cell? ⟨g, k * 3 + 2, none⟩ = some (.int .i64 s.marks[k].pos) := fun k hk => by
    rcases h.marks.2 with ⟨e, k0⟩ | ⟨g, cap, cur, e, _, hh, hcap, _⟩
    · omega
    · injection e with e1 e2 e3
      obtain ⟨k1, k2, k3⟩ := mk_at s.marks k hk
      have hc := h.marks.cells (g := g) (by rw [e1]; rfl)
      refine ⟨g, e1, (Array.getElem?_eq_some_iff.1 hh).1, by omega, ?_, ?_, ?_⟩
      · have := hc _ _ k1; rwa [Addr.add_lit, Nat.zero_add] at this
      · have := hc _ _ k2; rwa [Addr.add_lit, Nat.zero_add] at this
      · have := hc _ _ k3; rwa [Addr.add_lit, Nat.zero_add] at this
  have HC := hide hcell
  obtain ⟨r, hr⟩ : ∃ r, r = s.when t := ⟨_, rfl⟩
  rw [← hr]
  have HR := hide hr
  have HL := hide hl
  have hn1 : n ≤ 1000000 := by omega
  clear h hcell hr hl hn
  go_enter Tryd.func21, Tryd.ntmps21
  go_wp2_with fail
  go_loopw [13] (fun kv wq => ∃ j : Nat, j ≤ n ∧ kv = .int .i64 j ∧ (∀ i (h : i < s.marks.length), i < j → s.marks[i].time < t) ∧ Below w.heap.size w wq) (fun kv _ => n - (intOf kv).toNat)
  case atStart => exact ⟨0, Nat.zero_le _, rfl, fun i h k => absurd k (Nat.not_lt_zero _), Below.refl _ _⟩
  case round =>
    obtain ⟨j, hj, rfl, hbf, hb⟩ := hrel
    by_cases hjm : j < n
    · obtain ⟨g, rfl, hg, hnc, k1, k2, k3⟩ := HC.out j (HL.out ▸ hjm)
      have m1 := (hb.cell (p := ⟨g, j * 3, none⟩) hg).trans k1
      have m2 := (hb.cell (p := ⟨g, j * 3 + 1, none⟩) hg).trans k2
      have m3 := (hb.cell (p := ⟨g, j * 3 + 2, none⟩) hg).trans k3
      obtain ⟨mk, hmk⟩ : ∃ mk, mk = s.marks[j]'(HL.out ▸ hjm) := ⟨_, rfl⟩
      rw [← hmk] at m1 m2 m3
      have HMK := hide hmk
      have HBF := hide hbf
      have HB := hide hb
      clear k1 k2 k3 hmk hbf hb
      obtain ⟨mo, mt, mp⟩ := mk
      simp only at m1 m2 m3
      by_cases ht : t ≤ mt
      · have d1 : decide (t ≤ mt) = true := decide_eq_true ht
        go_wp2_with fail
        go_returns
        have e := Ix.when_at (s := s) (t := t) j (HL.out ▸ hjm) HBF.out (by rw [← HMK.out]; exact ht)
        rw [← HR.out, ← HMK.out] at e
        rw [e]
        exact ⟨rfl, balloc HB.out _⟩
      · have d1 : decide (t ≤ mt) = false := decide_eq_false ht
        go_wp2_with fail
        go_roundw
        case rel => exact ⟨j + 1, by omega, by go_num, fun i hi hij => by
          by_cases e : i = j
          · subst e; rw [← HMK.out]; show mt < t; omega
          · exact HBF.out i hi (by omega), balloc HB.out _⟩
        case measure => simp [intOf]; omega
    · go_wp2_with fail
      go_returns
      have e := Ix.when_none (s := s) (t := t) (fun i hi => hbf i hi (by have := HL.out; omega))
      rw [← HR.out] at e
      rw [e]
      exact ⟨rfl, hb⟩
end Go.Proofs.YteeadlefbehhfaaDoor
