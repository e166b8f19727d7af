/-
  Package index: what Cut stands on.
-/
import Derived.Test.YteeadlefbehhfaaDoorIxSr
import Derived.Deep.RegionWith
namespace Go.Proofs.YteeadlefbehhfaaDoor
open Go.RowKit Go.Shelf Go.Sort

theorem ownsRow_cut {w : World} {base : Nat} {e : TypeId} {size : Nat} {A : Option Addr} {n c : Nat} {xs : List Value} (h : w.ownsRow base e size (.slice A n c) n xs) (k : Nat) (hk : k ≤ n) : w.ownsRow base e size (.slice A k c) k (xs.take (k * size)) := by
  have hm := Nat.mul_le_mul_right size hk
  refine ⟨by rw [List.length_take, h.1]; omega, ?_⟩
  rcases h.2 with ⟨e1, h0⟩ | ⟨g, cap, cur, e1, hb, hh, hcap, hmax, hsz, hx⟩
  · injection e1 with e1 e2 e3
    subst e1 e3
    obtain rfl : k = 0 := by omega
    exact .inl ⟨rfl, rfl⟩
  · injection e1 with e1 e2 e3
    subst e1 e3
    refine .inr ⟨g, c, cur, rfl, hb, hh, by omega, hmax, hsz, ?_⟩
    rw [← hx, List.take_take, Nat.min_eq_left hm]
theorem mk_take (l : List Ix.Mark) (k : Nat) (hk : k ≤ l.length) : (l.flatMap mkCells).take (k * 3) = (l.take k).flatMap mkCells := by
  conv => lhs; rw [← List.take_append_drop k l, List.flatMap_append]
  have e := mk_len (l.take k)
  rw [List.length_take, Nat.min_eq_left hk] at e
  rw [List.take_append_of_le_length (by omega), List.take_of_length_le (by omega)]
theorem ad_take (l : List Ix.Ad) (k : Nat) (hk : k ≤ l.length) : (l.flatMap adCells).take (k * 2) = (l.take k).flatMap adCells := by
  conv => lhs; rw [← List.take_append_drop k l, List.flatMap_append]
  have e := ad_len (l.take k)
  rw [List.length_take, Nat.min_eq_left hk] at e
  rw [List.take_append_of_le_length (by omega), List.take_of_length_le (by omega)]

namespace Ix
def St.cntM (s : St) (p : Int) : Nat := (List.range s.marks.length).countP (fun i => !decide (p ≤ (s.marks.getD i ⟨0, 0, 0⟩).pos))
def St.cntA (s : St) (p : Int) : Nat := (List.range s.adds.length).countP (fun i => !decide (p ≤ (s.adds.getD i ⟨0, 0⟩).pos))
def lastTime (l : List Mark) : Int := match l.getLast? with | some m => m.time | none => -1099511627776
/-- What lies at p, and behind, is away. -/
def St.cut (s : St) (p : Int) : St := ⟨s.every, s.marks.take (s.cntM p), s.adds.take (s.cntA p), lastTime (s.marks.take (s.cntM p))⟩
theorem St.cntM_le (s : St) (p : Int) : s.cntM p ≤ s.marks.length := by
  have := List.countP_le_length (p := fun i => !decide (p ≤ (s.marks.getD i ⟨0, 0, 0⟩).pos)) (l := List.range s.marks.length)
  simpa [St.cntM] using this
theorem St.cntA_le (s : St) (p : Int) : s.cntA p ≤ s.adds.length := by
  have := List.countP_le_length (p := fun i => !decide (p ≤ (s.adds.getD i ⟨0, 0⟩).pos)) (l := List.range s.adds.length)
  simpa [St.cntA] using this
end Ix

set_option maxRecDepth 100000 in
theorem cut1_any (B1 B2 X g n c i : Nat) (o off : Int) (w : World) (hi : i < n) (hc : n ≤ c) (c1 : w.cell? ⟨B1, 0, none⟩ = some (.pointer (some ⟨X, 0, none⟩))) (c2 : w.cell? ⟨B2, 0, none⟩ = some (.int .i64 o)) (c3 : w.cell? ⟨X, 1, none⟩ = some (.slice (some ⟨g, 0, none⟩) n c)) (c4 : w.cell? ⟨g, i * 3 + 2, none⟩ = some (.int .i64 off)) :
    Calls Tryd.prog 60 (#[.int .i64 i] ++ #[.pointer (some ⟨B1, 0, none⟩), .pointer (some ⟨B2, 0, none⟩)]) w fun e w' => e = .returned (.bool (decide (o ≤ off))) ∧ ∃ q, w' = w.drewN q := by
  show Calls Tryd.prog 60 #[.int .i64 i, .pointer (some ⟨B1, 0, none⟩), .pointer (some ⟨B2, 0, none⟩)] w _
  go_enter Tryd.func60, Tryd.ntmps60
  go_wp2_with fail
  go_quiet (fail)
  rename Nat => q
  go_wp2_with fail
  go_ret
  exact ⟨rfl, q, rfl⟩
set_option maxRecDepth 100000 in
theorem cut2_any (B1 B2 X g n c i : Nat) (o off : Int) (w : World) (hi : i < n) (hc : n ≤ c) (c1 : w.cell? ⟨B1, 0, none⟩ = some (.pointer (some ⟨X, 0, none⟩))) (c2 : w.cell? ⟨B2, 0, none⟩ = some (.int .i64 o)) (c3 : w.cell? ⟨X, 2, none⟩ = some (.slice (some ⟨g, 0, none⟩) n c)) (c4 : w.cell? ⟨g, i * 2 + 1, none⟩ = some (.int .i64 off)) :
    Calls Tryd.prog 61 (#[.int .i64 i] ++ #[.pointer (some ⟨B1, 0, none⟩), .pointer (some ⟨B2, 0, none⟩)]) w fun e w' => e = .returned (.bool (decide (o ≤ off))) ∧ ∃ q, w' = w.drewN q := by
  show Calls Tryd.prog 61 #[.int .i64 i, .pointer (some ⟨B1, 0, none⟩), .pointer (some ⟨B2, 0, none⟩)] w _
  go_enter Tryd.func61, Tryd.ntmps61
  go_wp2_with fail
  go_quiet (fail)
  rename Nat => q
  go_wp2_with fail
  go_ret
  exact ⟨rfl, q, rfl⟩

/-- Search with Cut's first closure, in whatever world the index lies. -/
theorem search1_any (B X : Nat) (A : Option Addr) (n c : Nat) (s : Ix.St) (o : Int) (V : World) (hl : n = s.marks.length) (hn : n ≤ 1000000) (b0 : V.cell? ⟨B, 0, none⟩ = some (.pointer (some ⟨X, 0, none⟩))) (b1 : V.cell? ⟨B + 1, 0, none⟩ = some (.int .i64 o)) (x1 : V.cell? ⟨X, 1, none⟩ = some (.slice A n c))
    (hcell : ∀ k, k < n → ∃ g, A = some ⟨g, 0, none⟩ ∧ n ≤ c ∧ V.cell? ⟨g, k * 3 + 2, none⟩ = some (.int .i64 (s.marks.getD k ⟨0, 0, 0⟩).pos))
    (hm : ∀ a b, a ≤ b → b < s.marks.length → o ≤ (s.marks.getD a ⟨0, 0, 0⟩).pos → o ≤ (s.marks.getD b ⟨0, 0, 0⟩).pos) :
    Calls Tryd.prog 58 #[.int .i64 n, .func (.func 60) #[] #[.pointer (some ⟨B, 0, none⟩), .pointer (some ⟨B + 1, 0, none⟩)]] V fun e w' => e = .returned (.int .i64 (s.cntM o : Nat)) ∧ Below V.heap.size V w' := by
  have hS := Any.sort_Search (P := Tryd.prog) lay_searchF 60 #[.pointer (some ⟨B, 0, none⟩), .pointer (some ⟨B + 1, 0, none⟩)] n (fun i => decide (o ≤ (s.marks.getD i ⟨0, 0, 0⟩).pos)) V (enters_of Tryd.func60 (by kernel_rfl) rfl) (by omega)
    (fun m os i hi => by
      obtain ⟨g, rfl, hnc, k1⟩ := hcell i hi
      have hbg := below_grown_sl V.heap.size V m os (Nat.le_refl _)
      have up : ∀ {a v}, V.cell? a = some v → (grow (V.drewN m) os).cell? a = some v := fun {a v} ha => (hbg.cell (p := a) (World.block_lt_of_cell? _ _ ha)).trans ha
      refine (cut1_any B (B + 1) X g n c i o _ _ hi hnc (up b0) (up b1) (up x1) (up k1)).mono ?_
      rintro e w' ⟨rfl, q, rfl⟩
      exact ⟨rfl, q, #[], by rw [grow_empty]⟩)
    (fun a b hab hb ha => decide_eq_true (hm a b hab (hl ▸ hb) (of_decide_eq_true ha)))
  refine Calls.mono hS ?_
  rintro e w' ⟨rfl, q, os, rfl⟩
  exact ⟨by rw [hl]; rfl, below_grown_sl V.heap.size V q os (Nat.le_refl _)⟩
theorem search2_any (B X : Nat) (A : Option Addr) (n c : Nat) (s : Ix.St) (o : Int) (V : World) (hl : n = s.adds.length) (hn : n ≤ 1000000) (b0 : V.cell? ⟨B, 0, none⟩ = some (.pointer (some ⟨X, 0, none⟩))) (b1 : V.cell? ⟨B + 1, 0, none⟩ = some (.int .i64 o)) (x1 : V.cell? ⟨X, 2, none⟩ = some (.slice A n c))
    (hcell : ∀ k, k < n → ∃ g, A = some ⟨g, 0, none⟩ ∧ n ≤ c ∧ V.cell? ⟨g, k * 2 + 1, none⟩ = some (.int .i64 (s.adds.getD k ⟨0, 0⟩).pos))
    (hm : ∀ a b, a ≤ b → b < s.adds.length → o ≤ (s.adds.getD a ⟨0, 0⟩).pos → o ≤ (s.adds.getD b ⟨0, 0⟩).pos) :
    Calls Tryd.prog 58 #[.int .i64 n, .func (.func 61) #[] #[.pointer (some ⟨B, 0, none⟩), .pointer (some ⟨B + 1, 0, none⟩)]] V fun e w' => e = .returned (.int .i64 (s.cntA o : Nat)) ∧ Below V.heap.size V w' := by
  have hS := Any.sort_Search (P := Tryd.prog) lay_searchF 61 #[.pointer (some ⟨B, 0, none⟩), .pointer (some ⟨B + 1, 0, none⟩)] n (fun i => decide (o ≤ (s.adds.getD i ⟨0, 0⟩).pos)) V (enters_of Tryd.func61 (by kernel_rfl) rfl) (by omega)
    (fun m os i hi => by
      obtain ⟨g, rfl, hnc, k1⟩ := hcell i hi
      have hbg := below_grown_sl V.heap.size V m os (Nat.le_refl _)
      have up : ∀ {a v}, V.cell? a = some v → (grow (V.drewN m) os).cell? a = some v := fun {a v} ha => (hbg.cell (p := a) (World.block_lt_of_cell? _ _ ha)).trans ha
      refine (cut2_any B (B + 1) X g n c i o _ _ hi hnc (up b0) (up b1) (up x1) (up k1)).mono ?_
      rintro e w' ⟨rfl, q, rfl⟩
      exact ⟨rfl, q, #[], by rw [grow_empty]⟩)
    (fun a b hab hb ha => decide_eq_true (hm a b hab (hl ▸ hb) (of_decide_eq_true ha)))
  refine Calls.mono hS ?_
  rintro e w' ⟨rfl, q, os, rfl⟩
  exact ⟨by rw [hl]; rfl, below_grown_sl V.heap.size V q os (Nat.le_refl _)⟩
end Go.Proofs.YteeadlefbehhfaaDoor
