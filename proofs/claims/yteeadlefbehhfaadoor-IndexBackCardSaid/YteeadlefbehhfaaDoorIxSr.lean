/-
  sort.Search laid; Find.
  Package index: what Cut stands on.
-/
import Derived.Shelf.SlSorted.Search
import Derived.Test.YteeadlefbehhfaaDoorIxW
import Derived.Deep.RegionWith
namespace Go.Proofs.YteeadlefbehhfaaDoor
open Go.RowKit Go.Shelf Go.Sort

def lay_searchF_ren : Go.Shelf.Ren := ⟨fun | 16 => 58 | n => n, fun | 3 => 3 | 4 => 4 | 35 => 99 | 38 => 104 | n => n, fun | n => n⟩
theorem lay_searchF : Go.Proofs.SlLaysO.n16 Tryd.prog lay_searchF_ren := {
  mixed := by kernel_rfl
  f16 := Tryd.func58.trans (congrArg some (by kernel_rfl))
  t3 := Tryd.underlying3
  a3 := Tryd.isAgg3
  z3 := Tryd.sizeOf3
  v3 := Tryd.zeroValue3
  t4 := Tryd.underlying4
  a4 := Tryd.isAgg4
  z4 := Tryd.sizeOf4
  v4 := Tryd.zeroValue4
  t35 := Tryd.underlying99
  a35 := Tryd.isAgg99
  z35 := Tryd.sizeOf99
  v35 := Tryd.zeroValue99
  t38 := Tryd.underlying104
  a38 := Tryd.isAgg104
  z38 := Tryd.sizeOf104
  v38 := Tryd.zeroValue104 }

set_option maxRecDepth 100000 in
theorem find1_any (B1 B2 X g n c i : Nat) (o off : Int) (w : World) (hi : i < n) (hc : n ≤ c) (c1 : w.cell? ⟨B1, 0, none⟩ = some (.pointer (some ⟨X, 0, none⟩))) (c2 : w.cell? ⟨B2, 0, none⟩ = some (.int .i64 o)) (c3 : w.cell? ⟨X, 1, none⟩ = some (.slice (some ⟨g, 0, none⟩) n c)) (c4 : w.cell? ⟨g, i * 3, none⟩ = some (.int .i64 off)) :
    Calls Tryd.prog 59 (#[.int .i64 i] ++ #[.pointer (some ⟨B1, 0, none⟩), .pointer (some ⟨B2, 0, none⟩)]) w fun e w' => e = .returned (.bool (decide (o < off))) ∧ ∃ q, w' = w.drewN q := by
  show Calls Tryd.prog 59 #[.int .i64 i, .pointer (some ⟨B1, 0, none⟩), .pointer (some ⟨B2, 0, none⟩)] w _
  go_enter Tryd.func59, Tryd.ntmps59
  go_wp2_with fail
  go_quiet (fail)
  rename Nat => q
  go_wp2_with fail
  go_ret
  exact ⟨rfl, q, rfl⟩
namespace Ix
def St.cnt (s : St) (o : Int) : Nat := (List.range s.marks.length).countP (fun i => !decide (o < (s.marks.getD i ⟨0, 0, 0⟩).off))
/-- The pos of the last mark that is not above o; 0 if there is none. -/
def St.find (s : St) (o : Int) : Int := if s.cnt o = 0 then 0 else (s.marks.getD (s.cnt o - 1) ⟨0, 0, 0⟩).pos
theorem St.cnt_le (s : St) (o : Int) : s.cnt o ≤ s.marks.length := by
  have := List.countP_le_length (p := fun i => !decide (o < (s.marks.getD i ⟨0, 0, 0⟩).off)) (l := List.range s.marks.length)
  simpa [St.cnt] using this
end Ix

set_option maxRecDepth 100000 in
theorem ixFind_any (X : Nat) (s : Ix.St) (S : Nat → Prop) (o : Int) (w : World) (hn : s.marks.length ≤ 1000000) (h : IxAt w X s S) (hm : ∀ a b, a ≤ b → b < s.marks.length → o < (s.marks.getD a ⟨0, 0, 0⟩).off → o < (s.marks.getD b ⟨0, 0, 0⟩).off) :
    Calls Tryd.prog 20 #[.pointer (some ⟨X, 0, none⟩), .int .i64 o] w fun e w' => e = .returned (.int .i64 (s.find o)) ∧ Below w.heap.size w w' := by
  obtain ⟨mv, av, h⟩ := h
  have hX := (Array.getElem?_eq_some_iff.1 h.box).1
  have c1 : w.cell? ⟨X, 1, none⟩ = some mv := box_cell h.box 1
  obtain ⟨A, n, c, rfl⟩ := own_slice h.marks
  have hl : n = s.marks.length := by
    rcases h.marks.2 with ⟨e, k⟩ | ⟨g, cap, cur, e, _⟩
    · injection e with _ e1 _; omega
    · injection e
  have hcell : ∀ k, k < n → ∃ g, A = some ⟨g, 0, none⟩ ∧ g < w.heap.size ∧ n ≤ c ∧ w.cell? ⟨g, k * 3, none⟩ = some (.int .i64 (s.marks.getD k ⟨0, 0, 0⟩).off) ∧ w.cell? ⟨g, k * 3 + 2, none⟩ = some (.int .i64 (s.marks.getD k ⟨0, 0, 0⟩).pos) := fun k hk => by
    rcases h.marks.2 with ⟨e, k0⟩ | ⟨g, cap, cur, e, _, hh, hcap, _⟩
    · omega
    · injection e with e1 e2 e3
      obtain ⟨k1, k2, k3⟩ := mk_at s.marks k (hl ▸ hk)
      have hc := h.marks.cells (g := g) (by rw [e1]; rfl)
      have eg : s.marks.getD k ⟨0, 0, 0⟩ = s.marks[k]'(hl ▸ hk) := by simp [List.getD, show k < s.marks.length from hl ▸ hk]
      rw [eg]
      refine ⟨g, e1, (Array.getElem?_eq_some_iff.1 hh).1, by omega, ?_, ?_⟩
      · have := hc _ _ k1; rwa [Addr.add_lit, Nat.zero_add] at this
      · have := hc _ _ k3; rwa [Addr.add_lit, Nat.zero_add] at this
  obtain ⟨W0, hW0⟩ : ∃ W0, W0 = (w.alloc (.cells #[.pointer (some ⟨X, 0, none⟩)] 24)).alloc (.cells #[.int .i64 o] 2) := ⟨_, rfl⟩
  have hb0 : Below w.heap.size w W0 := by rw [hW0]; exact balloc (balloc (Below.refl _ _) _) _
  have b0 : W0.cell? ⟨w.heap.size, 0, none⟩ = some (.pointer (some ⟨X, 0, none⟩)) := by rw [hW0]; exact cell_alloc_sl _ (cell_new_sl _ _ _)
  have b1 : W0.cell? ⟨w.heap.size + 1, 0, none⟩ = some (.int .i64 o) := by
    rw [hW0]
    have e : (w.alloc (.cells #[.pointer (some ⟨X, 0, none⟩)] 24)).heap.size = w.heap.size + 1 := by simp
    rw [← e]; exact cell_new_sl _ _ _
  have x1 : W0.cell? ⟨X, 1, none⟩ = some (.slice A n c) := (hb0.cell (p := ⟨X, 1, none⟩) hX).trans c1
  have hS := Any.sort_Search (P := Tryd.prog) lay_searchF 59 #[.pointer (some ⟨w.heap.size, 0, none⟩), .pointer (some ⟨w.heap.size + 1, 0, none⟩)] n (fun i => decide (o < (s.marks.getD i ⟨0, 0, 0⟩).off)) W0 (enters_of Tryd.func59 (by kernel_rfl) rfl) (by omega)
    (fun m os i hi => by
      obtain ⟨g, rfl, hg, hnc, k1, -⟩ := hcell i hi
      have hbg := below_grown_sl W0.heap.size W0 m os (Nat.le_refl _)
      have up : ∀ {a v}, W0.cell? a = some v → (grow (W0.drewN m) os).cell? a = some v := fun {a v} ha => (hbg.cell (p := a) (World.block_lt_of_cell? _ _ ha)).trans ha
      refine (find1_any w.heap.size (w.heap.size + 1) X g n c i o _ _ hi hnc (up b0) (up b1) (up x1) (up ((hb0.cell (p := ⟨g, i * 3, none⟩) hg).trans k1))).mono ?_
      rintro e w' ⟨rfl, q, rfl⟩
      exact ⟨rfl, q, #[], by rw [grow_empty]⟩)
    (fun a b hab hb ha => decide_eq_true (hm a b hab (hl ▸ hb) (of_decide_eq_true ha)))
  obtain ⟨k, hk⟩ : ∃ k, k = s.cnt o := ⟨_, rfl⟩
  have hk2 : (List.range n).countP (fun i => !decide (o < (s.marks.getD i ⟨0, 0, 0⟩).off)) = k := by rw [hk, hl]; rfl
  have hkn : k ≤ n := by rw [hk, hl]; exact s.cnt_le o
  rw [hk2] at hS
  have hn2 : n ≤ 1000000 := by omega
  have HSE := hide hS
  have HC := hide hcell
  have HB0 := hide hb0
  have HW0 := hide hW0
  have HF : Hid (s.find o = if k = 0 then 0 else (s.marks.getD (k - 1) ⟨0, 0, 0⟩).pos) := hide (by rw [hk]; rfl)
  rw [HF.out]
  clear h hn hm hcell hS hk hk2 hl hb0 hW0 c1
  go_enter Tryd.func20, Tryd.ntmps20
  go_upto_region 1 with fail
  rw [← HW0.out]
  cases k with
  | zero =>
    go_wp2_with (first
      | (go_at_call 58; refine HSE.out.mono ?_; rintro e w2 ⟨rfl, q, os, hw2⟩; have HB2 : Hid (Below W0.heap.size W0 w2) := hide (hw2 ▸ below_grown_sl W0.heap.size W0 q os (Nat.le_refl _)); clear hw2)
      | fail)
    go_ret
    exact ⟨rfl, HB0.out.trans (HB2.out.mono HB0.out.size)⟩
  | succ k =>
    obtain ⟨g, rfl, hg, hnc, -, k3⟩ := HC.out k (by omega)
    have k30 := (HB0.out.cell (p := ⟨g, k * 3 + 2, none⟩) hg).trans k3
    have hw1 : IntKind.i64.wrap (k : Int) = (k : Int) := by rw [IntKind.wrap_i64]; omega
    have e0 : (((k : Int) + 1) == 0) = false := by rw [beq_eq_false_iff_ne]; omega
    clear k3
    go_wp2_with (first
      | (go_at_call 58; refine HSE.out.mono ?_; rintro e w2 ⟨rfl, q, os, hw2⟩; have HB2 : Hid (Below W0.heap.size W0 w2) := hide (hw2 ▸ below_grown_sl W0.heap.size W0 q os (Nat.le_refl _)); have b02 := (HB2.out.cell (World.block_lt_of_cell? _ _ b0)).trans b0; have x12 := (HB2.out.cell (World.block_lt_of_cell? _ _ x1)).trans x1; have k32 := (HB2.out.cell (World.block_lt_of_cell? _ _ k30)).trans k30; clear hw2)
      | fail)
    go_ret
    exact ⟨rfl, HB0.out.trans (HB2.out.mono HB0.out.size)⟩
end Go.Proofs.YteeadlefbehhfaaDoor

namespace Go.Proofs.YteeadlefbehhfaaDoor
open Go.RowKit Go.Shelf Go.Sort

theorem ownsRow_cut {w : World} {base : Nat} {e : TypeId} {size : Nat} {A : Option Addr} {n c : Nat} {xs : List Value} (h : w.ownsRow base e size (.slice A n c) n xs) (k : Nat) (hk : k ≤ n) : w.ownsRow base e size (.slice A k c) k (xs.take (k * size)) := by
  have hm := Nat.mul_le_mul_right size hk
  refine ⟨by rw [List.length_take, h.1]; omega, ?_⟩
  rcases h.2 with ⟨e1, h0⟩ | ⟨g, cap, cur, e1, hb, hh, hcap, hmax, hsz, hx⟩
  · injection e1 with e1 e2 e3
    subst e1 e3
    obtain rfl : k = 0 := by omega
    exact .inl ⟨rfl, rfl⟩
  · injection e1 with e1 e2 e3
    subst e1 e3
    refine .inr ⟨g, c, cur, rfl, hb, hh, by omega, hmax, hsz, ?_⟩
    rw [← hx, List.take_take, Nat.min_eq_left hm]
theorem mk_take (l : List Ix.Mark) (k : Nat) (hk : k ≤ l.length) : (l.flatMap mkCells).take (k * 3) = (l.take k).flatMap mkCells := by
  conv => lhs; rw [← List.take_append_drop k l, List.flatMap_append]
  have e := mk_len (l.take k)
  rw [List.length_take, Nat.min_eq_left hk] at e
  rw [List.take_append_of_le_length (by omega), List.take_of_length_le (by omega)]
theorem ad_take (l : List Ix.Ad) (k : Nat) (hk : k ≤ l.length) : (l.flatMap adCells).take (k * 2) = (l.take k).flatMap adCells := by
  conv => lhs; rw [← List.take_append_drop k l, List.flatMap_append]
  have e := ad_len (l.take k)
  rw [List.length_take, Nat.min_eq_left hk] at e
  rw [List.take_append_of_le_length (by omega), List.take_of_length_le (by omega)]

namespace Ix
def St.cntM (s : St) (p : Int) : Nat := (List.range s.marks.length).countP (fun i => !decide (p ≤ (s.marks.getD i ⟨0, 0, 0⟩).pos))
def St.cntA (s : St) (p : Int) : Nat := (List.range s.adds.length).countP (fun i => !decide (p ≤ (s.adds.getD i ⟨0, 0⟩).pos))
def lastTime (l : List Mark) : Int := match l.getLast? with | some m => m.time | none => -1099511627776
/-- What lies at p, and behind, is away. -/
def St.cut (s : St) (p : Int) : St := ⟨s.every, s.marks.take (s.cntM p), s.adds.take (s.cntA p), lastTime (s.marks.take (s.cntM p))⟩
theorem St.cntM_le (s : St) (p : Int) : s.cntM p ≤ s.marks.length := by
  have := List.countP_le_length (p := fun i => !decide (p ≤ (s.marks.getD i ⟨0, 0, 0⟩).pos)) (l := List.range s.marks.length)
  simpa [St.cntM] using this
theorem St.cntA_le (s : St) (p : Int) : s.cntA p ≤ s.adds.length := by
  have := List.countP_le_length (p := fun i => !decide (p ≤ (s.adds.getD i ⟨0, 0⟩).pos)) (l := List.range s.adds.length)
  simpa [St.cntA] using this
end Ix

set_option maxRecDepth 100000 in
theorem cut1_any (B1 B2 X g n c i : Nat) (o off : Int) (w : World) (hi : i < n) (hc : n ≤ c) (c1 : w.cell? ⟨B1, 0, none⟩ = some (.pointer (some ⟨X, 0, none⟩))) (c2 : w.cell? ⟨B2, 0, none⟩ = some (.int .i64 o)) (c3 : w.cell? ⟨X, 1, none⟩ = some (.slice (some ⟨g, 0, none⟩) n c)) (c4 : w.cell? ⟨g, i * 3 + 2, none⟩ = some (.int .i64 off)) :
    Calls Tryd.prog 60 (#[.int .i64 i] ++ #[.pointer (some ⟨B1, 0, none⟩), .pointer (some ⟨B2, 0, none⟩)]) w fun e w' => e = .returned (.bool (decide (o ≤ off))) ∧ ∃ q, w' = w.drewN q := by
  show Calls Tryd.prog 60 #[.int .i64 i, .pointer (some ⟨B1, 0, none⟩), .pointer (some ⟨B2, 0, none⟩)] w _
  go_enter Tryd.func60, Tryd.ntmps60
  go_wp2_with fail
  go_quiet (fail)
  rename Nat => q
  go_wp2_with fail
  go_ret
  exact ⟨rfl, q, rfl⟩
set_option maxRecDepth 100000 in
theorem cut2_any (B1 B2 X g n c i : Nat) (o off : Int) (w : World) (hi : i < n) (hc : n ≤ c) (c1 : w.cell? ⟨B1, 0, none⟩ = some (.pointer (some ⟨X, 0, none⟩))) (c2 : w.cell? ⟨B2, 0, none⟩ = some (.int .i64 o)) (c3 : w.cell? ⟨X, 2, none⟩ = some (.slice (some ⟨g, 0, none⟩) n c)) (c4 : w.cell? ⟨g, i * 2 + 1, none⟩ = some (.int .i64 off)) :
    Calls Tryd.prog 61 (#[.int .i64 i] ++ #[.pointer (some ⟨B1, 0, none⟩), .pointer (some ⟨B2, 0, none⟩)]) w fun e w' => e = .returned (.bool (decide (o ≤ off))) ∧ ∃ q, w' = w.drewN q := by
  show Calls Tryd.prog 61 #[.int .i64 i, .pointer (some ⟨B1, 0, none⟩), .pointer (some ⟨B2, 0, none⟩)] w _
  go_enter Tryd.func61, Tryd.ntmps61
  go_wp2_with fail
  go_quiet (fail)
  rename Nat => q
  go_wp2_with fail
  go_ret
  exact ⟨rfl, q, rfl⟩

/-- Search with Cut's first closure, in whatever world the index lies. -/
theorem search1_any (B X : Nat) (A : Option Addr) (n c : Nat) (s : Ix.St) (o : Int) (V : World) (hl : n = s.marks.length) (hn : n ≤ 1000000) (b0 : V.cell? ⟨B, 0, none⟩ = some (.pointer (some ⟨X, 0, none⟩))) (b1 : V.cell? ⟨B + 1, 0, none⟩ = some (.int .i64 o)) (x1 : V.cell? ⟨X, 1, none⟩ = some (.slice A n c))
    (hcell : ∀ k, k < n → ∃ g, A = some ⟨g, 0, none⟩ ∧ n ≤ c ∧ V.cell? ⟨g, k * 3 + 2, none⟩ = some (.int .i64 (s.marks.getD k ⟨0, 0, 0⟩).pos))
    (hm : ∀ a b, a ≤ b → b < s.marks.length → o ≤ (s.marks.getD a ⟨0, 0, 0⟩).pos → o ≤ (s.marks.getD b ⟨0, 0, 0⟩).pos) :
    Calls Tryd.prog 58 #[.int .i64 n, .func (.func 60) #[] #[.pointer (some ⟨B, 0, none⟩), .pointer (some ⟨B + 1, 0, none⟩)]] V fun e w' => e = .returned (.int .i64 (s.cntM o : Nat)) ∧ Below V.heap.size V w' := by
  have hS := Any.sort_Search (P := Tryd.prog) lay_searchF 60 #[.pointer (some ⟨B, 0, none⟩), .pointer (some ⟨B + 1, 0, none⟩)] n (fun i => decide (o ≤ (s.marks.getD i ⟨0, 0, 0⟩).pos)) V (enters_of Tryd.func60 (by kernel_rfl) rfl) (by omega)
    (fun m os i hi => by
      obtain ⟨g, rfl, hnc, k1⟩ := hcell i hi
      have hbg := below_grown_sl V.heap.size V m os (Nat.le_refl _)
      have up : ∀ {a v}, V.cell? a = some v → (grow (V.drewN m) os).cell? a = some v := fun {a v} ha => (hbg.cell (p := a) (World.block_lt_of_cell? _ _ ha)).trans ha
      refine (cut1_any B (B + 1) X g n c i o _ _ hi hnc (up b0) (up b1) (up x1) (up k1)).mono ?_
      rintro e w' ⟨rfl, q, rfl⟩
      exact ⟨rfl, q, #[], by rw [grow_empty]⟩)
    (fun a b hab hb ha => decide_eq_true (hm a b hab (hl ▸ hb) (of_decide_eq_true ha)))
  refine Calls.mono hS ?_
  rintro e w' ⟨rfl, q, os, rfl⟩
  exact ⟨by rw [hl]; rfl, below_grown_sl V.heap.size V q os (Nat.le_refl _)⟩
theorem search2_any (B X : Nat) (A : Option Addr) (n c : Nat) (s : Ix.St) (o : Int) (V : World) (hl : n = s.adds.length) (hn : n ≤ 1000000) (b0 : V.cell? ⟨B, 0, none⟩ = some (.pointer (some ⟨X, 0, none⟩))) (b1 : V.cell? ⟨B + 1, 0, none⟩ = some (.int .i64 o)) (x1 : V.cell? ⟨X, 2, none⟩ = some (.slice A n c))
    (hcell : ∀ k, k < n → ∃ g, A = some ⟨g, 0, none⟩ ∧ n ≤ c ∧ V.cell? ⟨g, k * 2 + 1, none⟩ = some (.int .i64 (s.adds.getD k ⟨0, 0⟩).pos))
    (hm : ∀ a b, a ≤ b → b < s.adds.length → o ≤ (s.adds.getD a ⟨0, 0⟩).pos → o ≤ (s.adds.getD b ⟨0, 0⟩).pos) :
    Calls Tryd.prog 58 #[.int .i64 n, .func (.func 61) #[] #[.pointer (some ⟨B, 0, none⟩), .pointer (some ⟨B + 1, 0, none⟩)]] V fun e w' => e = .returned (.int .i64 (s.cntA o : Nat)) ∧ Below V.heap.size V w' := by
  have hS := Any.sort_Search (P := Tryd.prog) lay_searchF 61 #[.pointer (some ⟨B, 0, none⟩), .pointer (some ⟨B + 1, 0, none⟩)] n (fun i => decide (o ≤ (s.adds.getD i ⟨0, 0⟩).pos)) V (enters_of Tryd.func61 (by kernel_rfl) rfl) (by omega)
    (fun m os i hi => by
      obtain ⟨g, rfl, hnc, k1⟩ := hcell i hi
      have hbg := below_grown_sl V.heap.size V m os (Nat.le_refl _)
      have up : ∀ {a v}, V.cell? a = some v → (grow (V.drewN m) os).cell? a = some v := fun {a v} ha => (hbg.cell (p := a) (World.block_lt_of_cell? _ _ ha)).trans ha
      refine (cut2_any B (B + 1) X g n c i o _ _ hi hnc (up b0) (up b1) (up x1) (up k1)).mono ?_
      rintro e w' ⟨rfl, q, rfl⟩
      exact ⟨rfl, q, #[], by rw [grow_empty]⟩)
    (fun a b hab hb ha => decide_eq_true (hm a b hab (hl ▸ hb) (of_decide_eq_true ha)))
  refine Calls.mono hS ?_
  rintro e w' ⟨rfl, q, os, rfl⟩
  exact ⟨by rw [hl]; rfl, below_grown_sl V.heap.size V q os (Nat.le_refl _)⟩
end Go.Proofs.YteeadlefbehhfaaDoor
