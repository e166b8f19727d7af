/-
  Package index: When.
  A session with an index; Long.
  first() of the index's statements.
  sort.Search laid; Find.
  Package index: what Cut stands on.
  Package seg: until, before.
-/
import Derived.Test.YtfdppggdgdnnaaaGreatDoorZ8
import Derived.Test.YtfdppggdgdnnaaaGreatDoorZ1
import Derived.Shelf.SlSorted.Search
import Derived.Deep.RegionWith
import Derived.Test.YtfdppggdgdnnaaaGreatDoorZ11
namespace Go.Proofs.YtfdppggdgdnnaaaGreatDoor
open Go.RowKit

namespace Ix
/-- The first mark whose time is not below t. -/
def St.when (s : St) (t : Int) : Int × Bool := match s.marks.find? (fun m => decide (t ≤ m.time)) with | some m => (m.off, true) | none => (0, false)
theorem when_at {s : St} {t : Int} (j : Nat) (hj : j < s.marks.length) (hb : ∀ i (h : i < s.marks.length), i < j → s.marks[i].time < t) (ht : t ≤ s.marks[j].time) : s.when t = (s.marks[j].off, true) := by
  have : s.marks.find? (fun m => decide (t ≤ m.time)) = some s.marks[j] := by
    rw [List.find?_eq_some_iff_getElem]
    exact ⟨by simp [ht], j, hj, rfl, fun i hi => by have := hb i (by omega) hi; simp; omega⟩
  unfold St.when; rw [this]
theorem when_none {s : St} {t : Int} (hb : ∀ i (h : i < s.marks.length), s.marks[i].time < t) : s.when t = (0, false) := by
  have : s.marks.find? (fun m => decide (t ≤ m.time)) = none := by
    rw [List.find?_eq_none]
    intro m hm
    obtain ⟨i, hi, rfl⟩ := List.getElem_of_mem hm
    have := hb i hi
    simp; omega
  unfold St.when; rw [this]
end Ix

end Go.Proofs.YtfdppggdgdnnaaaGreatDoor

namespace Go.Proofs.YtfdppggdgdnnaaaGreatDoor
open Go.RowKit

/-- ErrRange as the program lays it. -/
abbrev Sent4 (w : World) (p : Nat → Addr) : Prop := SentsOn (fun j => j = 4) w p
/-- An index at X since w0. -/
structure IxS (w0 : World) (X : Nat) (s : Ix.St) (w : World) : Prop where
  ix : IxAt w X s (fun k => w0.heap.size ≤ k ∧ k < w.heap.size)
  bel : Below w0.heap.size w0 w
  ok : Ix.Ok s
theorem IxS.drew {w0 : World} {X : Nat} {s : Ix.St} {w : World} (h : IxS w0 X s w) (q : Nat) : IxS w0 X s (w.drewN q) := ⟨h.ix.same fun _ _ _ => rfl, below_drewN h.bel q, h.ok⟩
theorem IxS.below {w0 : World} {X : Nat} {s : Ix.St} {w w' : World} (h : IxS w0 X s w) (hb : Below w.heap.size w w') : IxS w0 X s w' :=
  ⟨(h.ix.same fun k _ hk => hb.block k hk).mono fun _k hk => ⟨hk.1, Nat.lt_of_lt_of_le hk.2 hb.size⟩, h.bel.trans (hb.mono h.bel.size), h.ok⟩
theorem new_ixS (w0 : World) (e : Int) (w : World) (hb : Below w0.heap.size w0 w) (h : 1 ≤ e ∧ e ≤ 1048576) :
    Calls Tryz.prog 14 #[.int .i64 e] w fun r w' => r = .returned (.tuple #[.pointer (some ⟨w.heap.size, 0, none⟩), .nilIface]) ∧ IxS w0 w.heap.size (Ix.new e) w' := by
  refine (ixNew_any e w h).mono ?_
  rintro r w' ⟨rfl, hi, hb'⟩
  have := hb.size
  exact ⟨rfl, hi.mono fun k hk => ⟨by omega, hk.2⟩, hb.trans (hb'.mono hb.size), Ix.Ok.new e h⟩
theorem Ix.Ok.add {s : Ix.St} (h : Ix.Ok s) (o t p z : Int) : Ix.Ok (Ix.add s o t p z).2 := by
  unfold Ix.add
  split
  · rename_i hg; exact h.put o t p hg.1 hg.2.1 hg.2.2.2.1
  · exact h
theorem IxS.add {w0 : World} {X : Nat} {s : Ix.St} {w : World} (h : IxS w0 X s w) (p : Nat → Addr) (hs : Sent4 w0 p) (o t q z : Int) (hn : s.adds.length ≤ 1000000) (hm : s.marks.length ≤ 1000000) :
    Calls Tryz.prog 16 #[.pointer (some ⟨X, 0, none⟩), .int .i64 o, .int .i64 t, .int .i64 q, .int .i64 z] w fun r w' => r = .returned (errR p (Ix.add s o t q z).1) ∧ IxS w0 X (Ix.add s o t q z).2 w' := by
  refine (ixAdd_any X s _ p o t q z w h.ix h.ok hn hm ((hs.below h.bel).cell 4 rfl)).mono ?_
  rintro r w' ⟨rfl, hi, hc⟩
  have hz := h.bel.size
  have hcs := hc.size
  refine ⟨rfl, hi.mono fun k hk => ?_, h.bel.trans (hc.below hz fun k hk => hk.1), h.ok.add o t q z⟩
  rcases hk with hk | hk
  · exact ⟨hk.1, by omega⟩
  · exact ⟨by omega, hk.2⟩

theorem long_ix (n b : Int) (w : World) (hb : 0 < b) (hb1 : b ≤ 9223372036854775807) (h1 : -9223372036854775808 ≤ n) (h2 : n ≤ 9223372036854775807) :
    Calls Tryz.prog 10 #[.int .i64 n, .int .i64 b] w fun e w' => e = .returned (.int .i64 (n % b)) ∧ w = w' := by
  have m1 := Int.emod_nonneg n (show b ≠ 0 by omega)
  have m2 := Int.emod_lt_of_pos n hb
  by_cases h0 : 0 ≤ n
  · go_enter Tryz.func10, Tryz.ntmps10
    go_wp2
    go_ret
    exact ⟨rfl, rfl⟩
  · by_cases hm : n % b = 0
    · have t := tmod_nil n b hm
      rw [hm]
      clear hm m1 m2
      go_enter Tryz.func10, Tryz.ntmps10
      go_wp2
      go_ret
      exact ⟨rfl, rfl⟩
    · have t := tmod_up n b hb (by omega) hm
      have e : n % b - b + b = n % b := by omega
      generalize n % b = r at *
      go_enter Tryz.func10, Tryz.ntmps10
      go_wp2
      go_ret
      exact ⟨rfl, rfl⟩
end Go.Proofs.YtfdppggdgdnnaaaGreatDoor

namespace Go.Proofs.YtfdppggdgdnnaaaGreatDoor
open Go.RowKit

theorem mk_row {w : World} {base : Nat} {v : Value} {l : List Ix.Mark} (h : w.ownsRow base 100 3 v l.length (l.flatMap mkCells)) (hne : 0 < l.length) :
    ∃ g c, v = .slice (some ⟨g, 0, none⟩) l.length c ∧ l.length ≤ c ∧ ∀ k (hk : k < l.length), w.cell? ⟨g, k * 3, none⟩ = some (.int .i64 l[k].off) ∧ w.cell? ⟨g, k * 3 + 1, none⟩ = some (.int .i64 l[k].time) ∧ w.cell? ⟨g, k * 3 + 2, none⟩ = some (.int .i64 l[k].pos) := by
  rcases h.2 with ⟨_, e⟩ | ⟨g, cap, cur, e, _, hh, hcap, _⟩
  · omega
  · refine ⟨g, cap, e, by omega, fun k hk => ?_⟩
    obtain ⟨k1, k2, k3⟩ := mk_at l k hk
    have hc := h.cells (g := g) (by rw [e]; rfl)
    refine ⟨?_, ?_, ?_⟩
    · have := hc _ _ k1; rwa [Addr.add_lit, Nat.zero_add] at this
    · have := hc _ _ k2; rwa [Addr.add_lit, Nat.zero_add] at this
    · have := hc _ _ k3; rwa [Addr.add_lit, Nat.zero_add] at this

end Go.Proofs.YtfdppggdgdnnaaaGreatDoor

namespace Go.Proofs.YtfdppggdgdnnaaaGreatDoor
open Go.RowKit Go.Shelf Go.Sort

def lay_searchF_ren : Go.Shelf.Ren := ⟨fun | 16 => 105 | n => n, fun | 3 => 3 | 4 => 4 | 35 => 97 | 38 => 146 | n => n, fun | n => n⟩
theorem lay_searchF : Go.Proofs.SlLaysO.n16 Tryz.prog lay_searchF_ren := {
  mixed := by kernel_rfl
  f16 := Tryz.func105.trans (congrArg some (by kernel_rfl))
  t3 := Tryz.underlying3
  a3 := Tryz.isAgg3
  z3 := Tryz.sizeOf3
  v3 := Tryz.zeroValue3
  t4 := Tryz.underlying4
  a4 := Tryz.isAgg4
  z4 := Tryz.sizeOf4
  v4 := Tryz.zeroValue4
  t35 := Tryz.underlying97
  a35 := Tryz.isAgg97
  z35 := Tryz.sizeOf97
  v35 := Tryz.zeroValue97
  t38 := Tryz.underlying146
  a38 := Tryz.isAgg146
  z38 := Tryz.sizeOf146
  v38 := Tryz.zeroValue146 }

namespace Ix
def St.cnt (s : St) (o : Int) : Nat := (List.range s.marks.length).countP (fun i => !decide (o < (s.marks.getD i ⟨0, 0, 0⟩).off))
/-- The pos of the last mark that is not above o; 0 if there is none. -/
def St.find (s : St) (o : Int) : Int := if s.cnt o = 0 then 0 else (s.marks.getD (s.cnt o - 1) ⟨0, 0, 0⟩).pos
theorem St.cnt_le (s : St) (o : Int) : s.cnt o ≤ s.marks.length := by
  have := List.countP_le_length (p := fun i => !decide (o < (s.marks.getD i ⟨0, 0, 0⟩).off)) (l := List.range s.marks.length)
  simpa [St.cnt] using this
end Ix

end Go.Proofs.YtfdppggdgdnnaaaGreatDoor

namespace Go.Proofs.YtfdppggdgdnnaaaGreatDoor
open Go.RowKit Go.Shelf Go.Sort

theorem ownsRow_cut {w : World} {base : Nat} {e : TypeId} {size : Nat} {A : Option Addr} {n c : Nat} {xs : List Value} (h : w.ownsRow base e size (.slice A n c) n xs) (k : Nat) (hk : k ≤ n) : w.ownsRow base e size (.slice A k c) k (xs.take (k * size)) := by
  have hm := Nat.mul_le_mul_right size hk
  refine ⟨by rw [List.length_take, h.1]; omega, ?_⟩
  rcases h.2 with ⟨e1, h0⟩ | ⟨g, cap, cur, e1, hb, hh, hcap, hmax, hsz, hx⟩
  · injection e1 with e1 e2 e3
    subst e1 e3
    obtain rfl : k = 0 := by omega
    exact .inl ⟨rfl, rfl⟩
  · injection e1 with e1 e2 e3
    subst e1 e3
    refine .inr ⟨g, c, cur, rfl, hb, hh, by omega, hmax, hsz, ?_⟩
    rw [← hx, List.take_take, Nat.min_eq_left hm]
theorem mk_take (l : List Ix.Mark) (k : Nat) (hk : k ≤ l.length) : (l.flatMap mkCells).take (k * 3) = (l.take k).flatMap mkCells := by
  conv => lhs; rw [← List.take_append_drop k l, List.flatMap_append]
  have e := mk_len (l.take k)
  rw [List.length_take, Nat.min_eq_left hk] at e
  rw [List.take_append_of_le_length (by omega), List.take_of_length_le (by omega)]
theorem ad_take (l : List Ix.Ad) (k : Nat) (hk : k ≤ l.length) : (l.flatMap adCells).take (k * 2) = (l.take k).flatMap adCells := by
  conv => lhs; rw [← List.take_append_drop k l, List.flatMap_append]
  have e := ad_len (l.take k)
  rw [List.length_take, Nat.min_eq_left hk] at e
  rw [List.take_append_of_le_length (by omega), List.take_of_length_le (by omega)]

namespace Ix
def St.cntM (s : St) (p : Int) : Nat := (List.range s.marks.length).countP (fun i => !decide (p ≤ (s.marks.getD i ⟨0, 0, 0⟩).pos))
def St.cntA (s : St) (p : Int) : Nat := (List.range s.adds.length).countP (fun i => !decide (p ≤ (s.adds.getD i ⟨0, 0⟩).pos))
def lastTime (l : List Mark) : Int := match l.getLast? with | some m => m.time | none => -1099511627776
/-- What lies at p, and behind, is away. -/
def St.cut (s : St) (p : Int) : St := ⟨s.every, s.marks.take (s.cntM p), s.adds.take (s.cntA p), lastTime (s.marks.take (s.cntM p))⟩
theorem St.cntM_le (s : St) (p : Int) : s.cntM p ≤ s.marks.length := by
  have := List.countP_le_length (p := fun i => !decide (p ≤ (s.marks.getD i ⟨0, 0, 0⟩).pos)) (l := List.range s.marks.length)
  simpa [St.cntM] using this
theorem St.cntA_le (s : St) (p : Int) : s.cntA p ≤ s.adds.length := by
  have := List.countP_le_length (p := fun i => !decide (p ≤ (s.adds.getD i ⟨0, 0⟩).pos)) (l := List.range s.adds.length)
  simpa [St.cntA] using this
end Ix

end Go.Proofs.YtfdppggdgdnnaaaGreatDoor

namespace Go.Proofs.YtfdppggdgdnnaaaGreatDoor
open Go.RowKit Go.Shelf Go.Sort

set_option maxRecDepth 100000 in
theorem before1_any (B : Nat) (o a b c d : Int) (w : World) (cB : w.cell? ⟨B, 0, none⟩ = some (.int .i64 o)) :
    Calls Tryz.prog 100 #[.agg #[.int .i64 a, .int .i64 b, .int .i64 c, .int .i64 d], .pointer (some ⟨B, 0, none⟩)] w fun e w' => e = .returned (.bool (decide (o < a))) ∧ w' = w.alloc (.cells #[.int .i64 a, .int .i64 b, .int .i64 c, .int .i64 d] 106) := by
  have hB : B < w.heap.size := World.block_lt_of_cell? _ _ cB
  have c2 : (w.alloc (.cells #[.int .i64 a, .int .i64 b, .int .i64 c, .int .i64 d] 106)).cell? ⟨B, 0, none⟩ = some (.int .i64 o) := ((balloc (Below.refl w.heap.size w) _).cell (p := ⟨B, 0, none⟩) hB).trans cB
  go_enter Tryz.func100, Tryz.ntmps100
  go_wp2_with fail
  go_ret
  exact ⟨rfl, rfl⟩

/-- A test of edges: it reads, and may make new memory. -/
def Tests (F : Nat) (caps : Array Value) (P : Sg.Edge → Bool) (W : World) : Prop :=
  ∀ e : Sg.Edge, (0 ≤ e.pos ∧ e.pos ≤ 1000000000) → Calls Tryz.prog F (#[egV e] ++ caps) W fun r w' => r = .returned (.bool (P e)) ∧ ∃ q os, w' = grow (W.drewN q) os

set_option maxRecDepth 100000 in
theorem until1_any (B1 B2 X F : Nat) (caps : Array Value) (P : Sg.Edge → Bool) (A : Option Addr) (c i : Nat) (l : List Sg.Edge) (w : World) (hi : i < l.length) (he : EgAt w A c l) (c1 : w.cell? ⟨B1, 0, none⟩ = some (.func (.func F) #[] caps)) (c2 : w.cell? ⟨B2, 0, none⟩ = some (.pointer (some ⟨X, 0, none⟩)))
    (c3 : w.cell? ⟨X, 3, none⟩ = some (.slice A l.length c)) (hE : Enters Tryz.prog F) (hp : 0 ≤ (Sg.ed l i).pos ∧ (Sg.ed l i).pos ≤ 1000000000) (hF : ∀ q, Tests F caps P (w.drewN q)) :
    Calls Tryz.prog 106 (#[.int .i64 i] ++ #[.pointer (some ⟨B1, 0, none⟩), .pointer (some ⟨B2, 0, none⟩)]) w fun e w' => e = .returned (.bool (P (Sg.ed l i))) ∧ ∃ q os, w' = grow (w.drewN q) os := by
  show Calls Tryz.prog 106 #[.int .i64 i, .pointer (some ⟨B1, 0, none⟩), .pointer (some ⟨B2, 0, none⟩)] w _
  obtain ⟨g, rfl, hg, k0, k1, k2, k3⟩ := he.at_ i hi
  have hle := he.le
  have HF := hide (hF 1 (Sg.ed l i) hp)
  generalize Sg.ed l i = m at *
  obtain ⟨mo, mp, me, mt⟩ := m
  generalize l.length = n at *
  simp only at k0 k1 k2 k3
  unfold egV at HF
  simp only at HF
  unfold Enters at hE
  clear he hF hp
  go_enter Tryz.func106, Tryz.ntmps106
  go_upto_region 1 with fail
  go_still_tail 8, (by kernel_rfl)
  change wpList _ _ _ _ _ w.drew
  go_wp2_with fail
  refine HF.out.mono ?_
  rintro e w2 ⟨rfl, q, os, hw⟩
  have HW := hide hw
  clear hw
  go_wp2_with fail
  go_ret
  exact ⟨rfl, q + 1, os, by rw [HW.out, World.drewN_drewN, Nat.add_comm]⟩

namespace Sg
/-- How many edges the test lets pass. -/
def cnt (l : List Edge) (P : Edge → Bool) : Nat := (List.range l.length).countP (fun i => !P (ed l i))
theorem cnt_le (l : List Edge) (P : Edge → Bool) : cnt l P ≤ l.length := by
  have := List.countP_le_length (p := fun i => !P (ed l i)) (l := List.range l.length)
  simpa [cnt] using this
end Sg

set_option maxRecDepth 100000 in
set_option maxHeartbeats 1000000 in
theorem until_any (X D F : Nat) (caps : Array Value) (P : Sg.Edge → Bool) (s : Sg.St) (T : Nat → Prop) (w : World) (h : SegAt w X D s T) (ho : Sg.Ok s) (hE : Enters Tryz.prog F) (hF : ∀ W, Below w.heap.size w W → Tests F caps P W)
    (hmono : ∀ a b, a ≤ b → b < s.edges.length → P (Sg.ed s.edges a) = true → P (Sg.ed s.edges b) = true) :
    Calls Tryz.prog 66 #[.pointer (some ⟨X, 0, none⟩), .func (.func F) #[] caps] w fun e w' => e = .returned (.int .i64 ((Sg.cnt s.edges P : Int) - 1)) ∧ Below w.heap.size w w' := by
  obtain ⟨v, h⟩ := h
  obtain ⟨A, c, rfl, he, -, -, -, c3, -⟩ := h.cells
  have hX := h.lt
  have hlen := ho.len
  obtain ⟨W0, hW0⟩ : ∃ W0, W0 = (w.alloc (.cells #[.pointer (some ⟨X, 0, none⟩)] 29)).alloc (.cells #[.func (.func F) #[] caps] 114) := ⟨_, rfl⟩
  have hb0 : Below w.heap.size w W0 := by rw [hW0]; exact balloc (balloc (Below.refl _ _) _) _
  have b0 : W0.cell? ⟨w.heap.size, 0, none⟩ = some (.pointer (some ⟨X, 0, none⟩)) := by rw [hW0]; exact cell_alloc_sl _ (cell_new_sl _ _ _)
  have b1 : W0.cell? ⟨w.heap.size + 1, 0, none⟩ = some (.func (.func F) #[] caps) := by
    rw [hW0]
    have e : (w.alloc (.cells #[.pointer (some ⟨X, 0, none⟩)] 29)).heap.size = w.heap.size + 1 := by simp
    rw [← e]; exact cell_new_sl _ _ _
  have x3 : W0.cell? ⟨X, 3, none⟩ = some (.slice A s.edges.length c) := (hb0.cell (p := ⟨X, 3, none⟩) hX).trans c3
  have hle := he.le
  have hS := Any.sort_Search (P := Tryz.prog) lay_searchF 106 #[.pointer (some ⟨w.heap.size + 1, 0, none⟩), .pointer (some ⟨w.heap.size, 0, none⟩)] s.edges.length (fun i => P (Sg.ed s.edges i)) W0 (enters_of Tryz.func106 (by kernel_rfl) rfl) (by omega)
    (fun m os i hi => by
      have hbg := below_grown_sl W0.heap.size W0 m os (Nat.le_refl _)
      have up : ∀ {a v}, W0.cell? a = some v → (grow (W0.drewN m) os).cell? a = some v := fun {a v} ha => (hbg.cell (p := a) (World.block_lt_of_cell? _ _ ha)).trans ha
      have hbw : Below w.heap.size w (grow (W0.drewN m) os) := hb0.trans (hbg.mono hb0.size)
      refine (until1_any (w.heap.size + 1) w.heap.size X F caps P A c i s.edges _ hi (he.below hbw) (up b1) (up b0) (up x3) hE (ho.pos _ (Sg.ed_mem hi)) fun q => hF _ (below_drewN hbw q)).mono ?_
      rintro e w' ⟨rfl, q, os2, hw2⟩
      exact ⟨rfl, q, os2, hw2⟩)
    (fun a b hab hb ha => hmono a b hab hb ha)
  have hk2 : (List.range s.edges.length).countP (fun i => !P (Sg.ed s.edges i)) = Sg.cnt s.edges P := rfl
  rw [hk2] at hS
  have hkn := Sg.cnt_le s.edges P
  generalize Sg.cnt s.edges P = k at *
  generalize s.edges.length = n at *
  have HSE := hide hS
  have HB0 := hide hb0
  have HW0 := hide hW0
  clear h ho hE hF hmono hS hb0 hW0 c3 he hk2
  have hw1 : IntKind.i64.wrap ((k : Int) - 1) = (k : Int) - 1 := by rw [IntKind.wrap_i64]; omega
  go_enter Tryz.func66, Tryz.ntmps66
  go_upto_region 1 with fail
  rw [← HW0.out]
  go_wp2_with (first
    | (go_at_call 105; refine HSE.out.mono ?_; rintro e w2 ⟨rfl, q, os, hw2⟩; have HB2 : Hid (Below W0.heap.size W0 w2) := hide (hw2 ▸ below_grown_sl W0.heap.size W0 q os (Nat.le_refl _)); clear hw2)
    | fail)
  go_ret
  exact ⟨rfl, HB0.out.trans (HB2.out.mono HB0.out.size)⟩

set_option maxRecDepth 100000 in
set_option maxHeartbeats 1000000 in
/-- The last edge whose offset is not above this one; below 0, if there is none. -/
theorem sgBefore_any (X D : Nat) (s : Sg.St) (T : Nat → Prop) (o : Int) (w : World) (h : SegAt w X D s T) (ho : Sg.Ok s) (hmono : ∀ a b, a ≤ b → b < s.edges.length → (Sg.ed s.edges a).off ≤ (Sg.ed s.edges b).off) :
    Calls Tryz.prog 63 #[.pointer (some ⟨X, 0, none⟩), .int .i64 o] w fun e w' => e = .returned (.int .i64 ((Sg.cnt s.edges (fun e => decide (o < e.off)) : Int) - 1)) ∧ Below w.heap.size w w' := by
  have hb1 : Below w.heap.size w (w.alloc (.cells #[.int .i64 o] 2)) := balloc (Below.refl _ _) _
  have cB : (w.alloc (.cells #[.int .i64 o] 2)).cell? ⟨w.heap.size, 0, none⟩ = some (.int .i64 o) := cell_new_sl _ _ _
  have HU := hide (until_any X D 100 #[.pointer (some ⟨w.heap.size, 0, none⟩)] (fun e => decide (o < e.off)) s T _ (h.below hb1) ho (enters_of Tryz.func100 (by kernel_rfl) rfl)
    (fun W hw e _ => (before1_any w.heap.size o e.off e.pos e.ep e.time W ((hw.cell (p := ⟨w.heap.size, 0, none⟩) (by simp)).trans cB)).mono fun r w' ⟨h1, h2⟩ => ⟨h1, 0, #[.cells #[.int .i64 e.off, .int .i64 e.pos, .int .i64 e.ep, .int .i64 e.time] 106], by rw [h2]; rfl⟩)
    (fun a b hab hb ha => decide_eq_true (by have := of_decide_eq_true ha; have := hmono a b hab hb; omega)))
  have HB1 := hide hb1
  generalize Sg.cnt s.edges (fun e => decide (o < e.off)) = k at *
  clear h ho hmono hb1 cB
  go_enter Tryz.func63, Tryz.ntmps63
  go_wp2_with (first
    | (go_at_call 66; refine HU.out.mono ?_; rintro e w2 ⟨rfl, hb2⟩; have HB2 := hide (HB1.out.trans (hb2.mono HB1.out.size)); clear hb2)
    | fail)
  go_ret
  exact ⟨rfl, HB2.out⟩
end Go.Proofs.YtfdppggdgdnnaaaGreatDoor
