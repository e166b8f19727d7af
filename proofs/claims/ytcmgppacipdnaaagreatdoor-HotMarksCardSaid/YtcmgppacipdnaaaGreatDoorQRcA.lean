/-
  Batches that the call itself lays in a row of its own; the walk through rec's All.
  The statements' own equality of lists of batches, where they are the same.
  The walk through rec's All.
  Package seg: lie, batches.
  Package seg: batches.
  Package index: When.
  A session with an index; Long.
  first() of the index's statements.
  sort.Search laid; Find.
  Package index: what Cut stands on.
  Package seg: until, before.
  What seg's Read stands on: records cut off ahead, the first batch of a row turned.
  A row of batches put behind another one; Read's closure.
  Package seg: Read, where the file has its batches.
  Package seg: Cut.
  What is read of bytes is what is written as just these bytes: plainly. Nothing of any program is named here.
-/
import Derived.Test.YtcmgppacipdnaaaGreatDoorQRcQ
import Derived.Test.YtcmgppacipdnaaaGreatDoorQNsC
import Derived.Test.YtcmgppacipdnaaaGreatDoorQIxP
import Derived.Test.YtcmgppacipdnaaaGreatDoorQTable
import Derived.Shelf.SlSorted.Search
import Derived.Deep.RegionWith
import Derived.Test.YtcmgppacipdnaaaGreatDoorQVi
namespace Go.Proofs.YtcmgppacipdnaaaGreatDoor
open Go.RowKit Crc

theorem batch_info : (Tryz.prog.info? 36).map (fun i => (i.zero, i.size, i.bytes)) = some (some (.agg #[.int .i64 0, .int .i64 0, .slice none 0 0]), 3, 40) := by kernel_rfl

/-- A batch, and where its records lie. -/
structure PBat where
  b : Rc.Bat
  A : Option Addr
  c : Nat
def PBat.cells (q : PBat) : List Value := [.int .i64 q.b.base, .int .i64 q.b.epoch, .slice q.A q.b.recs.length q.c]
theorem PBat.cells_len (q : PBat) : q.cells.length = 3 := rfl
theorem PBat.cells_one (q : PBat) : ∀ u ∈ q.cells, u.oneCell' = true := by
  intro u hu
  simp [PBat.cells] at hu
  rcases hu with rfl | rfl | rfl <;> rfl
theorem bcells_len (qs : List PBat) : (qs.flatMap PBat.cells).length = qs.length * 3 := by
  induction qs with
  | nil => rfl
  | cons q qs ih => simp [ih, PBat.cells_len]; omega
/-- A slice that reads as these batches. -/
structure BatAt (w : World) (b off : Nat) (x : Rc.Bat) : Prop where
  ex : ∃ A c, w.cell? ⟨b, off, none⟩ = some (.int .i64 x.base) ∧ w.cell? ⟨b, off + 1, none⟩ = some (.int .i64 x.epoch) ∧ w.cell? ⟨b, off + 2, none⟩ = some (.slice A x.recs.length c) ∧ IsBat w A c x
def Bats (w : World) (A : Option Addr) (xs : List Rc.Bat) : Prop :=
  xs = [] ∨ ∃ b off, A = some ⟨b, off, none⟩ ∧ b < w.heap.size ∧ ∀ k (h : k < xs.length), BatAt w b (off + k * 3) xs[k]
theorem Bats.below {w w' : World} {C : Nat} {A : Option Addr} {xs : List Rc.Bat} (h : Bats w A xs) (hb : Below C w w') (hC : w.heap.size ≤ C) : Bats w' A xs := by
  rcases h with h | ⟨b, off, e, hl, hc⟩
  · exact .inl h
  · refine .inr ⟨b, off, e, Nat.lt_of_lt_of_le hl hb.size, fun k hk => ?_⟩
    obtain ⟨A', c, h0, h1, h2, h3⟩ := (hc k hk).ex
    exact ⟨A', c, (hb.cell (p := ⟨b, off + k * 3, none⟩) (by show b < C; omega)).trans h0, (hb.cell (p := ⟨b, off + k * 3 + 1, none⟩) (by show b < C; omega)).trans h1, (hb.cell (p := ⟨b, off + k * 3 + 2, none⟩) (by show b < C; omega)).trans h2, h3.below hb hC⟩
theorem Bats.first {w : World} {A : Option Addr} {xs : List Rc.Bat} (h : Bats w A xs) (k : Nat) : Bats w A (xs.take k) := by
  rcases h with rfl | ⟨b, off, e, hl, hc⟩
  · exact .inl (by simp)
  · refine .inr ⟨b, off, e, hl, fun j hj => ?_⟩
    have hj' : j < xs.length := by rw [List.length_take] at hj; omega
    have := hc j hj'
    rwa [show (xs.take k)[j] = xs[j] from by simp]

/-- The row of batches; each lies in memory that was new when it was laid. -/
structure BRow (w : World) (lo : Nat) (v : Value) (qs : List PBat) : Prop where
  own : w.ownsRow lo 36 3 v qs.length (qs.flatMap PBat.cells)
  el : ∀ q ∈ qs, ∃ l0 wk, lo ≤ l0 ∧ NewBat l0 wk q.A q.c q.b ∧ Above l0 wk w ∧ ∀ k, v.ownBlock = some k → k < l0 ∨ wk.heap.size ≤ k
theorem BRow.nil (w : World) (lo : Nat) : BRow w lo (.slice none 0 0) [] := ⟨World.ownsRow_nil w lo _ 3, fun q hq => by simp at hq⟩
theorem BRow.below {w w' : World} {lo : Nat} {v : Value} {qs : List PBat} (h : BRow w lo v qs) (hb : Below w.heap.size w w') : BRow w' lo v qs :=
  ⟨h.own.kept (grown_of_below hb none) (by cases v.ownBlock <;> simp), fun q hq => by
    obtain ⟨l0, wk, h0, h1, h2, h3⟩ := h.el q hq
    exact ⟨l0, wk, h0, h1, h2.trans (Above.of_below hb), h3⟩⟩
/-- One more, which was laid (at world wk, from l0 on) since the row was last turned. -/
theorem BRow.app {w w1 w' : World} {lo l0 : Nat} {wk : World} {v v' : Value} {qs : List PBat} {q : PBat} (h : BRow w lo v qs) (hlo : lo ≤ l0) (hq : NewBat l0 wk q.A q.c q.b) (hqa : Above l0 wk w) (hql : ∀ k, v.ownBlock = some k → k < l0) (hw1 : Below w.heap.size w w1)
    (hg : w1.grownBy w' v.ownBlock) (hv : v'.ownBlock = v.ownBlock ∨ v'.ownBlock = some w1.heap.size) (ho : w'.ownsRow lo 36 3 v' (qs.length + 1) (qs.flatMap PBat.cells ++ q.cells)) : BRow w' lo v' (qs ++ [q]) := by
  have key : ∀ (x : PBat), (∃ l0 wk, lo ≤ l0 ∧ NewBat l0 wk x.A x.c x.b ∧ Above l0 wk w ∧ ∀ k, v.ownBlock = some k → k < l0 ∨ wk.heap.size ≤ k) → ∃ l0 wk, lo ≤ l0 ∧ NewBat l0 wk x.A x.c x.b ∧ Above l0 wk w' ∧ ∀ k, v'.ownBlock = some k → k < l0 ∨ wk.heap.size ≤ k := by
    rintro x ⟨m0, mk, h0, h1, h2, h3⟩
    refine ⟨m0, mk, h0, h1, ⟨Nat.le_trans h2.size (Nat.le_trans hw1.size hg.size), fun k hk hl => ?_⟩, fun k hk => ?_⟩
    · have hne : some k ≠ v.ownBlock := fun e => by
        rcases h3 k e.symm with h | h <;> omega
      have hkw : k < w.heap.size := Nat.lt_of_lt_of_le hl h2.size
      exact (hg.block k (Nat.lt_of_lt_of_le hkw hw1.size) hne).trans ((hw1.block k hkw).trans (h2.block k hk hl))
    · rcases hv with e | e
      · exact h3 k (e.symm.trans hk)
      · rw [e] at hk
        injection hk with hk
        have := h2.size
        have := hw1.size
        exact .inr (by omega)
  refine ⟨?_, fun x hx => ?_⟩
  · rw [List.length_append, List.flatMap_append]
    simpa using ho
  · rcases List.mem_append.1 hx with hx | hx
    · exact key x (h.el x hx)
    · obtain rfl := List.mem_singleton.1 hx
      exact key x ⟨l0, wk, hlo, hq, hqa, fun k hk => .inl (hql k hk)⟩
theorem BRow.val {w : World} {lo : Nat} {v : Value} {qs : List PBat} (h : BRow w lo v qs) : ∃ A c, v = .slice A qs.length c ∧ qs.length ≤ c ∧ c ≤ 9223372036854775807 ∧ Bats w A (qs.map (·.b)) := by
  rcases h.own.2 with ⟨rfl, h0⟩ | ⟨g, cap, cur, rfl, hg, hh, hn, hm, hs, ht⟩
  · have : qs = [] := List.eq_nil_of_length_eq_zero h0
    subst this
    exact ⟨none, 0, rfl, Nat.le_refl _, by omega, .inl rfl⟩
  · refine ⟨_, _, rfl, hn, by simpa [maxLen] using hm, .inr ⟨g, 0, rfl, ?_, fun k hk => ?_⟩⟩
    · rcases Nat.lt_or_ge g w.heap.size with h | h
      · exact h
      · rw [Array.getElem?_eq_none h] at hh; cases hh
    · have hk' : k < qs.length := by simpa using hk
      obtain ⟨l0, wk, _, h1, h2, _⟩ := h.el _ (List.getElem_mem hk')
      have hcells : ∀ j u, j < 3 → (qs[k].cells)[j]? = some u → w.cell? ⟨g, 0 + k * 3 + j, none⟩ = some u := by
        intro j u hj hu
        have h1 : (qs.flatMap PBat.cells)[k * 3 + j]? = some u := by
          have e1 : qs.flatMap PBat.cells = (qs.take k).flatMap PBat.cells ++ (qs[k].cells ++ (qs.drop (k + 1)).flatMap PBat.cells) := by
            conv => lhs; rw [← List.take_append_drop k qs, List.drop_eq_getElem_cons hk']
            rw [List.flatMap_append, List.flatMap_cons]
          have e2 : ((qs.take k).flatMap PBat.cells).length = k * 3 := by rw [bcells_len, List.length_take]; congr 1; omega
          rw [e1, List.getElem?_append_right (by rw [e2]; omega), e2, Nat.add_sub_cancel_left, List.getElem?_append_left (by rw [PBat.cells_len]; exact hj)]
          exact hu
        have h2 := h.own.cells (g := g) rfl _ _ h1
        rw [show (⟨g, 0, none⟩ : Addr).add (k * 3 + j) = ⟨g, 0 + k * 3 + j, none⟩ from by rw [Addr.add_lit]; congr 1; omega] at h2
        exact h2
      rw [show (qs.map (·.b))[k] = qs[k].b from by simp]
      exact ⟨_, _, hcells 0 _ (by omega) rfl, hcells 1 _ (by omega) rfl, hcells 2 _ (by omega) rfl, h1 w h2⟩

namespace Rc
/-- All batches from a place on: those read, where it ends, the error's number. -/
def allGo (l : List UInt8) : Nat → Nat → List Bat → List Bat × Nat × Nat
  | 0, at_, acc => (acc, at_, 0)
  | f + 1, at_, acc =>
    if at_ < l.length then
      if rcode (l.drop at_) = 0 then allGo l f (at_ + rsize (l.drop at_)) (acc ++ [parse (rbody (l.drop at_))]) else (acc, at_, rcode (l.drop at_))
    else (acc, at_, 0)
theorem rsize_le (l : List UInt8) (h : rcode l = 0) : 8 ≤ rsize l ∧ rsize l ≤ l.length := by
  unfold rsize
  rw [if_pos h]
  unfold rcode at h
  split at h
  · omega
  · split at h
    · omega
    · split at h
      · omega
      · omega
theorem allGo_fuel (l : List UInt8) : ∀ (f f' at_ : Nat) (acc : List Bat), l.length - at_ ≤ f → l.length - at_ ≤ f' → allGo l f at_ acc = allGo l f' at_ acc
  | 0, 0, _, _, _, _ => rfl
  | 0, f' + 1, at_, acc, h, _ => by rw [allGo, allGo, if_neg (by omega)]
  | f + 1, 0, at_, acc, _, h => by rw [allGo, allGo, if_neg (by omega)]
  | f + 1, f' + 1, at_, acc, h1, h2 => by
    rw [allGo, allGo]
    by_cases h : at_ < l.length
    · rw [if_pos h, if_pos h]
      by_cases hc : rcode (l.drop at_) = 0
      · rw [if_pos hc, if_pos hc]
        have := rsize_le _ hc
        exact allGo_fuel l f f' _ _ (by omega) (by omega)
      · rw [if_neg hc, if_neg hc]
    · rw [if_neg h, if_neg h]
def all (l : List UInt8) : List Bat × Nat × Nat := allGo l l.length 0 []
end Rc
end Go.Proofs.YtcmgppacipdnaaaGreatDoor

namespace Go.Proofs.YtcmgppacipdnaaaGreatDoor
open Go.RowKit

end Go.Proofs.YtcmgppacipdnaaaGreatDoor

namespace Go.Proofs.YtcmgppacipdnaaaGreatDoor
open Go.RowKit Crc

end Go.Proofs.YtcmgppacipdnaaaGreatDoor

namespace Go.Proofs.YtcmgppacipdnaaaGreatDoor
open Go.RowKit Go.Maps Go.Sort

/-- The batches are those from edge i to edge j. -/
structure Lies (s : Sg.St) (xs : List Rc.Bat) (i j : Nat) : Prop where
  len : j = i + xs.length
  lt : j < s.edges.length
  at_ : ∀ k (h : k < xs.length), xs[k].base = (Sg.ed s.edges (i + k)).off ∧ xs[k].base + xs[k].recs.length = (Sg.ed s.edges (i + k + 1)).off

end Go.Proofs.YtcmgppacipdnaaaGreatDoor

namespace Go.Proofs.YtcmgppacipdnaaaGreatDoor
open Go.RowKit Go.Maps Go.Sort

theorem BRow.mono {w : World} {lo lo' : Nat} {v : Value} {qs : List PBat} (h : BRow w lo v qs) (hl : lo' ≤ lo) : BRow w lo' v qs := by
  refine ⟨⟨h.own.1, ?_⟩, fun q hq => ?_⟩
  · rcases h.own.2 with h2 | ⟨g, cap, cur, e1, hg, r⟩
    · exact .inl h2
    · exact .inr ⟨g, cap, cur, e1, by omega, r⟩
  · obtain ⟨l0, wk, h0, r⟩ := h.el q hq
    exact ⟨l0, wk, by omega, r⟩

end Go.Proofs.YtcmgppacipdnaaaGreatDoor

namespace Go.Proofs.YtcmgppacipdnaaaGreatDoor
open Go.RowKit

namespace Ix
/-- The first mark whose time is not below t. -/
def St.when (s : St) (t : Int) : Int × Bool := match s.marks.find? (fun m => decide (t ≤ m.time)) with | some m => (m.off, true) | none => (0, false)
end Ix

end Go.Proofs.YtcmgppacipdnaaaGreatDoor

namespace Go.Proofs.YtcmgppacipdnaaaGreatDoor
open Go.RowKit

/-- ErrRange as the program lays it. -/
abbrev Sent4 (w : World) (p : Nat → Addr) : Prop := SentsOn (fun j => j = 4) w p
/-- An index at X since w0. -/
structure IxS (w0 : World) (X : Nat) (s : Ix.St) (w : World) : Prop where
  ix : IxAt w X s (fun k => w0.heap.size ≤ k ∧ k < w.heap.size)
  bel : Below w0.heap.size w0 w
  ok : Ix.Ok s
theorem IxS.drew {w0 : World} {X : Nat} {s : Ix.St} {w : World} (h : IxS w0 X s w) (q : Nat) : IxS w0 X s (w.drewN q) := ⟨h.ix.same fun _ _ _ => rfl, below_drewN h.bel q, h.ok⟩
theorem IxS.below {w0 : World} {X : Nat} {s : Ix.St} {w w' : World} (h : IxS w0 X s w) (hb : Below w.heap.size w w') : IxS w0 X s w' :=
  ⟨(h.ix.same fun k _ hk => hb.block k hk).mono fun _k hk => ⟨hk.1, Nat.lt_of_lt_of_le hk.2 hb.size⟩, h.bel.trans (hb.mono h.bel.size), h.ok⟩
theorem Ix.Ok.add {s : Ix.St} (h : Ix.Ok s) (o t p z : Int) : Ix.Ok (Ix.add s o t p z).2 := by
  unfold Ix.add
  split
  · rename_i hg; exact h.put o t p hg.1 hg.2.1 hg.2.2.2.1
  · exact h
theorem IxS.add {w0 : World} {X : Nat} {s : Ix.St} {w : World} (h : IxS w0 X s w) (p : Nat → Addr) (hs : Sent4 w0 p) (o t q z : Int) (hn : s.adds.length ≤ 1000000) (hm : s.marks.length ≤ 1000000) :
    Calls Tryz.prog 132 #[.pointer (some ⟨X, 0, none⟩), .int .i64 o, .int .i64 t, .int .i64 q, .int .i64 z] w fun r w' => r = .returned (errR p (Ix.add s o t q z).1) ∧ IxS w0 X (Ix.add s o t q z).2 w' := by
  refine (ixAdd_any X s _ p o t q z w h.ix h.ok hn hm ((hs.below h.bel).cell 4 rfl)).mono ?_
  rintro r w' ⟨rfl, hi, hc⟩
  have hz := h.bel.size
  have hcs := hc.size
  refine ⟨rfl, hi.mono fun k hk => ?_, h.bel.trans (hc.below hz fun k hk => hk.1), h.ok.add o t q z⟩
  rcases hk with hk | hk
  · exact ⟨hk.1, by omega⟩
  · exact ⟨by omega, hk.2⟩

end Go.Proofs.YtcmgppacipdnaaaGreatDoor

namespace Go.Proofs.YtcmgppacipdnaaaGreatDoor
open Go.RowKit

end Go.Proofs.YtcmgppacipdnaaaGreatDoor

namespace Go.Proofs.YtcmgppacipdnaaaGreatDoor
open Go.RowKit Go.Shelf Go.Sort

namespace Ix
def St.cnt (s : St) (o : Int) : Nat := (List.range s.marks.length).countP (fun i => !decide (o < (s.marks.getD i ⟨0, 0, 0⟩).off))
/-- The pos of the last mark that is not above o; 0 if there is none. -/
def St.find (s : St) (o : Int) : Int := if s.cnt o = 0 then 0 else (s.marks.getD (s.cnt o - 1) ⟨0, 0, 0⟩).pos
theorem St.cnt_le (s : St) (o : Int) : s.cnt o ≤ s.marks.length := by
  have := List.countP_le_length (p := fun i => !decide (o < (s.marks.getD i ⟨0, 0, 0⟩).off)) (l := List.range s.marks.length)
  simpa [St.cnt] using this
end Ix

end Go.Proofs.YtcmgppacipdnaaaGreatDoor

namespace Go.Proofs.YtcmgppacipdnaaaGreatDoor
open Go.RowKit Go.Shelf Go.Sort

namespace Ix
def St.cntM (s : St) (p : Int) : Nat := (List.range s.marks.length).countP (fun i => !decide (p ≤ (s.marks.getD i ⟨0, 0, 0⟩).pos))
def St.cntA (s : St) (p : Int) : Nat := (List.range s.adds.length).countP (fun i => !decide (p ≤ (s.adds.getD i ⟨0, 0⟩).pos))
def lastTime (l : List Mark) : Int := match l.getLast? with | some m => m.time | none => -1099511627776
/-- What lies at p, and behind, is away. -/
def St.cut (s : St) (p : Int) : St := ⟨s.every, s.marks.take (s.cntM p), s.adds.take (s.cntA p), lastTime (s.marks.take (s.cntM p))⟩
end Ix

end Go.Proofs.YtcmgppacipdnaaaGreatDoor

namespace Go.Proofs.YtcmgppacipdnaaaGreatDoor
open Go.RowKit Go.Shelf Go.Sort

namespace Sg
/-- How many edges the test lets pass. -/
def cnt (l : List Edge) (P : Edge → Bool) : Nat := (List.range l.length).countP (fun i => !P (ed l i))
theorem cnt_le (l : List Edge) (P : Edge → Bool) : cnt l P ≤ l.length := by
  have := List.countP_le_length (p := fun i => !P (ed l i)) (l := List.range l.length)
  simpa [cnt] using this
end Sg

end Go.Proofs.YtcmgppacipdnaaaGreatDoor

namespace Go.Proofs.YtcmgppacipdnaaaGreatDoor
open Go.RowKit Go.Maps Go.Sort

def cutR (A : Option Addr) (cap q : Nat) : Option Addr := if cap = q then A else A.map (·.add (q * 3))
theorem Recs.cut {w : World} {A : Option Addr} {rs : List Rc.Rec} (h : Recs w A rs) (cap q : Nat) (hq : q < rs.length) (hl : rs.length ≤ cap) : Recs w (cutR A cap q) (rs.drop q) := by
  rcases h with h | ⟨b, off, e, hlt, hc⟩
  · rw [h] at hq; simp at hq
  · refine .inr ⟨b, off + q * 3, ?_, hlt, fun k hk => ?_⟩
    · unfold cutR
      rw [if_neg (by omega), e]
      simp [Addr.add_lit]
    · rw [List.length_drop] at hk
      have := hc (q + k) (by omega)
      rw [show off + q * 3 + k * 3 = off + (q + k) * 3 by omega]
      rw [show (rs.drop q).getD k default = rs.getD (q + k) default from by simp [List.getD]]
      exact this
/-- A batch without its first q records, from offset o on. -/
def cutB (b : Rc.Bat) (o : Int) (q : Nat) : Rc.Bat := ⟨o, b.epoch, b.recs.drop q⟩
theorem NewBat.cut {lo : Nat} {w : World} {A : Option Addr} {c : Nat} {b : Rc.Bat} (h : NewBat lo w A c b) (o : Int) (q : Nat) (hq : q < b.recs.length) (ho : -9223372036854775808 ≤ o ∧ o ≤ 9223372036854775807) : NewBat lo w (cutR A c q) (c - q) (cutB b o q) := fun W hW => by
  have g := h W hW
  have h1 := g.le
  have h2 := g.max
  refine ⟨by simp only [cutB, List.length_drop]; omega, by omega, g.recs.cut c q hq h1, ho, g.epoch⟩
theorem Above.setC {lo : Nat} {w W : World} (h : Above lo w W) (g i : Nat) (v : Value) (hg : g < lo ∨ w.heap.size ≤ g) : Above lo w (W.setCell ⟨g, i, none⟩ v) :=
  ⟨by simpa using h.size, fun k h1 h2 => (Below.heap_setCell _ _ _ _ (by intro e; subst e; rcases hg with hg | hg <;> omega)).trans (h.block k h1 h2)⟩
/-- The first batch of a row is turned: its records, its base. -/
theorem BRow.turn {w : World} {lo : Nat} {v : Value} {q : PBat} {qs : List PBat} (h : BRow w lo v (q :: qs)) (o : Int) (k : Nat) (hk : k < q.b.recs.length) (ho : -9223372036854775808 ≤ o ∧ o ≤ 9223372036854775807) :
    ∃ g cap, v = .slice (some ⟨g, 0, none⟩) (qs.length + 1) cap ∧ lo ≤ g ∧ g < w.heap.size ∧ w.cell? ⟨g, 0, none⟩ = some (.int .i64 q.b.base) ∧ w.cell? ⟨g, 1, none⟩ = some (.int .i64 q.b.epoch) ∧ w.cell? ⟨g, 2, none⟩ = some (.slice q.A q.b.recs.length q.c) ∧ w.frozen? ⟨g, 0, none⟩ = false ∧ w.frozen? ⟨g, 2, none⟩ = false ∧ qs.length + 1 ≤ cap ∧
      BRow ((w.setCell ⟨g, 2, none⟩ (.slice (cutR q.A q.c k) (q.b.recs.length - k) (q.c - k))).setCell ⟨g, 0, none⟩ (.int .i64 o)) lo v (⟨cutB q.b o k, cutR q.A q.c k, q.c - k⟩ :: qs) := by
  rcases h.own.2 with ⟨_, h0⟩ | ⟨g, cap, cur, e, hg, hh, hn, hm, hs, ht⟩
  · simp at h0
  · have hc := h.own.cells (g := g) (by rw [e]; rfl)
    have c0 := hc 0 (.int .i64 q.b.base) (by simp [PBat.cells])
    have c1 := hc 1 (.int .i64 q.b.epoch) (by simp [PBat.cells])
    have c2 := hc 2 (.slice q.A q.b.recs.length q.c) (by simp [PBat.cells])
    rw [Addr.add_lit, Nat.zero_add] at c0 c1 c2
    have hgl : g < w.heap.size := (Array.getElem?_eq_some_iff.1 hh).1
    refine ⟨g, cap, e, hg, hgl, c0, c1, c2, box_free hh 0, box_free hh 2, by simpa using hn, ⟨?_, .inr ⟨g, cap, ?_, e, hg, ?_, hn, hm, ?_, ?_⟩⟩, fun x hx => ?_⟩
    · exact bcells_len _
    · exact (cur.setIfInBounds 2 (.slice (cutR q.A q.c k) (q.b.recs.length - k) (q.c - k))).setIfInBounds 0 (.int .i64 o)
    · exact heap_setCell_same _ g 0 _ _ _ (heap_setCell_same w g 2 _ _ _ hh)
    · simpa using hs
    · have h1 := List.take_append_drop ((q :: qs).length * 3) cur.toList
      obtain ⟨tl, htl⟩ : ∃ tl, cur.toList.drop ((q :: qs).length * 3) = tl := ⟨_, rfl⟩
      rw [ht, htl] at h1
      have e1 : cur.toList = .int .i64 q.b.base :: .int .i64 q.b.epoch :: .slice q.A q.b.recs.length q.c :: (qs.flatMap PBat.cells ++ tl) := by
        rw [← h1]
        simp [PBat.cells]
      rw [Array.toList_setIfInBounds, Array.toList_setIfInBounds, e1]
      simp only [List.set_cons_succ, List.set_cons_zero, List.flatMap_cons, PBat.cells, cutB, List.length_cons, List.length_drop, List.cons_append, List.nil_append]
      rw [show (qs.length + 1) * 3 = (qs.flatMap PBat.cells).length + 1 + 1 + 1 by rw [bcells_len]; omega]
      simp
    · have key : ∀ x ∈ q :: qs, ∃ l0 wk, lo ≤ l0 ∧ NewBat l0 wk x.A x.c x.b ∧ Above l0 wk ((w.setCell ⟨g, 2, none⟩ (.slice (cutR q.A q.c k) (q.b.recs.length - k) (q.c - k))).setCell ⟨g, 0, none⟩ (.int .i64 o)) ∧ ∀ k, v.ownBlock = some k → k < l0 ∨ wk.heap.size ≤ k := fun x hx => by
        obtain ⟨l0, wk, h0, h1, h2, h3⟩ := h.el x hx
        have hgo := h3 g (by rw [e]; rfl)
        exact ⟨l0, wk, h0, h1, (h2.setC g 2 _ hgo).setC g 0 _ hgo, h3⟩
      rcases List.mem_cons.1 hx with rfl | hx
      · obtain ⟨l0, wk, h0, h1, h2, h3⟩ := key q List.mem_cons_self
        exact ⟨l0, wk, h0, h1.cut o k hk ho, h2, h3⟩
      · exact key x (List.mem_cons_of_mem _ hx)
end Go.Proofs.YtcmgppacipdnaaaGreatDoor

namespace Go.Proofs.YtcmgppacipdnaaaGreatDoor
open Go.RowKit Go.Maps Go.Sort Go.Shelf

section
variable {w : World} {ops : Array Oper} {rest : List Oper} {o : Oper} {a : Act} {Q : Exit → Act → World → Prop}
end

end Go.Proofs.YtcmgppacipdnaaaGreatDoor

namespace Go.Proofs.YtcmgppacipdnaaaGreatDoor
open Go.RowKit Go.Maps Go.Sort Go.Shelf

/-- What a read that is answered goes by: the batch that has the offset, how many of its records are ahead of it, how far it goes, and what follows. -/
structure ReadH (d : Dk.St) (s : Sg.St) (o most : Int) (at_ q f fin : Nat) (b0 : Rc.Bat) (ys : List Rc.Bat) : Prop where
  lo : (Sg.ed s.edges 0).off ≤ o
  hi : o < (Sg.last s.edges).off
  offs : ∀ a b, a ≤ b → b < s.edges.length → (Sg.ed s.edges a).off ≤ (Sg.ed s.edges b).off
  poss : ∀ a b, a ≤ b → b < s.edges.length → (Sg.ed s.edges a).pos ≤ (Sg.ed s.edges b).pos
  cnt : Sg.cnt s.edges (fun e => decide (o < e.off)) = at_ + 1
  raw1 : ∃ l, sgRaw d s at_ (at_ + 1) = (none, l) ∧ Rc.all l = ([b0], l.length, 0) ∧ l.length ≤ 1000000
  lies1 : Lies s [b0] at_ (at_ + 1)
  qeq : o = b0.base + q
  qlt : q < b0.recs.length
  good : Rc.bad (cutB b0 o q) = 0
  size : (Rc.bytes (cutB b0 o q)).length ≤ 1000000
  cnt2 : Sg.cnt s.edges (fun e => decide (most < e.pos - ((Sg.ed s.edges (at_ + 1)).pos - (Rc.bytes (cutB b0 o q)).length))) = f
  feq : (fin : Int) = max ((at_ : Int) + 1) ((f : Int) - 1)
  raw2 : ∃ l, sgRaw d s (at_ + 1) fin = (none, l) ∧ Rc.all l = (ys, l.length, 0) ∧ l.length ≤ 1000000
  lies2 : Lies s ys (at_ + 1) fin

end Go.Proofs.YtcmgppacipdnaaaGreatDoor

namespace Go.Proofs.YtcmgppacipdnaaaGreatDoor
open Go.RowKit Go.Shelf Go.Sort

theorem Sg.Ok.cut {s : Sg.St} (h : Sg.Ok s) (k : Nat) (hk : 1 ≤ k) : Sg.Ok { s with edges := s.edges.take k } :=
  have hm : ∀ e ∈ s.edges.take k, e ∈ s.edges := fun _ he => List.mem_of_mem_take he
  ⟨fun e => by
    have h1 := List.length_pos_iff.2 h.ne
    have h2 := congrArg List.length e
    simp only [List.length_take, List.length_nil] at h2
    omega, by have := h.len; simp only [List.length_take]; omega, fun e he => h.off e (hm e he), fun e he => h.pos e (hm e he), fun e he => h.ep e (hm e he), fun e he => h.time e (hm e he), h.every⟩
theorem edge_elem : Tryz.prog.underlying 139 = some (.slice (Tryz.prog.elem 139)) := by kernel_rfl
theorem edge_sizeOf (W : World) : (sizeOf (Tryz.prog.elem 139)).run Tryz.prog W = .ok 4 W := by
  have h : Tryz.prog.elem 139 = 138 := by kernel_rfl
  obtain ⟨i, hi, hz, hs1, hby⟩ := info_parts edge_info
  rw [h]; simp [sizeOf, typeInfo, hi, hs1]
end Go.Proofs.YtcmgppacipdnaaaGreatDoor

namespace Go.Proofs.YtcmgppacipdnaaaGreatDoor

namespace Vi
end Vi

namespace Rc
/-! The reference's way: greater steps. -/
def rstep (l : List UInt8) (s : Vi.Rs) (t : Int) : Rec × Vi.Rs := step1 l s t 1125899906842624
def rloop (l : List UInt8) (many : Nat) : Nat → Vi.Rs → Int → List Rec → List Rec × Vi.Rs
  | 0, s, _, acc => (acc, s)
  | f + 1, s, t, acc =>
    if acc.length < many ∧ acc.length ≤ 64 ∧ s.code = 0 then rloop l many f (rstep l s t).2 (rstep l s t).1.t (acc ++ [(rstep l s t).1]) else (acc, s)
end Rc
end Go.Proofs.YtcmgppacipdnaaaGreatDoor
