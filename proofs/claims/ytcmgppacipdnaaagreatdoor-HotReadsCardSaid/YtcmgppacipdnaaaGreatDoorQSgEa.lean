/-
  What a segment comes to behind the first j batches.
  Package seg: Index.
  What a read of batches is to tell: the statements' own want.
  What a Read of a segment gives is what the statements' own want says, plainly.
  Plain facts: what a turned bit, a turned byte and a burst do to a sum. Nothing of any program is named here.
  An index as bytes, plainly: laid, and read back.
  An index's bytes are read as it, and what is read is of just those bytes: plainly.
  What holds of every index: its numbers, its marks rise.
  The walk through package crc's Seal.
  Package index: Bytes.
  SegReads, plainly: the edges' times, the index that is built beside the segment.
  A log's segments against its batches, plainly: which batches lie in a segment, their greatest time, the epochs in order.
-/
import Derived.Test.YtcmgppacipdnaaaGreatDoorQSgN
import Derived.Test.YtcmgppacipdnaaaGreatDoorQHtW
import Derived.Test.YtcmgppacipdnaaaGreatDoorQIxP
import Derived.Test.YtcmgppacipdnaaaGreatDoorQRfV
import Derived.Test.YtcmgppacipdnaaaGreatDoorQHtS
import Derived.Test.YtcmgppacipdnaaaGreatDoorQRMake
import Derived.Test.YtcmgppacipdnaaaGreatDoorQTable
import Derived.Test.YtcmgppacipdnaaaGreatDoorQVRdr
import Derived.Outline
import Derived.Test.YtcmgppacipdnaaaGreatDoorQVFixed
import Derived.Deep.LoopGhost
import Derived.Test.YtcmgppacipdnaaaGreatDoorQEp
namespace Go.Proofs.YtcmgppacipdnaaaGreatDoor
open Go.RowKit Go.Maps Go.Sort

namespace Sg
end Sg
end Go.Proofs.YtcmgppacipdnaaaGreatDoor

namespace Go.Proofs.YtcmgppacipdnaaaGreatDoor
open Go.RowKit Go.Shelf Go.Sort

theorem Sg.Ok.edge {s : Sg.St} (h : Sg.Ok s) (j : Nat) (hj : j < s.edges.length) : (0 ≤ (Sg.ed s.edges j).off ∧ (Sg.ed s.edges j).off ≤ 1099511627776) ∧ -1099511627776 ≤ (Sg.ed s.edges j).time ∧ (Sg.ed s.edges j).time ≤ 1099511627776 :=
  ⟨h.off _ (Sg.ed_mem hj), h.time _ (Sg.ed_mem hj)⟩
end Go.Proofs.YtcmgppacipdnaaaGreatDoor

namespace Go.Proofs.YtcmgppacipdnaaaGreatDoor
open Go.RowKit Go.Maps

/-- The cells of a row that is not empty. -/
theorem BRow.at_ {w : World} {lo : Nat} {A : Option Addr} {n c : Nat} {qs : List PBat} (h : BRow w lo (.slice A n c) qs) (hne : 0 < qs.length) :
    ∃ g, A = some ⟨g, 0, none⟩ ∧ n = qs.length ∧ g < w.heap.size ∧ ∀ k (hk : k < qs.length), w.cell? ⟨g, k * 3, none⟩ = some (.int .i64 qs[k].b.base) ∧ w.cell? ⟨g, k * 3 + 1, none⟩ = some (.int .i64 qs[k].b.epoch) ∧ w.cell? ⟨g, k * 3 + 2, none⟩ = some (.slice qs[k].A qs[k].b.recs.length qs[k].c) := by
  rcases h.own.2 with ⟨e, h0⟩ | ⟨g, cap, cur, e, hg, hh, hn, hm, hs, ht⟩
  · omega
  · injection e with e1 e2 e3
    refine ⟨g, e1, e2, ?_, fun k hk => ?_⟩
    · rcases Nat.lt_or_ge g w.heap.size with h | h
      · exact h
      · rw [Array.getElem?_eq_none h] at hh; cases hh
    · have hcells : ∀ j u, j < 3 → (qs[k].cells)[j]? = some u → w.cell? ⟨g, k * 3 + j, none⟩ = some u := by
        intro j u hj hu
        have h1 : (qs.flatMap PBat.cells)[k * 3 + j]? = some u := by
          have e1 : qs.flatMap PBat.cells = (qs.take k).flatMap PBat.cells ++ (qs[k].cells ++ (qs.drop (k + 1)).flatMap PBat.cells) := by
            conv => lhs; rw [← List.take_append_drop k qs, List.drop_eq_getElem_cons hk]
            rw [List.flatMap_append, List.flatMap_cons]
          have e2 : ((qs.take k).flatMap PBat.cells).length = k * 3 := by rw [bcells_len, List.length_take]; congr 1; omega
          rw [e1, List.getElem?_append_right (by rw [e2]; omega), e2, Nat.add_sub_cancel_left, List.getElem?_append_left (by rw [PBat.cells_len]; exact hj)]
          exact hu
        have h2 := h.own.cells (g := g) (by rw [e1]; rfl) _ _ h1
        rw [show (⟨g, 0, none⟩ : Addr).add (k * 3 + j) = ⟨g, k * 3 + j, none⟩ from by rw [Addr.add_lit]; congr 1; omega] at h2
        exact h2
      exact ⟨hcells 0 _ (by omega) rfl, hcells 1 _ (by omega) rfl, hcells 2 _ (by omega) rfl⟩

end Go.Proofs.YtcmgppacipdnaaaGreatDoor

namespace Go.Proofs.YtcmgppacipdnaaaGreatDoor
open Go.RowKit

namespace Rw
theorem goB_ok (zs : List Int) : ∀ (at_ : Int) (i ev : Nat), 0 ≤ at_ → at_ + 5 * zs.length ≤ 1099511627776 → i + zs.length ≤ 100 → ∀ b ∈ go at_ i ev zs, Rc.Good b ∧ b.recs.length ≤ 5 ∧ ∀ r ∈ b.recs, r.k.length ≤ 64 ∧ r.v.length ≤ 512 := by
  induction zs with
  | nil => intro at_ i ev _ _ _ b hb; simp [go] at hb
  | cons z zs ih =>
    intro at_ i ev h0 h1 h2 b hb
    have hm := many_bd z
    rw [List.length_cons] at h1 h2
    rcases List.mem_cons.1 hb with rfl | hb
    · have hl : (bt at_ i ev z).recs.length = many z := by simp [bt]
      have hr : ∀ r ∈ (bt at_ i ev z).recs, -1099511627776 ≤ r.t ∧ r.t ≤ 1099511627776 ∧ r.k.length ≤ 64 ∧ r.v.length ≤ 512 := by
        intro r hr
        obtain ⟨k, hk, rfl⟩ := List.mem_map.1 hr
        have hk' := List.mem_range.1 hk
        have := kv_lt z k
        refine ⟨?_, ?_, by simp [rc], by simp [rc]; omega⟩
        · show -1099511627776 ≤ 100 * (i : Int) + (k : Int); omega
        · show 100 * (i : Int) + (k : Int) ≤ 1099511627776; omega
      have hd : i / ev ≤ i := Nat.div_le_self _ _
      refine ⟨⟨by omega, by omega, h0, ?_, ?_, ?_, hr⟩, by omega, fun r h => ⟨(hr r h).2.2.1, (hr r h).2.2.2⟩⟩
      · rw [hl]; show at_ + (many z : Int) ≤ _; omega
      · show (0 : Int) ≤ 1 + ((i / ev : Nat) : Int)
        generalize i / ev = q at *
        omega
      · show 1 + ((i / ev : Nat) : Int) ≤ _
        generalize i / ev = q at *
        omega
    · exact ih (at_ + many z) (i + 1) ev (by omega) (by omega) (by omega) b hb
end Rw

end Go.Proofs.YtcmgppacipdnaaaGreatDoor

namespace Go.Proofs.YtcmgppacipdnaaaGreatDoor.Crc

/-- Four bytes, little, as a word. -/
def word (l : List UInt8) : BitVec 32 := (l.getD 0 0).toBitVec.setWidth 32 ^^^ ((l.getD 1 0).toBitVec.setWidth 32) <<< 8 ^^^ ((l.getD 2 0).toBitVec.setWidth 32) <<< 16 ^^^ ((l.getD 3 0).toBitVec.setWidth 32) <<< 24
def rest : BitVec 32 := sts 32 (~~~0#32)
end Go.Proofs.YtcmgppacipdnaaaGreatDoor.Crc

namespace Go.Proofs.YtcmgppacipdnaaaGreatDoor.Ix
open Go.RowKit Vi

def z0 : Mark := ⟨0, 0, 0⟩
def lastFrom : Mark → List Mark → Mark
  | a, [] => a
  | _, m :: l => lastFrom m l
def stepB (a m : Mark) : List UInt8 := Vi.put (m.off - a.off).toNat ++ (Vi.put (Vi.zz (m.time - a.time)) ++ Vi.put (m.pos - a.pos).toNat)
def marksB : Mark → List Mark → List UInt8
  | _, [] => []
  | a, m :: l => stepB a m ++ marksB m l
def body (s : St) : List UInt8 := Vi.put s.every.toNat ++ (Vi.put s.marks.length ++ marksB z0 s.marks)
def bytes (s : St) : List UInt8 := body s ++ Crc.little (Crc.sum (body s))
theorem bytes_len (s : St) : (bytes s).length = (body s).length + 4 := by simp [bytes, Crc.little]

/-- Offsets and poses rise. -/
def rise (l : List Mark) : Prop := ∀ i, i + 1 < l.length → (l.getD i z0).off < (l.getD (i + 1) z0).off ∧ (l.getD i z0).pos < (l.getD (i + 1) z0).pos
def riseB (l : List Mark) : Bool := (List.range (l.length - 1)).all fun i => decide ((l.getD i z0).off < (l.getD (i + 1) z0).off) && decide ((l.getD i z0).pos < (l.getD (i + 1) z0).pos)
def okM (m : Mark) : Prop := okO m.off ∧ okT m.time ∧ okP m.pos
instance (m : Mark) : Decidable (okM m) := inferInstanceAs (Decidable (_ ∧ _))
def rightB (l : List Mark) : Bool := l.all fun m => decide (okM m)
theorem rise_tail {m : Mark} {l : List Mark} (h : rise (m :: l)) : rise l := fun i hi => by
  have := h (i + 1) (by simp; omega)
  simpa using this
theorem rise_head {m x : Mark} {l : List Mark} (h : rise (m :: x :: l)) : m.off < x.off ∧ m.pos < x.pos := by
  have := h 0 (by simp)
  simpa using this
theorem rise_snoc {l : List Mark} {m : Mark} (h : rise l) (hm : ∀ a, l.getLast? = some a → a.off < m.off ∧ a.pos < m.pos) : rise (l ++ [m]) := by
  intro i hi
  rw [List.length_append, List.length_singleton] at hi
  by_cases e : i + 1 = l.length
  · have hl : l.getLast? = some (l.getD i z0) := by
      rw [List.getLast?_eq_getElem?, show l.length - 1 = i by omega, List.getElem?_eq_getElem (by omega)]
      simp [List.getD, show i < l.length by omega]
    have := hm _ hl
    simp only [List.getD] at this ⊢
    rw [List.getElem?_append_left (by omega), List.getElem?_append_right (by omega), e, Nat.sub_self]
    simpa using this
  · have := h i (by omega)
    simp only [List.getD] at this ⊢
    rw [List.getElem?_append_left (by omega), List.getElem?_append_left (by omega)]
    exact this
/-- One mark read behind another. -/
def rstep (l : List UInt8) (s : Vi.Rs) (m : Mark) : Mark × Vi.Rs :=
  let a := Vi.num l s 1099511627776
  let b := Vi.int l a.2 (-4398046511104) 4398046511104
  let c := Vi.num l b.2 1073741824
  (⟨m.off + a.1, m.time + b.1, m.pos + c.1⟩, c.2)
def rloop (l : List UInt8) (many : Nat) : Nat → Vi.Rs → List Mark → List Mark × Vi.Rs
  | 0, s, acc => (acc, s)
  | f + 1, s, acc => if acc.length < many ∧ s.code = 0 then rloop l many f (rstep l s (lastFrom z0 acc)).2 (acc ++ [(rstep l s (lastFrom z0 acc)).1]) else (acc, s)
def head1 (l : List UInt8) : Nat × Vi.Rs := Vi.num l (fine 0) 1048576
def head2 (l : List UInt8) : Nat × Vi.Rs := Vi.num l (head1 l).2 4096
def tail (l : List UInt8) : List Mark × Vi.Rs := rloop l (head2 l).1 (head2 l).1 (head2 l).2 []
/-- What is amiss with these bytes: the error's number (0: none), and its place. -/
def fault (l : List UInt8) : Nat × Option Nat :=
  if (tail l).2.code ≠ 0 then ((tail l).2.code, (tail l).2.pos)
  else if (tail l).2.at_ < l.length then (103, some (tail l).2.at_)
  else if (riseB (tail l).1 && rightB (tail l).1) = false then (103, none)
  else if (head1 l).1 < 1 then (105, none)
  else (0, none)
def ofMarks (e : Int) (l : List Mark) : St := ⟨e, l, l.map (fun m => ⟨m.off, m.pos⟩), l.foldl (fun t m => max t m.time) (-1099511627776)⟩
def read (l : List UInt8) : St := ofMarks (head1 l).1 (tail l).1
end Go.Proofs.YtcmgppacipdnaaaGreatDoor.Ix

namespace Go.Proofs.YtcmgppacipdnaaaGreatDoor.Ix
open Go.RowKit Vi

/-- Such a mark may follow in the bytes. -/
def okStep (a m : Mark) : Prop := (0 ≤ m.off - a.off ∧ m.off - a.off ≤ 1099511627776) ∧ (-4398046511104 ≤ m.time - a.time ∧ m.time - a.time ≤ 4398046511104) ∧ (0 ≤ m.pos - a.pos ∧ m.pos - a.pos ≤ 1073741824)
def steps : Mark → List Mark → Prop
  | _, [] => True
  | a, m :: l => okStep a m ∧ steps m l
theorem steps_of : ∀ (l : List Mark) (a : Mark), okM a → (∀ m ∈ l, okM m) → (∀ m, l.head? = some m → a.off ≤ m.off ∧ a.pos ≤ m.pos) → rise l → steps a l
  | [], _, _, _, _, _ => trivial
  | m :: l, a, ha, hl, hh, hr => by
    have hm := hl m List.mem_cons_self
    have h1 := hh m rfl
    refine ⟨?_, steps_of l m hm (fun x hx => hl x (List.mem_cons_of_mem _ hx)) (fun x hx => ?_) (rise_tail hr)⟩
    · unfold okM okO okT okP at ha hm
      unfold okStep
      omega
    · cases l with
      | nil => cases hx
      | cons y l =>
        cases hx
        have := rise_head hr
        omega
theorem okM_z0 : okM z0 := ⟨⟨by show (0 : Int) ≤ 0; omega, by show (0 : Int) ≤ 1099511627776; omega⟩, ⟨by show (-1099511627776 : Int) ≤ 0; omega, by show (0 : Int) ≤ 1099511627776; omega⟩, ⟨by show (0 : Int) ≤ 0; omega, by show (0 : Int) ≤ 1073741824; omega⟩⟩
theorem steps_z0 {l : List Mark} (h : ∀ m ∈ l, okM m) (hr : rise l) : steps z0 l :=
  steps_of l z0 okM_z0 h (fun m hm => by
    have := h m (List.mem_of_mem_head? hm)
    exact ⟨this.1.1, this.2.2.1⟩) hr

end Go.Proofs.YtcmgppacipdnaaaGreatDoor.Ix

namespace Go.Proofs.YtcmgppacipdnaaaGreatDoor.Ix

structure Inv0 (s : St) : Prop where
  ok : Ok s
  rise : rise s.marks
  last : ∀ m, s.marks.getLast? = some m → ∃ a, s.adds.getLast? = some a ∧ m.off ≤ a.off ∧ m.pos ≤ a.pos
theorem Inv0.new (e : Int) (h : 1 ≤ e ∧ e ≤ 1048576) : Inv0 (new e) :=
  ⟨Ok.new e h, fun i hi => absurd hi (by show ¬ i + 1 < 0; omega), fun m hm => (by cases hm)⟩
theorem Inv0.put {s : St} (h : Inv0 s) {o t p z : Int} (hg : good s o t p z) : Inv0 (put s o t p) := by
  obtain ⟨h1, h2, h3, h4, h5⟩ := hg
  have hlast : ∀ m, s.marks.getLast? = some m → m.off < o ∧ m.pos < p := fun m hm => by
    obtain ⟨a, ha, h6, h7⟩ := h.last m hm
    have := h5 a ha
    omega
  refine ⟨h.ok.put o t p h1 h2 h4, ?_, fun m hm => ?_⟩
  · unfold Ix.put
    simp only
    split
    · exact rise_snoc h.rise hlast
    · exact h.rise
  · refine ⟨⟨o, p⟩, by simp [Ix.put], ?_⟩
    unfold Ix.put at hm
    simp only at hm
    split at hm
    · rw [List.getLast?_append] at hm
      simp at hm
      subst hm
      exact ⟨Int.le_refl _, Int.le_refl _⟩
    · have := hlast m hm
      exact ⟨by show m.off ≤ o; omega, by show m.pos ≤ p; omega⟩
theorem Inv0.add {s : St} (h : Inv0 s) (o t p z : Int) : Inv0 (add s o t p z).2 := by
  unfold Ix.add
  split
  · rename_i hg; exact h.put hg
  · exact h
theorem Inv0.steps {s : St} (h : Inv0 s) : steps z0 s.marks := steps_z0 h.ok.marks h.rise
end Go.Proofs.YtcmgppacipdnaaaGreatDoor.Ix

namespace Go.Proofs.YtcmgppacipdnaaaGreatDoor
open Go.RowKit Crc
attribute [local go_sem] BtoNat x32 n32 x8 and8_15 mod256 wrap8 xs32 Bd16toNat mul2

end Go.Proofs.YtcmgppacipdnaaaGreatDoor

namespace Go.Proofs.YtcmgppacipdnaaaGreatDoor
open Go.RowKit

namespace Ix
theorem take_snoc (l : List Mark) (k : Nat) (hk : k < l.length) : l.take (k + 1) = l.take k ++ [l.getD k z0] := by
  rw [List.take_succ_eq_append_getElem hk]; simp [List.getD, hk]
end Ix

/-- What Bytes has laid so far: its row, and the mark ahead in a block of its own. -/
structure BySt (w0 w : World) (g : Nat) (v : Value) (l : List UInt8) (a : Ix.Mark) : Prop where
  own : Own w w0.heap.size v l
  bel : Below w0.heap.size w0 w
  box : w.heap[g]? = some (.cells #[.int .i64 a.off, .int .i64 a.time, .int .i64 a.pos] 187 (0, 0))
  lo : w0.heap.size ≤ g
theorem BySt.ne {w0 w : World} {g : Nat} {v : Value} {l : List UInt8} {a : Ix.Mark} (h : BySt w0 w g v l a) : v.ownBlock ≠ some g := fun e => by
  rcases h.own.2 with ⟨e1, _⟩ | ⟨g', cap, cur, e1, _, hh, _⟩
  · rw [e1] at e; cases e
  · rw [e1] at e
    have : g' = g := by simpa [Value.ownBlock] using e
    rw [this] at hh
    exact types_ne hh h.box (by decide) rfl
theorem BySt.glt {w0 w : World} {g : Nat} {v : Value} {l : List UInt8} {a : Ix.Mark} (h : BySt w0 w g v l a) : g < w.heap.size := (Array.getElem?_eq_some_iff.1 h.box).1
theorem BySt.below {w0 w w' : World} {g : Nat} {v : Value} {l : List UInt8} {a : Ix.Mark} (h : BySt w0 w g v l a) (hb : Below w.heap.size w w') : BySt w0 w' g v l a :=
  ⟨h.own.below hb (Nat.le_refl _), h.bel.trans (hb.mono h.bel.size), (hb.block g h.glt).trans h.box, h.lo⟩
theorem BySt.app {w0 w w' : World} {g : Nat} {v v' : Value} {l l' : List UInt8} {a : Ix.Mark} (h : BySt w0 w g v l a) (ho : Own w' w0.heap.size v' l') (hg : w.grownBy w' v.ownBlock) : BySt w0 w' g v' l' a :=
  ⟨ho, h.bel.grown hg h.bel.size fun k hk => (h.own.lt k hk).1, (hg.block g h.glt fun e => h.ne e.symm).trans h.box, h.lo⟩
theorem BySt.cells {w0 w : World} {g : Nat} {v : Value} {l : List UInt8} {a : Ix.Mark} (h : BySt w0 w g v l a) : (w.cell? ⟨g, 0, none⟩ = some (.int .i64 a.off) ∧ w.cell? ⟨g, 1, none⟩ = some (.int .i64 a.time) ∧ w.cell? ⟨g, 2, none⟩ = some (.int .i64 a.pos)) ∧ (w.frozen? ⟨g, 0, none⟩ = false ∧ w.frozen? ⟨g, 1, none⟩ = false ∧ w.frozen? ⟨g, 2, none⟩ = false) :=
  ⟨⟨box_cell h.box 0, box_cell h.box 1, box_cell h.box 2⟩, ⟨box_free h.box 0, box_free h.box 1, box_free h.box 2⟩⟩
theorem BySt.set {w0 w : World} {g : Nat} {v : Value} {l : List UInt8} {a : Ix.Mark} (h : BySt w0 w g v l a) (m : Ix.Mark) : BySt w0 (((w.setCell ⟨g, 0, none⟩ (.int .i64 m.off)).setCell ⟨g, 1, none⟩ (.int .i64 m.time)).setCell ⟨g, 2, none⟩ (.int .i64 m.pos)) g v l m := by
  have h1 := heap_setCell_same w g 0 _ _ (.int .i64 m.off) h.box
  have h2 := heap_setCell_same (w.setCell ⟨g, 0, none⟩ (.int .i64 m.off)) g 1 _ _ (.int .i64 m.time) h1
  have h3 := heap_setCell_same ((w.setCell ⟨g, 0, none⟩ (.int .i64 m.off)).setCell ⟨g, 1, none⟩ (.int .i64 m.time)) g 2 _ _ (.int .i64 m.pos) h2
  have hne : ∀ k, k ≠ g → (((w.setCell ⟨g, 0, none⟩ (.int .i64 m.off)).setCell ⟨g, 1, none⟩ (.int .i64 m.time)).setCell ⟨g, 2, none⟩ (.int .i64 m.pos)).heap[k]? = w.heap[k]? := fun k hk =>
    (Below.heap_setCell _ _ _ _ hk).trans ((Below.heap_setCell _ _ _ _ hk).trans (Below.heap_setCell _ _ _ _ hk))
  refine ⟨ownsRow_same h.own fun k hk => hne k fun e => h.ne (by rw [hk, e]), ⟨h.bel.os, h.bel.tape, h.bel.output, by simpa using h.bel.size, fun k hk => (hne k (by have := h.lo; omega)).trans (h.bel.block k hk)⟩, h3, h.lo⟩
theorem BySt.other {w0 w w' : World} {g g' : Nat} {v : Value} {l : List UInt8} {a : Ix.Mark} {cs : Array Value} (h : BySt w0 w g v l a) (hb : w.heap[g']? = some (.cells cs 187 (0, 0))) (hg : w.grownBy w' v.ownBlock) : w'.heap[g']? = some (.cells cs 187 (0, 0)) :=
  (hg.block g' (Array.getElem?_eq_some_iff.1 hb).1 fun e => by
    rcases h.own.2 with ⟨e1, _⟩ | ⟨g2, cap, cur, e1, _, hh, _⟩
    · rw [e1] at e; cases e
    · rw [e1] at e
      have e2 : g' = g2 := by simpa [Value.ownBlock] using e
      rw [← e2] at hh
      exact types_ne hh hb (by decide) rfl).trans hb
end Go.Proofs.YtcmgppacipdnaaaGreatDoor

namespace Go.Proofs.YtcmgppacipdnaaaGreatDoor
open Go.RowKit

section
variable {base every : Int} {bs : List Rc.Bat}
end
section
variable {d : Dk.St} {s : Sg.St} {room used base every : Int} {names : Dk.Dir} {x : Nat} {bs : List Rc.Bat}
end
/-- An index behind a call that took one in. -/
structure IxPost (I : Nat) (ix : Ix.St) (S : Nat → Prop) (w W : World) : Prop where
  at_ : IxAt W I ix (Up S w W)
  chg : Chg S w W
theorem IxPost.grow {I : Nat} {ix : Ix.St} {S : Nat → Prop} {w W W' : World} (h : IxPost I ix S w W) (hb : Below W.heap.size W W') : IxPost I ix S w W' :=
  ⟨(h.at_.below hb).mono fun k hk => by rcases hk with hk | hk; exact .inl hk; exact .inr ⟨hk.1, Nat.lt_of_lt_of_le hk.2 hb.size⟩, h.chg.then (Chg.of_below hb)⟩
theorem IxPost.ahead {I : Nat} {ix : Ix.St} {S : Nat → Prop} {w w1 W : World} (hb : Below w.heap.size w w1) (h : IxPost I ix S w1 W) : IxPost I ix S w W :=
  ⟨h.at_.mono fun k hk => by
    have := hb.size
    rcases hk with hk | hk
    · exact .inl hk
    · exact .inr ⟨by omega, hk.2⟩, (Chg.of_below hb).then h.chg⟩
end Go.Proofs.YtcmgppacipdnaaaGreatDoor

namespace Go.Proofs.YtcmgppacipdnaaaGreatDoor
open Go.RowKit Go.Maps

namespace Ht
theorem take_ne {cs : List Rc.Bat} {k : Nat} (hk : k + 1 < cs.length) : cs.take (k + 1) ≠ [] := fun e => by
  have := congrArg List.length e
  rw [List.length_take, List.length_nil] at this
  omega
/-- The pairs of some batches, at the next one. -/
theorem prs_next (bs : List Rc.Bat) (hne : bs ≠ []) : prs (bs.map pr) ≠ [] ∧ (Ep.pr (prs (bs.map pr)) ((prs (bs.map pr)).length - 1)).ep = lastEp bs := by
  induction bs using snoc_ind with
  | nil => exact absurd rfl hne
  | snoc bs b ih =>
    rw [List.map_append, List.map_singleton, prs_snoc, lastEp_snoc]
    split
    · refine ⟨by simp, ?_⟩
      simp [Ep.pr, List.getD, pr]
    · rename_i h
      rw [not_or] at h
      refine ⟨h.1, ?_⟩
      have := Classical.not_not.1 h.2
      rw [this]
      rfl
/-- The batch k and the pairs of those ahead of it: one more where its epoch is another. -/
theorem prs_at (cs : List Rc.Bat) (k : Nat) (hk : k < cs.length) (hd : k = 0 ∨ ∃ h : k - 1 < cs.length, cs[k].epoch ≠ cs[k - 1].epoch) : prs ((cs.take (k + 1)).map pr) = prs ((cs.take k).map pr) ++ [⟨cs[k].epoch, cs[k].base⟩] := by
  rw [List.take_succ_eq_append_getElem hk, List.map_append, List.map_singleton, prs_snoc, if_pos]
  · rfl
  · rcases hd with rfl | ⟨h, hd⟩
    · exact .inl rfl
    · rcases Nat.eq_zero_or_pos k with rfl | hp
      · exact .inl rfl
      · obtain ⟨j, rfl⟩ : ∃ j, k = j + 1 := ⟨k - 1, by omega⟩
        refine .inr ?_
        rw [(prs_next (cs.take (j + 1)) (take_ne hk)).2, List.take_succ_eq_append_getElem (by omega), lastEp_snoc]
        simp only [Nat.add_sub_cancel] at hd
        exact fun e => hd e.symm
end Ht
section
variable {w0 w : World} {U : Nat → Prop} {n Bd H : Nat} {sz ev room : Int} {gs : List Ht.Gr}
theorem HtA.inner (h : HtA w0 U n Bd H sz ev room gs w) : ∀ g ∈ gs, (∀ b ∈ g.2, g.1 ≤ b.base ∧ b.base < Ht.lastOff g.1 g.2) ∧ (g.2 ≠ [] → g.1 < Ht.lastOff g.1 g.2) := by
  obtain ⟨d, S, C, vs, vb, qs, names, -, g, h3, -⟩ := h
  subst h3
  intro x hx
  obtain ⟨q, hq, rfl⟩ := List.mem_map.1 hx
  have hm := g.mz q hq
  refine ⟨fun b hb => ?_, fun hne => ?_⟩
  · obtain ⟨j, hj, rfl⟩ := List.getElem_of_mem hb
    have h1 := hm.bounds j hj
    have h2 := (hm.good _ hb).n0
    simp only at h2 ⊢
    omega
  · have := hm.base_lt hne
    rw [hm.lastOff.1] at this
    exact this
end
end Go.Proofs.YtcmgppacipdnaaaGreatDoor
