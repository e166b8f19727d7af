/-
  The reference's small calls that its ReadIndex stands on.
  The reference's ReadIndex on its way: its reader, the mark ahead, the mark that is read, the row so far.
  The reference's NewIndex and Cut; what its ReadIndex asks of marks, plainly.
-/
import Derived.Test.YtoaioijgmbhhnaaDoorIxRm
import Derived.Test.YtoaioijgmbhhnaaDoorRFix
import Derived.Test.YtoaioijgmbhhnaaDoorRef2
import Derived.Deep.LoopGhost
import Derived.Deep.RegionLaw
namespace Go.Proofs.YtoaioijgmbhhnaaDoor
open Go.RowKit

theorem qRight_any (n : Int) (w : World) :
    Calls Tryd.prog 60 #[.int .i64 n] w fun e w' => e = .returned (.bool (decide (Ix.okO n))) ∧ w = w' := by
  by_cases h1 : 0 ≤ n
  · have hd : decide (0 ≤ n) = true := by simp [h1]
    have he : decide (Ix.okO n) = decide (n ≤ 1099511627776) := decide_eq_decide.2 ⟨fun h => h.2, fun h => ⟨h1, h⟩⟩
    rw [he]
    clear he h1
    go_enter Tryd.func60, Tryd.ntmps60
    go_wp2_with fail
    go_ret
    exact ⟨rfl, rfl⟩
  · have hd : decide (0 ≤ n) = false := by simp; omega
    have he : decide (Ix.okO n) = false := decide_eq_false (fun h => h1 h.1)
    rw [he]
    clear he h1
    go_enter Tryd.func60, Tryd.ntmps60
    go_wp2_with fail
    go_ret
    exact ⟨rfl, rfl⟩
theorem qTime_any (n : Int) (w : World) :
    Calls Tryd.prog 61 #[.int .i64 n] w fun e w' => e = .returned (.bool (decide (Ix.okT n))) ∧ w = w' := by
  by_cases h1 : -1099511627776 ≤ n
  · have hd : decide (-1099511627776 ≤ n) = true := by simp [h1]
    have he : decide (Ix.okT n) = decide (n ≤ 1099511627776) := decide_eq_decide.2 ⟨fun h => h.2, fun h => ⟨h1, h⟩⟩
    rw [he]
    clear he h1
    go_enter Tryd.func61, Tryd.ntmps61
    go_wp2_with fail
    go_ret
    exact ⟨rfl, rfl⟩
  · have hd : decide (-1099511627776 ≤ n) = false := by simp; omega
    have he : decide (Ix.okT n) = false := decide_eq_false (fun h => h1 h.1)
    rw [he]
    clear he h1
    go_enter Tryd.func61, Tryd.ntmps61
    go_wp2_with fail
    go_ret
    exact ⟨rfl, rfl⟩
theorem qBare_any (c : Int) (w : World) :
    Calls Tryd.prog 55 #[.int .i64 c] w fun e w' => e = .returned (faultV c false 0) ∧ Below w.heap.size w w' := by
  go_enter Tryd.func55, Tryd.ntmps55
  go_wp2_with fail
  go_returns
  exact ⟨rfl, balloc (Below.refl _ _) _⟩
theorem qNone_any (w : World) :
    Calls Tryd.prog 64 #[] w fun e w' => e = .returned (faultV 0 false 0) ∧ Below w.heap.size w w' := by
  go_enter Tryd.func64, Tryd.ntmps64
  go_wp2_with fail
  go_returns
  exact ⟨rfl, balloc (Below.refl _ _) _⟩
/-- Over: nothing behind, else an error around the first byte there. -/
def over (l : List UInt8) (s : Vi.Rs) : Vi.Rs := if s.code = 0 ∧ s.at_ < l.length then s.fail 103 else s
set_option maxRecDepth 100000 in
theorem qOver_any (w : World) (A : Option Addr) (cap g : Nat) (l : List UInt8) (s : Vi.Rs) (h : RRd w A cap g l s) (hl : l.length ≤ 1000000) :
    Calls Tryd.prog 59 #[.pointer (some ⟨g, 0, none⟩), .int .i64 103] w fun e w' => e = .returned (.tuple #[]) ∧ RRd w' A cap g l (over l s) ∧ But g w w' := by
  have hc0 := h.c0
  have hc1 := h.c1
  have hlt := h.lt
  have HR := hide h
  by_cases hc : s.code = 0
  · have HF := hide (fun (W : World) (hb : Below w.heap.size w W) => fine_any W A cap g l s true (h.below hb) (by rw [hc]; rfl))
    by_cases ha : s.at_ < l.length
    · have HO : Hid (over l s = s.fail 103) := hide (if_pos ⟨hc, ha⟩)
      have da : decide (s.at_ < l.length) = true := decide_eq_true ha
      have da' : decide ((s.at_ : Int) < l.length) = true := decide_eq_true (by omega)
      clear h
      go_enter Tryd.func59, Tryd.ntmps59
      go_wp2_with fail
      go_quiet (first | (go_at_call 57; exact Calls.quiet_of_same ((HF.out _ (below_drewN (Below.refl _ _) _)).mono fun _ _ ⟨h1, h2⟩ => ⟨h1, h2.symm⟩)))
      rename Nat => q
      have HB := hide (below_drewN (Below.refl w.heap.size w) q)
      have HFL := hide (rfail_any (w.drewN q) A cap g l s 103 (.inr (.inl rfl)) (HR.out.below HB.out))
      go_wp2_with (first
        | (go_at_call 94; refine HFL.out.mono ?_; rintro e w2 ⟨rfl, hr2, hb2⟩)
        | fail)
      go_end0
      rw [HO.out]
      exact ⟨rfl, hr2, (But.of_below HB.out).trans hb2⟩
    · have HO : Hid (over l s = s) := hide (if_neg (fun hh => ha hh.2))
      have da : decide (s.at_ < l.length) = false := decide_eq_false ha
      have da' : decide ((s.at_ : Int) < l.length) = false := decide_eq_false (by omega)
      clear h
      go_enter Tryd.func59, Tryd.ntmps59
      go_wp2_with fail
      go_quiet (first | (go_at_call 57; exact Calls.quiet_of_same ((HF.out _ (below_drewN (Below.refl _ _) _)).mono fun _ _ ⟨h1, h2⟩ => ⟨h1, h2.symm⟩)))
      rename Nat => q
      go_wp2_with fail
      go_end0
      rw [HO.out]
      exact ⟨rfl, HR.out.below (below_drewN (Below.refl _ _) q), But.of_below (below_drewN (Below.refl _ _) q)⟩
  · have HF := hide (fun (W : World) (hb : Below w.heap.size w W) => fine_any W A cap g l s false (h.below hb) (by simp [hc]))
    have HO : Hid (over l s = s) := hide (if_neg (fun hh => hc hh.1))
    clear h
    go_enter Tryd.func59, Tryd.ntmps59
    go_wp2_with fail
    go_quiet (first | (go_at_call 57; exact Calls.quiet_of_same ((HF.out _ (below_drewN (Below.refl _ _) _)).mono fun _ _ ⟨h1, h2⟩ => ⟨h1, h2.symm⟩)))
    rename Nat => q
    go_wp2_with fail
    go_end0
    rw [HO.out]
    exact ⟨rfl, HR.out.below (below_drewN (Below.refl _ _) q), But.of_below (below_drewN (Below.refl _ _) q)⟩
/-- A reader of the reference stays where another row is turned. -/
theorem RRd.beside {w w' : World} {A : Option Addr} {cap g : Nat} {l : List UInt8} {s : Vi.Rs} {row : Option Nat} (h : RRd w A cap g l s) (hg : w.grownBy w' row) (hgg : some g ≠ row)
    (hbuf : l ≠ [] → ∀ b off, A = some ⟨b, off, none⟩ → some b ≠ row) : RRd w' A cap g l s := by
  have hb := hg.block g h.lt hgg
  have cl : ∀ {o : Nat}, w'.cell? ⟨g, o, none⟩ = w.cell? ⟨g, o, none⟩ := fun {o} => by simp [World.cell?, hb]
  refine ⟨Nat.lt_of_lt_of_le h.lt hg.size, fun k => (World.frozen?_of_block (a := ⟨g, k, none⟩) hb).trans (h.free k), h.ok, cl.trans h.c0, cl.trans h.c1, cl.trans h.c2, cl.trans h.c3, cl.trans h.c4, ⟨h.arg.le, h.arg.max, h.arg.nil, ?_⟩, h.ne, fun k hk => cl.trans (h.past k hk)⟩
  rcases h.arg.reads with hr | ⟨b, off, e, hlt, hc⟩
  · exact .inl hr
  · by_cases hl : l = []
    · exact .inl hl
    · refine .inr ⟨b, off, e, Nat.lt_of_lt_of_le hlt hg.size, fun k hk => ?_⟩
      have := hg.block b hlt (hbuf hl b off e)
      have e2 : w'.cell? ⟨b, off + k, none⟩ = w.cell? ⟨b, off + k, none⟩ := by simp [World.cell?, this]
      exact e2.trans (hc k hk)
end Go.Proofs.YtoaioijgmbhhnaaDoor

namespace Go.Proofs.YtoaioijgmbhhnaaDoor
open Go.RowKit

abbrev qCells (a : Ix.Mark) : Array Value := #[.int .i64 a.off, .int .i64 a.time, .int .i64 a.pos]
structure QmSt (w0 w : World) (A : Option Addr) (cap g : Nat) (l : List UInt8) (s : Vi.Rs) (g10 : Nat) (a : Ix.Mark) (v : Value) (ms : List Ix.Mark) : Prop where
  rd : RRd w A cap g l s
  arg0 : l ≠ [] → ∀ b off, A = some ⟨b, off, none⟩ → b < w0.heap.size
  box : w.heap[g10]? = some (.cells (qCells a) 110 (0, 0))
  own : w.ownsRow (g + 1) 110 3 v ms.length (ms.flatMap mkCells)
  bel : Below w0.heap.size w0 w
  glo : w0.heap.size < g
  res : w.heap[w0.heap.size]? = some (.cells #[.int .i64 0, .bool false, .int .i64 0] 47 (0, 0))
  lo : g < g10
  ne : v.ownBlock ≠ some g10
structure QmM (w0 w : World) (A : Option Addr) (cap g : Nat) (l : List UInt8) (s : Vi.Rs) (g10 : Nat) (a : Ix.Mark) (g12 : Nat) (m : Ix.Mark) (v : Value) (ms : List Ix.Mark) : Prop where
  st : QmSt w0 w A cap g l s g10 a v ms
  box2 : w.heap[g12]? = some (.cells (qCells m) 110 (0, 0))
  lo2 : g < g12
  ne2 : v.ownBlock ≠ some g12
  ne12 : g12 ≠ g10
section
variable {w0 w w' : World} {A : Option Addr} {cap g : Nat} {l : List UInt8} {s s' : Vi.Rs} {g10 g12 : Nat} {a m : Ix.Mark} {v : Value} {ms : List Ix.Mark}
theorem QmSt.glt (h : QmSt w0 w A cap g l s g10 a v ms) : g10 < w.heap.size := (Array.getElem?_eq_some_iff.1 h.box).1
theorem QmSt.rlt (h : QmSt w0 w A cap g l s g10 a v ms) : w0.heap.size < w.heap.size := (Array.getElem?_eq_some_iff.1 h.res).1
theorem QmM.glt (h : QmM w0 w A cap g l s g10 a g12 m v ms) : g12 < w.heap.size := (Array.getElem?_eq_some_iff.1 h.box2).1
theorem QmSt.call (h : QmSt w0 w A cap g l s g10 a v ms) (hr : RRd w' A cap g l s') (hb : But g w w') : QmSt w0 w' A cap g l s' g10 a v ms := by
  have hlo := h.lo
  refine ⟨hr, h.arg0, (hb.block g10 h.glt (by simp; omega)).trans h.box, ownsRow_same h.own fun k hk => hb.block k (h.own.lt k hk).2 (by simp; have := (h.own.lt k hk).1; omega), h.bel.grown hb.grown h.bel.size (fun k hk => by injection hk with hk; have := h.glo; omega), h.glo, (hb.block _ h.rlt (by have := h.glo; simp; omega)).trans h.res, h.lo, h.ne⟩
theorem QmSt.quiet (h : QmSt w0 w A cap g l s g10 a v ms) (hb : Below w.heap.size w w') : QmSt w0 w' A cap g l s g10 a v ms := h.call (h.rd.below hb) (But.of_below hb)
theorem QmM.call (h : QmM w0 w A cap g l s g10 a g12 m v ms) (hr : RRd w' A cap g l s') (hb : But g w w') : QmM w0 w' A cap g l s' g10 a g12 m v ms :=
  ⟨h.st.call hr hb, (hb.block g12 h.glt (by have := h.lo2; simp; omega)).trans h.box2, h.lo2, h.ne2, h.ne12⟩
theorem QmM.quiet (h : QmM w0 w A cap g l s g10 a g12 m v ms) (hb : Below w.heap.size w w') : QmM w0 w' A cap g l s g10 a g12 m v ms := h.call (h.st.rd.below hb) (But.of_below hb)
theorem QmSt.cells (h : QmSt w0 w A cap g l s g10 a v ms) : (w.cell? ⟨g10, 0, none⟩ = some (.int .i64 a.off) ∧ w.cell? ⟨g10, 1, none⟩ = some (.int .i64 a.time) ∧ w.cell? ⟨g10, 2, none⟩ = some (.int .i64 a.pos)) ∧ (w.frozen? ⟨g10, 0, none⟩ = false ∧ w.frozen? ⟨g10, 1, none⟩ = false ∧ w.frozen? ⟨g10, 2, none⟩ = false) :=
  ⟨⟨box_cell h.box 0, box_cell h.box 1, box_cell h.box 2⟩, ⟨box_free h.box 0, box_free h.box 1, box_free h.box 2⟩⟩
theorem QmM.cells (h : QmM w0 w A cap g l s g10 a g12 m v ms) : (w.cell? ⟨g12, 0, none⟩ = some (.int .i64 m.off) ∧ w.cell? ⟨g12, 1, none⟩ = some (.int .i64 m.time) ∧ w.cell? ⟨g12, 2, none⟩ = some (.int .i64 m.pos)) ∧ (w.frozen? ⟨g12, 0, none⟩ = false ∧ w.frozen? ⟨g12, 1, none⟩ = false ∧ w.frozen? ⟨g12, 2, none⟩ = false) :=
  ⟨⟨box_cell h.box2 0, box_cell h.box2 1, box_cell h.box2 2⟩, ⟨box_free h.box2 0, box_free h.box2 1, box_free h.box2 2⟩⟩
/-- A new mark is made beside. -/
theorem QmSt.made (h : QmSt w0 w A cap g l s g10 a v ms) (m : Ix.Mark) : QmM w0 (w.alloc (.cells (qCells m) 110)) A cap g l s g10 a w.heap.size m v ms := by
  have hg := h.glt
  have hlo := h.lo
  exact ⟨h.quiet (balloc (Below.refl _ _) _), heap_alloc_new _ _, by omega, fun e => by have := (h.own.lt _ e).2; omega, by omega⟩
/-- One of the marks' own cells is set. -/
theorem QmSt.other (h : QmSt w0 w A cap g l s g10 a v ms) (k : Nat) (hk : g < k) (hv : v.ownBlock ≠ some k) (hk10 : k ≠ g10) (i : Nat) (x : Value) : QmSt w0 (w.setCell ⟨k, i, none⟩ x) A cap g l s g10 a v ms := by
  have hoth : ∀ j, j ≠ k → (w.setCell ⟨k, i, none⟩ x).heap[j]? = w.heap[j]? := fun j hj => Below.heap_setCell _ _ _ _ hj
  have hglo := h.glo
  refine ⟨h.rd.beside (grown_setC w k i x) (by simp; omega) (fun hl b off e => by have := h.arg0 hl b off e; simp; omega), h.arg0, (hoth g10 (fun e => hk10 e.symm)).trans h.box, ownsRow_same h.own fun j hj => hoth j (fun e => hv (by rw [hj, e])), ⟨h.bel.os, h.bel.tape, h.bel.output, by simpa using h.bel.size, fun j hj => (hoth j (by omega)).trans (h.bel.block j hj)⟩, h.glo, (hoth _ (by omega)).trans h.res, h.lo, h.ne⟩
theorem QmM.set2 (h : QmM w0 w A cap g l s g10 a g12 m v ms) (i : Nat) (x : Value) (m' : Ix.Mark) (hc : (qCells m).setIfInBounds i x = qCells m') : QmM w0 (w.setCell ⟨g12, i, none⟩ x) A cap g l s g10 a g12 m' v ms := by
  refine ⟨h.st.other g12 h.lo2 h.ne2 h.ne12 i x, ?_, h.lo2, h.ne2, h.ne12⟩
  have := heap_setCell_same w g12 i _ _ x h.box2
  rw [this, hc]
theorem QmM.set1 (h : QmM w0 w A cap g l s g10 a g12 m v ms) (i : Nat) (x : Value) (a' : Ix.Mark) (hc : (qCells a).setIfInBounds i x = qCells a') : QmM w0 (w.setCell ⟨g10, i, none⟩ x) A cap g l s g10 a' g12 m v ms := by
  have hst := h.st
  have hoth : ∀ j, j ≠ g10 → (w.setCell ⟨g10, i, none⟩ x).heap[j]? = w.heap[j]? := fun j hj => Below.heap_setCell _ _ _ _ hj
  have hglo := hst.glo
  have hlo := hst.lo
  refine ⟨⟨hst.rd.beside (grown_setC w g10 i x) (by simp; omega) (fun hl b off e => by have := hst.arg0 hl b off e; simp; omega), hst.arg0, ?_, ownsRow_same hst.own fun j hj => hoth j (fun e => hst.ne (by rw [hj, e])), ⟨hst.bel.os, hst.bel.tape, hst.bel.output, by simpa using hst.bel.size, fun j hj => (hoth j (by omega)).trans (hst.bel.block j hj)⟩, hst.glo, (hoth _ (by omega)).trans hst.res, hst.lo, hst.ne⟩, (hoth g12 h.ne12).trans h.box2, h.lo2, h.ne2, h.ne12⟩
  have := heap_setCell_same w g10 i _ _ x hst.box
  rw [this, hc]
theorem QmM.push {w1 w2 : World} {v' : Value} {cs : Array Value} (h : QmM w0 w A cap g l s g10 a g12 m v ms) (hw1 : w1 = w.alloc (.cells cs 110)) (hg : w1.grownBy w2 v.ownBlock)
    (ho : w2.ownsRow (g + 1) 110 3 v' (ms.length + 1) (ms.flatMap mkCells ++ mkCells m)) (hv : v'.ownBlock = v.ownBlock ∨ v'.ownBlock = some w1.heap.size) : QmM w0 w2 A cap g l s g10 a g12 m v' (ms ++ [m]) := by
  have hal : Below w.heap.size w w1 := hw1 ▸ balloc (Below.refl _ _) _
  have h1 := h.quiet hal
  have hst := h1.st
  have hrow : ∀ k, v.ownBlock = some k → g + 1 ≤ k := fun k hk => (h.st.own.lt k hk).1
  have hw : ms.flatMap mkCells ++ mkCells m = (ms ++ [m]).flatMap mkCells := by simp
  rw [hw] at ho
  have hz1 := h1.glt
  have hz2 := hst.glt
  have hglo := hst.glo
  have hne' : ∀ k, k < w1.heap.size → v.ownBlock ≠ some k → v'.ownBlock ≠ some k := fun k hk hn e => by
    rcases hv with e1 | e1
    · exact hn (e1 ▸ e)
    · rw [e1] at e; injection e with e; omega
  refine ⟨⟨hst.rd.beside hg (fun e => by have := hrow g e.symm; omega) (fun hl b off e e' => by have := hrow b e'.symm; have := hst.arg0 hl b off e; omega), hst.arg0, (hg.block g10 hz2 fun e => h.st.ne e.symm).trans hst.box, by rw [List.length_append]; exact ho, hst.bel.grown hg hst.bel.size (fun k hk => by have := hrow k hk; omega), hst.glo, (hg.block _ hst.rlt fun e => by have := hrow _ e.symm; omega).trans hst.res, hst.lo, hne' g10 hz2 h.st.ne⟩, (hg.block g12 hz1 fun e => h.ne2 e.symm).trans h1.box2, h.lo2, hne' g12 hz1 h.ne2, h.ne12⟩
end
end Go.Proofs.YtoaioijgmbhhnaaDoor

namespace Go.Proofs.YtoaioijgmbhhnaaDoor
open Go.RowKit

theorem qmark_info : (Tryd.prog.info? 110).map (fun i => (i.zero, i.size, i.bytes)) = some (some (.agg #[.int .i64 0, .int .i64 0, .int .i64 0]), 3, 24) := by kernel_rfl
theorem qmarks_at {w : World} {base : Nat} {v : Value} {ms : List Ix.Mark} (h : w.ownsRow base 110 3 v ms.length (ms.flatMap mkCells)) : ∃ A c, v = .slice A ms.length c ∧ c ≤ 9223372036854775807 ∧ MarksAt w A c ms := by
  rcases h.2 with ⟨e, k0⟩ | ⟨g, cap, cur, e, _, hh, hcap, hmx, _⟩
  · exact ⟨_, _, by rw [e, k0], by omega, by omega, fun k hk => by omega⟩
  · refine ⟨_, _, e, by simp only [maxLen] at hmx; omega, by omega, fun k hk => ⟨g, rfl, (Array.getElem?_eq_some_iff.1 hh).1, ?_⟩⟩
    obtain ⟨k1, k2, k3⟩ := mk_at ms k hk
    have hc := h.cells (g := g) (by rw [e]; rfl)
    have eg : ms.getD k Ix.z0 = ms[k] := by simp [List.getD, hk]
    rw [eg]
    refine ⟨?_, ?_, ?_⟩
    · have := hc _ _ k1; rwa [Addr.add_lit, Nat.zero_add] at this
    · have := hc _ _ k2; rwa [Addr.add_lit, Nat.zero_add] at this
    · have := hc _ _ k3; rwa [Addr.add_lit, Nat.zero_add] at this

namespace Ix
def upB (l : List Mark) (j : Nat) : Bool := decide (j = 0) || (decide ((l.getD (j - 1) z0).off < (l.getD j z0).off) && decide ((l.getD (j - 1) z0).pos < (l.getD j z0).pos))
def okJ (l : List Mark) (j : Nat) : Prop := upB l j = true ∧ okO (l.getD j z0).off ∧ okT (l.getD j z0).time ∧ (l.getD j z0).pos ≤ 1073741824
theorem lastFrom_mem (a : Mark) (l : List Mark) : lastFrom a l = a ∨ lastFrom a l ∈ l := by
  induction l generalizing a with
  | nil => exact .inl rfl
  | cons m l ih =>
    rcases ih m with h | h
    · exact .inr (by show lastFrom m l ∈ _; rw [h]; exact List.mem_cons_self)
    · exact .inr (List.mem_cons_of_mem _ h)
theorem rloop_pos (l : List UInt8) (many : Nat) : ∀ (f : Nat) (s : Vi.Rs) (acc : List Mark), (∀ m ∈ acc, 0 ≤ m.pos) → ∀ m ∈ (rloop l many f s acc).1, 0 ≤ m.pos
  | 0, s, acc, h => h
  | f + 1, s, acc, h => by
    unfold rloop
    split
    · refine rloop_pos l many f _ _ fun m hm => ?_
      rcases List.mem_append.1 hm with hm | hm
      · exact h m hm
      · rw [List.mem_singleton] at hm
        subst hm
        have h0 : 0 ≤ (lastFrom z0 acc).pos := by
          rcases lastFrom_mem z0 acc with e | e
          · rw [e]; show (0 : Int) ≤ 0; omega
          · exact h _ e
        show 0 ≤ (lastFrom z0 acc).pos + _
        omega
    · exact h
theorem tail_pos (l : List UInt8) : ∀ m ∈ (tail l).1, 0 ≤ m.pos := rloop_pos l _ _ _ [] (fun m hm => by cases hm)
/-- Each mark's own question, and all of them. -/
theorem okJ_all (l : List Mark) (hp : ∀ m ∈ l, 0 ≤ m.pos) : (riseB l && rightB l) = true ↔ ∀ j, j < l.length → okJ l j := by
  have g : ∀ j, j < l.length → l.getD j z0 ∈ l := fun j hj => by
    rw [show l.getD j z0 = l[j] from by simp [List.getD, hj]]; exact List.getElem_mem hj
  rw [Bool.and_eq_true, riseB_iff, rightB_iff]
  constructor
  · rintro ⟨h1, h2⟩ j hj
    have hm := h2 _ (g j hj)
    refine ⟨?_, hm.1, hm.2.1, hm.2.2.2⟩
    unfold upB
    cases j with
    | zero => simp
    | succ j =>
      have := h1 j hj
      simp only [Nat.add_sub_cancel, this.1, this.2]
      simp
  · intro h
    refine ⟨fun i hi => ?_, fun m hm => ?_⟩
    · have := (h (i + 1) hi).1
      unfold upB at this
      simp only [Nat.add_sub_cancel] at this
      simpa using this
    · obtain ⟨j, hj, rfl⟩ := List.getElem_of_mem hm
      have := h j hj
      have e : l.getD j z0 = l[j] := by simp [List.getD, hj]
      unfold okJ at this
      rw [e] at this
      exact ⟨this.2.1, this.2.2.1, hp _ hm, this.2.2.2⟩
end Ix

set_option maxRecDepth 100000 in
theorem qNew_low (e : Int) (w : World) (h : e < 1) :
    Calls Tryd.prog 62 #[.int .i64 e] w fun r w' => r = .returned (.pointer none) ∧ Below w.heap.size w w' := by
  have d1 : decide (e < 1) = true := decide_eq_true h
  go_enter Tryd.func62, Tryd.ntmps62
  go_wp2_with fail
  go_ret
  exact ⟨rfl, Below.refl _ _⟩
set_option maxRecDepth 100000 in
theorem qNew_any (e : Int) (w : World) (h : 1 ≤ e) (h2 : e ≤ 1048576) :
    Calls Tryd.prog 62 #[.int .i64 e] w fun r w' => r = .returned (.pointer (some ⟨w.heap.size, 0, none⟩)) ∧ w' = w.alloc (.cells #[.int .i64 e, .slice none 0 0, .int .i64 (-1), .int .i64 (-1), .int .i64 0, .bool false] 56) := by
  have d1 : decide (e < 1) = false := decide_eq_false (by omega)
  have d2 : decide (1048576 < e) = false := decide_eq_false (by omega)
  go_enter Tryd.func62, Tryd.ntmps62
  go_wp2_with fail
  go_ret
  exact ⟨rfl, rfl⟩

theorem grown_setX {w w1 : World} {X : Nat} (h : w.grownBy w1 (some X)) (i : Nat) (x : Value) : w.grownBy (w1.setCell ⟨X, i, none⟩ x) (some X) :=
  ⟨h.os, h.tape, h.output, by simpa using h.size, fun k hk hn => (Below.heap_setCell _ _ _ _ (by intro e; exact hn (congrArg some e))).trans (h.block k hk hn)⟩
/-- The reference's Cut behind its loop. -/
structure QCt (w w1 : World) (X : Nat) (v : Value) (ms : List Ix.Mark) : Prop where
  grown : w.grownBy w1 (some X)
  c1 : w1.cell? ⟨X, 1, none⟩ = some v
  own : w1.ownsRow w.heap.size 110 3 v ms.length (ms.flatMap mkCells)
  lt : X < w.heap.size
  cs : ∀ i, i < 6 → (∃ x, w1.cell? ⟨X, i, none⟩ = some x) ∧ w1.frozen? ⟨X, i, none⟩ = false
theorem QCt.set {w w1 : World} {X : Nat} {v : Value} {ms : List Ix.Mark} (h : QCt w w1 X v ms) (i : Nat) (hi : i ≠ 1) (x : Value) : QCt w (w1.setCell ⟨X, i, none⟩ x) X v ms :=
  ⟨grown_setX h.grown i x, (World.cell?_setCell_other _ _ _ _ (by simp [Ne.symm hi])).trans h.c1, ownsRow_same h.own fun g hg => Below.heap_setCell _ _ _ _ (by have := (h.own.lt g hg).1; have := h.lt; show g ≠ X; omega), h.lt, fun j hj => ⟨by
    obtain ⟨x0, hx0⟩ := (h.cs j hj).1
    by_cases e : j = i
    · subst e; exact ⟨_, World.cell?_setCell_same _ _ _ hx0⟩
    · exact ⟨x0, (World.cell?_setCell_other _ _ _ _ (by simp [e])).trans hx0⟩, (World.frozen?_setCell _ _ _ _).trans (h.cs j hj).2⟩⟩
theorem QCt.quiet {w w1 w2 : World} {X : Nat} {v : Value} {ms : List Ix.Mark} (h : QCt w w1 X v ms) (hb : Below w1.heap.size w1 w2) : QCt w w2 X v ms :=
  ⟨⟨hb.os.trans h.grown.os, hb.tape.trans h.grown.tape, hb.output.trans h.grown.output, Nat.le_trans h.grown.size hb.size, fun k hk hn => (hb.block k (Nat.lt_of_lt_of_le hk h.grown.size)).trans (h.grown.block k hk hn)⟩, (hb.cell (p := ⟨X, 1, none⟩) (Nat.lt_of_lt_of_le h.lt h.grown.size)).trans h.c1, ownsRow_same h.own fun g hg => hb.block g (h.own.lt g hg).2, h.lt, fun j hj => ⟨by
    obtain ⟨x0, hx0⟩ := (h.cs j hj).1
    exact ⟨x0, (hb.cell (p := ⟨X, j, none⟩) (Nat.lt_of_lt_of_le h.lt h.grown.size)).trans hx0⟩, (World.frozen?_of_block (a := ⟨X, j, none⟩) (hb.block X (Nat.lt_of_lt_of_le h.lt h.grown.size))).trans (h.cs j hj).2⟩⟩

set_option maxRecDepth 100000 in
set_option maxHeartbeats 1000000 in
theorem qCut_any (X : Nat) (ev : Int) (A : Option Addr) (c : Nat) (ms : List Ix.Mark) (w : World) (hx : w.heap[X]? = some (.cells #[.int .i64 ev, .slice A ms.length c, .int .i64 (-1), .int .i64 (-1), .int .i64 0, .bool false] 56 (0, 0)))
    (hm : MarksAt w A c ms) (hp : ∀ m ∈ ms, m.pos ≤ 1073741824) (hn : ms.length ≤ 4096) :
    Calls Tryd.prog 63 #[.pointer (some ⟨X, 0, none⟩), .int .i64 2147483648] w fun r w' => r = .returned (.tuple #[]) ∧ ∃ v, w'.cell? ⟨X, 1, none⟩ = some v ∧ w'.ownsRow w.heap.size 110 3 v ms.length (ms.flatMap mkCells) ∧ w.grownBy w' (some X) := by
  have hX := (Array.getElem?_eq_some_iff.1 hx).1
  have HX := hide hx
  have HC := hide hm.at_
  have HP : Hid (∀ k, k < ms.length → (ms.getD k Ix.z0).pos ≤ 1073741824) := hide (fun k hk => hp _ (by rw [show ms.getD k Ix.z0 = ms[k] from by simp [List.getD, hk]]; exact List.getElem_mem hk))
  have hc := hm.le
  obtain ⟨n, hne⟩ : ∃ n, n = ms.length := ⟨_, rfl⟩
  rw [← hne] at HX HC HP hc hn ⊢
  have HNE := hide hne
  clear hx hm hp hne
  go_enter Tryd.func63, Tryd.ntmps63
  go_wp2_with fail
  go_loopw [4, 5] (fun v iv wr => ∃ k : Nat, k ≤ n ∧ iv = .int .i64 k ∧ wr.ownsRow w.heap.size 110 3 v k ((ms.take k).flatMap mkCells) ∧ Below w.heap.size w wr) (fun _ iv _ => n - (intOf iv).toNat)
  case atStart => exact ⟨0, Nat.zero_le _, rfl, World.ownsRow_nil _ _ _ _, Below.refl _ _⟩
  case round =>
    obtain ⟨k, hk, rfl, ho, hb⟩ := hrel
    have HO := hide ho
    have HB := hide hb
    have HXR := hide ((hb.block X hX).trans HX.out)
    have x1 : wr.cell? ⟨X, 1, none⟩ = some (.slice A n c) := box_cell HXR.out 1
    clear ho hb
    obtain ⟨Av, nv, cv, rfl⟩ := own_slice HO.out
    obtain rfl := own_len HO.out
    by_cases hkn : nv < n
    · have dk : decide ((nv : Int) < n) = true := decide_eq_true (by omega)
      obtain ⟨g, rfl, hgl, k0, k1, k2⟩ := HC.out nv hkn
      have hpk := HP.out nv hkn
      have HTK := hide (Ix.take_snoc ms nv (by have := HNE.out; omega))
      obtain ⟨m, hm⟩ : ∃ m, m = ms.getD nv Ix.z0 := ⟨_, rfl⟩
      rw [← hm] at HTK k0 k1 k2 hpk
      clear hm
      obtain ⟨mo, mt, mp⟩ := m
      simp only at k0 k1 k2 hpk
      have r0 := (HB.out.cell (p := ⟨g, nv * 3, none⟩) hgl).trans k0
      have r1 := (HB.out.cell (p := ⟨g, nv * 3 + 1, none⟩) hgl).trans k1
      have r2 := (HB.out.cell (p := ⟨g, nv * 3 + 2, none⟩) hgl).trans k2
      have dp : decide (mp < 2147483648) = true := decide_eq_true (by omega)
      clear k0 k1 k2 hgl hpk
      go_wp2_with (first
        | (at_builtin; refine wpList_appG (w := wr.alloc _) rfl 54 110 3 24 _ (by kernel_rfl) qmark_info rfl (by omega) (.tmp 26) (.tmp 34) rfl w.heap.size _ nv ((ms.take nv).flatMap mkCells) rfl (ownsRow_same HO.out fun q hq => (balloc (Below.refl wr.heap.size wr) _).block q (HO.out.lt q hq).2) ⟨wr.heap.size, 0, none⟩ 1 1 (mkCells ⟨mo, mt, mp⟩) rfl rfl (news3 (w := wr)) (by intro u hu; simp [mkCells] at hu; rcases hu with rfl | rfl | rfl <;> rfl) (by simp only [maxLen]; omega) (by omega) (by have := HB.out.size; simp; omega) ?_; intro v8 w8 hown8 hg8 hv8; have HO8 := hide hown8; have HB8 := hide ((balloc HB.out _).grown hg8 (by have := HB.out.size; simp; omega) (fun q hq => (HO.out.lt q hq).1)); clear hown8 hg8 hv8)
        | fail)
      go_roundw
      case rel =>
        refine ⟨nv + 1, by omega, by go_num, ?_, HB8.out⟩
        rw [HTK.out, List.flatMap_append]
        simpa using HO8.out
      case measure => simp [intOf]; omega
    · obtain rfl : nv = n := by omega
      have dk : decide ((nv : Int) < nv) = false := decide_eq_false (by omega)
      have x2 : wr.cell? ⟨X, 2, none⟩ = some (.int .i64 (-1)) := box_cell HXR.out 2
      have x3 : wr.cell? ⟨X, 3, none⟩ = some (.int .i64 (-1)) := box_cell HXR.out 3
      have x4 : wr.cell? ⟨X, 4, none⟩ = some (.int .i64 0) := box_cell HXR.out 4
      have x5 : wr.cell? ⟨X, 5, none⟩ = some (.bool false) := box_cell HXR.out 5
      have f1 : wr.frozen? ⟨X, 1, none⟩ = false := box_free HXR.out 1
      have f2 : wr.frozen? ⟨X, 2, none⟩ = false := box_free HXR.out 2
      have f3 : wr.frozen? ⟨X, 3, none⟩ = false := box_free HXR.out 3
      have f4 : wr.frozen? ⟨X, 4, none⟩ = false := box_free HXR.out 4
      have f5 : wr.frozen? ⟨X, 5, none⟩ = false := box_free HXR.out 5
      have hof : wr.ownsRow w.heap.size 110 3 (.slice Av nv cv) nv (ms.flatMap mkCells) := by
        have := HO.out
        rwa [List.take_of_length_le (by have := HNE.out; omega)] at this
      have HQ : Hid (QCt w (wr.setCell ⟨X, 1, none⟩ (.slice Av nv cv)) X (.slice Av nv cv) ms) := hide ⟨grown_setX ⟨HB.out.os, HB.out.tape, HB.out.output, HB.out.size, fun k hk _ => HB.out.block k hk⟩ 1 _, World.cell?_setCell_same _ _ _ x1, by
        rw [← HNE.out]
        exact ownsRow_same hof fun g hg => Below.heap_setCell _ _ _ _ (by have := (hof.lt g hg).1; show g ≠ X; omega), hX, fun j hj => by
        have hbx := heap_setCell_same wr X 1 _ _ (.slice Av nv cv) HXR.out
        exact ⟨(match j, hj with
          | 0, _ => ⟨_, box_cell hbx 0⟩
          | 1, _ => ⟨_, box_cell hbx 1⟩
          | 2, _ => ⟨_, box_cell hbx 2⟩
          | 3, _ => ⟨_, box_cell hbx 3⟩
          | 4, _ => ⟨_, box_cell hbx 4⟩
          | 5, _ => ⟨_, box_cell hbx 5⟩), box_free hbx j⟩⟩
      clear hof HC HP HO
      go_upto_region 11 with fail
      obtain ⟨W5, hW5⟩ : ∃ W5, W5 = ((((wr.setCell ⟨X, 1, none⟩ (.slice Av nv cv)).setCell ⟨X, 2, none⟩ (.int .i64 (-1))).setCell ⟨X, 3, none⟩ (.int .i64 (-1))).setCell ⟨X, 5, none⟩ (.bool false)).setCell ⟨X, 4, none⟩ (.int .i64 0) := ⟨_, rfl⟩
      have HQ5 : Hid (QCt w W5 X (.slice Av nv cv) ms) := hide (by rw [hW5]; exact (((HQ.out.set 2 (by omega) _).set 3 (by omega) _).set 5 (by omega) _).set 4 (by omega) _)
      rw [← hW5]
      clear hW5 HQ x1 x2 x3 x4 x5 f1 f2 f3 f4 f5 HXR HX HB
      cases nv with
      | zero =>
        go_wp2_with fail
        go_end0
        rw [HNE.out]
        exact ⟨rfl, _, HQ5.out.c1, HQ5.out.own, HQ5.out.grown⟩
      | succ nv =>
        obtain ⟨Aq, cq, e0, hcq, hma⟩ := qmarks_at HQ5.out.own
        injection e0 with e1 e2 e3
        subst e1 e3
        obtain ⟨g, rfl, hgl, k0, k1, k2⟩ := hma.at_ nv (by have := HNE.out; omega)
        clear hma e2
        obtain ⟨m, hm⟩ : ∃ m, m = ms.getD nv Ix.z0 := ⟨_, rfl⟩
        rw [← hm] at k0 k1 k2
        clear hm
        obtain ⟨mo, mt, mp⟩ := m
        simp only at k0 k1 k2
        have hw : IntKind.i64.wrap (((nv + 1 : Nat) : Int) - 1) = (nv : Int) := by rw [IntKind.wrap_i64]; omega
        go_upto_region 13 with fail
        have hb6 : Below W5.heap.size W5 (W5.alloc (.cells #[.int .i64 mo, .int .i64 mt, .int .i64 mp] 110)) := balloc (Below.refl _ _) _
        have HQ6 := hide (HQ5.out.quiet hb6)
        have m0 : (W5.alloc (.cells #[.int .i64 mo, .int .i64 mt, .int .i64 mp] 110)).cell? ⟨W5.heap.size, 0, none⟩ = some (.int .i64 mo) := by rw [World.cell?_alloc_mark]; rfl
        have m1 : (W5.alloc (.cells #[.int .i64 mo, .int .i64 mt, .int .i64 mp] 110)).cell? ⟨W5.heap.size, 1, none⟩ = some (.int .i64 mt) := by rw [World.cell?_alloc_mark]; rfl
        have m2 : (W5.alloc (.cells #[.int .i64 mo, .int .i64 mt, .int .i64 mp] 110)).cell? ⟨W5.heap.size, 2, none⟩ = some (.int .i64 mp) := by rw [World.cell?_alloc_mark]; rfl
        have hXB : X ≠ W5.heap.size := by have := HQ5.out.lt; have := HQ5.out.grown.size; omega
        clear hb6 HQ5 k0 k1 k2 hgl
        generalize W5.alloc (.cells #[.int .i64 mo, .int .i64 mt, .int .i64 mp] 110) = W6 at *
        generalize W5.heap.size = gm at *
        obtain ⟨y2, hy2⟩ := (HQ6.out.cs 2 (by omega)).1
        obtain ⟨y3, hy3⟩ := (HQ6.out.cs 3 (by omega)).1
        obtain ⟨y4, hy4⟩ := (HQ6.out.cs 4 (by omega)).1
        obtain ⟨y5, hy5⟩ := (HQ6.out.cs 5 (by omega)).1
        have z2 := (HQ6.out.cs 2 (by omega)).2
        have z3 := (HQ6.out.cs 3 (by omega)).2
        have z4 := (HQ6.out.cs 4 (by omega)).2
        have z5 := (HQ6.out.cs 5 (by omega)).2
        go_wp2_with fail
        go_end0
        have HF := (((HQ6.out.set 2 (by omega) (.int .i64 mo)).set 3 (by omega) (.int .i64 mp)).set 4 (by omega) (.int .i64 mt)).set 5 (by omega) (.bool true)
        rw [HNE.out]
        exact ⟨rfl, _, HF.c1, HF.own, HF.grown⟩
end Go.Proofs.YtoaioijgmbhhnaaDoor
