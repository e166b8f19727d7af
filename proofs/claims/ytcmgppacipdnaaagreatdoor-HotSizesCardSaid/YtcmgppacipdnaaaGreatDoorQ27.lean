/-
  A segment in memory: where its edges lie; what is asked of the last one.
-/
import Derived.Test.YtcmgppacipdnaaaGreatDoorQ16
import Derived.Test.YtcmgppacipdnaaaGreatDoorQ24
import Derived.Test.YtcmgppacipdnaaaGreatDoorQ26
import Derived.Deep.LoopGhost
import Derived.Deep.RegionLaw
namespace Go.Proofs.YtcmgppacipdnaaaGreatDoor
open Go.RowKit

abbrev egCells (e : Sg.Edge) : List Value := [.int .i64 e.off, .int .i64 e.pos, .int .i64 e.ep, .int .i64 e.time]
theorem eg_at (l : List Sg.Edge) (k : Nat) (hk : k < l.length) : (l.flatMap egCells)[k * 4]? = some (.int .i64 (Sg.ed l k).off) ∧ (l.flatMap egCells)[k * 4 + 1]? = some (.int .i64 (Sg.ed l k).pos) ∧ (l.flatMap egCells)[k * 4 + 2]? = some (.int .i64 (Sg.ed l k).ep) ∧ (l.flatMap egCells)[k * 4 + 3]? = some (.int .i64 (Sg.ed l k).time) := by
  induction l generalizing k with
  | nil => simp at hk
  | cons e l ih =>
    cases k with
    | zero => simp [Sg.ed]
    | succ k =>
      have := ih k (by simp at hk; omega)
      simp only [List.flatMap_cons]
      rw [List.getElem?_append_right (by simp; omega), List.getElem?_append_right (by simp; omega), List.getElem?_append_right (by simp; omega), List.getElem?_append_right (by simp; omega)]
      simp only [List.length_cons, List.length_nil]
      rw [show (k + 1) * 4 - (0 + 1 + 1 + 1 + 1) = k * 4 by omega, show (k + 1) * 4 + 1 - (0 + 1 + 1 + 1 + 1) = k * 4 + 1 by omega, show (k + 1) * 4 + 2 - (0 + 1 + 1 + 1 + 1) = k * 4 + 2 by omega, show (k + 1) * 4 + 3 - (0 + 1 + 1 + 1 + 1) = k * 4 + 3 by omega]
      exact this
theorem edge_info : (Tryz.prog.info? 138).map (fun i => (i.zero, i.size, i.bytes)) = some (some (.agg #[.int .i64 0, .int .i64 0, .int .i64 0, .int .i64 0]), 4, 32) := by kernel_rfl
/-- A row of edges, as it is read. -/
structure EgAt (w : World) (A : Option Addr) (c : Nat) (l : List Sg.Edge) : Prop where
  le : l.length ≤ c
  mx : c ≤ 9223372036854775807
  at_ : ∀ k, k < l.length → ∃ g, A = some ⟨g, 0, none⟩ ∧ g < w.heap.size ∧ w.cell? ⟨g, k * 4, none⟩ = some (.int .i64 (Sg.ed l k).off) ∧ w.cell? ⟨g, k * 4 + 1, none⟩ = some (.int .i64 (Sg.ed l k).pos) ∧ w.cell? ⟨g, k * 4 + 2, none⟩ = some (.int .i64 (Sg.ed l k).ep) ∧ w.cell? ⟨g, k * 4 + 3, none⟩ = some (.int .i64 (Sg.ed l k).time)
theorem edges_at {w : World} {base : Nat} {v : Value} {l : List Sg.Edge} (h : w.ownsRow base 138 4 v l.length (l.flatMap egCells)) : ∃ A c, v = .slice A l.length c ∧ EgAt w A c l := by
  rcases h.2 with ⟨e, k0⟩ | ⟨g, cap, cur, e, _, hh, hcap, hmx, _⟩
  · exact ⟨_, _, by rw [e, k0], by omega, by omega, fun k hk => by omega⟩
  · refine ⟨_, _, e, by omega, by simp only [maxLen] at hmx; omega, fun k hk => ⟨g, rfl, (Array.getElem?_eq_some_iff.1 hh).1, ?_⟩⟩
    obtain ⟨k1, k2, k3, k4⟩ := eg_at l k hk
    have hc := h.cells (g := g) (by rw [e]; rfl)
    refine ⟨?_, ?_, ?_, ?_⟩
    · have := hc _ _ k1; rwa [Addr.add_lit, Nat.zero_add] at this
    · have := hc _ _ k2; rwa [Addr.add_lit, Nat.zero_add] at this
    · have := hc _ _ k3; rwa [Addr.add_lit, Nat.zero_add] at this
    · have := hc _ _ k4; rwa [Addr.add_lit, Nat.zero_add] at this
theorem EgAt.below {w w' : World} {A : Option Addr} {c : Nat} {l : List Sg.Edge} (h : EgAt w A c l) (hb : Below w.heap.size w w') : EgAt w' A c l :=
  ⟨h.le, h.mx, fun k hk => by
    obtain ⟨g, e, hg, h0, h1, h2, h3⟩ := h.at_ k hk
    exact ⟨g, e, Nat.lt_of_lt_of_le hg hb.size, (hb.cell (p := ⟨g, k * 4, none⟩) hg).trans h0, (hb.cell (p := ⟨g, k * 4 + 1, none⟩) hg).trans h1, (hb.cell (p := ⟨g, k * 4 + 2, none⟩) hg).trans h2, (hb.cell (p := ⟨g, k * 4 + 3, none⟩) hg).trans h3⟩⟩

def sgCells (D : Nat) (s : Sg.St) (v : Value) : Array Value := #[.pointer (some ⟨D, 0, none⟩), encStr s.file, .int .i64 s.every, v, .int .i64 s.synced]
/-- A segment whose own blocks are T's. -/
structure SegL (w : World) (X D : Nat) (v : Value) (s : Sg.St) (T : Nat → Prop) : Prop where
  box : w.heap[X]? = some (.cells (sgCells D s v) 141 (0, 0))
  own : w.ownsRow 0 138 4 v s.edges.length (s.edges.flatMap egCells)
  mX : T X
  mE : ∀ g, v.ownBlock = some g → T g
def SegAt (w : World) (X D : Nat) (s : Sg.St) (T : Nat → Prop) : Prop := ∃ v, SegL w X D v s T
section
variable {w w' : World} {X D : Nat} {v : Value} {s : Sg.St} {T T' : Nat → Prop}
theorem SegL.same (h : SegL w X D v s T) (hk : ∀ k, T k → k < w.heap.size → w'.heap[k]? = w.heap[k]?) : SegL w' X D v s T :=
  ⟨(hk _ h.mX (Array.getElem?_eq_some_iff.1 h.box).1).trans h.box, ownsRow_same h.own fun g hg => hk g (h.mE g hg) (h.own.lt g hg).2, h.mX, h.mE⟩
theorem SegL.below (h : SegL w X D v s T) (hb : Below w.heap.size w w') : SegL w' X D v s T := h.same fun k _ hk => hb.block k hk
theorem SegL.mono (h : SegL w X D v s T) (hT : ∀ k, T k → T' k) : SegL w X D v s T' := ⟨h.box, h.own, hT _ h.mX, fun g hg => hT _ (h.mE g hg)⟩
theorem SegAt.same (h : SegAt w X D s T) (hk : ∀ k, T k → k < w.heap.size → w'.heap[k]? = w.heap[k]?) : SegAt w' X D s T := by
  obtain ⟨v, h⟩ := h; exact ⟨v, h.same hk⟩
theorem SegAt.below (h : SegAt w X D s T) (hb : Below w.heap.size w w') : SegAt w' X D s T := h.same fun k _ hk => hb.block k hk
theorem SegAt.mono (h : SegAt w X D s T) (hT : ∀ k, T k → T' k) : SegAt w X D s T' := by
  obtain ⟨v, h⟩ := h; exact ⟨v, h.mono hT⟩
theorem SegL.lt (h : SegL w X D v s T) : X < w.heap.size := (Array.getElem?_eq_some_iff.1 h.box).1
/-- What lies in its box, and its edges. -/
theorem SegL.cells (h : SegL w X D v s T) : ∃ A c, v = .slice A s.edges.length c ∧ EgAt w A c s.edges ∧ w.cell? ⟨X, 0, none⟩ = some (.pointer (some ⟨D, 0, none⟩)) ∧ w.cell? ⟨X, 1, none⟩ = some (encStr s.file) ∧ w.cell? ⟨X, 2, none⟩ = some (.int .i64 s.every) ∧ w.cell? ⟨X, 3, none⟩ = some (.slice A s.edges.length c) ∧ w.cell? ⟨X, 4, none⟩ = some (.int .i64 s.synced) := by
  obtain ⟨A, c, e, h2⟩ := edges_at h.own
  subst e
  exact ⟨A, c, rfl, h2, box_cell h.box 0, box_cell h.box 1, box_cell h.box 2, box_cell h.box 3, box_cell h.box 4⟩
end
theorem fld0 (a b c d : Int) : ∀ W : World, (Instr.field 138 (.agg #[.int .i64 a, .int .i64 b, .int .i64 c, .int .i64 d]) 0).run Tryz.prog W = .ok (.int .i64 a) W := fun _ => by kernel_rfl
theorem fld1 (a b c d : Int) : ∀ W : World, (Instr.field 138 (.agg #[.int .i64 a, .int .i64 b, .int .i64 c, .int .i64 d]) 1).run Tryz.prog W = .ok (.int .i64 b) W := fun _ => by kernel_rfl
theorem fld2 (a b c d : Int) : ∀ W : World, (Instr.field 138 (.agg #[.int .i64 a, .int .i64 b, .int .i64 c, .int .i64 d]) 2).run Tryz.prog W = .ok (.int .i64 c) W := fun _ => by kernel_rfl
theorem fld3 (a b c d : Int) : ∀ W : World, (Instr.field 138 (.agg #[.int .i64 a, .int .i64 b, .int .i64 c, .int .i64 d]) 3).run Tryz.prog W = .ok (.int .i64 d) W := fun _ => by kernel_rfl
abbrev egV (e : Sg.Edge) : Value := .agg #[.int .i64 e.off, .int .i64 e.pos, .int .i64 e.ep, .int .i64 e.time]

set_option maxRecDepth 100000 in
theorem sgLast_any (X D : Nat) (s : Sg.St) (T : Nat → Prop) (w : World) (h : SegAt w X D s T) (ho : Sg.Ok s) :
    Calls Tryz.prog 96 #[.pointer (some ⟨X, 0, none⟩)] w fun e w' => e = .returned (egV (Sg.last s.edges)) ∧ Below w.heap.size w w' := by
  obtain ⟨v, h⟩ := h
  obtain ⟨A, c, rfl, he, -, -, -, c3, -⟩ := h.cells
  have hne := List.length_pos_iff.2 ho.ne
  have hlen := ho.len
  obtain ⟨g, rfl, hg, k0, k1, k2, k3⟩ := he.at_ (s.edges.length - 1) (by omega)
  have hX := h.lt
  have hle := he.le
  have hmx := he.mx
  have hlast : Sg.ed s.edges (s.edges.length - 1) = Sg.last s.edges := rfl
  rw [hlast] at k0 k1 k2 k3
  generalize Sg.last s.edges = m at *
  obtain ⟨n, hn⟩ : ∃ n, s.edges.length = n + 1 := ⟨s.edges.length - 1, by omega⟩
  rw [hn] at c3 hle hlen k0 k1 k2 k3
  rw [Nat.add_sub_cancel] at k0 k1 k2 k3
  obtain ⟨mo, mp, me, mt⟩ := m
  simp only at k0 k1 k2 k3
  have hb : Below w.heap.size w (w.alloc (.cells #[.int .i64 0, .int .i64 0, .int .i64 0, .int .i64 0] 138)) := balloc (Below.refl _ _) _
  replace k0 := (hb.cell (p := ⟨g, n * 4, none⟩) hg).trans k0
  replace k1 := (hb.cell (p := ⟨g, n * 4 + 1, none⟩) hg).trans k1
  replace k2 := (hb.cell (p := ⟨g, n * 4 + 2, none⟩) hg).trans k2
  replace k3 := (hb.cell (p := ⟨g, n * 4 + 3, none⟩) hg).trans k3
  replace c3 := (hb.cell (p := ⟨X, 3, none⟩) hX).trans c3
  have hw : IntKind.i64.wrap (((n + 1 : Nat) : Int) - 1) = (n : Int) := by rw [IntKind.wrap_i64]; omega
  have hgw : g ≠ w.heap.size := by omega
  have hXw : X ≠ w.heap.size := by omega
  clear h ho he hlast hn hne
  go_enter Tryz.func96, Tryz.ntmps96
  go_upto_region 1 with fail
  go_region
  all_goals
    go_wp2_with fail
    refine bodyPost_ret (v := egV ⟨mo, mp, me, mt⟩) (by simp [results, Tryz.results96, go_sem]; try rfl) rfl ?_
    exact ⟨rfl, (balloc (Below.refl _ _) _).drew⟩

set_option maxRecDepth 100000 in
theorem sgEnd_any (X D : Nat) (s : Sg.St) (T : Nat → Prop) (w : World) (h : SegAt w X D s T) (ho : Sg.Ok s) :
    Calls Tryz.prog 50 #[.pointer (some ⟨X, 0, none⟩)] w fun e w' => e = .returned (.int .i64 (Sg.last s.edges).off) ∧ Below w.heap.size w w' := by
  have HL := hide (sgLast_any X D s T w h ho)
  clear h ho
  generalize Sg.last s.edges = m at *
  obtain ⟨mo, mp, me, mt⟩ := m
  unfold egV at HL
  simp only at HL
  have hfd := fld0 mo mp me mt
  go_enter Tryz.func50, Tryz.ntmps50
  go_wp2_with (first
    | (go_at_call 96; refine HL.out.mono ?_; rintro e w1 ⟨rfl, hb⟩; have HB := hide hb; clear hb)
    | fail)
  go_ret
  exact ⟨rfl, HB.out⟩
set_option maxRecDepth 100000 in
theorem sgSize_any (X D : Nat) (s : Sg.St) (T : Nat → Prop) (w : World) (h : SegAt w X D s T) (ho : Sg.Ok s) :
    Calls Tryz.prog 51 #[.pointer (some ⟨X, 0, none⟩)] w fun e w' => e = .returned (.int .i64 (Sg.last s.edges).pos) ∧ Below w.heap.size w w' := by
  have HL := hide (sgLast_any X D s T w h ho)
  clear h ho
  generalize Sg.last s.edges = m at *
  obtain ⟨mo, mp, me, mt⟩ := m
  unfold egV at HL
  simp only at HL
  have hfd := fld1 mo mp me mt
  go_enter Tryz.func51, Tryz.ntmps51
  go_wp2_with (first
    | (go_at_call 96; refine HL.out.mono ?_; rintro e w1 ⟨rfl, hb⟩; have HB := hide hb; clear hb)
    | fail)
  go_ret
  exact ⟨rfl, HB.out⟩
set_option maxRecDepth 100000 in
theorem sgTime_any (X D : Nat) (s : Sg.St) (T : Nat → Prop) (w : World) (h : SegAt w X D s T) (ho : Sg.Ok s) :
    Calls Tryz.prog 88 #[.pointer (some ⟨X, 0, none⟩)] w fun e w' => e = .returned (.int .i64 (Sg.last s.edges).time) ∧ Below w.heap.size w w' := by
  have HL := hide (sgLast_any X D s T w h ho)
  clear h ho
  generalize Sg.last s.edges = m at *
  obtain ⟨mo, mp, me, mt⟩ := m
  unfold egV at HL
  simp only at HL
  have hfd := fld3 mo mp me mt
  go_enter Tryz.func88, Tryz.ntmps88
  go_wp2_with (first
    | (go_at_call 96; refine HL.out.mono ?_; rintro e w1 ⟨rfl, hb⟩; have HB := hide hb; clear hb)
    | fail)
  go_ret
  exact ⟨rfl, HB.out⟩
set_option maxRecDepth 100000 in
theorem sgBase_any (X D : Nat) (s : Sg.St) (T : Nat → Prop) (w : World) (h : SegAt w X D s T) (ho : Sg.Ok s) :
    Calls Tryz.prog 49 #[.pointer (some ⟨X, 0, none⟩)] w fun e w' => e = .returned (.int .i64 (Sg.ed s.edges 0).off) ∧ Below w.heap.size w w' := by
  obtain ⟨v, h⟩ := h
  obtain ⟨A, c, rfl, he, -, -, -, c3, -⟩ := h.cells
  have hne := List.length_pos_iff.2 ho.ne
  obtain ⟨g, rfl, hg, k0, -⟩ := he.at_ 0 hne
  have hle := he.le
  have hmx := he.mx
  generalize (Sg.ed s.edges 0).off = m at *
  generalize s.edges.length = n at *
  rw [Nat.zero_mul] at k0
  clear h ho he
  go_enter Tryz.func49, Tryz.ntmps49
  go_wp2_with fail
  go_ret
  exact ⟨rfl, Below.refl _ _⟩
end Go.Proofs.YtcmgppacipdnaaaGreatDoor
