/-
  A segment, plainly: its edges; what stands behind the last one.
  A segment in memory: where its edges lie; what is asked of the last one.
  A statement whose order is open, one of whose operations changes memory in the midst, and whose last one stores: each operation is shown once. Nothing of any program is named here.
  Package seg: add: one more edge.
-/
import Derived.Test.YtfdppggdgdnnaaaGreatDoorZ3
import Derived.Test.YtfdppggdgdnnaaaGreatDoorZ4
import Derived.Test.YtfdppggdgdnnaaaGreatDoorZ7
import Derived.Test.YtfdppggdgdnnaaaGreatDoorZ8
import Derived.Deep.LoopGhost
import Derived.Deep.RegionLaw
namespace Go.Proofs.YtfdppggdgdnnaaaGreatDoor.Sg

/-- What a segment comes to up to there. -/
structure Edge where
  off : Int
  pos : Int
  ep : Int
  time : Int
instance : Inhabited Edge := ⟨⟨0, 0, 0, 0⟩⟩
def ed (l : List Edge) (i : Nat) : Edge := l.getD i default
def last (l : List Edge) : Edge := ed l (l.length - 1)
theorem last_snoc (l : List Edge) (e : Edge) : last (l ++ [e]) = e := by
  unfold last ed
  rw [List.length_append, List.length_singleton, Nat.add_sub_cancel]
  simp [List.getD]
/-- The edge behind a batch. -/
def step (e : Edge) (b : Rc.Bat) (size : Nat) : Edge := ⟨b.base + b.recs.length, e.pos + size, b.epoch, if 0 < e.pos then max (Rc.maxT b.recs) e.time else Rc.maxT b.recs⟩
/-- May b stand behind the last batch? -/
def follows (l : List Edge) (b : Rc.Bat) : Bool := decide (b.base = (last l).off) && decide ((last l).ep ≤ b.epoch)
structure St where
  file : Dk.Nm
  every : Int
  edges : List Edge
  synced : Int
def begin (file : Dk.Nm) (base every : Int) : St := ⟨file, every, [⟨base, 0, 0, 0⟩], 0⟩
def St.add (s : St) (b : Rc.Bat) (size : Nat) : St := { s with edges := s.edges ++ [step (last s.edges) b size] }
/-- Numbers that stay within their bounds. -/
structure Ok (s : St) : Prop where
  ne : s.edges ≠ []
  len : s.edges.length ≤ 100000
  off : ∀ e ∈ s.edges, 0 ≤ e.off ∧ e.off ≤ 1099511627776
  pos : ∀ e ∈ s.edges, 0 ≤ e.pos ∧ e.pos ≤ 1000000000
  ep : ∀ e ∈ s.edges, 0 ≤ e.ep ∧ e.ep ≤ 1073741824
  time : ∀ e ∈ s.edges, -1099511627776 ≤ e.time ∧ e.time ≤ 1099511627776
  every : 1 ≤ s.every ∧ s.every ≤ 1048576
theorem ed_mem {l : List Edge} {i : Nat} (h : i < l.length) : ed l i ∈ l := by
  unfold ed
  rw [show l.getD i default = l[i] from by simp [List.getD, h]]
  exact List.getElem_mem h
theorem last_mem {l : List Edge} (h : l ≠ []) : last l ∈ l := ed_mem (by have := List.length_pos_iff.2 h; omega)
theorem begin_ok (file : Dk.Nm) {base every : Int} (h0 : 0 ≤ base ∧ base ≤ 1099511627776) (h1 : 1 ≤ every ∧ every ≤ 1048576) : Ok (begin file base every) := by
  refine ⟨by simp [begin], by simp [begin], ?_, ?_, ?_, ?_, h1⟩ <;> intro e he <;> simp only [begin, List.mem_singleton] at he <;> subst he <;> simp only <;> omega
end Go.Proofs.YtfdppggdgdnnaaaGreatDoor.Sg

namespace Go.Proofs.YtfdppggdgdnnaaaGreatDoor
open Go.RowKit

abbrev egCells (e : Sg.Edge) : List Value := [.int .i64 e.off, .int .i64 e.pos, .int .i64 e.ep, .int .i64 e.time]
theorem eg_at (l : List Sg.Edge) (k : Nat) (hk : k < l.length) : (l.flatMap egCells)[k * 4]? = some (.int .i64 (Sg.ed l k).off) ∧ (l.flatMap egCells)[k * 4 + 1]? = some (.int .i64 (Sg.ed l k).pos) ∧ (l.flatMap egCells)[k * 4 + 2]? = some (.int .i64 (Sg.ed l k).ep) ∧ (l.flatMap egCells)[k * 4 + 3]? = some (.int .i64 (Sg.ed l k).time) := by
  induction l generalizing k with
  | nil => simp at hk
  | cons e l ih =>
    cases k with
    | zero => simp [Sg.ed]
    | succ k =>
      have := ih k (by simp at hk; omega)
      simp only [List.flatMap_cons]
      rw [List.getElem?_append_right (by simp; omega), List.getElem?_append_right (by simp; omega), List.getElem?_append_right (by simp; omega), List.getElem?_append_right (by simp; omega)]
      simp only [List.length_cons, List.length_nil]
      rw [show (k + 1) * 4 - (0 + 1 + 1 + 1 + 1) = k * 4 by omega, show (k + 1) * 4 + 1 - (0 + 1 + 1 + 1 + 1) = k * 4 + 1 by omega, show (k + 1) * 4 + 2 - (0 + 1 + 1 + 1 + 1) = k * 4 + 2 by omega, show (k + 1) * 4 + 3 - (0 + 1 + 1 + 1 + 1) = k * 4 + 3 by omega]
      exact this
theorem edge_info : (Tryz.prog.info? 106).map (fun i => (i.zero, i.size, i.bytes)) = some (some (.agg #[.int .i64 0, .int .i64 0, .int .i64 0, .int .i64 0]), 4, 32) := by kernel_rfl
/-- A row of edges, as it is read. -/
structure EgAt (w : World) (A : Option Addr) (c : Nat) (l : List Sg.Edge) : Prop where
  le : l.length ≤ c
  mx : c ≤ 9223372036854775807
  at_ : ∀ k, k < l.length → ∃ g, A = some ⟨g, 0, none⟩ ∧ g < w.heap.size ∧ w.cell? ⟨g, k * 4, none⟩ = some (.int .i64 (Sg.ed l k).off) ∧ w.cell? ⟨g, k * 4 + 1, none⟩ = some (.int .i64 (Sg.ed l k).pos) ∧ w.cell? ⟨g, k * 4 + 2, none⟩ = some (.int .i64 (Sg.ed l k).ep) ∧ w.cell? ⟨g, k * 4 + 3, none⟩ = some (.int .i64 (Sg.ed l k).time)
theorem edges_at {w : World} {base : Nat} {v : Value} {l : List Sg.Edge} (h : w.ownsRow base 106 4 v l.length (l.flatMap egCells)) : ∃ A c, v = .slice A l.length c ∧ EgAt w A c l := by
  rcases h.2 with ⟨e, k0⟩ | ⟨g, cap, cur, e, _, hh, hcap, hmx, _⟩
  · exact ⟨_, _, by rw [e, k0], by omega, by omega, fun k hk => by omega⟩
  · refine ⟨_, _, e, by omega, by simp only [maxLen] at hmx; omega, fun k hk => ⟨g, rfl, (Array.getElem?_eq_some_iff.1 hh).1, ?_⟩⟩
    obtain ⟨k1, k2, k3, k4⟩ := eg_at l k hk
    have hc := h.cells (g := g) (by rw [e]; rfl)
    refine ⟨?_, ?_, ?_, ?_⟩
    · have := hc _ _ k1; rwa [Addr.add_lit, Nat.zero_add] at this
    · have := hc _ _ k2; rwa [Addr.add_lit, Nat.zero_add] at this
    · have := hc _ _ k3; rwa [Addr.add_lit, Nat.zero_add] at this
    · have := hc _ _ k4; rwa [Addr.add_lit, Nat.zero_add] at this
theorem EgAt.below {w w' : World} {A : Option Addr} {c : Nat} {l : List Sg.Edge} (h : EgAt w A c l) (hb : Below w.heap.size w w') : EgAt w' A c l :=
  ⟨h.le, h.mx, fun k hk => by
    obtain ⟨g, e, hg, h0, h1, h2, h3⟩ := h.at_ k hk
    exact ⟨g, e, Nat.lt_of_lt_of_le hg hb.size, (hb.cell (p := ⟨g, k * 4, none⟩) hg).trans h0, (hb.cell (p := ⟨g, k * 4 + 1, none⟩) hg).trans h1, (hb.cell (p := ⟨g, k * 4 + 2, none⟩) hg).trans h2, (hb.cell (p := ⟨g, k * 4 + 3, none⟩) hg).trans h3⟩⟩

def sgCells (D : Nat) (s : Sg.St) (v : Value) : Array Value := #[.pointer (some ⟨D, 0, none⟩), encStr s.file, .int .i64 s.every, v, .int .i64 s.synced]
/-- A segment whose own blocks are T's. -/
structure SegL (w : World) (X D : Nat) (v : Value) (s : Sg.St) (T : Nat → Prop) : Prop where
  box : w.heap[X]? = some (.cells (sgCells D s v) 104 (0, 0))
  own : w.ownsRow 0 106 4 v s.edges.length (s.edges.flatMap egCells)
  mX : T X
  mE : ∀ g, v.ownBlock = some g → T g
def SegAt (w : World) (X D : Nat) (s : Sg.St) (T : Nat → Prop) : Prop := ∃ v, SegL w X D v s T
section
variable {w w' : World} {X D : Nat} {v : Value} {s : Sg.St} {T T' : Nat → Prop}
theorem SegL.same (h : SegL w X D v s T) (hk : ∀ k, T k → k < w.heap.size → w'.heap[k]? = w.heap[k]?) : SegL w' X D v s T :=
  ⟨(hk _ h.mX (Array.getElem?_eq_some_iff.1 h.box).1).trans h.box, ownsRow_same h.own fun g hg => hk g (h.mE g hg) (h.own.lt g hg).2, h.mX, h.mE⟩
theorem SegL.below (h : SegL w X D v s T) (hb : Below w.heap.size w w') : SegL w' X D v s T := h.same fun k _ hk => hb.block k hk
theorem SegL.mono (h : SegL w X D v s T) (hT : ∀ k, T k → T' k) : SegL w X D v s T' := ⟨h.box, h.own, hT _ h.mX, fun g hg => hT _ (h.mE g hg)⟩
theorem SegAt.same (h : SegAt w X D s T) (hk : ∀ k, T k → k < w.heap.size → w'.heap[k]? = w.heap[k]?) : SegAt w' X D s T := by
  obtain ⟨v, h⟩ := h; exact ⟨v, h.same hk⟩
theorem SegAt.below (h : SegAt w X D s T) (hb : Below w.heap.size w w') : SegAt w' X D s T := h.same fun k _ hk => hb.block k hk
theorem SegAt.mono (h : SegAt w X D s T) (hT : ∀ k, T k → T' k) : SegAt w X D s T' := by
  obtain ⟨v, h⟩ := h; exact ⟨v, h.mono hT⟩
theorem SegL.lt (h : SegL w X D v s T) : X < w.heap.size := (Array.getElem?_eq_some_iff.1 h.box).1
/-- What lies in its box, and its edges. -/
theorem SegL.cells (h : SegL w X D v s T) : ∃ A c, v = .slice A s.edges.length c ∧ EgAt w A c s.edges ∧ w.cell? ⟨X, 0, none⟩ = some (.pointer (some ⟨D, 0, none⟩)) ∧ w.cell? ⟨X, 1, none⟩ = some (encStr s.file) ∧ w.cell? ⟨X, 2, none⟩ = some (.int .i64 s.every) ∧ w.cell? ⟨X, 3, none⟩ = some (.slice A s.edges.length c) ∧ w.cell? ⟨X, 4, none⟩ = some (.int .i64 s.synced) := by
  obtain ⟨A, c, e, h2⟩ := edges_at h.own
  subst e
  exact ⟨A, c, rfl, h2, box_cell h.box 0, box_cell h.box 1, box_cell h.box 2, box_cell h.box 3, box_cell h.box 4⟩
end
theorem fld0 (a b c d : Int) : ∀ W : World, (Instr.field 106 (.agg #[.int .i64 a, .int .i64 b, .int .i64 c, .int .i64 d]) 0).run Tryz.prog W = .ok (.int .i64 a) W := fun _ => by kernel_rfl
theorem fld1 (a b c d : Int) : ∀ W : World, (Instr.field 106 (.agg #[.int .i64 a, .int .i64 b, .int .i64 c, .int .i64 d]) 1).run Tryz.prog W = .ok (.int .i64 b) W := fun _ => by kernel_rfl
theorem fld2 (a b c d : Int) : ∀ W : World, (Instr.field 106 (.agg #[.int .i64 a, .int .i64 b, .int .i64 c, .int .i64 d]) 2).run Tryz.prog W = .ok (.int .i64 c) W := fun _ => by kernel_rfl
theorem fld3 (a b c d : Int) : ∀ W : World, (Instr.field 106 (.agg #[.int .i64 a, .int .i64 b, .int .i64 c, .int .i64 d]) 3).run Tryz.prog W = .ok (.int .i64 d) W := fun _ => by kernel_rfl
abbrev egV (e : Sg.Edge) : Value := .agg #[.int .i64 e.off, .int .i64 e.pos, .int .i64 e.ep, .int .i64 e.time]

set_option maxRecDepth 100000 in
theorem sgLast_any (X D : Nat) (s : Sg.St) (T : Nat → Prop) (w : World) (h : SegAt w X D s T) (ho : Sg.Ok s) :
    Calls Tryz.prog 59 #[.pointer (some ⟨X, 0, none⟩)] w fun e w' => e = .returned (egV (Sg.last s.edges)) ∧ Below w.heap.size w w' := by
  obtain ⟨v, h⟩ := h
  obtain ⟨A, c, rfl, he, -, -, -, c3, -⟩ := h.cells
  have hne := List.length_pos_iff.2 ho.ne
  have hlen := ho.len
  obtain ⟨g, rfl, hg, k0, k1, k2, k3⟩ := he.at_ (s.edges.length - 1) (by omega)
  have hX := h.lt
  have hle := he.le
  have hmx := he.mx
  have hlast : Sg.ed s.edges (s.edges.length - 1) = Sg.last s.edges := rfl
  rw [hlast] at k0 k1 k2 k3
  generalize Sg.last s.edges = m at *
  obtain ⟨n, hn⟩ : ∃ n, s.edges.length = n + 1 := ⟨s.edges.length - 1, by omega⟩
  rw [hn] at c3 hle hlen k0 k1 k2 k3
  rw [Nat.add_sub_cancel] at k0 k1 k2 k3
  obtain ⟨mo, mp, me, mt⟩ := m
  simp only at k0 k1 k2 k3
  have hb : Below w.heap.size w (w.alloc (.cells #[.int .i64 0, .int .i64 0, .int .i64 0, .int .i64 0] 106)) := balloc (Below.refl _ _) _
  replace k0 := (hb.cell (p := ⟨g, n * 4, none⟩) hg).trans k0
  replace k1 := (hb.cell (p := ⟨g, n * 4 + 1, none⟩) hg).trans k1
  replace k2 := (hb.cell (p := ⟨g, n * 4 + 2, none⟩) hg).trans k2
  replace k3 := (hb.cell (p := ⟨g, n * 4 + 3, none⟩) hg).trans k3
  replace c3 := (hb.cell (p := ⟨X, 3, none⟩) hX).trans c3
  have hw : IntKind.i64.wrap (((n + 1 : Nat) : Int) - 1) = (n : Int) := by rw [IntKind.wrap_i64]; omega
  have hgw : g ≠ w.heap.size := by omega
  have hXw : X ≠ w.heap.size := by omega
  clear h ho he hlast hn hne
  go_enter Tryz.func59, Tryz.ntmps59
  go_upto_region 1 with fail
  go_region
  all_goals
    go_wp2_with fail
    refine bodyPost_ret (v := egV ⟨mo, mp, me, mt⟩) (by simp [results, Tryz.results59, go_sem]; try rfl) rfl ?_
    exact ⟨rfl, (balloc (Below.refl _ _) _).drew⟩

set_option maxRecDepth 100000 in
theorem sgEnd_any (X D : Nat) (s : Sg.St) (T : Nat → Prop) (w : World) (h : SegAt w X D s T) (ho : Sg.Ok s) :
    Calls Tryz.prog 23 #[.pointer (some ⟨X, 0, none⟩)] w fun e w' => e = .returned (.int .i64 (Sg.last s.edges).off) ∧ Below w.heap.size w w' := by
  have HL := hide (sgLast_any X D s T w h ho)
  clear h ho
  generalize Sg.last s.edges = m at *
  obtain ⟨mo, mp, me, mt⟩ := m
  unfold egV at HL
  simp only at HL
  have hfd := fld0 mo mp me mt
  go_enter Tryz.func23, Tryz.ntmps23
  go_wp2_with (first
    | (go_at_call 59; refine HL.out.mono ?_; rintro e w1 ⟨rfl, hb⟩; have HB := hide hb; clear hb)
    | fail)
  go_ret
  exact ⟨rfl, HB.out⟩
set_option maxRecDepth 100000 in
theorem sgSize_any (X D : Nat) (s : Sg.St) (T : Nat → Prop) (w : World) (h : SegAt w X D s T) (ho : Sg.Ok s) :
    Calls Tryz.prog 24 #[.pointer (some ⟨X, 0, none⟩)] w fun e w' => e = .returned (.int .i64 (Sg.last s.edges).pos) ∧ Below w.heap.size w w' := by
  have HL := hide (sgLast_any X D s T w h ho)
  clear h ho
  generalize Sg.last s.edges = m at *
  obtain ⟨mo, mp, me, mt⟩ := m
  unfold egV at HL
  simp only at HL
  have hfd := fld1 mo mp me mt
  go_enter Tryz.func24, Tryz.ntmps24
  go_wp2_with (first
    | (go_at_call 59; refine HL.out.mono ?_; rintro e w1 ⟨rfl, hb⟩; have HB := hide hb; clear hb)
    | fail)
  go_ret
  exact ⟨rfl, HB.out⟩
set_option maxRecDepth 100000 in
theorem sgTime_any (X D : Nat) (s : Sg.St) (T : Nat → Prop) (w : World) (h : SegAt w X D s T) (ho : Sg.Ok s) :
    Calls Tryz.prog 25 #[.pointer (some ⟨X, 0, none⟩)] w fun e w' => e = .returned (.int .i64 (Sg.last s.edges).time) ∧ Below w.heap.size w w' := by
  have HL := hide (sgLast_any X D s T w h ho)
  clear h ho
  generalize Sg.last s.edges = m at *
  obtain ⟨mo, mp, me, mt⟩ := m
  unfold egV at HL
  simp only at HL
  have hfd := fld3 mo mp me mt
  go_enter Tryz.func25, Tryz.ntmps25
  go_wp2_with (first
    | (go_at_call 59; refine HL.out.mono ?_; rintro e w1 ⟨rfl, hb⟩; have HB := hide hb; clear hb)
    | fail)
  go_ret
  exact ⟨rfl, HB.out⟩
set_option maxRecDepth 100000 in
theorem sgBase_any (X D : Nat) (s : Sg.St) (T : Nat → Prop) (w : World) (h : SegAt w X D s T) (ho : Sg.Ok s) :
    Calls Tryz.prog 22 #[.pointer (some ⟨X, 0, none⟩)] w fun e w' => e = .returned (.int .i64 (Sg.ed s.edges 0).off) ∧ Below w.heap.size w w' := by
  obtain ⟨v, h⟩ := h
  obtain ⟨A, c, rfl, he, -, -, -, c3, -⟩ := h.cells
  have hne := List.length_pos_iff.2 ho.ne
  obtain ⟨g, rfl, hg, k0, -⟩ := he.at_ 0 hne
  have hle := he.le
  have hmx := he.mx
  generalize (Sg.ed s.edges 0).off = m at *
  generalize s.edges.length = n at *
  rw [Nat.zero_mul] at k0
  clear h ho he
  go_enter Tryz.func22, Tryz.ntmps22
  go_wp2_with fail
  go_ret
  exact ⟨rfl, Below.refl _ _⟩
end Go.Proofs.YtfdppggdgdnnaaaGreatDoor

namespace Go.Proofs.YtfdppggdgdnnaaaGreatDoor
open Go Go.RowKit

/-- Operation jj waits for operation i by its own word. -/
def isBef (ops : Array Oper) (jj i : Nat) : Bool := match ops[jj]? with
  | some o => o.after.any (fun e => e.on == i && Region.binds .any e)
  | none => false
theorem isBef_of {ops : Array Oper} {jj i : Nat} (h : isBef ops jj i = true) : ∃ oj, ops[jj]? = some oj ∧ ∃ e ∈ oj.after.toList, Region.binds .any e = true ∧ e.on = i := by
  unfold isBef at h
  cases ho : ops[jj]? with
  | none => rw [ho] at h; cases h
  | some o =>
    rw [ho] at h
    simp only [Array.any_eq_true, Bool.and_eq_true, beq_iff_eq] at h
    obtain ⟨k, hk, h2, h3⟩ := h
    exact ⟨o, rfl, o.after[k], by simp, h3, h2⟩

structure MidstA (G0 G : World → World → Prop) (jj : Nat) (P : Program) (ops : Array Oper) (D : Nat → Value → World → Prop) (a : Act) (w : World) (listed : Array Bool) (a' : Act) (w' : World) : Prop where
  size : a'.tmps.size = a.tmps.size
  defers : a'.defers = a.defers
  same : ∀ k, k ∉ dstsOf ops → a'.tmps[k]? = a.tmps[k]?
  below : G w w'
  pre : listed.getD jj false = false → G0 w w'
  known : ∀ i, i < ops.size - 1 → listed.getD i false = true → D (dstOf ops i) (a'.tmps.getD (dstOf ops i) undef) w'
  closed : ∀ (j : Nat) (o : Oper), ops[j]? = some o → listed.getD j false = true → ∀ e ∈ o.after.toList, Region.binds .any e = true → listed.getD e.on false = true

theorem wpAny_openA {G0 G : World → World → Prop} (hG0 : Goes G0) (hG : Goes G) (_hsub : ∀ a b, G0 a b → G a b) {jj : Nat} {P : Program} {ops : Array Oper} {Q : Exit → Act → World → Prop} {D : Nat → Value → World → Prop} {a : Act} {w : World} (hB : openForm2 ops = true)
    (hfit : ∀ d ∈ dstsOf ops, d < a.tmps.size)
    (hjj : jj < ops.size - 1)
    (stable : ∀ d v w1 w2, d ≠ dstOf ops jj → D d v w1 → G w1 w2 → D d v w2)
    (stableJ : ∀ v w1 w2, D (dstOf ops jj) v w1 → G0 w1 w2 → D (dstOf ops jj) v w2)
    (step : ∀ i o, i < ops.size - 1 → ops[i]? = some o → ∀ (ev : Operand → Value) w1, G w w1 → ((i = jj ∨ isBef ops jj i = true) → G0 w w1) → (∀ x, (∀ d ∈ dstsOf ops, x ≠ .tmp d) → ev x = a.eval x) →
      (∀ e ∈ o.after.toList, e.on < ops.size - 1 → Region.binds .any e = true → D (dstOf ops e.on) (ev (.tmp (dstOf ops e.on))) w1) → OpRuns P ev o w1 fun v w2 => (G w1 w2 ∧ (i ≠ jj → G0 w1 w2)) ∧ D (dstOf ops i) v w2)
    (last : ∀ o, ops[ops.size - 1]? = some o → ∀ f w1, G w w1 → (∀ d ∈ dstsOf ops, D d (f d) w1) → o.wp P (puts a f (dstsOf ops)) w1 (fun a' w' => Q .normal a' w') Q ∨ (o.asks P (puts a f (dstsOf ops)) w1 ∧ LetsOut Q)) :
    ∀ (fuel : Nat) (listed : Array Bool) (a' : Act) (w' : World), listed.size = ops.size → todo listed = fuel →
      (listed.getD (ops.size - 1) true = false → MidstA G0 G jj P ops D a w listed a' w') → (listed.getD (ops.size - 1) true = true → todo listed = 0 ∧ Q .normal a' w') → wpAny P .any ops Q fuel listed a' w' := by
  have hB' := hB
  simp only [openForm2, Bool.and_eq_true, decide_eq_true_eq, List.all_eq_true, List.mem_range] at hB'
  obtain ⟨⟨⟨hpos, hall⟩, hlast⟩, hnd⟩ := hB'
  -- each operation's own form
  have form : ∀ i o, ops[i]? = some o → o.guard = none ∧ (∀ e ∈ o.after.toList, e.on < i) ∧ (i = ops.size - 1 ∨ o.dst.isSome = true) := by
    intro i o ho
    have hi : i < ops.size := (Array.getElem?_eq_some_iff.1 ho).1
    have h := hall i hi
    rw [ho] at h
    simp only [Bool.and_eq_true, Bool.or_eq_true, decide_eq_true_eq, Option.isNone_iff_eq_none] at h
    refine ⟨h.1.1, fun e he => ?_, h.2⟩
    have := Array.all_eq_true_iff_forall_mem.1 h.1.2 e (by simpa using he)
    simpa using this
  -- where some are still to come one may come up
  have alive : ∀ listed : Array Bool, listed.size = ops.size → 0 < todo listed → Region.ready .any ops listed ≠ [] := by
    intro listed hs ht he
    obtain ⟨i, hi⟩ : ∃ i, i < ops.size ∧ listed.getD i true = false := by
      unfold todo at ht
      obtain ⟨i, hi, e⟩ := List.mem_iff_getElem.1 (List.count_pos_iff.1 ht)
      have hi' : i < listed.size := by simpa using hi
      exact ⟨i, by omega, by simpa [hi'] using e⟩
    obtain ⟨n, ⟨hn, hf⟩, hmin⟩ : ∃ n, (n < ops.size ∧ listed.getD n true = false) ∧ ∀ m, m < n → listed.getD m true = true := by
      have : ∀ k i, i < k → i < ops.size → listed.getD i true = false → ∃ n, (n < ops.size ∧ listed.getD n true = false) ∧ ∀ m, m < n → listed.getD m true = true := by
        intro k
        induction k with
        | zero => intro i h; omega
        | succ k ih =>
          intro i hik h1 h2
          by_cases hm : ∃ m, m < i ∧ listed.getD m true = false
          · obtain ⟨m, hmi, hmf⟩ := hm
            exact ih m (by omega) (by omega) hmf
          · refine ⟨i, ⟨h1, h2⟩, fun m hmi => ?_⟩
            rcases Bool.eq_false_or_eq_true (listed.getD m true) with h | h
            · exact h
            · exact absurd ⟨m, hmi, h⟩ hm
      exact this (i + 1) i (by omega) hi.1 hi.2
    have hmem : n ∈ Region.ready .any ops listed := by
      refine mem_ready.2 ⟨hf, ops[n], by simp [hn], fun e hee _ => ?_⟩
      have hlt := (form n ops[n] (by simp [hn])).2.1 e (by simpa using hee)
      have := hmin e.on hlt
      have hsz : e.on < listed.size := by omega
      simpa [hsz] using this
    rw [he] at hmem
    cases hmem
  intro fuel
  induction fuel with
  | zero =>
    intro listed a' w' hs ht _ hdone
    have hl : listed.getD (ops.size - 1) true = true := by
      rcases Bool.eq_false_or_eq_true (listed.getD (ops.size - 1) true) with h | h
      · exact h
      · have := todo_set (i := ops.size - 1) (listed := listed) (by omega) h
        omega
    refine ⟨?_, (hdone hl).2⟩
    match hr : Region.ready .any ops listed with
    | [] => rfl
    | i :: _ =>
      exfalso
      have hi : i ∈ Region.ready .any ops listed := by rw [hr]; exact List.mem_cons_self
      obtain ⟨h1, o, ho, _⟩ := mem_ready.1 hi
      have hlt : i < ops.size := (Array.getElem?_eq_some_iff.1 ho).1
      have := todo_set (i := i) (listed := listed) (by omega) h1
      omega
  | succ fuel ih =>
    intro listed a' w' hs ht hmid hdone
    refine ⟨fun he => absurd he (alive listed hs (by omega)), fun i hi => ?_⟩
    obtain ⟨h1, o, ho, hdeps⟩ := mem_ready.1 hi
    have hlt : i < ops.size := (Array.getElem?_eq_some_iff.1 ho).1
    have hset := todo_set (i := i) (listed := listed) (by omega) h1
    obtain ⟨hg, hon, hdst⟩ := form i o ho
    have hl : listed.getD (ops.size - 1) true = false := by
      rcases Bool.eq_false_or_eq_true (listed.getD (ops.size - 1) true) with h | h
      · have := (hdone h).1; omega
      · exact h
    have M := hmid hl
    unfold wpOp
    simp only [ho]
    rw [if_pos (by simp [Region.wanted, hg])]
    by_cases hil : i = ops.size - 1
    · -- the last: all others have come up
      subst hil
      have hallL : ∀ j, j < ops.size - 1 → listed.getD j false = true := by
        intro j hj
        have h := hlast j hj
        rw [ho] at h
        simp only [Bool.or_eq_true, Array.any_eq_true, Bool.and_eq_true, beq_iff_eq] at h
        rcases h with ⟨k, hk, h2, h3⟩ | ⟨k, hk, h3, h4⟩
        · have := hdeps o.after[k] (Array.getElem_mem hk) h3
          rwa [h2] at this
        · have h5 := hdeps o.after[k] (Array.getElem_mem hk) h3
          cases ho2 : ops[o.after[k].on]? with
          | none => rw [ho2] at h4; cases h4
          | some o2 =>
            rw [ho2] at h4
            simp only [Array.any_eq_true, Bool.and_eq_true, beq_iff_eq] at h4
            obtain ⟨k2, hk2, h6, h7⟩ := h4
            have := M.closed _ o2 ho2 h5 o2.after[k2] (by simp) h7
            rwa [h6] at this
      have hput : a' = puts a (fun k => a'.tmps.getD k undef) (dstsOf ops) := by
        have ht : a'.tmps = (puts a (fun k => a'.tmps.getD k undef) (dstsOf ops)).tmps := by
          apply Array.ext_getElem?
          intro k
          rw [puts_get]
          split
          · rename_i h
            have hk : k < a'.tmps.size := by rw [M.size]; exact h.2
            simp [hk]
          · rename_i h
            by_cases hk : k ∈ dstsOf ops
            · exact absurd ⟨hk, hfit k hk⟩ h
            · exact M.same k hk
        have hd : a'.defers = (puts a (fun k => a'.tmps.getD k undef) (dstsOf ops)).defers := by rw [puts_defers, M.defers]
        exact act_eq ht hd
      have h := last o ho (fun k => a'.tmps.getD k undef) w' M.below (fun d hd => by
        obtain ⟨j, hj, rfl⟩ := List.mem_map.1 hd
        exact M.known j (List.mem_range.1 hj) (hallL j (List.mem_range.1 hj)))
      rw [← hput] at h
      have hall0 : todo (listed.setIfInBounds (ops.size - 1) true) = 0 := by
        unfold todo
        rw [List.count_eq_zero]
        intro hmem
        obtain ⟨j, hj, e⟩ := List.mem_iff_getElem.1 hmem
        have hj' : j < listed.size := by simpa using hj
        by_cases hjl : j = ops.size - 1
        · subst hjl
          simp at e
        · have h2 := hallL j (by omega)
          have e2 : listed[j] = false := by
            simpa [Array.getElem_setIfInBounds, Ne.symm hjl] using e
          simp [hj', e2] at h2
      refine h.imp (fun h => Oper.wp_mono (fun a2 w2 hq => ih _ a2 w2 (by simpa using hs) (by omega) (fun h => ?_) (fun _ => ⟨hall0, hq⟩)) h) id
      rw [getD_set_self (by omega)] at h
      cases h
    · -- one of the others
      have hi1 : i < ops.size - 1 := by omega
      obtain ⟨d, hd⟩ : ∃ d, o.dst = some d := Option.isSome_iff_exists.1 (hdst.resolve_left hil)
      have hdi : dstOf ops i = d := by simp [dstOf, ho, hd]
      have hdm : d ∈ dstsOf ops := hdi ▸ dst_mem hi1
      have hr := step i o hi1 ho a'.eval w' M.below (fun e => M.pre (by
        have h2 : listed.getD i false = false := by
          have h2 := h1
          have hsz : i < listed.size := by omega
          simpa [hsz] using h2
        rcases e with e | e
        · rw [← e]; exact h2
        · cases hl2 : listed.getD jj false with
          | false => rfl
          | true =>
            obtain ⟨oj, hoj, e2, he2, hb2, hon2⟩ := isBef_of e
            have := M.closed jj oj hoj hl2 e2 he2 hb2
            rw [hon2, h2] at this
            cases this)) (fun x hx => by
        cases x with
        | tmp t =>
          have hm : t ∉ dstsOf ops := fun hm => hx t hm rfl
          have := M.same t hm
          simp only [Act.eval, Array.getD_eq_getD_getElem?, this]
        | const c => rfl
        | global g => rfl
        | func f => rfl) (fun e he hen hbd => M.known e.on hen (hdeps e (by simpa using he) hbd))
      left
      refine hr.wp fun v w2 ⟨⟨hb2, hb0⟩, hD⟩ => ih _ _ w2 (by simpa using hs) (by omega) (fun _ => ?_) (fun h => ?_)
      · rw [hd]
        refine ⟨by simp [Act.put, M.size], by simp [Act.put, M.defers], fun k hk => ?_, hG.trans M.below hb2, fun hj0 => ?_, fun j hj hjl => ?_, fun j o2 ho2 hjl e he hbd => ?_⟩
        · have hkd : d ≠ k := fun e => hk (e ▸ hdm)
          simp only [Act.put, Array.getElem?_setIfInBounds, if_neg hkd]
          exact M.same k hk
        · by_cases hij : i = jj
          · subst hij
            rw [getD_set_self (by omega) false] at hj0
            cases hj0
          · rw [getD_set_ne false hij] at hj0
            exact hG0.trans (M.pre hj0) (hb0 hij)
        · by_cases hji : j = i
          · subst hji
            rw [hdi] at hD ⊢
            have hds : d < a'.tmps.size := by rw [M.size]; exact hfit d hdm
            simpa [Act.put, hds] using hD
          · have hne : d ≠ dstOf ops j := fun e => hji (dst_inj hnd hj hi1 (by rw [hdi, e]))
            have hold : listed.getD j false = true := by rwa [getD_set_ne false (Ne.symm hji)] at hjl
            have : D (dstOf ops j) (a'.tmps.getD (dstOf ops j) undef) w2 := by
              by_cases hjd : j = jj
              · subst hjd
                exact stableJ _ _ _ (M.known j hj hold) (hb0 (Ne.symm hji))
              · exact stable _ _ _ _ (fun e => hjd (dst_inj hnd hj hjj e)) (M.known j hj hold) hb2
            simpa [Act.put, Array.getElem?_setIfInBounds, hne] using this
        · have mono : ∀ x, listed.getD x false = true → (listed.setIfInBounds i true).getD x false = true := fun x hx => by
            by_cases hxi : x = i
            · subst hxi; exact getD_set_self (by omega) false
            · rw [getD_set_ne false (Ne.symm hxi)]; exact hx
          by_cases hji : j = i
          · subst hji
            obtain rfl : o2 = o := Option.some.inj (ho2.symm.trans ho)
            exact mono _ (hdeps e (by simpa using he) hbd)
          · have hold : listed.getD j false = true := by rwa [getD_set_ne false (Ne.symm hji)] at hjl
            exact mono _ (M.closed j o2 ho2 hold e he hbd)
      · rw [getD_set_ne true hil] at h
        rw [hl] at h
        cases h


/-- What is known of a slot: of dj what outlives new blocks alone. -/
def Dj {G0 G : World → World → Prop} (T : Nat → Held G) (TJ : Held G0) (dj d : Nat) (v : Value) (w : World) : Prop := if d = dj then TJ.p v w else (T d).p v w
def DepsD (dsts : List Nat) (D : Nat → Value → World → Prop) (ev : Operand → Value) (w1 : World) : List Edge → Prop
  | [] => True
  | e :: es => D (dsts.getD e.on 0) (ev (.tmp (dsts.getD e.on 0))) w1 ∧ DepsD dsts D ev w1 es
theorem depsD_of {dsts : List Nat} {D : Nat → Value → World → Prop} {ev : Operand → Value} {w1 : World} : ∀ {es : List Edge}, (∀ e ∈ es, D (dsts.getD e.on 0) (ev (.tmp (dsts.getD e.on 0))) w1) → DepsD dsts D ev w1 es
  | [], _ => trivial
  | _ :: _, h => ⟨h _ List.mem_cons_self, depsD_of fun e he => h e (List.mem_cons_of_mem _ he)⟩
/-- One operation: what it may find done, and what it may do. -/
def StepA (G1 G2 : World → World → Prop) (P : Program) (dsts : List Nat) (D : Nat → Value → World → Prop) (a : Act) (w : World) (o : Oper) (d : Nat) : Prop :=
  ∀ (ev : Operand → Value) w1, G1 w w1 → (∀ x, (∀ d ∈ dsts, x ≠ .tmp d) → ev x = a.eval x) → DepsD dsts D ev w1 o.after.toList → OpRuns P ev o w1 fun v w2 => G2 w1 w2 ∧ D d v w2
def StepsA (G0 G : World → World → Prop) (P : Program) (dsts : List Nat) (D : Nat → Value → World → Prop) (a : Act) (w : World) (jj : Nat) (bef : List Nat) : Nat → List Oper → List Nat → Prop
  | k, o :: os, d :: ds => (if k = jj then StepA G0 G P dsts D a w o d else if k ∈ bef then StepA G0 G0 P dsts D a w o d else StepA G G0 P dsts D a w o d) ∧ StepsA G0 G P dsts D a w jj bef (k + 1) os ds
  | _, _, _ => True
theorem stepsA_at {G0 G : World → World → Prop} {P : Program} {dsts : List Nat} {D : Nat → Value → World → Prop} {a : Act} {w : World} {jj : Nat} {bef : List Nat} : ∀ {os : List Oper} {ds : List Nat} {k : Nat} (_ : StepsA G0 G P dsts D a w jj bef k os ds) (i : Nat) {o : Oper} {d : Nat}, os[i]? = some o → ds[i]? = some d → (if k + i = jj then StepA G0 G P dsts D a w o d else if k + i ∈ bef then StepA G0 G0 P dsts D a w o d else StepA G G0 P dsts D a w o d)
  | [], _, _, _, i, _, _, h, _ => by simp at h
  | _ :: _, [], _, _, i, _, _, _, h => by simp at h
  | _ :: os, _ :: ds, _, h, 0, _, _, ho, hd => by simp at ho hd; subst ho hd; exact h.1
  | _ :: os, _ :: ds, k, h, i + 1, _, _, ho, hd => by
    have := stepsA_at h.2 i (by simpa using ho) (by simpa using hd)
    rwa [show k + 1 + i = k + (i + 1) by omega] at this
/-- A region whose last operation is a store that waits for all, and one of whose others (number jj) does more than to make new blocks. -/
theorem wp_region_app {G0 G : World → World → Prop} (hG0 : Goes G0) (hG : Goes G) (hsub : ∀ a b, G0 a b → G a b) {P : Program} {id : Nat} {ops : Array Oper} {Q : Exit → Act → World → Prop} (dsts : List Nat) (jj dj : Nat) (bef : List Nat) (T : Nat → Held G) (TJ : Held G0) (o : Oper) {a : Act} {w : World} (hm : P.follows .mixedOrders = true)
    (hB : (openForm2 ops && edgesBind ops && decide (dstsOf ops = dsts) && decide (jj < ops.size - 1) && decide (dstOf ops jj = dj) && bef.all (isBef ops jj)) = true)
    (ho : ops[ops.size - 1]? = some o)
    (hfit : (dsts.all fun d => decide (d < a.tmps.size)) = true)
    (steps : StepsA G0 G P dsts (Dj T TJ dj) a w.drew jj bef 0 (ops.toList.take (ops.size - 1)) dsts)
    (last : ∀ f w1, G w.drew w1 → (∀ d ∈ dsts, Dj T TJ dj d (f d) w1) → wpList P ops Q [o] (puts a f dsts) w1) : (Code.region id ops true).wp P Q a w := by
  simp only [Bool.and_eq_true, decide_eq_true_eq] at hB
  obtain ⟨⟨⟨⟨⟨hB, hbind⟩, rfl⟩, hjj⟩, rfl⟩, hbef⟩ := hB
  have hB' := hB
  simp only [openForm2, Bool.and_eq_true, decide_eq_true_eq] at hB'
  have hform := hB'.1.1.2
  rw [List.all_eq_true] at hform
  have hpos := hB'.1.1.1
  refine wp_region_any hm (wpAny_openA hG0 hG hsub (jj := jj) (D := Dj T TJ (dstOf ops jj)) (w := w.drew) hB (fun d hd => by simpa using List.all_eq_true.1 hfit d hd) hjj
    (fun d v w1 w2 hd h hg => by unfold Dj at h ⊢; rw [if_neg hd] at h ⊢; exact (T d).st v w1 w2 h hg)
    (fun v w1 w2 h hg => by unfold Dj at h ⊢; rw [if_pos rfl] at h ⊢; exact TJ.st v w1 w2 h hg)
    ?_ (fun o' ho' f w1 hb hD => ?_) _ _ _ _ (by simp) ?_ (fun _ => ?_) (fun h => ?_))
  · intro i oi hi hoi ev w1 hb hb0 hev hdeps
    have hlt : i < ops.size := by omega
    have h1 := stepsA_at steps i (o := oi) (d := dstOf ops i) (by
      rw [List.getElem?_take, if_pos hi]
      simpa using hoi) (by simp [dstsOf, hi])
    rw [Nat.zero_add] at h1
    have hdp : DepsD (dstsOf ops) (Dj T TJ (dstOf ops jj)) ev w1 oi.after.toList := depsD_of fun e he => by
      have hf := hform i (List.mem_range.2 hlt)
      rw [hoi] at hf
      simp only [Bool.and_eq_true] at hf
      have hon : e.on < i := by simpa using Array.all_eq_true_iff_forall_mem.1 hf.1.2 e (by simpa using he)
      have hbd : Region.binds .any e = true := by
        have h2 := Array.all_eq_true_iff_forall_mem.1 hbind oi (Array.mem_of_getElem? hoi)
        exact Array.all_eq_true_iff_forall_mem.1 h2 e (by simpa using he)
      have hg : (dstsOf ops).getD e.on 0 = dstOf ops e.on := by simp [dstsOf, List.getD, show e.on < ops.size - 1 by omega]
      rw [hg]
      exact hdeps e he (by omega) hbd
    have omono : ∀ {A B : Value → World → Prop}, (∀ v w, A v w → B v w) → OpRuns P ev oi w1 A → OpRuns P ev oi w1 B := fun hAB hr => by
      unfold OpRuns at hr ⊢
      split at hr
      · exact hAB _ _ hr
      · exact hAB _ _ hr
      · exact hr.mono fun e w'' ⟨v, he, hp⟩ => ⟨v, he, hAB _ _ hp⟩
      · exact hr
    by_cases hij : i = jj
    · rw [if_pos hij] at h1
      exact omono (fun v w2 ⟨k1, k2⟩ => ⟨⟨k1, fun hn => absurd hij hn⟩, k2⟩) (h1 ev w1 (hb0 (.inl hij)) hev hdp)
    · rw [if_neg hij] at h1
      by_cases hib : i ∈ bef
      · rw [if_pos hib] at h1
        exact omono (fun v w2 ⟨k1, k2⟩ => ⟨⟨hsub _ _ k1, fun _ => k1⟩, k2⟩) (h1 ev w1 (hb0 (.inr (List.all_eq_true.1 hbef i hib))) hev hdp)
      rw [if_neg hib] at h1
      exact omono (fun v w2 ⟨k1, k2⟩ => ⟨⟨hsub _ _ k1, fun _ => k1⟩, k2⟩) (h1 ev w1 hb hev hdp)
  · obtain rfl : o' = o := Option.some.inj (ho'.symm.trans ho)
    have h := last f w1 hb hD
    have hg := hform (ops.size - 1) (List.mem_range.2 (by omega))
    rw [ho] at hg
    simp only [Bool.and_eq_true, Option.isNone_iff_eq_none] at hg
    unfold wpList at h
    rw [if_pos (by simp [Region.wanted, hg.1.1])] at h
    exact h
  · simp [todo]
  · refine ⟨rfl, rfl, fun _ _ => rfl, hG.refl _, fun _ => hG0.refl _, fun i hi h => ?_, fun j o2 ho2 h => ?_⟩
    · have h0 : (Array.replicate ops.size false).getD i false = false := by simp [show i < ops.size by omega]
      rw [h0] at h; cases h
    · have hj : j < ops.size := (Array.getElem?_eq_some_iff.1 ho2).1
      have h0 : (Array.replicate ops.size false).getD j false = false := by simp [hj]
      rw [h0] at h; cases h
  · have h0 : (Array.replicate ops.size false).getD (ops.size - 1) true = false := by simp [show ops.size - 1 < ops.size by omega]
    rw [h0] at h; cases h
end Go.Proofs.YtfdppggdgdnnaaaGreatDoor

namespace Go.Proofs.YtfdppggdgdnnaaaGreatDoor
open Go.RowKit

theorem news4 {w : World} {a b c d : Value} {t : TypeId} : ∀ j u, ([a, b, c, d] : List Value)[j]? = some u → (w.alloc (.cells #[a, b, c, d] t)).cell? ((⟨w.heap.size, 0, none⟩ : Addr).add j) = some u := fun j u h => by
  rw [Addr.add_lit, Nat.zero_add, World.cell?_alloc_mark]
  simpa using h
theorem SegL.ne {w : World} {X D : Nat} {v : Value} {s : Sg.St} {T : Nat → Prop} (h : SegL w X D v s T) : v.ownBlock ≠ some X := fun e => by
  rcases h.own.2 with ⟨e1, _⟩ | ⟨g, cap, cur, e1, _, hh, _⟩
  · rw [e1] at e; cases e
  · rw [e1] at e
    have e2 : g = X := by simpa [Value.ownBlock] using e
    rw [e2] at hh
    exact types_ne hh h.box (by decide) rfl
theorem SegL.boxed {w w1 w2 : World} {X D : Nat} {v : Value} {s : Sg.St} {T : Nat → Prop} (h : SegL w X D v s T) (hb : Below w.heap.size w w1) {row : Option Nat} (hg : w1.grownBy w2 row) (hr : row ≠ some X) : w2.heap[X]? = some (.cells (sgCells D s v) 104 (0, 0)) := by
  have hs := hb.size
  have := h.lt
  exact (hg.block X (by omega) (fun e => hr e.symm)).trans ((hb.block X h.lt).trans h.box)
/-- An edge is put behind, and the row laid into the box. -/
theorem SegL.push {w w1 w2 : World} {X D : Nat} {v v' : Value} {s : Sg.St} {T : Nat → Prop} (h : SegL w X D v s T) (hb : Below w.heap.size w w1) (e : Sg.Edge) (ho : w2.ownsRow 0 106 4 v' (s.edges.length + 1) (s.edges.flatMap egCells ++ egCells e)) (hg : w1.grownBy w2 v.ownBlock) (hv : v'.ownBlock = v.ownBlock ∨ v'.ownBlock = some w1.heap.size) :
    SegL (w2.setCell ⟨X, 3, none⟩ v') X D v' { s with edges := s.edges ++ [e] } (Up T w (w2.setCell ⟨X, 3, none⟩ v')) ∧ Chg T w (w2.setCell ⟨X, 3, none⟩ v') := by
  have n1 := h.ne
  have hX := h.lt
  have hbs := hb.size
  have hgs := hg.size
  have hbx := h.boxed hb hg n1
  have hnx : v'.ownBlock ≠ some X := fun e => by
    rcases hv with k | k
    · exact n1 (k ▸ e)
    · rw [k] at e; injection e with e; omega
  have hsz : (w2.setCell ⟨X, 3, none⟩ v').heap.size = w2.heap.size := by simp
  have hoth : ∀ k, k ≠ X → (w2.setCell ⟨X, 3, none⟩ v').heap[k]? = w2.heap[k]? := fun k hk => Below.heap_setCell _ _ _ _ hk
  refine ⟨⟨heap_setCell_same w2 X 3 _ _ _ hbx, ?_, .inl h.mX, fun g hga => ?_⟩, ?_⟩
  · have hw : s.edges.flatMap egCells ++ egCells e = (s.edges ++ [e]).flatMap egCells := by simp
    rw [hw] at ho
    show World.ownsRow _ 0 _ 4 v' (s.edges ++ [e]).length _
    rw [List.length_append]
    exact ownsRow_same ho fun g hg => hoth g (fun e => hnx (by rw [hg, e]))
  · rcases hv with k | k
    · exact .inl (h.mE g (by rw [← k]; exact hga))
    · rw [k] at hga
      injection hga with hga
      exact .inr ⟨by omega, by have := (ho.lt g (by rw [k, hga])).2; omega⟩
  · refine ⟨hg.os.trans hb.os, hg.tape.trans hb.tape, hg.output.trans hb.output, by omega, fun k hk hn => ?_⟩
    have hkX : k ≠ X := fun e => hn (e ▸ h.mX)
    exact (hoth k hkX).trans ((hg.block k (by omega) (fun e => hn (h.mE k e.symm))).trans (hb.block k hk))
set_option maxRecDepth 100000 in
theorem rNext_any (base epoch : Int) (n : Nat) (A : Option Addr) (cap : Nat) (w : World) (h0 : 0 ≤ base) (h1 : base + n ≤ 9223372036854775807) :
    Calls Tryz.prog 110 #[batV base epoch A n cap] w fun e w' => e = .returned (.int .i64 (base + n)) ∧ Below w.heap.size w w' := by
  have hw : IntKind.i64.wrap (base + n) = base + n := by rw [IntKind.wrap_i64]; omega
  unfold batV
  go_enter Tryz.func110, Tryz.ntmps110
  go_wp2_with fail
  go_ret
  exact ⟨rfl, balloc (Below.refl _ _) _⟩

theorem opRuns_app {P : Program} {ev : Operand → Value} {o : Oper} {w : World} {Post : Value → World → Prop} (t e : TypeId) (size bytes : Nat) (z : Value) (hu : P.underlying t = some (.slice e)) (hin : (P.info? e).map (fun i => (i.zero, i.size, i.bytes)) = some (some z, size, bytes)) (hzs : z.cells.size = size) (hsz : 0 < size)
    (s x : Operand) (ho : o.op = .call { callee := .builtin .append, args := #[s, x], argTypes := #[t, t] })
    (base : Nat) (v : Value) (n : Nat) (xs : List Value) (hs : ev s = v) (hown : w.ownsRow base e size v n xs) (A : Addr) (m c : Nat) (news : List Value) (hx : ev x = .slice (some A) m c) (hl : news.length = m * size)
    (hnews : ∀ j u, news[j]? = some u → w.cell? (A.add j) = some u) (h1 : ∀ u ∈ news, u.oneCell' = true) (h63 : n + m ≤ maxLen) (hby : (n + m) * bytes ≤ 140737488355328) (hbase : base ≤ w.heap.size)
    (h : ∀ v' w', w'.ownsRow base e size v' (n + m) (xs ++ news) → w.grownBy w' v.ownBlock → (v'.ownBlock = v.ownBlock ∨ v'.ownBlock = some w.heap.size) → Post v' w') : OpRuns P ev o w Post := by
  obtain ⟨i, hi, hz, hs1, hb⟩ := info_parts hin
  obtain ⟨v', w', hrun, r2, r3, _, r5⟩ := run_append_own_at (P := P) w base t o.type e i _ size bytes hu hi hz hs1 hb hzs hsz v n xs hown A m c news hl hnews h1 h63 hby hbase
  unfold OpRuns execOp
  simp only [ho, resolve, invoke, builtin, Sem.run_bind, Sem.run_pure, Result.andThen_ok, List.map_toArray, List.map_cons, List.map_nil, hs, hx, hrun]
  exact h _ _ r2 r3 r5
/-- A new row of one element, apart from the row that grows. -/
def heldNew (row : Option Nat) (lo : Nat) (news : List Value) (hr : ∀ k, row = some k → k < lo) : Held (fun a b : World => Chg (fun k => row = some k) a b) :=
  ⟨fun v w => ∃ g, lo ≤ g ∧ g < w.heap.size ∧ v = .slice (some ⟨g, 0, none⟩) 1 1 ∧ ∀ j u, news[j]? = some u → w.cell? ((⟨g, 0, none⟩ : Addr).add j) = some u,
   fun v w1 w2 ⟨g, h1, h2, h3, h4⟩ hg => ⟨g, h1, Nat.lt_of_lt_of_le h2 hg.size, h3, fun j u hj => by
     have h := h4 j u hj
     rw [Addr.add_lit, Nat.zero_add] at h ⊢
     exact hg.cell h (fun e => by have := hr g e; omega)⟩⟩
/-- The row that has grown. -/
def heldApp (w5 : World) (row : Option Nat) (e : TypeId) (size n : Nat) (xs : List Value) : Held (fun a b : World => Below a.heap.size a b) :=
  ⟨fun v w => ∃ wa wb, Below w5.heap.size w5 wa ∧ wa.grownBy wb row ∧ wb.ownsRow 0 e size v n xs ∧ (v.ownBlock = row ∨ v.ownBlock = some wa.heap.size) ∧ Below wb.heap.size wb w,
   fun _v _w1 _w2 ⟨wa, wb, h1, h2, h3, h4, h5⟩ hg => ⟨wa, wb, h1, h2, h3, h4, h5.trans (hg.mono h5.size)⟩⟩

set_option maxRecDepth 100000 in
set_option maxHeartbeats 4000000 in
theorem sgAdd_any (X D : Nat) (s : Sg.St) (T : Nat → Prop) (b : Rc.Bat) (A : Option Addr) (cap n size : Nat) (w : World) (h : SegAt w X D s T) (ho : Sg.Ok s) (hl : s.edges.length ≤ 90000) (hb : IsBat w A cap b) (hn : b.recs.length = n) (h0 : 0 ≤ b.base) (h1 : b.base + n ≤ 1099511627776) (hs : size ≤ 1000000) :
    Calls Tryz.prog 75 #[.pointer (some ⟨X, 0, none⟩), batV b.base b.epoch A n cap, .int .i64 size] w fun e w' => e = .returned (.tuple #[]) ∧ SegAt w' X D (s.add b size) (Up T w w') ∧ Chg T w w' := by
  obtain ⟨v, h⟩ := h
  have HH := hide h
  have HO := hide ho
  have hle := hb.le
  have hmx := hb.max
  rw [hn] at hle
  have hlp := ho.pos _ (Sg.last_mem ho.ne)
  have hW1 : Below w.heap.size w (w.alloc (.cells #[.int .i64 b.base, .int .i64 b.epoch, .slice A n cap] 41)) := balloc (Below.refl _ _) _
  have HW1 := hide hW1
  have HT := hide (fun (W : World) (hw : Below w.heap.size w W) => time_any b.base b.epoch b.recs A cap n W hn (by omega) (hb.recs.below hw (Nat.le_refl _)))
  have HS := hide (fun (W : World) (hw : Below w.heap.size w W) => sgSize_any X D s T W ⟨v, h.below hw⟩ ho)
  have HTM := hide (fun (W : World) (hw : Below w.heap.size w W) => sgTime_any X D s T W ⟨v, h.below hw⟩ ho)
  have HN := hide (fun (W : World) => rNext_any b.base b.epoch n A cap W h0 (by omega))
  have HADD : Hid (s.add b size = { s with edges := s.edges ++ [⟨b.base + n, (Sg.last s.edges).pos + size, b.epoch, if 0 < (Sg.last s.edges).pos then max (Rc.maxT b.recs) (Sg.last s.edges).time else Rc.maxT b.recs⟩] }) := hide (by rw [← hn]; rfl)
  rw [HADD.out]
  generalize (Sg.last s.edges).pos = lp at *
  generalize (Sg.last s.edges).time = lt at *
  obtain ⟨ba, ep, rs⟩ := b
  simp only at *
  generalize Rc.maxT rs = mt at *
  obtain ⟨tm, htm⟩ : ∃ tm, tm = if 0 < lp then max mt lt else mt := ⟨_, rfl⟩
  rw [← htm]
  have HTMV := hide htm
  have y0 : (w.alloc (.cells #[.int .i64 ba, .int .i64 ep, .slice A n cap] 41)).cell? ⟨w.heap.size, 0, none⟩ = some (.int .i64 ba) := by rw [World.cell?_alloc_mark]; rfl
  have y1 : (w.alloc (.cells #[.int .i64 ba, .int .i64 ep, .slice A n cap] 41)).cell? ⟨w.heap.size, 1, none⟩ = some (.int .i64 ep) := by rw [World.cell?_alloc_mark]; rfl
  have y2 : (w.alloc (.cells #[.int .i64 ba, .int .i64 ep, .slice A n cap] 41)).cell? ⟨w.heap.size, 2, none⟩ = some (.slice A n cap) := by rw [World.cell?_alloc_mark]; rfl
  have hBz : w.heap.size < (w.alloc (.cells #[.int .i64 ba, .int .i64 ep, .slice A n cap] 41)).heap.size := by simp
  clear h ho hb hW1 HADD htm
  unfold batV at *
  go_enter Tryz.func75, Tryz.ntmps75
  go_upto_region 1 with fail
  generalize w.alloc (.cells #[.int .i64 ba, .int .i64 ep, .slice A n cap] 41) = W1 at *
  obtain ⟨Bx, hBx⟩ : ∃ Bx, Bx = w.heap.size := ⟨_, rfl⟩
  rw [← hBx] at y0 y1 y2 hBz ⊢
  have HBX := hide hBx
  clear hBx
  go_upto_if 11 with (first
    | (go_at_call 17; refine (HT.out _ HW1.out).mono ?_; rintro e w2 ⟨rfl, hb⟩; have HB2 := hide hb; clear hb)
    | (go_at_call 24; refine (HS.out _ (HW1.out.trans (HB2.out.mono HW1.out.size))).mono ?_; rintro e w3 ⟨rfl, hb⟩; have HB3 := hide (HB2.out.trans (hb.mono HB2.out.size)); clear hb)
    | fail)
  go_cut [6] from 7 to 16 (fun tv wx => tv = .int .i64 tm ∧ Below W1.heap.size W1 wx)
  case first =>
    by_cases hp : 0 < lp
    · have ip : Hid (tm = max mt lt) := hide (HTMV.out.trans (if_pos hp))
      have dp : decide (0 < lp) = true := decide_eq_true hp
      go_wp2_with (first
        | (go_at_call 25; refine (HTM.out _ (HW1.out.trans (HB3.out.mono HW1.out.size))).mono ?_; rintro e w4 ⟨rfl, hb⟩; have HB4 := hide (HB3.out.trans (hb.mono HB3.out.size)); clear hb)
        | fail)
      go_meet
      all_goals exact ⟨by rw [ip.out]; try (first | rw [Int.max_eq_left (by omega)] | rw [Int.max_eq_right (by omega)]), HB4.out⟩
    · have ip : Hid (tm = mt) := hide (HTMV.out.trans (if_neg hp))
      have dp : decide (0 < lp) = false := decide_eq_false hp
      go_wp2_with fail
      go_meet
      exact ⟨by rw [ip.out]; try (first | rw [Int.max_eq_left (by omega)] | rw [Int.max_eq_right (by omega)]), HB3.out⟩
  case rest =>
    obtain ⟨rfl, hb5⟩ := hcut
    rename World => w5
    have HB5 := hide hb5
    have HBW : Hid (Below w.heap.size w w5) := hide (HW1.out.trans (hb5.mono HW1.out.size))
    have hz5 : Bx < w5.heap.size := Nat.lt_of_lt_of_le hBz hb5.size
    replace y0 := (hb5.cell (p := ⟨Bx, 0, none⟩) hBz).trans y0
    replace y1 := (hb5.cell (p := ⟨Bx, 1, none⟩) hBz).trans y1
    replace y2 := (hb5.cell (p := ⟨Bx, 2, none⟩) hBz).trans y2
    obtain ⟨Av, cv, rfl, -, -, -, -, c3, -⟩ := (HH.out.below HBW.out).cells
    have hX5 : X < w5.heap.size := Nat.lt_of_lt_of_le HH.out.lt HBW.out.size
    have hwp : IntKind.i64.wrap (lp + (size : Int)) = lp + (size : Int) := by rw [IntKind.wrap_i64]; omega
    clear hb5 HT HTM
    go_upto_region 4 with fail
    obtain ⟨row, hrow⟩ : ∃ row, row = Value.ownBlock (.slice Av s.edges.length cv) := ⟨_, rfl⟩
    have hrow5 : ∀ k, row = some k → k < w5.heap.size := fun k hk => Nat.lt_of_lt_of_le (HH.out.own.lt k (hrow ▸ hk)).2 HBW.out.size
    have hnX : ∀ k, row = some k → k ≠ X := fun k hk e => HH.out.ne (by rw [← hrow, hk, e])
    have hnB : ∀ k, row = some k → k ≠ Bx := fun k hk e => by have := (HH.out.own.lt k (hrow ▸ hk)).2; have := HBX.out; omega
    have HOW := hide (ownsRow_same (w' := w5) HH.out.own fun g hg => HBW.out.block g (HH.out.own.lt g hg).2)
    refine wp_region_app (G0 := fun a b : World => Below a.heap.size a b) (G := fun a b : World => Chg (fun k => row = some k) a b) ⟨fun w => Below.refl _ w, fun h k => h.trans (k.mono h.size)⟩ ⟨fun w => Chg.refl _ w, fun h k => h.then k⟩ (fun a b h => Chg.of_below h) [16, 17, 18, 19, 20, 21, 22, 23, 24, 25, 26, 27, 28, 29, 30, 31, 32, 33, 34] 16 32 [8] (fun d => match d with
      | 16 => .is (.pointer (some ⟨X, 0, none⟩)) | 17 => .is (.pointer (some ⟨X, 0, none⟩)) | 18 => .is (.pointer (some ⟨X, 0, none⟩)) | 19 => .is (.pointer (some ⟨X, 3, none⟩)) | 20 => .is (.slice Av s.edges.length cv) | 21 => .is (.agg #[.int .i64 ba, .int .i64 ep, .slice A n cap]) | 22 => .is (.int .i64 (ba + n)) | 23 => .is (.pointer (some ⟨X, 0, none⟩)) | 24 => .is (.int .i64 lp) | 25 => .is (.int .i64 size) | 26 => .is (.int .i64 (lp + size)) | 27 => .is (.pointer (some ⟨Bx, 1, none⟩)) | 28 => .is (.int .i64 ep) | 29 => .is (.int .i64 tm) | 30 => .is (.agg #[.int .i64 (ba + n), .int .i64 (lp + size), .int .i64 ep, .int .i64 tm]) | 31 => heldNew row w5.heap.size (egCells ⟨ba + n, lp + size, ep, tm⟩) hrow5 | 33 => .is (.pointer (some ⟨X, 0, none⟩)) | 34 => .is (.pointer (some ⟨X, 3, none⟩)) | _ => .any) (heldApp w5 row 106 4 (s.edges.length + 1) (s.edges.flatMap egCells ++ egCells ⟨ba + n, lp + size, ep, tm⟩)) _ (by kernel_rfl) (by kernel_rfl) rfl (by kernel_rfl) ?_ ?_
    · simp only [List.size_toArray, List.length_cons, List.length_nil, List.take_succ_cons, List.take_zero, StepsA]
      refine ⟨?_, ?_, ?_, ?_, ?_, ?_, ?_, ?_, ?_, ?_, ?_, ?_, ?_, ?_, ?_, ?_, ?_, ?_, ?_, trivial⟩
      all_goals first | rw [if_pos (by decide)] | (rw [if_neg (by decide)]; first | rw [if_pos (by decide)] | rw [if_neg (by decide)])
      all_goals
        intro ev w6 hb hev hd
        have ev0 : ev (.tmp 0) = .pointer (some ⟨X, 0, none⟩) := hev _ (by simp)
        have ev2 : ev (.tmp 2) = .int .i64 size := hev _ (by simp)
        have ev4 : ev (.tmp 4) = .pointer (some ⟨Bx, 0, none⟩) := hev _ (by simp)
        have ev6 : ev (.tmp 6) = .int .i64 tm := hev _ (by simp)
        have evf : ∀ f, ev (.func f) = .func (.func f) #[] #[] := fun f => hev _ (by simp)
        have evc : ∀ c, ev (.const c) = c := fun c => hev _ (by simp)
        have k3 : w6.cell? ⟨X, 3, none⟩ = some (.slice Av s.edges.length cv) := by first | exact Chg.cell hb c3 (fun e => hnX X e rfl) | exact (hb.cell (p := ⟨X, 3, none⟩) hX5).trans c3
        have k0 : w6.cell? ⟨Bx, 0, none⟩ = some (.int .i64 ba) := by first | exact Chg.cell hb y0 (fun e => hnB Bx e rfl) | exact (hb.cell (p := ⟨Bx, 0, none⟩) hz5).trans y0
        have k1 : w6.cell? ⟨Bx, 1, none⟩ = some (.int .i64 ep) := by first | exact Chg.cell hb y1 (fun e => hnB Bx e rfl) | exact (hb.cell (p := ⟨Bx, 1, none⟩) hz5).trans y1
        have k2 : w6.cell? ⟨Bx, 2, none⟩ = some (.slice A n cap) := by first | exact Chg.cell hb y2 (fun e => hnB Bx e rfl) | exact (hb.cell (p := ⟨Bx, 2, none⟩) hz5).trans y2
        have HB6 := hide hb
        clear hev hb y0 y1 y2 c3 hnX hnB
        simp [DepsD, Dj, Held.is] at hd
        first
          | (obtain ⟨h20, ⟨g, hg1, hg2, h31, hnw⟩, -⟩ := hd
             refine opRuns_app 102 106 4 32 _ (by kernel_rfl) edge_info (by rfl) (by omega) (.tmp 20) (.tmp 31) (by rfl) 0 (.slice Av s.edges.length cv) s.edges.length (s.edges.flatMap egCells) h20 (ownsRow_same HOW.out fun q hq => HB6.out.block q (HOW.out.lt q hq).2) ⟨g, 0, none⟩ 1 1 (egCells ⟨ba + n, lp + size, ep, tm⟩) h31 (by rfl) hnw (by intro u hu; simp at hu; rcases hu with rfl | rfl | rfl | rfl <;> rfl) (by simp only [maxLen]; omega) (by omega) (Nat.zero_le _) fun v8 w8 ho8 hg8 hv8 => ⟨Chg.of_grown hg8 (fun k hk => hrow.trans hk), ?_⟩
             show Dj _ _ 32 32 _ _
             unfold Dj
             rw [if_pos rfl]
             exact ⟨w6, w8, (Below.refl w5.heap.size w5).drew.trans HB6.out, hrow ▸ hg8, ho8, by rw [hrow]; exact hv8, Below.refl _ _⟩)
          | simp [OpRuns, execOp, go_sem, Dj, Held.is, Below.refl, *]
      · exact HN.out w6
      · exact HS.out w6 (HBW.out.trans (((Below.refl w5.heap.size w5).drew.trans HB6.out).mono HBW.out.size))
      · exact ⟨balloc (Below.refl _ _) _, w6.heap.size, HB6.out.size, by simp, rfl, news4 (w := w6)⟩
    · intro f w9 hb hf
      have hj := hf 32 (by simp)
      unfold Dj at hj
      rw [if_pos rfl] at hj
      obtain ⟨wa, wb, h1, h2, h3, h4, h5⟩ := hj
      have e34 : f 34 = .pointer (some ⟨X, 3, none⟩) := by have := hf 34 (by simp); simpa [Dj, Held.is] using this
      have hba := HBW.out.trans (h1.mono HBW.out.size)
      have hg9 : wa.grownBy w9 (Value.ownBlock (.slice Av s.edges.length cv)) := hrow ▸ ⟨h5.os.trans h2.os, h5.tape.trans h2.tape, h5.output.trans h2.output, Nat.le_trans h2.size h5.size, fun k hk hn => (h5.block k (Nat.lt_of_lt_of_le hk h2.size)).trans (h2.block k hk hn)⟩
      have ho9 := ownsRow_same h3 fun g hg => h5.block g (h3.lt g hg).2
      obtain ⟨A8, n8, k8, e8⟩ := own_slice h3
      rw [e8] at ho9 h4
      have hbx := HH.out.boxed hba hg9 HH.out.ne
      have e3 : w9.cell? ⟨X, 3, none⟩ = some (.slice Av s.edges.length cv) := box_cell hbx 3
      have ef : w9.frozen? ⟨X, 3, none⟩ = false := box_free hbx 3
      have HP := hide (HH.out.push hba ⟨ba + n, lp + size, ep, tm⟩ ho9 hg9 (hrow ▸ h4))
      clear hb hf h1 h2 h3 h4 h5 ho9 hg9 hba hbx HOW hrow hrow5 hnX hnB y0 y1 y2 c3
      simp only [puts, Act.put, List.setIfInBounds_toArray, List.set_cons_succ, List.set_cons_zero]
      rw [e34, e8]
      clear e34 e8
      generalize f 16 = q16
      generalize f 17 = q17
      generalize f 18 = q18
      generalize f 19 = q19
      generalize f 20 = q20
      generalize f 21 = q21
      generalize f 22 = q22
      generalize f 23 = q23
      generalize f 24 = q24
      generalize f 25 = q25
      generalize f 26 = q26
      generalize f 27 = q27
      generalize f 28 = q28
      generalize f 29 = q29
      generalize f 30 = q30
      generalize f 31 = q31
      generalize f 33 = q33
      clear f
      go_wp2_with fail
      go_end0
      exact ⟨rfl, ⟨_, HP.out.1⟩, HP.out.2⟩
end Go.Proofs.YtfdppggdgdnnaaaGreatDoor
