/-
  A segment, plainly: its edges; what stands behind the last one.
  A segment in memory: where its edges lie; what is asked of the last one.
  A statement whose order is open, one of whose operations changes memory in the midst, and whose last one stores: each operation is shown once. Nothing of any program is named here.
-/
import Derived.Test.YtcmgppacipdnaaaGreatDoorQRcQ
import Derived.Test.YtcmgppacipdnaaaGreatDoorQDk
import Derived.Test.YtcmgppacipdnaaaGreatDoorQDkSe
import Derived.Test.YtcmgppacipdnaaaGreatDoorQIxP
import Derived.Deep.LoopGhost
import Derived.Deep.RegionLaw
import Derived.Test.YtcmgppacipdnaaaGreatDoorQRegG
namespace Go.Proofs.YtcmgppacipdnaaaGreatDoor.Sg

/-- What a segment comes to up to there. -/
structure Edge where
  off : Int
  pos : Int
  ep : Int
  time : Int
instance : Inhabited Edge := ⟨⟨0, 0, 0, 0⟩⟩
def ed (l : List Edge) (i : Nat) : Edge := l.getD i default
def last (l : List Edge) : Edge := ed l (l.length - 1)
theorem last_snoc (l : List Edge) (e : Edge) : last (l ++ [e]) = e := by
  unfold last ed
  rw [List.length_append, List.length_singleton, Nat.add_sub_cancel]
  simp [List.getD]
/-- The edge behind a batch. -/
def step (e : Edge) (b : Rc.Bat) (size : Nat) : Edge := ⟨b.base + b.recs.length, e.pos + size, b.epoch, if 0 < e.pos then max (Rc.maxT b.recs) e.time else Rc.maxT b.recs⟩
/-- May b stand behind the last batch? -/
def follows (l : List Edge) (b : Rc.Bat) : Bool := decide (b.base = (last l).off) && decide ((last l).ep ≤ b.epoch)
structure St where
  file : Dk.Nm
  every : Int
  edges : List Edge
  synced : Int
def begin (file : Dk.Nm) (base every : Int) : St := ⟨file, every, [⟨base, 0, 0, 0⟩], 0⟩
def St.add (s : St) (b : Rc.Bat) (size : Nat) : St := { s with edges := s.edges ++ [step (last s.edges) b size] }
/-- Numbers that stay within their bounds. -/
structure Ok (s : St) : Prop where
  ne : s.edges ≠ []
  len : s.edges.length ≤ 100000
  off : ∀ e ∈ s.edges, 0 ≤ e.off ∧ e.off ≤ 1099511627776
  pos : ∀ e ∈ s.edges, 0 ≤ e.pos ∧ e.pos ≤ 1000000000
  ep : ∀ e ∈ s.edges, 0 ≤ e.ep ∧ e.ep ≤ 1073741824
  time : ∀ e ∈ s.edges, -1099511627776 ≤ e.time ∧ e.time ≤ 1099511627776
  every : 1 ≤ s.every ∧ s.every ≤ 1048576
theorem ed_mem {l : List Edge} {i : Nat} (h : i < l.length) : ed l i ∈ l := by
  unfold ed
  rw [show l.getD i default = l[i] from by simp [List.getD, h]]
  exact List.getElem_mem h
theorem last_mem {l : List Edge} (h : l ≠ []) : last l ∈ l := ed_mem (by have := List.length_pos_iff.2 h; omega)
theorem begin_ok (file : Dk.Nm) {base every : Int} (h0 : 0 ≤ base ∧ base ≤ 1099511627776) (h1 : 1 ≤ every ∧ every ≤ 1048576) : Ok (begin file base every) := by
  refine ⟨by simp [begin], by simp [begin], ?_, ?_, ?_, ?_, h1⟩ <;> intro e he <;> simp only [begin, List.mem_singleton] at he <;> subst he <;> simp only <;> omega
end Go.Proofs.YtcmgppacipdnaaaGreatDoor.Sg

namespace Go.Proofs.YtcmgppacipdnaaaGreatDoor
open Go.RowKit

abbrev egCells (e : Sg.Edge) : List Value := [.int .i64 e.off, .int .i64 e.pos, .int .i64 e.ep, .int .i64 e.time]
theorem eg_at (l : List Sg.Edge) (k : Nat) (hk : k < l.length) : (l.flatMap egCells)[k * 4]? = some (.int .i64 (Sg.ed l k).off) ∧ (l.flatMap egCells)[k * 4 + 1]? = some (.int .i64 (Sg.ed l k).pos) ∧ (l.flatMap egCells)[k * 4 + 2]? = some (.int .i64 (Sg.ed l k).ep) ∧ (l.flatMap egCells)[k * 4 + 3]? = some (.int .i64 (Sg.ed l k).time) := by
  induction l generalizing k with
  | nil => simp at hk
  | cons e l ih =>
    cases k with
    | zero => simp [Sg.ed]
    | succ k =>
      have := ih k (by simp at hk; omega)
      simp only [List.flatMap_cons]
      rw [List.getElem?_append_right (by simp; omega), List.getElem?_append_right (by simp; omega), List.getElem?_append_right (by simp; omega), List.getElem?_append_right (by simp; omega)]
      simp only [List.length_cons, List.length_nil]
      rw [show (k + 1) * 4 - (0 + 1 + 1 + 1 + 1) = k * 4 by omega, show (k + 1) * 4 + 1 - (0 + 1 + 1 + 1 + 1) = k * 4 + 1 by omega, show (k + 1) * 4 + 2 - (0 + 1 + 1 + 1 + 1) = k * 4 + 2 by omega, show (k + 1) * 4 + 3 - (0 + 1 + 1 + 1 + 1) = k * 4 + 3 by omega]
      exact this
theorem edge_info : (Tryz.prog.info? 138).map (fun i => (i.zero, i.size, i.bytes)) = some (some (.agg #[.int .i64 0, .int .i64 0, .int .i64 0, .int .i64 0]), 4, 32) := by kernel_rfl
/-- A row of edges, as it is read. -/
structure EgAt (w : World) (A : Option Addr) (c : Nat) (l : List Sg.Edge) : Prop where
  le : l.length ≤ c
  mx : c ≤ 9223372036854775807
  at_ : ∀ k, k < l.length → ∃ g, A = some ⟨g, 0, none⟩ ∧ g < w.heap.size ∧ w.cell? ⟨g, k * 4, none⟩ = some (.int .i64 (Sg.ed l k).off) ∧ w.cell? ⟨g, k * 4 + 1, none⟩ = some (.int .i64 (Sg.ed l k).pos) ∧ w.cell? ⟨g, k * 4 + 2, none⟩ = some (.int .i64 (Sg.ed l k).ep) ∧ w.cell? ⟨g, k * 4 + 3, none⟩ = some (.int .i64 (Sg.ed l k).time)
theorem edges_at {w : World} {base : Nat} {v : Value} {l : List Sg.Edge} (h : w.ownsRow base 138 4 v l.length (l.flatMap egCells)) : ∃ A c, v = .slice A l.length c ∧ EgAt w A c l := by
  rcases h.2 with ⟨e, k0⟩ | ⟨g, cap, cur, e, _, hh, hcap, hmx, _⟩
  · exact ⟨_, _, by rw [e, k0], by omega, by omega, fun k hk => by omega⟩
  · refine ⟨_, _, e, by omega, by simp only [maxLen] at hmx; omega, fun k hk => ⟨g, rfl, (Array.getElem?_eq_some_iff.1 hh).1, ?_⟩⟩
    obtain ⟨k1, k2, k3, k4⟩ := eg_at l k hk
    have hc := h.cells (g := g) (by rw [e]; rfl)
    refine ⟨?_, ?_, ?_, ?_⟩
    · have := hc _ _ k1; rwa [Addr.add_lit, Nat.zero_add] at this
    · have := hc _ _ k2; rwa [Addr.add_lit, Nat.zero_add] at this
    · have := hc _ _ k3; rwa [Addr.add_lit, Nat.zero_add] at this
    · have := hc _ _ k4; rwa [Addr.add_lit, Nat.zero_add] at this
theorem EgAt.below {w w' : World} {A : Option Addr} {c : Nat} {l : List Sg.Edge} (h : EgAt w A c l) (hb : Below w.heap.size w w') : EgAt w' A c l :=
  ⟨h.le, h.mx, fun k hk => by
    obtain ⟨g, e, hg, h0, h1, h2, h3⟩ := h.at_ k hk
    exact ⟨g, e, Nat.lt_of_lt_of_le hg hb.size, (hb.cell (p := ⟨g, k * 4, none⟩) hg).trans h0, (hb.cell (p := ⟨g, k * 4 + 1, none⟩) hg).trans h1, (hb.cell (p := ⟨g, k * 4 + 2, none⟩) hg).trans h2, (hb.cell (p := ⟨g, k * 4 + 3, none⟩) hg).trans h3⟩⟩

def sgCells (D : Nat) (s : Sg.St) (v : Value) : Array Value := #[.pointer (some ⟨D, 0, none⟩), encStr s.file, .int .i64 s.every, v, .int .i64 s.synced]
/-- A segment whose own blocks are T's. -/
structure SegL (w : World) (X D : Nat) (v : Value) (s : Sg.St) (T : Nat → Prop) : Prop where
  box : w.heap[X]? = some (.cells (sgCells D s v) 141 (0, 0))
  own : w.ownsRow 0 138 4 v s.edges.length (s.edges.flatMap egCells)
  mX : T X
  mE : ∀ g, v.ownBlock = some g → T g
def SegAt (w : World) (X D : Nat) (s : Sg.St) (T : Nat → Prop) : Prop := ∃ v, SegL w X D v s T
section
variable {w w' : World} {X D : Nat} {v : Value} {s : Sg.St} {T T' : Nat → Prop}
theorem SegL.same (h : SegL w X D v s T) (hk : ∀ k, T k → k < w.heap.size → w'.heap[k]? = w.heap[k]?) : SegL w' X D v s T :=
  ⟨(hk _ h.mX (Array.getElem?_eq_some_iff.1 h.box).1).trans h.box, ownsRow_same h.own fun g hg => hk g (h.mE g hg) (h.own.lt g hg).2, h.mX, h.mE⟩
theorem SegL.below (h : SegL w X D v s T) (hb : Below w.heap.size w w') : SegL w' X D v s T := h.same fun k _ hk => hb.block k hk
theorem SegL.mono (h : SegL w X D v s T) (hT : ∀ k, T k → T' k) : SegL w X D v s T' := ⟨h.box, h.own, hT _ h.mX, fun g hg => hT _ (h.mE g hg)⟩
theorem SegAt.same (h : SegAt w X D s T) (hk : ∀ k, T k → k < w.heap.size → w'.heap[k]? = w.heap[k]?) : SegAt w' X D s T := by
  obtain ⟨v, h⟩ := h; exact ⟨v, h.same hk⟩
theorem SegAt.below (h : SegAt w X D s T) (hb : Below w.heap.size w w') : SegAt w' X D s T := h.same fun k _ hk => hb.block k hk
theorem SegAt.mono (h : SegAt w X D s T) (hT : ∀ k, T k → T' k) : SegAt w X D s T' := by
  obtain ⟨v, h⟩ := h; exact ⟨v, h.mono hT⟩
theorem SegL.lt (h : SegL w X D v s T) : X < w.heap.size := (Array.getElem?_eq_some_iff.1 h.box).1
/-- What lies in its box, and its edges. -/
theorem SegL.cells (h : SegL w X D v s T) : ∃ A c, v = .slice A s.edges.length c ∧ EgAt w A c s.edges ∧ w.cell? ⟨X, 0, none⟩ = some (.pointer (some ⟨D, 0, none⟩)) ∧ w.cell? ⟨X, 1, none⟩ = some (encStr s.file) ∧ w.cell? ⟨X, 2, none⟩ = some (.int .i64 s.every) ∧ w.cell? ⟨X, 3, none⟩ = some (.slice A s.edges.length c) ∧ w.cell? ⟨X, 4, none⟩ = some (.int .i64 s.synced) := by
  obtain ⟨A, c, e, h2⟩ := edges_at h.own
  subst e
  exact ⟨A, c, rfl, h2, box_cell h.box 0, box_cell h.box 1, box_cell h.box 2, box_cell h.box 3, box_cell h.box 4⟩
end
theorem fld0 (a b c d : Int) : ∀ W : World, (Instr.field 138 (.agg #[.int .i64 a, .int .i64 b, .int .i64 c, .int .i64 d]) 0).run Tryz.prog W = .ok (.int .i64 a) W := fun _ => by kernel_rfl
theorem fld1 (a b c d : Int) : ∀ W : World, (Instr.field 138 (.agg #[.int .i64 a, .int .i64 b, .int .i64 c, .int .i64 d]) 1).run Tryz.prog W = .ok (.int .i64 b) W := fun _ => by kernel_rfl
theorem fld2 (a b c d : Int) : ∀ W : World, (Instr.field 138 (.agg #[.int .i64 a, .int .i64 b, .int .i64 c, .int .i64 d]) 2).run Tryz.prog W = .ok (.int .i64 c) W := fun _ => by kernel_rfl
theorem fld3 (a b c d : Int) : ∀ W : World, (Instr.field 138 (.agg #[.int .i64 a, .int .i64 b, .int .i64 c, .int .i64 d]) 3).run Tryz.prog W = .ok (.int .i64 d) W := fun _ => by kernel_rfl
abbrev egV (e : Sg.Edge) : Value := .agg #[.int .i64 e.off, .int .i64 e.pos, .int .i64 e.ep, .int .i64 e.time]

set_option maxRecDepth 100000 in
theorem sgLast_any (X D : Nat) (s : Sg.St) (T : Nat → Prop) (w : World) (h : SegAt w X D s T) (ho : Sg.Ok s) :
    Calls Tryz.prog 96 #[.pointer (some ⟨X, 0, none⟩)] w fun e w' => e = .returned (egV (Sg.last s.edges)) ∧ Below w.heap.size w w' := by
  obtain ⟨v, h⟩ := h
  obtain ⟨A, c, rfl, he, -, -, -, c3, -⟩ := h.cells
  have hne := List.length_pos_iff.2 ho.ne
  have hlen := ho.len
  obtain ⟨g, rfl, hg, k0, k1, k2, k3⟩ := he.at_ (s.edges.length - 1) (by omega)
  have hX := h.lt
  have hle := he.le
  have hmx := he.mx
  have hlast : Sg.ed s.edges (s.edges.length - 1) = Sg.last s.edges := rfl
  rw [hlast] at k0 k1 k2 k3
  generalize Sg.last s.edges = m at *
  obtain ⟨n, hn⟩ : ∃ n, s.edges.length = n + 1 := ⟨s.edges.length - 1, by omega⟩
  rw [hn] at c3 hle hlen k0 k1 k2 k3
  rw [Nat.add_sub_cancel] at k0 k1 k2 k3
  obtain ⟨mo, mp, me, mt⟩ := m
  simp only at k0 k1 k2 k3
  have hb : Below w.heap.size w (w.alloc (.cells #[.int .i64 0, .int .i64 0, .int .i64 0, .int .i64 0] 138)) := balloc (Below.refl _ _) _
  replace k0 := (hb.cell (p := ⟨g, n * 4, none⟩) hg).trans k0
  replace k1 := (hb.cell (p := ⟨g, n * 4 + 1, none⟩) hg).trans k1
  replace k2 := (hb.cell (p := ⟨g, n * 4 + 2, none⟩) hg).trans k2
  replace k3 := (hb.cell (p := ⟨g, n * 4 + 3, none⟩) hg).trans k3
  replace c3 := (hb.cell (p := ⟨X, 3, none⟩) hX).trans c3
  have hw : IntKind.i64.wrap (((n + 1 : Nat) : Int) - 1) = (n : Int) := by rw [IntKind.wrap_i64]; omega
  have hgw : g ≠ w.heap.size := by omega
  have hXw : X ≠ w.heap.size := by omega
  clear h ho he hlast hn hne
  go_enter Tryz.func96, Tryz.ntmps96
  go_upto_region 1 with fail
  go_region
  all_goals
    go_wp2_with fail
    refine bodyPost_ret (v := egV ⟨mo, mp, me, mt⟩) (by simp [results, Tryz.results96, go_sem]; try rfl) rfl ?_
    exact ⟨rfl, (balloc (Below.refl _ _) _).drew⟩

set_option maxRecDepth 100000 in
theorem sgEnd_any (X D : Nat) (s : Sg.St) (T : Nat → Prop) (w : World) (h : SegAt w X D s T) (ho : Sg.Ok s) :
    Calls Tryz.prog 50 #[.pointer (some ⟨X, 0, none⟩)] w fun e w' => e = .returned (.int .i64 (Sg.last s.edges).off) ∧ Below w.heap.size w w' := by
  have HL := hide (sgLast_any X D s T w h ho)
  clear h ho
  generalize Sg.last s.edges = m at *
  obtain ⟨mo, mp, me, mt⟩ := m
  unfold egV at HL
  simp only at HL
  have hfd := fld0 mo mp me mt
  go_enter Tryz.func50, Tryz.ntmps50
  go_wp2_with (first
    | (go_at_call 96; refine HL.out.mono ?_; rintro e w1 ⟨rfl, hb⟩; have HB := hide hb; clear hb)
    | fail)
  go_ret
  exact ⟨rfl, HB.out⟩
set_option maxRecDepth 100000 in
theorem sgSize_any (X D : Nat) (s : Sg.St) (T : Nat → Prop) (w : World) (h : SegAt w X D s T) (ho : Sg.Ok s) :
    Calls Tryz.prog 51 #[.pointer (some ⟨X, 0, none⟩)] w fun e w' => e = .returned (.int .i64 (Sg.last s.edges).pos) ∧ Below w.heap.size w w' := by
  have HL := hide (sgLast_any X D s T w h ho)
  clear h ho
  generalize Sg.last s.edges = m at *
  obtain ⟨mo, mp, me, mt⟩ := m
  unfold egV at HL
  simp only at HL
  have hfd := fld1 mo mp me mt
  go_enter Tryz.func51, Tryz.ntmps51
  go_wp2_with (first
    | (go_at_call 96; refine HL.out.mono ?_; rintro e w1 ⟨rfl, hb⟩; have HB := hide hb; clear hb)
    | fail)
  go_ret
  exact ⟨rfl, HB.out⟩
set_option maxRecDepth 100000 in
theorem sgTime_any (X D : Nat) (s : Sg.St) (T : Nat → Prop) (w : World) (h : SegAt w X D s T) (ho : Sg.Ok s) :
    Calls Tryz.prog 88 #[.pointer (some ⟨X, 0, none⟩)] w fun e w' => e = .returned (.int .i64 (Sg.last s.edges).time) ∧ Below w.heap.size w w' := by
  have HL := hide (sgLast_any X D s T w h ho)
  clear h ho
  generalize Sg.last s.edges = m at *
  obtain ⟨mo, mp, me, mt⟩ := m
  unfold egV at HL
  simp only at HL
  have hfd := fld3 mo mp me mt
  go_enter Tryz.func88, Tryz.ntmps88
  go_wp2_with (first
    | (go_at_call 96; refine HL.out.mono ?_; rintro e w1 ⟨rfl, hb⟩; have HB := hide hb; clear hb)
    | fail)
  go_ret
  exact ⟨rfl, HB.out⟩
set_option maxRecDepth 100000 in
theorem sgBase_any (X D : Nat) (s : Sg.St) (T : Nat → Prop) (w : World) (h : SegAt w X D s T) (ho : Sg.Ok s) :
    Calls Tryz.prog 49 #[.pointer (some ⟨X, 0, none⟩)] w fun e w' => e = .returned (.int .i64 (Sg.ed s.edges 0).off) ∧ Below w.heap.size w w' := by
  obtain ⟨v, h⟩ := h
  obtain ⟨A, c, rfl, he, -, -, -, c3, -⟩ := h.cells
  have hne := List.length_pos_iff.2 ho.ne
  obtain ⟨g, rfl, hg, k0, -⟩ := he.at_ 0 hne
  have hle := he.le
  have hmx := he.mx
  generalize (Sg.ed s.edges 0).off = m at *
  generalize s.edges.length = n at *
  rw [Nat.zero_mul] at k0
  clear h ho he
  go_enter Tryz.func49, Tryz.ntmps49
  go_wp2_with fail
  go_ret
  exact ⟨rfl, Below.refl _ _⟩
end Go.Proofs.YtcmgppacipdnaaaGreatDoor

namespace Go.Proofs.YtcmgppacipdnaaaGreatDoor
open Go Go.RowKit

/-- Operation jj waits for operation i by its own word. -/
def isBef (ops : Array Oper) (jj i : Nat) : Bool := match ops[jj]? with
  | some o => o.after.any (fun e => e.on == i && Region.binds .any e)
  | none => false
theorem isBef_of {ops : Array Oper} {jj i : Nat} (h : isBef ops jj i = true) : ∃ oj, ops[jj]? = some oj ∧ ∃ e ∈ oj.after.toList, Region.binds .any e = true ∧ e.on = i := by
  unfold isBef at h
  cases ho : ops[jj]? with
  | none => rw [ho] at h; cases h
  | some o =>
    rw [ho] at h
    simp only [Array.any_eq_true, Bool.and_eq_true, beq_iff_eq] at h
    obtain ⟨k, hk, h2, h3⟩ := h
    exact ⟨o, rfl, o.after[k], by simp, h3, h2⟩

structure MidstA (G0 G : World → World → Prop) (jj : Nat) (P : Program) (ops : Array Oper) (D : Nat → Value → World → Prop) (a : Act) (w : World) (listed : Array Bool) (a' : Act) (w' : World) : Prop where
  size : a'.tmps.size = a.tmps.size
  defers : a'.defers = a.defers
  same : ∀ k, k ∉ dstsOf ops → a'.tmps[k]? = a.tmps[k]?
  below : G w w'
  pre : listed.getD jj false = false → G0 w w'
  known : ∀ i, i < ops.size - 1 → listed.getD i false = true → D (dstOf ops i) (a'.tmps.getD (dstOf ops i) undef) w'
  closed : ∀ (j : Nat) (o : Oper), ops[j]? = some o → listed.getD j false = true → ∀ e ∈ o.after.toList, Region.binds .any e = true → listed.getD e.on false = true

theorem wpAny_openA {G0 G : World → World → Prop} (hG0 : Goes G0) (hG : Goes G) (_hsub : ∀ a b, G0 a b → G a b) {jj : Nat} {P : Program} {ops : Array Oper} {Q : Exit → Act → World → Prop} {D : Nat → Value → World → Prop} {a : Act} {w : World} (hB : openForm2 ops = true)
    (hfit : ∀ d ∈ dstsOf ops, d < a.tmps.size)
    (hjj : jj < ops.size - 1)
    (stable : ∀ d v w1 w2, d ≠ dstOf ops jj → D d v w1 → G w1 w2 → D d v w2)
    (stableJ : ∀ v w1 w2, D (dstOf ops jj) v w1 → G0 w1 w2 → D (dstOf ops jj) v w2)
    (step : ∀ i o, i < ops.size - 1 → ops[i]? = some o → ∀ (ev : Operand → Value) w1, G w w1 → ((i = jj ∨ isBef ops jj i = true) → G0 w w1) → (∀ x, (∀ d ∈ dstsOf ops, x ≠ .tmp d) → ev x = a.eval x) →
      (∀ e ∈ o.after.toList, e.on < ops.size - 1 → Region.binds .any e = true → D (dstOf ops e.on) (ev (.tmp (dstOf ops e.on))) w1) → OpRuns P ev o w1 fun v w2 => (G w1 w2 ∧ (i ≠ jj → G0 w1 w2)) ∧ D (dstOf ops i) v w2)
    (last : ∀ o, ops[ops.size - 1]? = some o → ∀ f w1, G w w1 → (∀ d ∈ dstsOf ops, D d (f d) w1) → o.wp P (puts a f (dstsOf ops)) w1 (fun a' w' => Q .normal a' w') Q ∨ (o.asks P (puts a f (dstsOf ops)) w1 ∧ LetsOut Q)) :
    ∀ (fuel : Nat) (listed : Array Bool) (a' : Act) (w' : World), listed.size = ops.size → todo listed = fuel →
      (listed.getD (ops.size - 1) true = false → MidstA G0 G jj P ops D a w listed a' w') → (listed.getD (ops.size - 1) true = true → todo listed = 0 ∧ Q .normal a' w') → wpAny P .any ops Q fuel listed a' w' := by
  have hB' := hB
  simp only [openForm2, Bool.and_eq_true, decide_eq_true_eq, List.all_eq_true, List.mem_range] at hB'
  obtain ⟨⟨⟨hpos, hall⟩, hlast⟩, hnd⟩ := hB'
  -- each operation's own form
  have form : ∀ i o, ops[i]? = some o → o.guard = none ∧ (∀ e ∈ o.after.toList, e.on < i) ∧ (i = ops.size - 1 ∨ o.dst.isSome = true) := by
    intro i o ho
    have hi : i < ops.size := (Array.getElem?_eq_some_iff.1 ho).1
    have h := hall i hi
    rw [ho] at h
    simp only [Bool.and_eq_true, Bool.or_eq_true, decide_eq_true_eq, Option.isNone_iff_eq_none] at h
    refine ⟨h.1.1, fun e he => ?_, h.2⟩
    have := Array.all_eq_true_iff_forall_mem.1 h.1.2 e (by simpa using he)
    simpa using this
  -- where some are still to come one may come up
  have alive : ∀ listed : Array Bool, listed.size = ops.size → 0 < todo listed → Region.ready .any ops listed ≠ [] := by
    intro listed hs ht he
    obtain ⟨i, hi⟩ : ∃ i, i < ops.size ∧ listed.getD i true = false := by
      unfold todo at ht
      obtain ⟨i, hi, e⟩ := List.mem_iff_getElem.1 (List.count_pos_iff.1 ht)
      have hi' : i < listed.size := by simpa using hi
      exact ⟨i, by omega, by simpa [hi'] using e⟩
    obtain ⟨n, ⟨hn, hf⟩, hmin⟩ : ∃ n, (n < ops.size ∧ listed.getD n true = false) ∧ ∀ m, m < n → listed.getD m true = true := by
      have : ∀ k i, i < k → i < ops.size → listed.getD i true = false → ∃ n, (n < ops.size ∧ listed.getD n true = false) ∧ ∀ m, m < n → listed.getD m true = true := by
        intro k
        induction k with
        | zero => intro i h; omega
        | succ k ih =>
          intro i hik h1 h2
          by_cases hm : ∃ m, m < i ∧ listed.getD m true = false
          · obtain ⟨m, hmi, hmf⟩ := hm
            exact ih m (by omega) (by omega) hmf
          · refine ⟨i, ⟨h1, h2⟩, fun m hmi => ?_⟩
            rcases Bool.eq_false_or_eq_true (listed.getD m true) with h | h
            · exact h
            · exact absurd ⟨m, hmi, h⟩ hm
      exact this (i + 1) i (by omega) hi.1 hi.2
    have hmem : n ∈ Region.ready .any ops listed := by
      refine mem_ready.2 ⟨hf, ops[n], by simp [hn], fun e hee _ => ?_⟩
      have hlt := (form n ops[n] (by simp [hn])).2.1 e (by simpa using hee)
      have := hmin e.on hlt
      have hsz : e.on < listed.size := by omega
      simpa [hsz] using this
    rw [he] at hmem
    cases hmem
  intro fuel
  induction fuel with
  | zero =>
    intro listed a' w' hs ht _ hdone
    have hl : listed.getD (ops.size - 1) true = true := by
      rcases Bool.eq_false_or_eq_true (listed.getD (ops.size - 1) true) with h | h
      · exact h
      · have := todo_set (i := ops.size - 1) (listed := listed) (by omega) h
        omega
    refine ⟨?_, (hdone hl).2⟩
    match hr : Region.ready .any ops listed with
    | [] => rfl
    | i :: _ =>
      exfalso
      have hi : i ∈ Region.ready .any ops listed := by rw [hr]; exact List.mem_cons_self
      obtain ⟨h1, o, ho, _⟩ := mem_ready.1 hi
      have hlt : i < ops.size := (Array.getElem?_eq_some_iff.1 ho).1
      have := todo_set (i := i) (listed := listed) (by omega) h1
      omega
  | succ fuel ih =>
    intro listed a' w' hs ht hmid hdone
    refine ⟨fun he => absurd he (alive listed hs (by omega)), fun i hi => ?_⟩
    obtain ⟨h1, o, ho, hdeps⟩ := mem_ready.1 hi
    have hlt : i < ops.size := (Array.getElem?_eq_some_iff.1 ho).1
    have hset := todo_set (i := i) (listed := listed) (by omega) h1
    obtain ⟨hg, hon, hdst⟩ := form i o ho
    have hl : listed.getD (ops.size - 1) true = false := by
      rcases Bool.eq_false_or_eq_true (listed.getD (ops.size - 1) true) with h | h
      · have := (hdone h).1; omega
      · exact h
    have M := hmid hl
    unfold wpOp
    simp only [ho]
    rw [if_pos (by simp [Region.wanted, hg])]
    by_cases hil : i = ops.size - 1
    · -- the last: all others have come up
      subst hil
      have hallL : ∀ j, j < ops.size - 1 → listed.getD j false = true := by
        intro j hj
        have h := hlast j hj
        rw [ho] at h
        simp only [Bool.or_eq_true, Array.any_eq_true, Bool.and_eq_true, beq_iff_eq] at h
        rcases h with ⟨k, hk, h2, h3⟩ | ⟨k, hk, h3, h4⟩
        · have := hdeps o.after[k] (Array.getElem_mem hk) h3
          rwa [h2] at this
        · have h5 := hdeps o.after[k] (Array.getElem_mem hk) h3
          cases ho2 : ops[o.after[k].on]? with
          | none => rw [ho2] at h4; cases h4
          | some o2 =>
            rw [ho2] at h4
            simp only [Array.any_eq_true, Bool.and_eq_true, beq_iff_eq] at h4
            obtain ⟨k2, hk2, h6, h7⟩ := h4
            have := M.closed _ o2 ho2 h5 o2.after[k2] (by simp) h7
            rwa [h6] at this
      have hput : a' = puts a (fun k => a'.tmps.getD k undef) (dstsOf ops) := by
        have ht : a'.tmps = (puts a (fun k => a'.tmps.getD k undef) (dstsOf ops)).tmps := by
          apply Array.ext_getElem?
          intro k
          rw [puts_get]
          split
          · rename_i h
            have hk : k < a'.tmps.size := by rw [M.size]; exact h.2
            simp [hk]
          · rename_i h
            by_cases hk : k ∈ dstsOf ops
            · exact absurd ⟨hk, hfit k hk⟩ h
            · exact M.same k hk
        have hd : a'.defers = (puts a (fun k => a'.tmps.getD k undef) (dstsOf ops)).defers := by rw [puts_defers, M.defers]
        exact act_eq ht hd
      have h := last o ho (fun k => a'.tmps.getD k undef) w' M.below (fun d hd => by
        obtain ⟨j, hj, rfl⟩ := List.mem_map.1 hd
        exact M.known j (List.mem_range.1 hj) (hallL j (List.mem_range.1 hj)))
      rw [← hput] at h
      have hall0 : todo (listed.setIfInBounds (ops.size - 1) true) = 0 := by
        unfold todo
        rw [List.count_eq_zero]
        intro hmem
        obtain ⟨j, hj, e⟩ := List.mem_iff_getElem.1 hmem
        have hj' : j < listed.size := by simpa using hj
        by_cases hjl : j = ops.size - 1
        · subst hjl
          simp at e
        · have h2 := hallL j (by omega)
          have e2 : listed[j] = false := by
            simpa [Array.getElem_setIfInBounds, Ne.symm hjl] using e
          simp [hj', e2] at h2
      refine h.imp (fun h => Oper.wp_mono (fun a2 w2 hq => ih _ a2 w2 (by simpa using hs) (by omega) (fun h => ?_) (fun _ => ⟨hall0, hq⟩)) h) id
      rw [getD_set_self (by omega)] at h
      cases h
    · -- one of the others
      have hi1 : i < ops.size - 1 := by omega
      obtain ⟨d, hd⟩ : ∃ d, o.dst = some d := Option.isSome_iff_exists.1 (hdst.resolve_left hil)
      have hdi : dstOf ops i = d := by simp [dstOf, ho, hd]
      have hdm : d ∈ dstsOf ops := hdi ▸ dst_mem hi1
      have hr := step i o hi1 ho a'.eval w' M.below (fun e => M.pre (by
        have h2 : listed.getD i false = false := by
          have h2 := h1
          have hsz : i < listed.size := by omega
          simpa [hsz] using h2
        rcases e with e | e
        · rw [← e]; exact h2
        · cases hl2 : listed.getD jj false with
          | false => rfl
          | true =>
            obtain ⟨oj, hoj, e2, he2, hb2, hon2⟩ := isBef_of e
            have := M.closed jj oj hoj hl2 e2 he2 hb2
            rw [hon2, h2] at this
            cases this)) (fun x hx => by
        cases x with
        | tmp t =>
          have hm : t ∉ dstsOf ops := fun hm => hx t hm rfl
          have := M.same t hm
          simp only [Act.eval, Array.getD_eq_getD_getElem?, this]
        | const c => rfl
        | global g => rfl
        | func f => rfl) (fun e he hen hbd => M.known e.on hen (hdeps e (by simpa using he) hbd))
      left
      refine hr.wp fun v w2 ⟨⟨hb2, hb0⟩, hD⟩ => ih _ _ w2 (by simpa using hs) (by omega) (fun _ => ?_) (fun h => ?_)
      · rw [hd]
        refine ⟨by simp [Act.put, M.size], by simp [Act.put, M.defers], fun k hk => ?_, hG.trans M.below hb2, fun hj0 => ?_, fun j hj hjl => ?_, fun j o2 ho2 hjl e he hbd => ?_⟩
        · have hkd : d ≠ k := fun e => hk (e ▸ hdm)
          simp only [Act.put, Array.getElem?_setIfInBounds, if_neg hkd]
          exact M.same k hk
        · by_cases hij : i = jj
          · subst hij
            rw [getD_set_self (by omega) false] at hj0
            cases hj0
          · rw [getD_set_ne false hij] at hj0
            exact hG0.trans (M.pre hj0) (hb0 hij)
        · by_cases hji : j = i
          · subst hji
            rw [hdi] at hD ⊢
            have hds : d < a'.tmps.size := by rw [M.size]; exact hfit d hdm
            simpa [Act.put, hds] using hD
          · have hne : d ≠ dstOf ops j := fun e => hji (dst_inj hnd hj hi1 (by rw [hdi, e]))
            have hold : listed.getD j false = true := by rwa [getD_set_ne false (Ne.symm hji)] at hjl
            have : D (dstOf ops j) (a'.tmps.getD (dstOf ops j) undef) w2 := by
              by_cases hjd : j = jj
              · subst hjd
                exact stableJ _ _ _ (M.known j hj hold) (hb0 (Ne.symm hji))
              · exact stable _ _ _ _ (fun e => hjd (dst_inj hnd hj hjj e)) (M.known j hj hold) hb2
            simpa [Act.put, Array.getElem?_setIfInBounds, hne] using this
        · have mono : ∀ x, listed.getD x false = true → (listed.setIfInBounds i true).getD x false = true := fun x hx => by
            by_cases hxi : x = i
            · subst hxi; exact getD_set_self (by omega) false
            · rw [getD_set_ne false (Ne.symm hxi)]; exact hx
          by_cases hji : j = i
          · subst hji
            obtain rfl : o2 = o := Option.some.inj (ho2.symm.trans ho)
            exact mono _ (hdeps e (by simpa using he) hbd)
          · have hold : listed.getD j false = true := by rwa [getD_set_ne false (Ne.symm hji)] at hjl
            exact mono _ (M.closed j o2 ho2 hold e he hbd)
      · rw [getD_set_ne true hil] at h
        rw [hl] at h
        cases h

/-- What is known of a slot: of dj what outlives new blocks alone. -/
def Dj {G0 G : World → World → Prop} (T : Nat → Held G) (TJ : Held G0) (dj d : Nat) (v : Value) (w : World) : Prop := if d = dj then TJ.p v w else (T d).p v w
def DepsD (dsts : List Nat) (D : Nat → Value → World → Prop) (ev : Operand → Value) (w1 : World) : List Edge → Prop
  | [] => True
  | e :: es => D (dsts.getD e.on 0) (ev (.tmp (dsts.getD e.on 0))) w1 ∧ DepsD dsts D ev w1 es
theorem depsD_of {dsts : List Nat} {D : Nat → Value → World → Prop} {ev : Operand → Value} {w1 : World} : ∀ {es : List Edge}, (∀ e ∈ es, D (dsts.getD e.on 0) (ev (.tmp (dsts.getD e.on 0))) w1) → DepsD dsts D ev w1 es
  | [], _ => trivial
  | _ :: _, h => ⟨h _ List.mem_cons_self, depsD_of fun e he => h e (List.mem_cons_of_mem _ he)⟩
/-- One operation: what it may find done, and what it may do. -/
def StepA (G1 G2 : World → World → Prop) (P : Program) (dsts : List Nat) (D : Nat → Value → World → Prop) (a : Act) (w : World) (o : Oper) (d : Nat) : Prop :=
  ∀ (ev : Operand → Value) w1, G1 w w1 → (∀ x, (∀ d ∈ dsts, x ≠ .tmp d) → ev x = a.eval x) → DepsD dsts D ev w1 o.after.toList → OpRuns P ev o w1 fun v w2 => G2 w1 w2 ∧ D d v w2
def StepsA (G0 G : World → World → Prop) (P : Program) (dsts : List Nat) (D : Nat → Value → World → Prop) (a : Act) (w : World) (jj : Nat) (bef : List Nat) : Nat → List Oper → List Nat → Prop
  | k, o :: os, d :: ds => (if k = jj then StepA G0 G P dsts D a w o d else if k ∈ bef then StepA G0 G0 P dsts D a w o d else StepA G G0 P dsts D a w o d) ∧ StepsA G0 G P dsts D a w jj bef (k + 1) os ds
  | _, _, _ => True
theorem stepsA_at {G0 G : World → World → Prop} {P : Program} {dsts : List Nat} {D : Nat → Value → World → Prop} {a : Act} {w : World} {jj : Nat} {bef : List Nat} : ∀ {os : List Oper} {ds : List Nat} {k : Nat} (_ : StepsA G0 G P dsts D a w jj bef k os ds) (i : Nat) {o : Oper} {d : Nat}, os[i]? = some o → ds[i]? = some d → (if k + i = jj then StepA G0 G P dsts D a w o d else if k + i ∈ bef then StepA G0 G0 P dsts D a w o d else StepA G G0 P dsts D a w o d)
  | [], _, _, _, i, _, _, h, _ => by simp at h
  | _ :: _, [], _, _, i, _, _, _, h => by simp at h
  | _ :: os, _ :: ds, _, h, 0, _, _, ho, hd => by simp at ho hd; subst ho hd; exact h.1
  | _ :: os, _ :: ds, k, h, i + 1, _, _, ho, hd => by
    have := stepsA_at h.2 i (by simpa using ho) (by simpa using hd)
    rwa [show k + 1 + i = k + (i + 1) by omega] at this
/-- A region whose last operation is a store that waits for all, and one of whose others (number jj) does more than to make new blocks. -/
theorem wp_region_app {G0 G : World → World → Prop} (hG0 : Goes G0) (hG : Goes G) (hsub : ∀ a b, G0 a b → G a b) {P : Program} {id : Nat} {ops : Array Oper} {Q : Exit → Act → World → Prop} (dsts : List Nat) (jj dj : Nat) (bef : List Nat) (T : Nat → Held G) (TJ : Held G0) (o : Oper) {a : Act} {w : World} (hm : P.follows .mixedOrders = true)
    (hB : (openForm2 ops && edgesBind ops && decide (dstsOf ops = dsts) && decide (jj < ops.size - 1) && decide (dstOf ops jj = dj) && bef.all (isBef ops jj)) = true)
    (ho : ops[ops.size - 1]? = some o)
    (hfit : (dsts.all fun d => decide (d < a.tmps.size)) = true)
    (steps : StepsA G0 G P dsts (Dj T TJ dj) a w.drew jj bef 0 (ops.toList.take (ops.size - 1)) dsts)
    (last : ∀ f w1, G w.drew w1 → (∀ d ∈ dsts, Dj T TJ dj d (f d) w1) → wpList P ops Q [o] (puts a f dsts) w1) : (Code.region id ops true).wp P Q a w := by
  simp only [Bool.and_eq_true, decide_eq_true_eq] at hB
  obtain ⟨⟨⟨⟨⟨hB, hbind⟩, rfl⟩, hjj⟩, rfl⟩, hbef⟩ := hB
  have hB' := hB
  simp only [openForm2, Bool.and_eq_true, decide_eq_true_eq] at hB'
  have hform := hB'.1.1.2
  rw [List.all_eq_true] at hform
  have hpos := hB'.1.1.1
  refine wp_region_any hm (wpAny_openA hG0 hG hsub (jj := jj) (D := Dj T TJ (dstOf ops jj)) (w := w.drew) hB (fun d hd => by simpa using List.all_eq_true.1 hfit d hd) hjj
    (fun d v w1 w2 hd h hg => by unfold Dj at h ⊢; rw [if_neg hd] at h ⊢; exact (T d).st v w1 w2 h hg)
    (fun v w1 w2 h hg => by unfold Dj at h ⊢; rw [if_pos rfl] at h ⊢; exact TJ.st v w1 w2 h hg)
    ?_ (fun o' ho' f w1 hb hD => ?_) _ _ _ _ (by simp) ?_ (fun _ => ?_) (fun h => ?_))
  · intro i oi hi hoi ev w1 hb hb0 hev hdeps
    have hlt : i < ops.size := by omega
    have h1 := stepsA_at steps i (o := oi) (d := dstOf ops i) (by
      rw [List.getElem?_take, if_pos hi]
      simpa using hoi) (by simp [dstsOf, hi])
    rw [Nat.zero_add] at h1
    have hdp : DepsD (dstsOf ops) (Dj T TJ (dstOf ops jj)) ev w1 oi.after.toList := depsD_of fun e he => by
      have hf := hform i (List.mem_range.2 hlt)
      rw [hoi] at hf
      simp only [Bool.and_eq_true] at hf
      have hon : e.on < i := by simpa using Array.all_eq_true_iff_forall_mem.1 hf.1.2 e (by simpa using he)
      have hbd : Region.binds .any e = true := by
        have h2 := Array.all_eq_true_iff_forall_mem.1 hbind oi (Array.mem_of_getElem? hoi)
        exact Array.all_eq_true_iff_forall_mem.1 h2 e (by simpa using he)
      have hg : (dstsOf ops).getD e.on 0 = dstOf ops e.on := by simp [dstsOf, List.getD, show e.on < ops.size - 1 by omega]
      rw [hg]
      exact hdeps e he (by omega) hbd
    have omono : ∀ {A B : Value → World → Prop}, (∀ v w, A v w → B v w) → OpRuns P ev oi w1 A → OpRuns P ev oi w1 B := fun hAB hr => by
      unfold OpRuns at hr ⊢
      split at hr
      · exact hAB _ _ hr
      · exact hAB _ _ hr
      · exact hr.mono fun e w'' ⟨v, he, hp⟩ => ⟨v, he, hAB _ _ hp⟩
      · exact hr
    by_cases hij : i = jj
    · rw [if_pos hij] at h1
      exact omono (fun v w2 ⟨k1, k2⟩ => ⟨⟨k1, fun hn => absurd hij hn⟩, k2⟩) (h1 ev w1 (hb0 (.inl hij)) hev hdp)
    · rw [if_neg hij] at h1
      by_cases hib : i ∈ bef
      · rw [if_pos hib] at h1
        exact omono (fun v w2 ⟨k1, k2⟩ => ⟨⟨hsub _ _ k1, fun _ => k1⟩, k2⟩) (h1 ev w1 (hb0 (.inr (List.all_eq_true.1 hbef i hib))) hev hdp)
      rw [if_neg hib] at h1
      exact omono (fun v w2 ⟨k1, k2⟩ => ⟨⟨hsub _ _ k1, fun _ => k1⟩, k2⟩) (h1 ev w1 hb hev hdp)
  · obtain rfl : o' = o := Option.some.inj (ho'.symm.trans ho)
    have h := last f w1 hb hD
    have hg := hform (ops.size - 1) (List.mem_range.2 (by omega))
    rw [ho] at hg
    simp only [Bool.and_eq_true, Option.isNone_iff_eq_none] at hg
    unfold wpList at h
    rw [if_pos (by simp [Region.wanted, hg.1.1])] at h
    exact h
  · simp [todo]
  · refine ⟨rfl, rfl, fun _ _ => rfl, hG.refl _, fun _ => hG0.refl _, fun i hi h => ?_, fun j o2 ho2 h => ?_⟩
    · have h0 : (Array.replicate ops.size false).getD i false = false := by simp [show i < ops.size by omega]
      rw [h0] at h; cases h
    · have hj : j < ops.size := (Array.getElem?_eq_some_iff.1 ho2).1
      have h0 : (Array.replicate ops.size false).getD j false = false := by simp [hj]
      rw [h0] at h; cases h
  · have h0 : (Array.replicate ops.size false).getD (ops.size - 1) true = false := by simp [show ops.size - 1 < ops.size by omega]
    rw [h0] at h; cases h
end Go.Proofs.YtcmgppacipdnaaaGreatDoor
