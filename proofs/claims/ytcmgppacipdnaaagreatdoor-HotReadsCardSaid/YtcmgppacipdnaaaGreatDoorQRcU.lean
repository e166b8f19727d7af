/-
  Records that the call itself lays in a row of its own, beside a reader and two blocks.
  What the walk through rec's unlay keeps from step to step.
-/
import Derived.Test.YtcmgppacipdnaaaGreatDoorQVFixed
import Derived.Test.YtcmgppacipdnaaaGreatDoorQRcL
import Derived.Test.YtcmgppacipdnaaaGreatDoorQVMeth
namespace Go.Proofs.YtcmgppacipdnaaaGreatDoor
open Go.RowKit

theorem record_info : (Tryz.prog.info? 80).map (fun i => (i.zero, i.size, i.bytes)) = some (some (.agg #[.int .i64 0, .slice none 0 0, .slice none 0 0]), 3, 56) := by kernel_rfl

/-- A record, and where its texts lie. -/
structure PRec where
  r : Rc.Rec
  Ak : Option Addr
  ck : Nat
  Av : Option Addr
  cv : Nat
def PRec.cells (q : PRec) : List Value := [.int .i64 q.r.t, .slice q.Ak q.r.k.length q.ck, .slice q.Av q.r.v.length q.cv]
theorem PRec.cells_len (q : PRec) : q.cells.length = 3 := rfl
theorem PRec.cells_one (q : PRec) : ∀ u ∈ q.cells, u.oneCell' = true := by
  intro u hu
  simp [PRec.cells] at hu
  rcases hu with rfl | rfl | rfl <;> rfl
theorem pcells_len (qs : List PRec) : (qs.flatMap PRec.cells).length = qs.length * 3 := by
  induction qs with
  | nil => rfl
  | cons q qs ih => simp [ih, PRec.cells_len]; omega

theorem Arg.grown {w w' : World} {row : Option Nat} {A : Option Addr} {cap : Nat} {l : List UInt8} (h : Arg w A cap l) (hg : w.grownBy w' row) (hne : l ≠ [] → ∀ b off, A = some ⟨b, off, none⟩ → some b ≠ row) : Arg w' A cap l := by
  refine ⟨h.le, h.max, h.nil, ?_⟩
  rcases h.reads with h0 | ⟨b, off, e, hlt, hc⟩
  · exact .inl h0
  · by_cases hl : l = []
    · exact .inl hl
    · exact .inr ⟨b, off, e, Nat.lt_of_lt_of_le hlt hg.size, fun k hk => hg.cell (hc k hk) (hne hl b off e)⟩

/-- A text that lies at or beyond lo, and not in v's row. -/
structure Txt (w : World) (lo : Nat) (v : Value) (A : Option Addr) (c : Nat) (l : List UInt8) : Prop where
  arg : Arg w A c l
  far : l ≠ [] → ∀ b off, A = some ⟨b, off, none⟩ → lo ≤ b ∧ v.ownBlock ≠ some b
theorem Txt.keep {w w' : World} {lo x : Nat} {v : Value} {A : Option Addr} {c : Nat} {l : List UInt8} (h : Txt w lo v A c l) (hg : w.grownBy w' (some x)) (hx : x < lo) : Txt w' lo v A c l :=
  ⟨h.arg.grown hg fun hl b off e => by have := (h.far hl b off e).1; intro e'; injection e' with e'; omega, h.far⟩
theorem Txt.lt {w : World} {lo : Nat} {v : Value} {A : Option Addr} {c : Nat} {l : List UInt8} (h : Txt w lo v A c l) (hl : l ≠ []) : ∀ b off, A = some ⟨b, off, none⟩ → b < w.heap.size := by
  intro b off e
  rcases h.arg.reads with h0 | ⟨b', off', e', hlt, _⟩
  · exact absurd h0 hl
  · rw [e] at e'
    injection e' with e'
    injection e' with e1
    omega
theorem Txt.app {w w' : World} {lo : Nat} {v v' : Value} {A : Option Addr} {c : Nat} {l : List UInt8} (h : Txt w lo v A c l) (hg : w.grownBy w' v.ownBlock) (hv : v'.ownBlock = v.ownBlock ∨ ∃ k, v'.ownBlock = some k ∧ w.heap.size ≤ k) : Txt w' lo v' A c l := by
  refine ⟨h.arg.grown hg fun hl b off e e' => (h.far hl b off e).2 e'.symm, fun hl b off e => ⟨(h.far hl b off e).1, ?_⟩⟩
  rcases hv with hv | ⟨k, hv, hk⟩
  · rw [hv]; exact (h.far hl b off e).2
  · rw [hv]; have := h.lt hl b off e; intro e'; injection e' with e'; omega

/-- The row of records. -/
structure Row (w : World) (lo : Nat) (v : Value) (qs : List PRec) : Prop where
  own : w.ownsRow lo 80 3 v qs.length (qs.flatMap PRec.cells)
  txt : ∀ q ∈ qs, Txt w lo v q.Ak q.ck q.r.k ∧ Txt w lo v q.Av q.cv q.r.v
theorem Row.nil (w : World) (lo : Nat) : Row w lo (.slice none 0 0) [] := ⟨World.ownsRow_nil w lo _ 3, fun q hq => by simp at hq⟩
theorem Row.keep {w w' : World} {lo x : Nat} {v : Value} {qs : List PRec} (h : Row w lo v qs) (hg : w.grownBy w' (some x)) (hx : x < lo) : Row w' lo v qs :=
  ⟨h.own.kept hg (.inr fun e => by have := (h.own.lt x e).1; omega), fun q hq => ⟨(h.txt q hq).1.keep hg hx, (h.txt q hq).2.keep hg hx⟩⟩
theorem grown_of_below {w w' : World} (h : Below w.heap.size w w') (row : Option Nat) : w.grownBy w' row := ⟨h.os, h.tape, h.output, h.size, fun k hk _ => h.block k hk⟩
theorem Txt.below {w w' : World} {lo : Nat} {v : Value} {A : Option Addr} {c : Nat} {l : List UInt8} (h : Txt w lo v A c l) (hb : Below w.heap.size w w') : Txt w' lo v A c l := ⟨h.arg.below hb (Nat.le_refl _), h.far⟩
theorem Row.below {w w' : World} {lo : Nat} {v : Value} {qs : List PRec} (h : Row w lo v qs) (hb : Below w.heap.size w w') : Row w' lo v qs :=
  ⟨h.own.kept (grown_of_below hb none) (by cases v.ownBlock <;> simp), fun q hq => ⟨(h.txt q hq).1.below hb, (h.txt q hq).2.below hb⟩⟩
theorem Row.app {w w' : World} {lo : Nat} {v v' : Value} {qs : List PRec} {q : PRec} (h : Row w lo v qs) (hk : Txt w lo v q.Ak q.ck q.r.k) (hq : Txt w lo v q.Av q.cv q.r.v) (hg : w.grownBy w' v.ownBlock) (hv : v'.ownBlock = v.ownBlock ∨ ∃ k, v'.ownBlock = some k ∧ w.heap.size ≤ k)
    (ho : w'.ownsRow lo 80 3 v' (qs.length + 1) (qs.flatMap PRec.cells ++ q.cells)) : Row w' lo v' (qs ++ [q]) := by
  refine ⟨?_, fun x hx => ?_⟩
  · rw [List.length_append, List.flatMap_append]
    simpa using ho
  · rcases List.mem_append.1 hx with hx | hx
    · exact ⟨(h.txt x hx).1.app hg hv, (h.txt x hx).2.app hg hv⟩
    · obtain rfl := List.mem_singleton.1 hx
      exact ⟨hk.app hg hv, hq.app hg hv⟩
theorem Row.val {w : World} {lo : Nat} {v : Value} {qs : List PRec} (h : Row w lo v qs) : ∃ A c, v = .slice A qs.length c ∧ qs.length ≤ c ∧ c ≤ 9223372036854775807 ∧ Recs w A (qs.map (·.r)) := by
  rcases h.own.2 with ⟨rfl, h0⟩ | ⟨g, cap, cur, rfl, hg, hh, hn, hm, hs, ht⟩
  · have : qs = [] := List.eq_nil_of_length_eq_zero h0
    subst this
    exact ⟨none, 0, rfl, Nat.le_refl _, by omega, .inl rfl⟩
  · refine ⟨_, _, rfl, hn, by simpa [maxLen] using hm, .inr ⟨g, 0, rfl, ?_, fun k hk => ?_⟩⟩
    · rcases Nat.lt_or_ge g w.heap.size with h | h
      · exact h
      · rw [Array.getElem?_eq_none h] at hh; cases hh
    · have hk' : k < qs.length := by simpa using hk
      have hq := h.txt _ (List.getElem_mem hk')
      have e : (qs.map (·.r)).getD k default = qs[k].r := by simp [List.getD, hk']
      have hcells : ∀ j u, j < 3 → (qs[k].cells)[j]? = some u → w.cell? ⟨g, 0 + k * 3 + j, none⟩ = some u := by
        intro j u hj hu
        have h1 : (qs.flatMap PRec.cells)[k * 3 + j]? = some u := by
          have e1 : qs.flatMap PRec.cells = (qs.take k).flatMap PRec.cells ++ (qs[k].cells ++ (qs.drop (k + 1)).flatMap PRec.cells) := by
            conv => lhs; rw [← List.take_append_drop k qs, List.drop_eq_getElem_cons hk']
            rw [List.flatMap_append, List.flatMap_cons]
          have e2 : ((qs.take k).flatMap PRec.cells).length = k * 3 := by rw [pcells_len, List.length_take]; congr 1; omega
          rw [e1, List.getElem?_append_right (by rw [e2]; omega), e2, Nat.add_sub_cancel_left, List.getElem?_append_left (by rw [PRec.cells_len]; exact hj)]
          exact hu
        have h2 := h.own.cells (g := g) rfl _ _ h1
        rw [show (⟨g, 0, none⟩ : Addr).add (k * 3 + j) = ⟨g, 0 + k * 3 + j, none⟩ from by rw [Addr.add_lit]; congr 1; omega] at h2
        exact h2
      rw [e]
      exact ⟨_, _, _, _, hcells 0 _ (by omega) rfl, hcells 1 _ (by omega) rfl, hcells 2 _ (by omega) rfl, hq.1.arg, hq.2.arg⟩
end Go.Proofs.YtcmgppacipdnaaaGreatDoor

namespace Go.Proofs.YtcmgppacipdnaaaGreatDoor
open Go.RowKit

theorem Row.one {w : World} {lo : Nat} {v : Value} {qs : List PRec} (h : Row w lo v qs) (h0 : qs = [] → v = .slice none 0 0) {k : Nat} (hk : v.ownBlock = some k) : ∃ A n c, w.cell? ⟨k, 1, none⟩ = some (.slice A n c) := by
  cases qs with
  | nil => rw [h0 rfl] at hk; simp [Value.ownBlock] at hk
  | cons q qs =>
    have := h.own.cells hk 1 (.slice q.Ak q.r.k.length q.ck) (by simp [PRec.cells])
    rw [show (⟨k, 0, none⟩ : Addr).add 1 = ⟨k, 1, none⟩ from by rw [Addr.add_lit]] at this
    exact ⟨_, _, _, this⟩

/-- The reader at g, the result at B2, the batch at B4, its row of records v. -/
structure UnSt (w0 w : World) (p : Nat → Addr) (B2 B4 g lo : Nat) (l : List UInt8) (s : Vi.Rs) (base ep : Int) (v : Value) (qs : List PRec) : Prop where
  rdr : Rdr w p g l s
  buf : ∃ A n c, w.cell? ⟨g, 0, none⟩ = some (.slice A n c) ∧ (l ≠ [] → ∀ b off, A = some ⟨b, off, none⟩ → b < lo)
  e0 : w.cell? ⟨B2, 0, none⟩ = some (.int .i64 0)
  e1 : w.cell? ⟨B2, 1, none⟩ = some (.int .i64 0)
  e2 : w.cell? ⟨B2, 2, none⟩ = some (.slice none 0 0)
  c0 : w.cell? ⟨B4, 0, none⟩ = some (.int .i64 base)
  c1 : w.cell? ⟨B4, 1, none⟩ = some (.int .i64 ep)
  c2 : w.cell? ⟨B4, 2, none⟩ = some v
  past : ∀ k, 3 ≤ k → w.cell? ⟨B4, k, none⟩ = none
  f2 : ∀ k, w.frozen? ⟨B2, k, none⟩ = false
  f4 : ∀ k, w.frozen? ⟨B4, k, none⟩ = false
  o2 : w0.heap.size ≤ B2
  o4 : B2 < B4
  og : B4 < g
  ol : g < lo
  os : lo ≤ w.heap.size
  row : Row w lo v qs
  rnil : qs = [] → v = .slice none 0 0
  below : Below w0.heap.size w0 w

theorem UnSt.size {w0 w : World} {p : Nat → Addr} {B2 B4 g lo : Nat} {l : List UInt8} {s : Vi.Rs} {base ep : Int} {v : Value} {qs : List PRec} (h : UnSt w0 w p B2 B4 g lo l s base ep v qs) : w0.heap.size ≤ w.heap.size ∧ B2 < w.heap.size ∧ B4 < w.heap.size ∧ g < w.heap.size := by
  have := h.o2; have := h.o4; have := h.og; have := h.ol; have := h.os
  omega
/-- The reader has gone on. -/
theorem UnSt.reader {w0 w w' : World} {p : Nat → Addr} {B2 B4 g lo : Nat} {l : List UInt8} {s s' : Vi.Rs} {base ep : Int} {v : Value} {qs : List PRec} (h : UnSt w0 w p B2 B4 g lo l s base ep v qs) (hr : Rdr w' p g l s') (hb : But g w w') : UnSt w0 w' p B2 B4 g lo l s' base ep v qs := by
  obtain ⟨hz, z2, z4, zg⟩ := h.size
  have n2 : B2 ≠ g := by have := h.o4; have := h.og; omega
  have n4 : B4 ≠ g := by have := h.og; omega
  obtain ⟨A, n, c, hA, hl⟩ := h.buf
  exact ⟨hr, ⟨A, n, c, (hb.first zg).trans hA, hl⟩, (hb.cell z2 n2).trans h.e0, (hb.cell z2 n2).trans h.e1, (hb.cell z2 n2).trans h.e2, (hb.cell z4 n4).trans h.c0, (hb.cell z4 n4).trans h.c1, (hb.cell z4 n4).trans h.c2, fun k hk => (hb.cell z4 n4).trans (h.past k hk),
    fun k => (hb.frozen z2 n2).trans (h.f2 k), fun k => (hb.frozen z4 n4).trans (h.f4 k), h.o2, h.o4, h.og, h.ol, Nat.le_trans h.os hb.size, h.row.keep hb.grown h.ol, h.rnil,
    h.below.grown hb.grown hz (fun k hk => by injection hk with hk; have := h.o2; have := h.o4; have := h.og; omega)⟩
theorem UnSt.quiet {w0 w w' : World} {p : Nat → Addr} {B2 B4 g lo : Nat} {l : List UInt8} {s : Vi.Rs} {base ep : Int} {v : Value} {qs : List PRec} (h : UnSt w0 w p B2 B4 g lo l s base ep v qs) (hb : Below w.heap.size w w') : UnSt w0 w' p B2 B4 g lo l s base ep v qs := h.reader (h.rdr.below hb) (But.of_below hb)
theorem UnSt.sents {w0 w : World} {p : Nat → Addr} {B2 B4 g lo : Nat} {l : List UInt8} {s : Vi.Rs} {base ep : Int} {v : Value} {qs : List PRec} (h : UnSt w0 w p B2 B4 g lo l s base ep v qs) {S : Nat → Prop} (hs : SentsOn S w0 p) : SentsOn S w p ∧ ∀ W, But g w W → SentsOn S W p := by
  obtain ⟨hz, z2, z4, zg⟩ := h.size
  refine ⟨hs.below h.below, fun W hb => hs.below (h.below.grown hb.grown hz (fun k hk => by injection hk with hk; have := h.o2; have := h.o4; have := h.og; omega))⟩
/-- A reader stays where another row is turned. -/
theorem Rdr.other {w w' : World} {p : Nat → Addr} {g : Nat} {l : List UInt8} {s : Vi.Rs} {row : Option Nat} (h : Rdr w p g l s) (hg : w.grownBy w' row) (hgg : some g ≠ row)
    (hbuf : l ≠ [] → ∀ A n c b off, w.cell? ⟨g, 0, none⟩ = some (.slice A n c) → A = some ⟨b, off, none⟩ → w.cell? ⟨b, off, none⟩ = some (.int .u8 (B (l.getD 0 0))) → some b ≠ row)
    (herr : ∀ a x, w.cell? ⟨a, 1, none⟩ = some (errV x) → some a ≠ row) : Rdr w' p g l s := by
  obtain ⟨A, cap, E, h0, h1, h2, ha, hne, he⟩ := h.ex
  refine ⟨Nat.lt_of_lt_of_le h.lt hg.size, fun k => (World.frozen?_of_block (a := ⟨g, k, none⟩) (hg.block g h.lt hgg)).trans (h.free k), h.ok, A, cap, E, hg.cell h0 hgg, hg.cell h1 hgg, hg.cell h2 hgg, ha.grown hg (fun hl b off e => ?_), hne, ?_⟩
  · refine hbuf hl A _ _ b off h0 e ?_
    rcases ha.reads with h0 | ⟨b', off', e', hlt, hc⟩
    · exact absurd h0 hl
    · rw [e] at e'
      injection e' with e'
      injection e' with e1 e2
      subst e1 e2
      exact hc 0 (List.length_pos_iff.2 hl)
  · rcases he with he | he | ⟨a, q, h1, h2, h3, h4, h5, h6, h7⟩
    · exact .inl he
    · exact .inr (.inl he)
    · exact .inr (.inr ⟨a, q, h1, h2, h3, h4, Nat.lt_of_lt_of_le h5 hg.size, hg.cell h6 (herr a _ h7), hg.cell h7 (herr a _ h7)⟩)
theorem UnSt.isSlice {w0 w : World} {p : Nat → Addr} {B2 B4 g lo : Nat} {l : List UInt8} {s : Vi.Rs} {base ep : Int} {v : Value} {qs : List PRec} (h : UnSt w0 w p B2 B4 g lo l s base ep v qs) : ∃ A c, v = .slice A qs.length c := by
  obtain ⟨A, c, e, _⟩ := h.row.val
  exact ⟨A, c, e⟩
theorem grown_set (w : World) (b k : Nat) (x : Value) : w.grownBy (w.setCell ⟨b, k, none⟩ x) (some b) :=
  ⟨rfl, rfl, rfl, by simp [World.setCell], fun i hi hne => Below.heap_setCell _ _ _ _ (by intro e; exact hne (by rw [e]))⟩
/-- A cell of the batch is set: the reader stays. -/
theorem UnSt.rdr_set {w0 w : World} {p : Nat → Addr} {B2 B4 g lo : Nat} {l : List UInt8} {s : Vi.Rs} {base ep : Int} {v : Value} {qs : List PRec} (h : UnSt w0 w p B2 B4 g lo l s base ep v qs) (k : Nat) (x : Value) : Rdr (w.setCell ⟨B4, k, none⟩ x) p g l s := by
  have og := h.og
  refine h.rdr.other (grown_set w B4 k x) (by simp; omega) (fun hl A n c b off h0 e hc => ?_) (fun a x hc => ?_)
  · intro e'
    injection e' with e'
    subst e'
    obtain ⟨Av, cv, rfl⟩ := h.isSlice
    rcases Nat.lt_or_ge off 3 with hk | hk
    · match off, hk with
      | 0, _ => rw [h.c0] at hc; simp at hc
      | 1, _ => rw [h.c1] at hc; simp at hc
      | 2, _ => rw [h.c2] at hc; simp at hc
    · rw [h.past off hk] at hc; simp at hc
  · intro e'
    injection e' with e'
    subst e'
    rw [h.c1] at hc; simp [errV] at hc
theorem UnSt.num0 {w0 w : World} {p : Nat → Addr} {B2 B4 g lo : Nat} {l : List UInt8} {s : Vi.Rs} {base ep : Int} {v : Value} {qs : List PRec} (h : UnSt w0 w p B2 B4 g lo l s base ep v qs) (x : Int) : UnSt w0 (w.setCell ⟨B4, 0, none⟩ (.int .i64 x)) p B2 B4 g lo l s x ep v qs := by
  obtain ⟨hz, z2, z4, zg⟩ := h.size
  have hb := grown_set w B4 0 (.int .i64 x)
  have o2 := h.o2
  have o4 := h.o4
  have og := h.og
  have ol := h.ol
  obtain ⟨A, n, c, hA, hl⟩ := h.buf
  have ho : ∀ b k, b ≠ B4 → (w.setCell ⟨B4, 0, none⟩ (.int .i64 x)).cell? ⟨b, k, none⟩ = w.cell? ⟨b, k, none⟩ := fun b k hne => World.cell?_setCell_other _ _ _ _ (by simp)
  have h4 : ∀ k, k ≠ 0 → (w.setCell ⟨B4, 0, none⟩ (.int .i64 x)).cell? ⟨B4, k, none⟩ = w.cell? ⟨B4, k, none⟩ := fun k hk => World.cell?_setCell_other _ _ _ _ (by simp)
  exact ⟨h.rdr_set 0 _, ⟨A, n, c, (ho g 0 (by omega)).trans hA, hl⟩, (ho B2 0 (by omega)).trans h.e0, (ho B2 1 (by omega)).trans h.e1, (ho B2 2 (by omega)).trans h.e2, World.cell?_setCell_same _ _ _ h.c0, (h4 1 (by omega)).trans h.c1, (h4 2 (by omega)).trans h.c2, fun k hk => (h4 k (by omega)).trans (h.past k hk),
    fun k => (World.frozen?_setCell _ _ _ _).trans (h.f2 k), fun k => (World.frozen?_setCell _ _ _ _).trans (h.f4 k), o2, o4, og, ol, Nat.le_trans h.os hb.size, h.row.keep hb (by omega), h.rnil, h.below.grown hb hz (fun k hk => by injection hk with hk; omega)⟩
theorem UnSt.num1 {w0 w : World} {p : Nat → Addr} {B2 B4 g lo : Nat} {l : List UInt8} {s : Vi.Rs} {base ep : Int} {v : Value} {qs : List PRec} (h : UnSt w0 w p B2 B4 g lo l s base ep v qs) (x : Int) : UnSt w0 (w.setCell ⟨B4, 1, none⟩ (.int .i64 x)) p B2 B4 g lo l s base x v qs := by
  obtain ⟨hz, z2, z4, zg⟩ := h.size
  have hb := grown_set w B4 1 (.int .i64 x)
  have o2 := h.o2
  have o4 := h.o4
  have og := h.og
  have ol := h.ol
  obtain ⟨A, n, c, hA, hl⟩ := h.buf
  have ho : ∀ b k, b ≠ B4 → (w.setCell ⟨B4, 1, none⟩ (.int .i64 x)).cell? ⟨b, k, none⟩ = w.cell? ⟨b, k, none⟩ := fun b k hne => World.cell?_setCell_other _ _ _ _ (by simp)
  have h4 : ∀ k, k ≠ 1 → (w.setCell ⟨B4, 1, none⟩ (.int .i64 x)).cell? ⟨B4, k, none⟩ = w.cell? ⟨B4, k, none⟩ := fun k hk => World.cell?_setCell_other _ _ _ _ (by simp)
  exact ⟨h.rdr_set 1 _, ⟨A, n, c, (ho g 0 (by omega)).trans hA, hl⟩, (ho B2 0 (by omega)).trans h.e0, (ho B2 1 (by omega)).trans h.e1, (ho B2 2 (by omega)).trans h.e2, (h4 0 (by omega)).trans h.c0, World.cell?_setCell_same _ _ _ h.c1, (h4 2 (by omega)).trans h.c2, fun k hk => (h4 k (by omega)).trans (h.past k hk),
    fun k => (World.frozen?_setCell _ _ _ _).trans (h.f2 k), fun k => (World.frozen?_setCell _ _ _ _).trans (h.f4 k), o2, o4, og, ol, Nat.le_trans h.os hb.size, h.row.keep hb (by omega), h.rnil, h.below.grown hb hz (fun k hk => by injection hk with hk; omega)⟩
/-- A record is put behind the row, and the row set. -/
theorem UnSt.push {w0 w w1 w2 : World} {p : Nat → Addr} {B2 B4 g lo : Nat} {l : List UInt8} {s : Vi.Rs} {base ep : Int} {v v' : Value} {qs : List PRec} {q : PRec} (h : UnSt w0 w p B2 B4 g lo l s base ep v qs) (hk : Txt w lo v q.Ak q.ck q.r.k) (hq : Txt w lo v q.Av q.cv q.r.v)
    (hw1 : Below w.heap.size w w1) (hg : w1.grownBy w2 v.ownBlock) (hv : v'.ownBlock = v.ownBlock ∨ v'.ownBlock = some w1.heap.size) (ho : w2.ownsRow lo 80 3 v' (qs.length + 1) (qs.flatMap PRec.cells ++ q.cells)) :
    UnSt w0 (w2.setCell ⟨B4, 2, none⟩ v') p B2 B4 g lo l s base ep v' (qs ++ [q]) := by
  have h1 := h.quiet hw1
  obtain ⟨hz, z2, z4, zg⟩ := h1.size
  have o2 := h.o2
  have o4 := h.o4
  have og := h.og
  have ol := h.ol
  have hvl : ∀ k, v.ownBlock = some k → lo ≤ k := fun k hk => (h.row.own.lt k hk).1
  have hne : ∀ k, k < lo → some k ≠ v.ownBlock := fun k hk e => by have := hvl k e.symm; omega
  obtain ⟨A, n, c, hA, hl⟩ := h1.buf
  have hrdr2 : Rdr w2 p g l s := by
    refine h1.rdr.other hg (hne g ol) (fun hl' A' n' c' b off h0 e hc => ?_) (fun a x hc e => ?_)
    · rw [hA] at h0
      injection h0 with h0
      injection h0 with h0
      subst h0
      exact hne b (hl hl' b off e)
    · obtain ⟨A1, n1, c1, h1c⟩ := h1.row.one h1.rnil e.symm
      rw [hc] at h1c; simp [errV] at h1c
  have hrow := (h1.row).app (hk.below hw1) (hq.below hw1) hg (hv.imp id fun e => ⟨_, e, Nat.le_refl _⟩) ho
  have hst : UnSt w0 w2 p B2 B4 g lo l s base ep v qs → True := fun _ => trivial
  have cc : ∀ b k x, b < lo → w1.cell? ⟨b, k, none⟩ = some x → w2.cell? ⟨b, k, none⟩ = some x := fun b k x hb hc => hg.cell hc (hne b hb)
  have ff : ∀ b k, b < lo → b < w1.heap.size → w2.frozen? ⟨b, k, none⟩ = w1.frozen? ⟨b, k, none⟩ := fun b k hb hbs => World.frozen?_of_block (a := ⟨b, k, none⟩) (hg.block b hbs (hne b hb))
  have pp : ∀ k, 3 ≤ k → w2.cell? ⟨B4, k, none⟩ = none := fun k hk => (World.cell?_of_block (a := ⟨B4, k, none⟩) (hg.block B4 z4 (hne B4 (by omega)))).trans (h1.past k hk)
  clear hst
  have d1 := cc B4 1 _ (by omega) h1.c1
  have d2 := cc B4 2 _ (by omega) h1.c2
  have d0 := cc B4 0 _ (by omega) h1.c0
  have hb := grown_set w2 B4 2 v'
  have hoo : ∀ b k, b ≠ B4 → (w2.setCell ⟨B4, 2, none⟩ v').cell? ⟨b, k, none⟩ = w2.cell? ⟨b, k, none⟩ := fun b k hne => World.cell?_setCell_other _ _ _ _ (by simp)
  have h4 : ∀ k, k ≠ 2 → (w2.setCell ⟨B4, 2, none⟩ v').cell? ⟨B4, k, none⟩ = w2.cell? ⟨B4, k, none⟩ := fun k hk => World.cell?_setCell_other _ _ _ _ (by simp)
  have hbel : Below w0.heap.size w0 w2 := h1.below.grown hg hz (fun k hk => by have := hvl k hk; omega)
  have hs2 := hg.size
  obtain ⟨Av, cv, hvs⟩ := h.isSlice
  refine ⟨?_, ⟨A, n, c, (hoo g 0 (by omega)).trans (cc g 0 _ ol hA), hl⟩, (hoo B2 0 (by omega)).trans (cc B2 0 _ (by omega) h1.e0), (hoo B2 1 (by omega)).trans (cc B2 1 _ (by omega) h1.e1), (hoo B2 2 (by omega)).trans (cc B2 2 _ (by omega) h1.e2), (h4 0 (by omega)).trans d0, (h4 1 (by omega)).trans d1, World.cell?_setCell_same _ _ _ d2, fun k hk => (h4 k (by omega)).trans (pp k hk),
    fun k => (World.frozen?_setCell _ _ _ _).trans ((ff B2 k (by omega) z2).trans (h1.f2 k)), fun k => (World.frozen?_setCell _ _ _ _).trans ((ff B4 k (by omega) z4).trans (h1.f4 k)), o2, o4, og, ol, ?_, hrow.keep hb (by omega), fun e => by simp at e, hbel.grown hb (Nat.le_trans hz hs2) (fun k hk => by injection hk with hk; omega)⟩
  · refine hrdr2.other hb (by simp; omega) (fun hl' A' n' c' b off h0 e hc => ?_) (fun a x hc => ?_)
    · intro e'
      injection e' with e'
      subst e'
      rcases Nat.lt_or_ge off 3 with hk3 | hk3
      · match off, hk3 with
        | 0, _ => rw [d0] at hc; simp at hc
        | 1, _ => rw [d1] at hc; simp at hc
        | 2, _ => rw [d2, hvs] at hc; simp at hc
      · rw [pp off hk3] at hc; simp at hc
    · intro e'
      injection e' with e'
      subst e'
      rw [d1] at hc; simp [errV] at hc
  · have := h1.os; have := hb.size; omega
theorem UnSt.mid {w0 w w1 w2 : World} {p : Nat → Addr} {B2 B4 g lo : Nat} {l : List UInt8} {s : Vi.Rs} {base ep : Int} {v : Value} {qs : List PRec} (h : UnSt w0 w p B2 B4 g lo l s base ep v qs) (hw1 : Below w.heap.size w w1) (hg : w1.grownBy w2 v.ownBlock) : w2.cell? ⟨B4, 2, none⟩ = some v ∧ w2.frozen? ⟨B4, 2, none⟩ = false := by
  have h1 := h.quiet hw1
  obtain ⟨hz, z2, z4, zg⟩ := h1.size
  have hne : some B4 ≠ v.ownBlock := fun e => by have := (h.row.own.lt B4 e.symm).1; have := h.og; have := h.ol; omega
  exact ⟨hg.cell h1.c2 hne, (World.frozen?_of_block (a := ⟨B4, 2, none⟩) (hg.block B4 z4 hne)).trans (h1.f4 2)⟩
theorem UnSt.fin {w0 w : World} {p : Nat → Addr} {B2 B4 g lo : Nat} {l : List UInt8} {s : Vi.Rs} {base ep : Int} {v : Value} {qs : List PRec} (h : UnSt w0 w p B2 B4 g lo l s base ep v qs) (x0 x1 x2 : Value) :
    Below w0.heap.size w0 (((w.setCell ⟨B2, 0, none⟩ x0).setCell ⟨B2, 1, none⟩ x1).setCell ⟨B2, 2, none⟩ x2) ∧ Row (((w.setCell ⟨B2, 0, none⟩ x0).setCell ⟨B2, 1, none⟩ x1).setCell ⟨B2, 2, none⟩ x2) lo v qs := by
  obtain ⟨hz, z2, z4, zg⟩ := h.size
  have o2 := h.o2
  have o4 := h.o4
  have og := h.og
  have ol := h.ol
  have g1 := grown_set w B2 0 x0
  have g2 := grown_set (w.setCell ⟨B2, 0, none⟩ x0) B2 1 x1
  have g3 := grown_set ((w.setCell ⟨B2, 0, none⟩ x0).setCell ⟨B2, 1, none⟩ x1) B2 2 x2
  have hr : ∀ k, some B2 = some k → w0.heap.size ≤ k := fun k e => by injection e with e; omega
  have s1 := g1.size
  have s2 := g2.size
  exact ⟨((h.below.grown g1 hz hr).grown g2 (by omega) hr).grown g3 (by omega) hr, ((h.row.keep g1 (by omega)).keep g2 (by omega)).keep g3 (by omega)⟩
theorem UnSt.fincells {w0 w : World} {p : Nat → Addr} {B2 B4 g lo : Nat} {l : List UInt8} {s : Vi.Rs} {base ep : Int} {v : Value} {qs : List PRec} (h : UnSt w0 w p B2 B4 g lo l s base ep v qs) (x0 x1 x2 : Value) :
    (((w.setCell ⟨B2, 0, none⟩ x0).setCell ⟨B2, 1, none⟩ x1).setCell ⟨B2, 2, none⟩ x2).cell? ⟨B2, 0, none⟩ = some x0 ∧ (((w.setCell ⟨B2, 0, none⟩ x0).setCell ⟨B2, 1, none⟩ x1).setCell ⟨B2, 2, none⟩ x2).cell? ⟨B2, 1, none⟩ = some x1 ∧ (((w.setCell ⟨B2, 0, none⟩ x0).setCell ⟨B2, 1, none⟩ x1).setCell ⟨B2, 2, none⟩ x2).cell? ⟨B2, 2, none⟩ = some x2 := by
  have e0 := h.e0
  have e1 := h.e1
  have e2 := h.e2
  refine ⟨?_, ?_, ?_⟩
  · rw [World.cell?_setCell_other _ _ _ _ (by simp), World.cell?_setCell_other _ _ _ _ (by simp)]; exact World.cell?_setCell_same _ _ _ e0
  · rw [World.cell?_setCell_other _ _ _ _ (by simp)]
    exact World.cell?_setCell_same _ _ _ ((World.cell?_setCell_other _ _ _ _ (by simp)).trans e1)
  · exact World.cell?_setCell_same _ _ _ (((World.cell?_setCell_other _ _ _ _ (by simp)).trans (World.cell?_setCell_other _ _ _ _ (by simp))).trans e2)
theorem cells_three (w : World) (a b c : Value) (t : TypeId) : ∀ j u, ([a, b, c] : List Value)[j]? = some u → (w.alloc (.cells #[a, b, c] t)).cell? ((⟨w.heap.size, 0, none⟩ : Addr).add j) = some u := by
  intro j u hu
  rw [show (⟨w.heap.size, 0, none⟩ : Addr).add j = ⟨w.heap.size, j, none⟩ from by rw [Addr.add_lit]; simp, World.cell?_alloc_mark]
  simpa using hu

/-- From lo on nothing old has turned. -/
structure Above (lo : Nat) (w W : World) : Prop where
  size : w.heap.size ≤ W.heap.size
  block : ∀ k, lo ≤ k → k < w.heap.size → W.heap[k]? = w.heap[k]?
theorem Above.refl (lo : Nat) (w : World) : Above lo w w := ⟨Nat.le_refl _, fun _ _ _ => rfl⟩
theorem Above.trans {lo : Nat} {a b c : World} (h : Above lo a b) (k : Above lo b c) : Above lo a c := ⟨Nat.le_trans h.size k.size, fun i hi hl => (k.block i hi (Nat.lt_of_lt_of_le hl h.size)).trans (h.block i hi hl)⟩
theorem Above.of_below {lo : Nat} {w W : World} (h : Below w.heap.size w W) : Above lo w W := ⟨h.size, fun k _ hl => h.block k hl⟩
theorem Above.of_grown {lo x : Nat} {w W : World} (h : w.grownBy W (some x)) (hx : x < lo) : Above lo w W := ⟨h.size, fun k hk hl => h.block k hl (by simp; omega)⟩
theorem Above.mono {lo lo' : Nat} {w W : World} (h : Above lo w W) (hl : lo ≤ lo') : Above lo' w W := ⟨h.size, fun k hk h' => h.block k (Nat.le_trans hl hk) h'⟩
theorem Txt.above {w w' : World} {lo : Nat} {v : Value} {A : Option Addr} {c : Nat} {l : List UInt8} (h : Txt w lo v A c l) (hg : Above lo w w') : Txt w' lo v A c l := by
  refine ⟨⟨h.arg.le, h.arg.max, h.arg.nil, ?_⟩, h.far⟩
  rcases h.arg.reads with h0 | ⟨b, off, e, hlt, hc⟩
  · exact .inl h0
  · by_cases hl : l = []
    · exact .inl hl
    · exact .inr ⟨b, off, e, Nat.lt_of_lt_of_le hlt hg.size, fun k hk => (World.cell?_of_block (a := ⟨b, off + k, none⟩) (hg.block b (h.far hl b off e).1 hlt)).trans (hc k hk)⟩
theorem Row.above {w w' : World} {lo : Nat} {v : Value} {qs : List PRec} (h : Row w lo v qs) (hg : Above lo w w') : Row w' lo v qs := by
  refine ⟨⟨h.own.1, ?_⟩, fun q hq => ⟨(h.txt q hq).1.above hg, (h.txt q hq).2.above hg⟩⟩
  rcases h.own.2 with h0 | ⟨g, cap, cur, hv, hgl, hh, r⟩
  · exact .inl h0
  · refine .inr ⟨g, cap, cur, hv, hgl, ?_, r⟩
    rw [hg.block g hgl (Array.getElem?_eq_some_iff.1 hh).1]; exact hh
/-- A batch that lies in new memory. -/
def NewBat (lo : Nat) (w : World) (A : Option Addr) (c : Nat) (b : Rc.Bat) : Prop := ∀ W, Above lo w W → IsBat W A c b
theorem NewBat.above {lo : Nat} {w W : World} {A : Option Addr} {c : Nat} {b : Rc.Bat} (h : NewBat lo w A c b) (hw : Above lo w W) : NewBat lo W A c b := fun W' h' => h W' (hw.trans h')
theorem NewBat.mono {lo lo' : Nat} {w : World} {A : Option Addr} {c : Nat} {b : Rc.Bat} (h : NewBat lo w A c b) (hl : lo' ≤ lo) : NewBat lo' w A c b := fun W hw => h W (hw.mono hl)
theorem Row.newBat {w : World} {lo : Nat} {A : Option Addr} {n c : Nat} {qs : List PRec} (h : Row w lo (.slice A n c) qs) (base ep : Int) (h1 : -9223372036854775808 ≤ base ∧ base ≤ 9223372036854775807) (h2 : -9223372036854775808 ≤ ep ∧ ep ≤ 9223372036854775807) : NewBat lo w A c ⟨base, ep, qs.map (·.r)⟩ := by
  intro W hw
  obtain ⟨A', c', e, hl, hm, hr⟩ := (h.above hw).val
  injection e with e1 e2 e3
  subst e1 e3
  exact ⟨by simpa using hl, hm, hr, h1, h2⟩
end Go.Proofs.YtcmgppacipdnaaaGreatDoor
