/-
  Package point: bytes read as numbers: plainly, and ReadNums under a walk.
  Package point: the reference's reader at its end, rows of numbers held against one another; PointNums walked.
  PointNums walked.
  PointNums, proved: any numbers as bytes, and any bytes' numbers, or where they are none, are what the chapter says; back they are the same.
-/
import Derived.Test.YtfjanenooembkaaDoorQ2
import Derived.Test.YtfjanenooembkaaDoorQN1
import Derived.Deep.LoopGhost
import Derived.Deep.RegionLaw
import Derived.Test.YtfjanenooembkaaDoorQN2
namespace Go.Proofs.YtfjanenooembkaaDoor
open Go.RowKit

namespace Vi
/-- So many numbers more, as far as nothing is amiss. -/
def rd (l : List UInt8) : Nat → Rs → List Int → List Int × Rs
  | 0, s, acc => (acc, s)
  | m + 1, s, acc => if s.code ≠ 0 then (acc, s) else rd l m (int l s (-9223372036854775808) 9223372036854775807).2 (acc ++ [(int l s (-9223372036854775808) 9223372036854775807).1])
/-- What is read of bytes: the numbers, or what is amiss. -/
def readN (l : List UInt8) : List Int × Nat × Option Nat :=
  let q := rd l (num l (fine 0) 4096).1 (num l (fine 0) 4096).2 []
  if q.2.code ≠ 0 then ([], q.2.code, q.2.pos) else if q.2.at_ < l.length then ([], 104, some q.2.at_) else (q.1, 0, none)
theorem rd_stop (l : List UInt8) (m : Nat) (s : Rs) (acc : List Int) (h : s.code ≠ 0) : rd l m s acc = (acc, s) := by
  cases m with
  | zero => rfl
  | succ m => unfold rd; rw [if_pos h]
theorem rd_on (l : List UInt8) (M : Nat) (s : Rs) (acc : List Int) (j : Nat) (hj : j < M) (h : s.code = 0) : rd l (M - j) s acc = rd l (M - (j + 1)) (int l s (-9223372036854775808) 9223372036854775807).2 (acc ++ [(int l s (-9223372036854775808) 9223372036854775807).1]) := by
  rw [show M - j = (M - (j + 1)) + 1 by omega]
  show (if s.code ≠ 0 then _ else _) = _
  rw [if_neg (by omega)]
end Vi

theorem int64_info : (Tryd.prog.info? 2).map (fun i => (i.zero, i.size, i.bytes)) = some (some (.int .i64 0), 1, 8) := by kernel_rfl
def valI (zs : List Int) : List Value := zs.map (.int .i64)
theorem valI_at (zs : List Int) (j : Nat) (h : j < zs.length) : (valI zs)[j]? = some (.int .i64 (zs.getD j 0)) := by simp [valI, List.getD, h]
/-- A row of numbers, the call's own: nothing else stands in its second cell. -/
structure OwnN (w : World) (B : Nat) (v : Value) (zs : List Int) : Prop where
  own : w.ownsRow B 2 1 v zs.length (valI zs)
  nil : zs = [] → v = .slice none 0 0
  two : ∀ g, v.ownBlock = some g → ∀ c, w.cell? ⟨g, 1, none⟩ = some c → ∃ t, c = .int .i64 t
theorem OwnN.none (w : World) (B : Nat) : OwnN w B (.slice none 0 0) [] := ⟨World.ownsRow_nil w B _ 1, fun _ => rfl, fun g h => by cases h⟩
theorem OwnN.lt {w : World} {B : Nat} {v : Value} {zs : List Int} (h : OwnN w B v zs) : ∀ k, v.ownBlock = some k → B ≤ k ∧ k < w.heap.size := World.ownsRow.lt h.own
theorem OwnN.same {w w' : World} {B : Nat} {v : Value} {zs : List Int} (h : OwnN w B v zs) (hb : ∀ g, v.ownBlock = some g → w'.heap[g]? = w.heap[g]?) : OwnN w' B v zs := by
  refine ⟨⟨h.own.1, ?_⟩, h.nil, fun g hg c hc => h.two g hg c (by simpa [World.cell?, hb g hg] using hc)⟩
  rcases h.own.2 with h2 | ⟨g, cap, cur, rfl, hg, hh, r⟩
  · exact .inl h2
  · exact .inr ⟨g, cap, cur, rfl, hg, (hb g rfl).trans hh, r⟩
theorem OwnN.shape {w : World} {B : Nat} {v : Value} {zs : List Int} (h : OwnN w B v zs) : ∃ A c, v = .slice A zs.length c ∧ zs.length ≤ c ∧ c ≤ maxLen := by
  rcases h.own.2 with ⟨e, h0⟩ | ⟨g, cap, cur, e, _, hh, hn, hm, _⟩
  · exact ⟨_, 0, by rw [e, h0], by omega, by simp [maxLen]⟩
  · exact ⟨_, cap, e, hn, hm⟩
theorem OwnN.cell {w : World} {B : Nat} {v : Value} {zs : List Int} (h : OwnN w B v zs) (g : Nat) (hg : v.ownBlock = some g) (j : Nat) (hj : j < zs.length) : w.cell? ⟨g, j, .none⟩ = some (.int .i64 (zs.getD j 0)) := by
  have hc := h.own.cells (g := g) hg j (.int .i64 (zs.getD j 0)) (valI_at _ _ hj)
  rw [Addr.add_lit] at hc
  simpa using hc
theorem OwnN.ints {w : World} {B : Nat} {A : Option Addr} {n c : Nat} {zs : List Int} (h : OwnN w B (.slice A n c) zs) : Ints w A zs := by
  by_cases h0 : zs = []
  · exact .inl h0
  · rcases h.own.2 with ⟨e, h1⟩ | ⟨g, cap, cur, e, _⟩
    · exact absurd (List.length_eq_zero_iff.1 h1) h0
    · injection e with e1 _ _
      subst e1
      exact .inr ⟨g, 0, rfl, (h.lt g rfl).2, fun k hk => by rw [Nat.zero_add]; exact h.cell g rfl k hk⟩
section
variable {w : World} {ops : Array Oper} {rest : List Oper} {o : Oper} {a : Act} {Q : Exit → Act → World → Prop}
/-- append(s, z), s the call's own row of numbers. -/
theorem wpList_app64 (hgd : o.guard = .none) (s x : Operand) (ho : o.op = .call { callee := .builtin .append, args := #[s, x], argTypes := #[49, 49] })
    (B : Nat) (v : Value) (zs : List Int) (hs : a.eval s = v) (hown : OwnN w B v zs) (A : Addr) (z : Int) (hx : a.eval x = .slice (some A) 1 1) (hc : w.cell? (A.add 0) = some (.int .i64 z)) (hlen : zs.length ≤ 100000) (hB : B ≤ w.heap.size)
    (h : ∀ v' w', OwnN w' B v' (zs ++ [z]) → w.grownBy w' v.ownBlock → wpList Tryd.prog ops Q rest (a.put o.dst v') w') : wpList Tryd.prog ops Q (o :: rest) a w := by
  obtain ⟨i, hi, hz, hs1, hby⟩ := info_parts int64_info
  have hnews : ∀ j u, ([.int .i64 z] : List Value)[j]? = some u → w.cell? (A.add j) = some u := fun j u hu => by
    match j, hu with
    | 0, hu => simp at hu; subst hu; exact hc
  refine wpList_plain hgd fun K hK => ?_
  have key : ∃ v' w', (Builtin.append_ #[49, 49] o.type #[v, .slice (some A) 1 1]).run Tryd.prog w = .ok v' w' ∧ OwnN w' B v' (zs ++ [z]) ∧ w.grownBy w' v.ownBlock := by
    obtain ⟨v', w', hrun, r2, r3, _, r5⟩ := run_append_own_at (P := Tryd.prog) w B 49 o.type 2 i _ 1 8 Tryd.underlying49 hi hz hs1 hby rfl (by omega) v zs.length (valI zs) hown.own A 1 1 [.int .i64 z] rfl hnews (fun u hu => by simp at hu; subst hu; rfl) (by simp only [maxLen]; omega) (by omega) hB
    have ho' : w'.ownsRow B 2 1 v' (zs ++ [z]).length (valI (zs ++ [z])) := by
      unfold valI
      rw [List.length_append, List.map_append]
      exact r2
    refine ⟨v', w', hrun, ⟨ho', fun e => by simp at e, fun g hg c hcc => ?_⟩, r3⟩
    by_cases h0 : zs = []
    · have hn := run_append_nil (P := Tryd.prog) w 49 o.type 2 i (.int .i64 0) Tryd.underlying49 hi hz A 1 1 [.int .i64 z] (by rw [hs1]; rfl) hnews (by omega) (by omega) (by rw [hby]; omega)
      rw [hown.nil h0] at hrun
      rw [hn] at hrun
      injection hrun with e1 e2
      subst e1 e2
      injection hg with hg
      subst hg
      have hcell : (w.drew.alloc (.cells (([.int .i64 z] : List Value).toArray ++ Builtin.zeroCells (Value.int .i64 0).cells (grownCap w 1 0 2 - 1)) 2)).cell? ⟨w.heap.size, 1, .none⟩ = (([.int .i64 z] : List Value).toArray ++ Builtin.zeroCells (Value.int .i64 0).cells (grownCap w 1 0 2 - 1))[1]? := World.cell?_alloc_mark ..
      rw [hcell] at hcc
      rw [Array.getElem?_append_right (by simp)] at hcc
      simp only [Builtin.zeroCells, Array.getElem?_map, List.size_toArray, List.length_cons, List.length_nil, Nat.zero_add, Nat.sub_self] at hcc
      rw [Option.map_eq_some_iff] at hcc
      obtain ⟨q, hq, rfl⟩ := hcc
      exact ⟨0, by simp [Value.cells, Nat.mod_one]⟩
    · have hl : 1 < (zs ++ [z]).length := by have := List.length_pos_iff.2 h0; rw [List.length_append]; simp; omega
      have hcell := ho'.cells (g := g) hg 1 (.int .i64 ((zs ++ [z]).getD 1 0)) (valI_at _ _ hl)
      rw [Addr.add_lit] at hcell
      rw [show ((⟨g, 0 + 1, .none⟩ : Addr)) = ⟨g, 1, .none⟩ from rfl] at hcell
      rw [hcc] at hcell
      exact ⟨_, by injection hcell⟩
  obtain ⟨v', w', hrun, h2, h3⟩ := key
  unfold Oper.wp execOp
  simp only [ho, resolve, invoke, builtin, Sem.run_bind, Sem.run_pure, Result.andThen_ok, List.map_toArray, List.map_cons, List.map_nil, hs, hx, hrun]
  exact hK _ _ (h v' w' h2 h3)
end
/-- A reader stays where a row that is no part of it is turned. -/
theorem Rdr.besideN {w w' : World} {p : Nat → Addr} {g B : Nat} {l : List UInt8} {s : Vi.Rs} {v : Value} {zs : List Int} (h : Rdr w p g l s) (hg : w.grownBy w' v.ownBlock) (hgB : g < B) (hrow : OwnN w B v zs)
    (hbuf : ∀ A n c b off, w.cell? ⟨g, 0, none⟩ = some (.slice A n c) → l ≠ [] → A = some ⟨b, off, none⟩ → b < B) : Rdr w' p g l s := by
  have hlt := fun k hk => (hrow.lt k hk).1
  obtain ⟨A, cap, E, h0, h1, h2, ha, hne, he⟩ := h.ex
  have cl : ∀ {b o : Nat} {u : Value}, w.cell? ⟨b, o, none⟩ = some u → some b ≠ v.ownBlock → w'.cell? ⟨b, o, none⟩ = some u := fun {b o u} hc hn => by
    have hb := hg.block b (World.block_lt_of_cell? w _ hc) hn
    simpa [World.cell?, hb] using hc
  have ne : ∀ b, b < B → some b ≠ v.ownBlock := fun b hb e => by have := hlt b e.symm; omega
  have err : ∀ a x, w.cell? ⟨a, 1, none⟩ = some (errV x) → some a ≠ v.ownBlock := fun a x hc e => by
    obtain ⟨t, ht⟩ := hrow.two a e.symm _ hc
    cases ht
  refine ⟨Nat.lt_of_lt_of_le h.lt hg.size, fun k => (World.frozen?_of_block (a := ⟨g, k, none⟩) (hg.block g h.lt (ne g hgB))).trans (h.free k), h.ok, A, cap, E, cl h0 (ne g hgB), cl h1 (ne g hgB), cl h2 (ne g hgB), ⟨ha.le, ha.max, ha.nil, ?_⟩, hne, ?_⟩
  · rcases ha.reads with hr | ⟨b, off, e, hlt, hc⟩
    · exact .inl hr
    · by_cases hl : l = []
      · exact .inl hl
      · exact .inr ⟨b, off, e, Nat.lt_of_lt_of_le hlt hg.size, fun k hk => cl (hc k hk) (ne b (hbuf A _ _ b off h0 hl e))⟩
  · rcases he with he | he | ⟨a, q, h1, h2, h3, h4, h5, h6, h7⟩
    · exact .inl he
    · exact .inr (.inl he)
    · exact .inr (.inr ⟨a, q, h1, h2, h3, h4, Nat.lt_of_lt_of_le h5 hg.size, cl h6 (err a _ h7), cl h7 (err a _ h7)⟩)

/-- ReadNums on its way: the reader, the row so far. -/
structure PnSt (w1 w : World) (p : Nat → Addr) (g : Nat) (l : List UInt8) (s : Vi.Rs) (v : Value) (zs : List Int) : Prop where
  rdr : Rdr w p g l s
  buf : ∃ A n c, w.cell? ⟨g, 0, none⟩ = some (.slice A n c) ∧ (l ≠ [] → ∀ b off, A = some ⟨b, off, none⟩ → b < w1.heap.size)
  own : OwnN w w1.heap.size v zs
  but : But g w1 w
  gl : g < w1.heap.size
section
variable {w1 w w' : World} {p : Nat → Addr} {g : Nat} {l : List UInt8} {s s' : Vi.Rs} {v : Value} {zs : List Int}
theorem PnSt.call (h : PnSt w1 w p g l s v zs) (hr : Rdr w' p g l s') (hb : But g w w') : PnSt w1 w' p g l s' v zs := by
  obtain ⟨A, n, c, hA, hl⟩ := h.buf
  exact ⟨hr, ⟨A, n, c, (hb.first h.rdr.lt).trans hA, hl⟩, h.own.same fun k hk => hb.block k (h.own.lt k hk).2 (by have := (h.own.lt k hk).1; have := h.gl; simp; omega), h.but.trans hb, h.gl⟩
theorem PnSt.quiet (h : PnSt w1 w p g l s v zs) (hb : Below w.heap.size w w') : PnSt w1 w' p g l s v zs := h.call (h.rdr.below hb) (But.of_below hb)
theorem PnSt.push {v' : Value} {z : Int} (h : PnSt w1 w p g l s v zs) (hg : w.grownBy w' v.ownBlock) (ho : OwnN w' w1.heap.size v' (zs ++ [z])) : PnSt w1 w' p g l s v' (zs ++ [z]) := by
  obtain ⟨A, n, c, hA, hl⟩ := h.buf
  have hgl := h.gl
  have hrow : ∀ k, v.ownBlock = some k → w1.heap.size ≤ k := fun k hk => (h.own.lt k hk).1
  have hgr : some g ≠ v.ownBlock := fun e => by have := hrow g e.symm; omega
  have e1 := hg.block g h.rdr.lt hgr
  have hbs := h.but.size
  refine ⟨h.rdr.besideN hg hgl h.own fun A' n' c' b off h0 hl' e => ?_, ⟨A, n, c, by simpa [World.cell?, e1] using hA, hl⟩, ho, ⟨⟨hg.os.trans h.but.grown.os, hg.tape.trans h.but.grown.tape, hg.output.trans h.but.grown.output, Nat.le_trans hbs hg.size, fun k hk hne => ?_⟩, fun hlt => ?_⟩, hgl⟩
  · rw [hA] at h0
    injection h0 with h0
    injection h0 with h0 _ _
    exact hl hl' b off (h0.trans e)
  · exact (hg.block k (Nat.lt_of_lt_of_le hk hbs) fun e => by have := hrow k e.symm; omega).trans (h.but.block k hk hne)
  · have : w'.cell? ⟨g, 0, none⟩ = w.cell? ⟨g, 0, none⟩ := by simp [World.cell?, e1]
    exact this.trans (h.but.first hlt)
end
/-- An error is this fault. -/
def FltN (w : World) (p : Nat → Addr) (E : Value) (q : Nat × Option Nat) : Prop :=
  (q = (0, none) ∧ E = .nilIface) ∨ (q = (101, none) ∧ E = errV (p 0)) ∨
  ∃ h a, q.2 = some a ∧ (103 ≤ q.1 ∧ q.1 ≤ 105) ∧ E = atV h ∧ h < w.heap.size ∧ w.cell? ⟨h, 0, none⟩ = some (.int .i64 (a : Nat)) ∧ w.cell? ⟨h, 1, none⟩ = some (errV (p (q.1 - 101)))
theorem FltN.below {w w' : World} {p : Nat → Addr} {E : Value} {q : Nat × Option Nat} (h : FltN w p E q) (hb : Below w.heap.size w w') : FltN w' p E q := by
  rcases h with h | h | ⟨x, a, h1, h2, h3, h4, h5, h6⟩
  · exact .inl h
  · exact .inr (.inl h)
  · exact .inr (.inr ⟨x, a, h1, h2, h3, Nat.lt_of_lt_of_le h4 hb.size, (hb.cell (p := ⟨x, 0, none⟩) h4).trans h5, (hb.cell (p := ⟨x, 1, none⟩) h4).trans h6⟩)
theorem FltN.of_err {w : World} {p : Nat → Addr} {g : Nat} {E : Value} {s : Vi.Rs} (h : ErrIs w p g E s) : FltN w p E (s.code, s.pos) := by
  rcases h with ⟨h1, h2, h3⟩ | ⟨h1, h2, h3⟩ | ⟨x, a, h1, h2, h3, h4, h5, h6, h7⟩
  · exact .inl ⟨by rw [h1, h2], h3⟩
  · exact .inr (.inl ⟨by rw [h1, h2], h3⟩)
  · exact .inr (.inr ⟨x, a, h2, (by show 103 ≤ s.code ∧ s.code ≤ 105; omega), h3, h5, h6, h7⟩)
theorem num_most (l : List UInt8) (s : Vi.Rs) (most : Nat) : (Vi.num l s most).1 ≤ most := by
  unfold Vi.num Vi.peek
  by_cases h : s.code ≠ 0
  · rw [if_pos h]; exact Nat.zero_le _
  · rw [if_neg h]
    simp only
    by_cases h1 : (Vi.get 0 0 (l.drop s.at_)).2.2 ≠ 0
    · rw [if_pos h1]; exact Nat.zero_le _
    · rw [if_neg h1]
      by_cases h2 : most < (Vi.get 0 0 (l.drop s.at_)).1
      · rw [if_pos h2]; exact Nat.zero_le _
      · rw [if_neg h2]; simp only; omega
/-- The errors that ReadNums tells. -/
abbrev SentsN (w : World) (p : Nat → Addr) : Prop := SentsOn (fun j => j = 0 ∨ 2 ≤ j ∧ j ≤ 4) w p
def slenN : Value → Nat
  | .slice _ n _ => n
  | _ => 0

set_option maxRecDepth 100000 in
set_option maxHeartbeats 1000000 in
theorem readNums_any (A : Option Addr) (cap n : Nat) (b : List UInt8) (w : World) (p : Nat → Addr) (hs : SentsN w p) (hn : b.length = n) (hl : n ≤ 100000) (ha : Arg w A cap b) :
    Calls Tryd.prog 29 #[.slice A n cap] w fun e w' => Below w.heap.size w w' ∧ ∃ A' c E, e = .returned (.tuple #[.slice A' (Vi.readN b).1.length c, E]) ∧ FltN w' p E (Vi.readN b).2 ∧ Ints w' A' (Vi.readN b).1 := by
  have HNR := hide (newReader_any A cap n b w p hn (by omega) ha)
  have HS : Hid (∀ W, Below w.heap.size w W → SentsV W p) := hide (fun W hb => (hs.below hb).mono fun j hj => by omega)
  have HS3 : Hid (∀ W, Below w.heap.size w W → W.cell? ⟨3, 0, none⟩ = some (errV (p 3))) := hide (fun W hb => (hs.below hb).cell 3 (by omega))
  have HLB : Hid (b.length ≤ 1000000) := hide (by omega)
  have hM := num_most b (fine 0) 4096
  obtain ⟨M, hMe⟩ : ∃ M, M = (Vi.num b (fine 0) 4096).1 := ⟨_, rfl⟩
  obtain ⟨s0, hs0⟩ : ∃ s0, s0 = (Vi.num b (fine 0) 4096).2 := ⟨_, rfl⟩
  obtain ⟨R, hR⟩ : ∃ R, R = Vi.readN b := ⟨_, rfl⟩
  have HR : Hid (R = if (Vi.rd b M s0 []).2.code ≠ 0 then ([], (Vi.rd b M s0 []).2.code, (Vi.rd b M s0 []).2.pos) else if (Vi.rd b M s0 []).2.at_ < b.length then ([], 104, some (Vi.rd b M s0 []).2.at_) else ((Vi.rd b M s0 []).1, 0, none)) := hide (by rw [hR, hMe, hs0]; rfl)
  have HN0 : Hid (∀ W g, Rdr W p g b (fine 0) → SentsV W p → Calls Tryd.prog 63 #[.pointer (some ⟨g, 0, none⟩), .int .u64 4096] W fun e w' => e = .returned (.int .u64 M) ∧ Rdr w' p g b s0 ∧ But g W w') := hide (fun W g h h2 => by rw [hMe, hs0]; exact num_any W p g b (fine 0) 4096 h h2 (by omega))
  rw [← hMe] at hM
  rw [← hR]
  have hwM : IntKind.i64.wrap (M : Int) = (M : Int) := by rw [IntKind.wrap_i64]; omega
  clear hs ha hn hMe hs0 hR
  go_enter Tryd.func29, Tryd.ntmps29
  go_wp2_with (first
    | (go_at_call 62; refine HNR.out.mono ?_; rintro e w1 ⟨g, rfl, hg, hr1, hb1⟩; have HG := hide hg; have HR1 := hide hr1; have HB1 := hide hb1; clear hg hr1 hb1)
    | (go_at_call 63; refine (HN0.out w1 g HR1.out (HS.out w1 HB1.out)).mono ?_; rintro e w2 ⟨rfl, hr2, hb2⟩; have HR2 := hide hr2; have HB2 := hide hb2; clear hr2 hb2)
    | fail)
  have HST : Hid (PnSt w1 w2 p g b s0 (.slice none 0 0) []) := hide (by
    obtain ⟨A, c, E, h0, h1, h2, ha, hne, he⟩ := HR1.out.ex
    refine ⟨HR2.out, ⟨A, _, c, (HB2.out.first HR1.out.lt).trans h0, fun hl' b' off e => ?_⟩, OwnN.none _ _, HB2.out, HR1.out.lt⟩
    rcases ha.reads with hr | ⟨b'', off', e', hlt, hc⟩
    · exact absurd hr hl'
    · rw [e] at e'; injection e' with e'; injection e' with e1 e2; omega)
  clear HR1 HR2 HB2 HNR HN0
  go_loopw [6] (fun v wr => ∃ (zs : List Int) (s' : Vi.Rs), PnSt w1 wr p g b s' v zs ∧ Vi.rd b M s0 [] = Vi.rd b (M - zs.length) s' zs ∧ zs.length ≤ M) (fun v _ => M - slenN v)
  case atStart => exact ⟨[], s0, HST.out, by simp, Nat.zero_le _⟩
  case round =>
    obtain ⟨zs, s1, hst, hlp, hzM⟩ := hrel
    obtain ⟨Ar, cr, rfl, hcr1, hcr2⟩ := hst.own.shape
    have HST' := hide hst
    have HLP := hide hlp
    have HERR := hide (rerr_any wr p g b s1 hst.rdr)
    have hbw : Below w.heap.size w wr := HB1.out.grown hst.but.grown HB1.out.size (fun k hk => by injection hk with hk; have := HG.out; omega)
    have HBW := hide hbw
    clear hst hlp HST hbw
    by_cases hlt : zs.length < M
    · have dlt : decide ((zs.length : Int) < M) = true := decide_eq_true (by omega)
      by_cases hc : s1.code = 0
      · have HON := hide (Vi.rd_on b M s1 zs zs.length hlt hc)
        have HI := hide (int_any wr p g b s1 (-9223372036854775808) 9223372036854775807 HST'.out.rdr (HS.out wr HBW.out) HLB.out)
        generalize Vi.int b s1 (-9223372036854775808) 9223372036854775807 = q at *
        obtain ⟨z, s2⟩ := q
        simp only at HON HI
        go_wp2_with (first
          | (go_at_call 64; refine HERR.out.mono ?_; rintro e w9 ⟨⟨E, rfl, hE⟩, rfl⟩; obtain rfl := hE.good hc; clear hE)
          | (go_at_call 65; refine HI.out.mono ?_; rintro e w3 ⟨rfl, hr3, hb3⟩; have H3 := hide (HST'.out.call hr3 hb3); clear hr3 hb3)
          | (at_builtin; refine wpList_app64 (w := w3.alloc _) rfl (.tmp 21) (.tmp 24) rfl w1.heap.size _ zs rfl (H3.out.quiet (balloc (Below.refl _ _) _)).own ⟨w3.heap.size, 0, none⟩ z rfl (by rw [Addr.add_lit, World.cell?_alloc_mark]; rfl) (by omega) (by have := H3.out.but.size; rw [World.size_alloc]; omega) ?_; intro v4 w4 ho4 hg4; have H4 := hide ((H3.out.quiet (balloc (Below.refl _ _) _)).push hg4 ho4); obtain ⟨A4, c4, rfl, -, -⟩ := ho4.shape; simp only [List.length_append, List.length_cons, List.length_nil, Nat.zero_add] at H4; clear ho4 hg4)
          | fail)
        go_roundw
        case rel => exact ⟨zs ++ [z], s2, H4.out, by rw [HLP.out, HON.out, List.length_append]; rfl, by simp; omega⟩
        case measure => simp only [slenN]; omega
      · have HQ : Hid (R = ([], s1.code, s1.pos)) := hide (by rw [HR.out, HLP.out, Vi.rd_stop _ _ _ _ hc, if_pos hc])
        go_wp2_with (first
          | (go_at_call 64; refine HERR.out.mono ?_; rintro e w9 ⟨⟨E, rfl, hE⟩, rfl⟩; have HF := hide (FltN.of_err hE); obtain ⟨ue, xe, rfl⟩ := hE.bad hc; have hnil := eqn_nil ue xe; have hnn := neq_nil ue xe; clear hE)
          | fail)
        go_ret2
        rw [HQ.out]
        exact ⟨HBW.out, none, 0, _, rfl, HF.out, .inl rfl⟩
    · obtain rfl : zs.length = M := by omega
      have HLQ : Hid (Vi.rd b zs.length s0 [] = (zs, s1)) := hide (by rw [HLP.out, Nat.sub_self]; rfl)
      rw [HLQ.out] at HR
      simp only at HR
      clear HLP HLQ
      by_cases hc : s1.code = 0
      · have HQ : Hid (R = if s1.at_ < b.length then ([], 104, some s1.at_) else (zs, 0, none)) := hide (by rw [HR.out, if_neg (by omega)])
        clear HR
        have HLF := hide (rleft_any wr p g b s1 HST'.out.rdr HLB.out)
        have hatl := HST'.out.rdr.ok.le
        by_cases hlt' : s1.at_ < b.length
        · rw [if_pos hlt'] at HQ
          obtain ⟨lf, hlf⟩ : ∃ lf : Nat, lf = b.length - s1.at_ := ⟨_, rfl⟩
          rw [← hlf] at HLF
          have dl : decide (0 < lf) = true := decide_eq_true (by omega)
          clear hlf hlt' hatl
          go_upto_region 9 with (first
            | (go_at_call 64; refine HERR.out.mono ?_; rintro e w9 ⟨⟨E, rfl, hE⟩, rfl⟩; obtain rfl := hE.good hc; clear hE)
            | (go_at_call 66; refine HLF.out.mono ?_; rintro e w5 ⟨rfl, k5, rfl⟩)
            | fail)
          have HB5 : Hid (Below w.heap.size w (wr.drewN k5)) := hide (below_drewN HBW.out k5)
          have HR5 : Hid (Rdr (wr.drewN k5) p g b s1) := hide (HST'.out.rdr.below (below_drewN (Below.refl _ _) k5))
          generalize wr.drewN k5 = w5 at *
          have c3 : w5.cell? ⟨3, 0, none⟩ = some (errV (p 3)) := HS3.out _ HB5.out
          unfold errV at c3
          have HAT := hide (fun (W : World) (hb : Below w5.heap.size w5 W) => rat_any W p g b s1 (HR5.out.below hb))
          clear HERR HLF HST' HBW
          go_region_law
            (first
              | (go_simp; go_at_call 67; (with_reducible refine (HAT.out _ (Below.refl _ _).drew).mono ?_); rintro e w7 ⟨rfl, rfl⟩)
              | fail)
          all_goals
            go_wp2_with fail
            go_ret2
            rw [HQ.out]
            refine ⟨(balloc HB5.out _).drew, none, 0, _, rfl, .inr (.inr ⟨w5.heap.size, s1.at_, rfl, (by simp), rfl, by simp, ?_, ?_⟩), .inl rfl⟩
            · show (w5.alloc _).cell? _ = _
              rw [World.cell?_alloc_mark]; rfl
            · show (w5.alloc _).cell? _ = _
              rw [World.cell?_alloc_mark]; rfl
        · rw [if_neg hlt'] at HQ
          have hz0 : b.length - s1.at_ = 0 := by omega
          rw [hz0] at HLF
          clear hz0 hlt' hatl
          go_wp2_with (first
            | (go_at_call 64; refine HERR.out.mono ?_; rintro e w9 ⟨⟨E, rfl, hE⟩, rfl⟩; obtain rfl := hE.good hc; clear hE)
            | (go_at_call 66; refine HLF.out.mono ?_; rintro e w5 ⟨rfl, k5, hk5⟩; have HB5 : Hid (Below wr.heap.size wr w5) := hide (by rw [hk5]; exact below_drewN (Below.refl _ _) k5); clear hk5)
            | fail)
          go_ret2
          rw [HQ.out]
          exact ⟨HBW.out.trans (HB5.out.mono HBW.out.size), _, _, _, rfl, .inl ⟨rfl, rfl⟩, (HST'.out.quiet HB5.out).own.ints⟩
      · have HQ : Hid (R = ([], s1.code, s1.pos)) := hide (by rw [HR.out, if_pos hc])
        go_wp2_with (first
          | (go_at_call 64; refine HERR.out.mono ?_; rintro e w9 ⟨⟨E, rfl, hE⟩, rfl⟩; have HF := hide (FltN.of_err hE); obtain ⟨ue, xe, rfl⟩ := hE.bad hc; have hnil := eqn_nil ue xe; have hnn := neq_nil ue xe; clear hE)
          | fail)
        go_ret2
        rw [HQ.out]
        exact ⟨HBW.out, none, 0, _, rfl, HF.out, .inl rfl⟩
end Go.Proofs.YtfjanenooembkaaDoor

namespace Go.Proofs.YtfjanenooembkaaDoor
open Go.RowKit

/-- What is amiss with a reader of the reference, as it lies. -/
structure BadAt (w : World) (g c k : Nat) (b : Bool) : Prop where
  c2 : w.cell? ⟨g, 2, none⟩ = some (.int .i64 (c : Int))
  c3 : w.cell? ⟨g, 3, none⟩ = some (.bool b)
  c4 : w.cell? ⟨g, 4, none⟩ = some (.int .i64 (k : Int))
  lt : g < w.heap.size
theorem BadAt.of {w : World} {A : Option Addr} {cap g : Nat} {l : List UInt8} {s : Vi.Rs} (h : RRd w A cap g l s) : BadAt w g s.code (s.pos.getD 0) s.pos.isSome := ⟨h.c2, h.c3, h.c4, h.lt⟩
theorem BadAt.below {w w' : World} {g c k : Nat} {b : Bool} (h : BadAt w g c k b) (hb : Below w.heap.size w w') : BadAt w' g c k b :=
  ⟨(hb.cell (p := ⟨g, 2, none⟩) h.lt).trans h.c2, (hb.cell (p := ⟨g, 3, none⟩) h.lt).trans h.c3, (hb.cell (p := ⟨g, 4, none⟩) h.lt).trans h.c4, Nat.lt_of_lt_of_le h.lt hb.size⟩
theorem BadAt.fine {w : World} {g c k : Nat} {f : Bool} (h : BadAt w g c k f) (b : Bool) (hb : ((c : Int) == 0) = b) :
    Calls Tryd.prog 31 #[.pointer (some ⟨g, 0, none⟩)] w fun e w' => e = .returned (.bool b) ∧ w = w' := by
  have h2 := h.c2
  have hl := h.lt
  clear h
  generalize (c : Int) = c at *
  go_enter Tryd.func31, Tryd.ntmps31
  go_wp2_with fail
  go_ret
  exact ⟨rfl, rfl⟩
set_option maxRecDepth 100000 in
theorem rfail_many (w : World) (A : Option Addr) (cap g : Nat) (l : List UInt8) (s : Vi.Rs) (h : RRd w A cap g l s) :
    Calls Tryd.prog 69 #[.pointer (some ⟨g, 0, none⟩), .int .i64 104] w fun e w' => e = .returned (.tuple #[]) ∧ BadAt w' g 104 s.at_ true ∧ But g w w' := by
  have HB := hide (placed_any 104 s.at_ w (by omega))
  have HR := hide h
  have hl0 := h.lt
  have hc1 := h.c1
  clear h
  go_enter Tryd.func69, Tryd.ntmps69
  go_wp2_with fail
  refine HB.out.mono ?_
  rintro e w1 ⟨rfl, hb⟩
  have hr := HR.out.below hb
  have HBB := hide (But.of_below (g := g) hb)
  have f2 := hr.free 2
  have f3 := hr.free 3
  have f4 := hr.free 4
  have c2 := hr.c2
  have c3 := hr.c3
  have c4 := hr.c4
  have HC := hide (show (_ ∧ _ ∧ _) from ⟨c2, c3, c4⟩)
  have hl := hr.lt
  clear hr hb HB HR
  go_wp2_with fail
  go_end0
  obtain ⟨d2, d3, d4⟩ := HC.out
  refine ⟨rfl, ⟨?_, ?_, ?_, by simp only [World.size_setCell]; exact hl⟩, HBB.out.trans (((But.setCell _ _ _ _).trans (But.setCell _ _ _ _)).trans (But.setCell _ _ _ _))⟩
  · rw [World.cell?_setCell_other _ _ _ _ (by simp), World.cell?_setCell_other _ _ _ _ (by simp)]; exact World.cell?_setCell_same _ _ _ d2
  · rw [World.cell?_setCell_other _ _ _ _ (by simp)]; exact World.cell?_setCell_same (u := .bool s.pos.isSome) _ _ _ (by rw [World.cell?_setCell_other _ _ _ _ (by simp)]; exact d3)
  · exact World.cell?_setCell_same (u := .int .i64 ((s.pos.getD 0 : Nat) : Int)) _ _ _ (by rw [World.cell?_setCell_other _ _ _ _ (by simp), World.cell?_setCell_other _ _ _ _ (by simp)]; exact d4)
/-- What is amiss behind Over. -/
def overN (l : List UInt8) (s : Vi.Rs) : Nat × Option Nat := if s.code = 0 ∧ s.at_ < l.length then (104, some s.at_) else (s.code, s.pos)
set_option maxRecDepth 100000 in
theorem rover_any (w : World) (A : Option Addr) (cap g : Nat) (l : List UInt8) (s : Vi.Rs) (h : RRd w A cap g l s) (_hl : l.length ≤ 1000000) :
    Calls Tryd.prog 33 #[.pointer (some ⟨g, 0, none⟩), .int .i64 104] w fun e w' => e = .returned (.tuple #[]) ∧ BadAt w' g (overN l s).1 ((overN l s).2.getD 0) (overN l s).2.isSome ∧ But g w w' := by
  have hc0 := h.c0
  have hc1 := h.c1
  have hlt := h.lt
  have HR := hide h
  by_cases hc : s.code = 0
  · have HF := hide (fun (W : World) (hb : Below w.heap.size w W) => fine_any W A cap g l s true (h.below hb) (by rw [hc]; rfl))
    by_cases ha : s.at_ < l.length
    · have HO : Hid (overN l s = (104, some s.at_)) := hide (if_pos ⟨hc, ha⟩)
      have da : decide (s.at_ < l.length) = true := decide_eq_true ha
      have da' : decide ((s.at_ : Int) < l.length) = true := decide_eq_true (by omega)
      clear h
      go_enter Tryd.func33, Tryd.ntmps33
      go_wp2_with fail
      go_quiet (first | (go_at_call 31; exact Calls.quiet_of_same ((HF.out _ (below_drewN (Below.refl _ _) _)).mono fun _ _ ⟨h1, h2⟩ => ⟨h1, h2.symm⟩)))
      rename Nat => q
      have HB := hide (below_drewN (Below.refl w.heap.size w) q)
      have HFL := hide (rfail_many (w.drewN q) A cap g l s (HR.out.below HB.out))
      go_wp2_with (first
        | (go_at_call 69; refine HFL.out.mono ?_; rintro e w2 ⟨rfl, hr2, hb2⟩)
        | fail)
      go_end0
      rw [HO.out]
      exact ⟨rfl, hr2, (But.of_below HB.out).trans hb2⟩
    · have HO : Hid (overN l s = (s.code, s.pos)) := hide (if_neg (fun hh => ha hh.2))
      have da : decide (s.at_ < l.length) = false := decide_eq_false ha
      have da' : decide ((s.at_ : Int) < l.length) = false := decide_eq_false (by omega)
      clear h
      go_enter Tryd.func33, Tryd.ntmps33
      go_wp2_with fail
      go_quiet (first | (go_at_call 31; exact Calls.quiet_of_same ((HF.out _ (below_drewN (Below.refl _ _) _)).mono fun _ _ ⟨h1, h2⟩ => ⟨h1, h2.symm⟩)))
      rename Nat => q
      go_wp2_with fail
      go_end0
      rw [HO.out]
      exact ⟨rfl, BadAt.of (HR.out.below (below_drewN (Below.refl _ _) q)), But.of_below (below_drewN (Below.refl _ _) q)⟩
  · have HF := hide (fun (W : World) (hb : Below w.heap.size w W) => fine_any W A cap g l s false (h.below hb) (by simp [hc]))
    have HO : Hid (overN l s = (s.code, s.pos)) := hide (if_neg (fun hh => hc hh.1))
    clear h
    go_enter Tryd.func33, Tryd.ntmps33
    go_wp2_with fail
    go_quiet (first | (go_at_call 31; exact Calls.quiet_of_same ((HF.out _ (below_drewN (Below.refl _ _) _)).mono fun _ _ ⟨h1, h2⟩ => ⟨h1, h2.symm⟩)))
    rename Nat => q
    go_wp2_with fail
    go_end0
    rw [HO.out]
    exact ⟨rfl, BadAt.of (HR.out.below (below_drewN (Below.refl _ _) q)), But.of_below (below_drewN (Below.refl _ _) q)⟩
/-- Two rows of the same numbers. -/
theorem sameLongs_any (A A' : Option Addr) (c c' n : Nat) (zs : List Int) (w : World) (hn : zs.length = n) (hb : n ≤ 1000000) (h1 : Ints w A zs) (h2 : Ints w A' zs) :
    Calls Tryd.prog 34 #[.slice A n c, .slice A' n c'] w fun e w' => e = .returned (.bool true) ∧ ∃ q, w' = w.drewN q := by
  have H1 := hide h1
  have H2 := hide h2
  have HN := hide hn
  clear h1 h2 hn
  have hnn : ((n : Int) != n) = false := by simp
  go_enter Tryd.func34, Tryd.ntmps34
  go_wp2_with fail
  go_loopw [5] (fun iv wr => ∃ j : Nat, j ≤ n ∧ iv = .int .i64 j ∧ ∃ q, wr = w.drewN q) (fun iv _ => n - (intOf iv).toNat)
  case atStart => exact ⟨0, Nat.zero_le _, rfl, 0, rfl⟩
  case round =>
    obtain ⟨j, hj, rfl, q, hq⟩ := hrel
    have HQ := hide hq
    by_cases hjn : j < n
    · have hjz : j < zs.length := by rw [HN.out]; exact hjn
      rcases H1.out with h0 | ⟨b, off, rfl, -, hc⟩
      · rw [h0] at hjz; exact absurd hjz (Nat.not_lt_zero _)
      rcases H2.out with h0 | ⟨b', off', rfl, -, hc'⟩
      · rw [h0] at hjz; exact absurd hjz (Nat.not_lt_zero _)
      have a0 : wr.cell? ⟨b, off + j, none⟩ = some (.int .i64 (zs.getD j 0)) := by rw [hq]; exact hc j hjz
      have b0 : wr.cell? ⟨b', off' + j, none⟩ = some (.int .i64 (zs.getD j 0)) := by rw [hq]; exact hc' j hjz
      generalize zs.getD j 0 = z at *
      have e0 : (z == z) = true := by simp
      have dj : decide ((j : Int) < n) = true := decide_eq_true (by omega)
      clear hq hc hc' hjz
      go_wp2_with fail
      go_quiet (fail)
      rename Nat => q1
      go_wp2_with fail
      go_roundw
      case rel => exact ⟨j + 1, by omega, by go_num, by rw [HQ.out, World.drewN_drewN]; exact ⟨_, rfl⟩⟩
      case measure => simp [intOf]; omega
    · obtain rfl : j = n := by omega
      have dj : decide ((j : Int) < j) = false := decide_eq_false (by omega)
      clear hq
      go_wp2_with fail
      go_ret
      exact ⟨rfl, q, HQ.out⟩
end Go.Proofs.YtfjanenooembkaaDoor

namespace Go.Proofs.YtfjanenooembkaaDoor
open Go.RowKit

theorem fault_fltN (w : World) (p : Nat → Addr) (hs : Sents w p) (E : Value) (q : Nat × Option Nat) (h : FltN w p E q) :
    Calls Tryd.prog 72 #[E] w fun e w' => e = .returned (faultV (q.1 : Nat) q.2.isSome ((q.2.getD 0 : Nat) : Int)) ∧ Below w.heap.size w w' := by
  rcases h with ⟨rfl, rfl⟩ | ⟨rfl, rfl⟩ | ⟨x, a, h1, h2, rfl, h4, h5, h6⟩
  · exact fault_nil w
  · exact fault_sent w p hs 0 (by omega)
  · refine (fault_at w p hs x a (q.1 - 101) (by omega) h4 h5 h6).mono fun e w' ⟨h, hb⟩ => ⟨?_, hb⟩
    rw [h, h1, show 101 + (q.1 - 101) = q.1 by omega]; rfl
theorem same_fltN (w : World) (p : Nat → Addr) (hs : Sents w p) (E : Value) (q : Nat × Option Nat) (h : FltN w p E q) :
    Calls Tryd.prog 35 #[E, faultV (q.1 : Nat) q.2.isSome ((q.2.getD 0 : Nat) : Int)] w fun e w' => e = .returned (.bool true) ∧ Below w.heap.size w w' :=
  same_of E _ _ _ w fun W hb => fault_fltN W p (hs.below hb) E q (h.below hb)
theorem FltN.good {w : World} {p : Nat → Addr} {E : Value} (h : FltN w p E (0, none)) : E = .nilIface := by
  rcases h with ⟨-, h⟩ | ⟨h, -⟩ | ⟨x, a, h, -⟩
  · exact h
  · cases h
  · cases h

namespace Vi
theorem rd_all (L : List UInt8) (zs : List Int) (P : Nat → Nat) (h : ∀ k, k < zs.length → int L (fine (P k)) (-9223372036854775808) 9223372036854775807 = (zs.getD k 0, fine (P (k + 1)))) : ∀ k, k ≤ zs.length → rd L (zs.length - k) (fine (P k)) (zs.take k) = (zs, fine (P zs.length)) := by
  intro k hk
  induction hd : zs.length - k generalizing k with
  | zero =>
    obtain rfl : k = zs.length := by omega
    rw [List.take_length]; rfl
  | succ d ih =>
    have hlt : k < zs.length := by omega
    have h1 := ih (k + 1) (by omega) (by omega)
    unfold rd
    rw [if_neg (by simp [fine]), h k hlt]
    simp only
    rw [show zs.take k ++ [zs.getD k 0] = zs.take (k + 1) from by rw [List.take_succ_eq_append_getElem hlt]; simp [List.getD, hlt]]
    exact h1
/-- What is read of numbers' bytes: they. -/
theorem readN_numsB (zs : List Int) (hl : zs.length ≤ 4096) (hz : ∀ z ∈ zs, -9223372036854775808 ≤ z ∧ z ≤ 9223372036854775807) : readN (numsB zs) = (zs, 0, none) := by
  obtain ⟨P, hP0, hP, hPe⟩ : ∃ P : Nat → Nat, P 0 = size zs.length ∧ (∀ k, k < zs.length → int (numsB zs) (fine (P k)) (-9223372036854775808) 9223372036854775807 = (zs.getD k 0, fine (P (k + 1)))) ∧ P zs.length = (numsB zs).length := by
    refine ⟨fun k => (put zs.length).length + ((zs.take k).flatMap eI).length, by simp; rfl, fun k hk => ?_, ?_⟩
    · have hd := flat_at eI (put zs.length) [] zs k hk
      rw [List.append_nil, List.append_nil] at hd
      have hg : zs[k] = zs.getD k 0 := by simp [List.getD, hk]
      have hb := hz _ (List.getElem_mem hk)
      rw [hg] at hd hb
      have e : numsB zs = put zs.length ++ zs.flatMap eI := rfl
      rw [e, int_big _ _ _ _ hb.1 hb.2 hd]
      dsimp only
      rw [flat_succ eI zs k hk, List.length_append, hg, ← Nat.add_assoc]
      rfl
    · dsimp only
      rw [List.take_length, ← List.length_append]; rfl
  have h0 : num (numsB zs) (fine 0) 4096 = (zs.length, fine (P 0)) := by
    rw [num_at_lo (numsB zs) (zs.flatMap eI) 0 zs.length 4096 (by omega) rfl hl, hP0, Nat.zero_add]
  have h1 := rd_all (numsB zs) zs P hP 0 (Nat.zero_le _)
  rw [Nat.sub_zero, List.take_zero] at h1
  unfold readN
  rw [h0]
  simp only
  rw [h1]
  simp only
  rw [if_neg (by simp [fine]), if_neg (by show ¬ P zs.length < _; omega)]
end Vi
theorem readN_over {l : List UInt8} {s : Vi.Rs} (_hok : Vi.Ok l s) (R : List Int × Nat × Option Nat) (ys : List Int) (h : R = if (ys, s).2.code ≠ 0 then ([], (ys, s).2.code, (ys, s).2.pos) else if (ys, s).2.at_ < l.length then ([], 104, some (ys, s).2.at_) else ((ys, s).1, 0, none)) : R = if (overN l s).1 = 0 then (ys, 0, none) else ([], overN l s) := by
  rw [h]
  simp only
  by_cases hc : s.code ≠ 0
  · have e : overN l s = (s.code, s.pos) := if_neg (fun h => hc h.1)
    rw [if_pos hc, e, if_neg hc]
  · have hc0 : s.code = 0 := by omega
    rw [if_neg hc]
    by_cases ha : s.at_ < l.length
    · have e : overN l s = (104, some s.at_) := if_pos ⟨hc0, ha⟩
      rw [if_pos ha, e, if_neg (by simp)]
    · have e : overN l s = (s.code, s.pos) := if_neg (fun h => ha h.2)
      rw [if_neg ha, e, if_pos hc0]
theorem RRd.newN (w : World) (A : Option Addr) (cap : Nat) (l : List UInt8) (h : Arg w A cap l) : RRd (w.alloc (.cells #[.slice A l.length cap, .int .i64 0, .int .i64 0, .bool false, .int .i64 0] 60)) A cap w.heap.size l (fine 0) := by
  have hb : Below w.heap.size w (w.alloc (.cells #[.slice A l.length cap, .int .i64 0, .int .i64 0, .bool false, .int .i64 0] 60)) := balloc (Below.refl _ _) _
  refine ⟨by simp, fun k => by simp [go_sem], ⟨Nat.zero_le _, .inl ⟨rfl, rfl⟩⟩, ?_, ?_, ?_, ?_, ?_, h.below hb (Nat.le_refl _), fun b off e hl => ?_, fun k hk => ?_⟩
  · rw [World.cell?_alloc_mark]; rfl
  · rw [World.cell?_alloc_mark]; rfl
  · rw [World.cell?_alloc_mark]; rfl
  · rw [World.cell?_alloc_mark]; rfl
  · rw [World.cell?_alloc_mark]; rfl
  · rcases h.reads with h0 | ⟨b', off', e', hlt, _⟩
    · exact absurd h0 hl
    · rw [e] at e'
      injection e' with e'
      injection e' with e1
      omega
  · rw [World.cell?_alloc_mark]
    simp
    omega
/-- The reference's reader on its way: the row so far. -/
structure PrSt (w1 w : World) (A : Option Addr) (cap g : Nat) (l : List UInt8) (s : Vi.Rs) (v : Value) (zs : List Int) : Prop where
  rd : RRd w A cap g l s
  own : OwnN w w1.heap.size v zs
  but : But g w1 w
  gl : g < w1.heap.size
  arg : l ≠ [] → ∀ b off, A = some ⟨b, off, none⟩ → b < w1.heap.size
section
variable {w1 w w' : World} {A : Option Addr} {cap g : Nat} {l : List UInt8} {s s' : Vi.Rs} {v : Value} {zs : List Int}
theorem PrSt.call (h : PrSt w1 w A cap g l s v zs) (hr : RRd w' A cap g l s') (hb : But g w w') : PrSt w1 w' A cap g l s' v zs :=
  ⟨hr, h.own.same fun k hk => hb.block k (h.own.lt k hk).2 (by have := (h.own.lt k hk).1; have := h.gl; simp; omega), h.but.trans hb, h.gl, h.arg⟩
theorem PrSt.quiet (h : PrSt w1 w A cap g l s v zs) (hb : Below w.heap.size w w') : PrSt w1 w' A cap g l s v zs := h.call (h.rd.below hb) (But.of_below hb)
theorem PrSt.push {v' : Value} {z : Int} (h : PrSt w1 w A cap g l s v zs) (hg : w.grownBy w' v.ownBlock) (ho : OwnN w' w1.heap.size v' (zs ++ [z])) : PrSt w1 w' A cap g l s v' (zs ++ [z]) := by
  have hgl := h.gl
  have hrow : ∀ k, v.ownBlock = some k → w1.heap.size ≤ k := fun k hk => (h.own.lt k hk).1
  have hgr : some g ≠ v.ownBlock := fun e => by have := hrow g e.symm; omega
  have hb := hg.block g h.rd.lt hgr
  have hbs := h.but.size
  have cl : ∀ {o : Nat}, w'.cell? ⟨g, o, none⟩ = w.cell? ⟨g, o, none⟩ := fun {o} => by simp [World.cell?, hb]
  refine ⟨⟨Nat.lt_of_lt_of_le h.rd.lt hg.size, fun k => (World.frozen?_of_block (a := ⟨g, k, none⟩) hb).trans (h.rd.free k), h.rd.ok, cl.trans h.rd.c0, cl.trans h.rd.c1, cl.trans h.rd.c2, cl.trans h.rd.c3, cl.trans h.rd.c4, ⟨h.rd.arg.le, h.rd.arg.max, h.rd.arg.nil, ?_⟩, h.rd.ne, fun k hk => cl.trans (h.rd.past k hk)⟩, ho, ⟨⟨hg.os.trans h.but.grown.os, hg.tape.trans h.but.grown.tape, hg.output.trans h.but.grown.output, Nat.le_trans hbs hg.size, fun k hk hne => ?_⟩, fun hlt => cl.trans (h.but.first hlt)⟩, hgl, h.arg⟩
  · rcases h.rd.arg.reads with hr | ⟨b, off, e, hlt, hc⟩
    · exact .inl hr
    · by_cases hl : l = []
      · exact .inl hl
      · refine .inr ⟨b, off, e, Nat.lt_of_lt_of_le hlt hg.size, fun k hk => ?_⟩
        have := hg.block b hlt (fun e' => by have := hrow b e'.symm; have := h.arg hl b off e; omega)
        have e2 : w'.cell? ⟨b, off + k, none⟩ = w.cell? ⟨b, off + k, none⟩ := by simp [World.cell?, this]
        exact e2.trans (hc k hk)
  · exact (hg.block k (Nat.lt_of_lt_of_le hk hbs) fun e => by have := hrow k e.symm; omega).trans (h.but.block k hk hne)
end

set_option maxRecDepth 100000 in
set_option maxHeartbeats 4000000 in
theorem pointNums_any (w : World) (p : Nat → Addr) (hs : Sents w p) (A0 A1 : Option Addr) (c0 c1 n0 n1 : Nat) (zs : List Int) (b : List UInt8) (hn0 : zs.length = n0) (hn1 : b.length = n1)
    (hi : Ints w A0 zs) (hz : ∀ z ∈ zs, -9223372036854775808 ≤ z ∧ z ≤ 9223372036854775807) (hb : Arg w A1 c1 b) :
    Calls Tryd.prog 6 #[.slice A0 n0 c0, .slice A1 n1 c1] w fun e w' => e = .returned (.bool true) ∧ Below w.heap.size w w' := by
  have HFI := hide (ptFirst_any w)
  have HS := hide hs
  have HI := hide hi
  have HZ := hide hz
  have HB := hide hb
  have HN0 := hide hn0
  have HN1 := hide hn1
  clear hs hi hz hb hn0 hn1
  by_cases la : 40 < n0
  · go_enter Tryd.func6, Tryd.ntmps6
    go_wp2_with (first | (go_at_call 9; refine HFI.out.mono ?_; rintro e w1 ⟨rfl, hb1⟩; have HB1 := hide hb1; clear hb1) | fail)
    go_ret
    exact ⟨rfl, HB1.out⟩
  by_cases lb : 100 < n1
  · go_enter Tryd.func6, Tryd.ntmps6
    go_wp2_with (first | (go_at_call 9; refine HFI.out.mono ?_; rintro e w1 ⟨rfl, hb1⟩; have HB1 := hide hb1; clear hb1) | fail)
    go_ret
    exact ⟨rfl, HB1.out⟩
  have hwn : IntKind.u64.wrap (n0 : Int) = (n0 : Int) := by rw [IntKind.wrap_u64]; omega
  have HRT := hide (Vi.readN_numsB zs (by have := HN0.out; omega) HZ.out)
  have hxl : (numsB zs).length ≤ 410 := by
    have h1 := numsB_len zs HZ.out
    have h2 := Vi.size_le10 (show zs.length < 18446744073709551616 by have := HN0.out; omega)
    have h3 := HN0.out
    unfold numsB
    rw [List.length_append]
    unfold Vi.size at h2
    omega
  obtain ⟨X, hX⟩ : ∃ X, X = numsB zs := ⟨_, rfl⟩
  rw [← hX] at HRT hxl
  have HX := hide hX
  obtain ⟨nx, hnx⟩ : ∃ nx, X.length = nx := ⟨_, rfl⟩
  rw [hnx] at hxl
  have HNX := hide hnx
  have HPU := hide (fun W => refPut_any n0 W (by omega))
  have HNU := hide (fun W (h : Ints W A0 zs) => nums_any A0 c0 n0 zs W HN0.out (by omega) h HZ.out)
  rw [← hX] at HNU
  clear hX hnx
  go_enter Tryd.func6, Tryd.ntmps6
  go_wp2_with (first
    | (go_at_call 9; refine HFI.out.mono ?_; rintro e w1 ⟨rfl, hb1⟩; have HB1 := hide hb1; clear hb1)
    | (go_at_call 26; refine (HNU.out w1 (HI.out.below HB1.out (Nat.le_refl _))).mono ?_; rintro e w2 ⟨v6, rfl, ho6, hb2⟩; obtain ⟨A6, c6, rfl, ha6⟩ := own_len ho6 HNX.out; have HA6 := hide ha6; have HB2 := hide (HB1.out.trans (hb2.mono HB1.out.size)); clear ho6 hb2 ha6)
    | (go_at_call 27; refine (HPU.out w2).mono ?_; rintro e w3 ⟨v7, rfl, ho7, hb3⟩; have HO7 := hide ho7; have HB3 := hide hb3; clear ho7 hb3)
    | fail)
  clear HPU HNU HFI
  go_loopw [7, 8] (fun bv i wr => ∃ k : Nat, k ≤ n0 ∧ i = .int .i64 k ∧ Own wr w2.heap.size bv (Vi.put n0 ++ (zs.take k).flatMap fun z => Vi.put (Vi.zz z)) ∧ Below w2.heap.size w2 wr) (fun _ i _ => n0 - (intOf i).toNat)
  case atStart => exact ⟨0, Nat.zero_le _, rfl, by rw [List.take_zero, List.flatMap_nil, List.append_nil]; exact HO7.out, HB3.out⟩
  case round =>
    obtain ⟨k, hk, rfl, ho, hb⟩ := hrel
    have HO := hide ho
    have HBR := hide hb
    clear ho hb HO7 HB3
    by_cases hlt : k < n0
    · rcases (HI.out.below HB2.out (Nat.le_refl _)).below HBR.out (Nat.le_refl _) with h0 | ⟨bz, oz, rfl, -, hcell⟩
      · have := HN0.out; rw [h0] at this; simp at this; omega
      have hc := hcell k (by rw [HN0.out]; exact hlt)
      have hfit := HZ.out (zs.getD k 0) (by
        have h1 : k < zs.length := by rw [HN0.out]; exact hlt
        rw [List.getD_eq_getElem?_getD, List.getElem?_eq_getElem h1, Option.getD_some]
        exact List.getElem_mem _)
      have HSN := hide (numsB_snoc (Vi.put n0) zs k (by rw [HN0.out]; exact hlt))
      have hlen : (Vi.put n0 ++ (zs.take k).flatMap fun z => Vi.put (Vi.zz z)).length ≤ 10 + 10 * k := by
        have h1 := numsB_len (zs.take k) fun z hz => HZ.out z (List.mem_of_mem_take hz)
        have h2 := Vi.size_le10 (show n0 < 18446744073709551616 by omega)
        unfold Vi.size at h2
        rw [List.length_take] at h1
        rw [List.length_append]
        omega
      have HLN := hide hlen
      have HPI := hide (fun W => refPutInt_any (zs.getD k 0) W hfit.1 hfit.2)
      have HZS := hide (Vi.size_le10 (Vi.zz_lt (zs.getD k 0) hfit.1 hfit.2))
      clear hcell hlen
      generalize zs.getD k 0 = z at *
      have HPL : Hid ((Vi.put (Vi.zz z)).length = Vi.size (Vi.zz z)) := hide rfl
      generalize (Vi.put n0 ++ (zs.take k).flatMap fun z => Vi.put (Vi.zz z)) = pre at *
      generalize Vi.size (Vi.zz z) = sz at *
      generalize Vi.put (Vi.zz z) = pz at *
      have hsz := HZS.out
      go_wp2_with (first
        | (go_at_call 28; refine (HPI.out wr).mono ?_; rintro e w4 ⟨v4, rfl, ho4, hb4⟩; obtain ⟨A4, c4, rfl, ha4⟩ := own_len ho4 HPL.out; have HA4 := hide ha4; have HO4 := hide (HO.out.below hb4 (Nat.le_refl _)); have HB4 := hide (HBR.out.trans (hb4.mono HBR.out.size)); clear ho4 ha4 hb4)
        | (at_builtin; refine wpList_app (w := w4) rfl (.tmp 45) (.tmp 50) rfl w2.heap.size _ pre pz rfl HO4.out A4 sz c4 rfl HPL.out HA4.out.reads (by have := HLN.out; omega) HB4.out.size ?_; intro v5 w5 ho5 hg5 hv5; have hb5 := HB4.out.grown hg5 HB4.out.size (fun g hg => (HO4.out.lt g hg).1); have HO5 := hide ho5; have HB5 := hide hb5; clear ho5 hg5 hv5 hb5)
        | fail)
      go_roundw
      case rel => exact ⟨k + 1, by omega, by go_num, by rw [← HSN.out]; exact HO5.out, HB5.out⟩
      case measure => simp [intOf]; omega
    · obtain rfl : k = n0 := by omega
      have hO0 := HO.out
      rw [← HN0.out, List.take_length] at hO0
      have hO := (show Own wr w2.heap.size _ (numsB zs) from hO0)
      rw [← HX.out] at hO
      clear hO0
      obtain ⟨A7, c7, rfl, ha7⟩ := own_len hO HNX.out
      have HA7 := hide ha7
      have HBW := hide (HB2.out.trans (HBR.out.mono HB2.out.size))
      have HA6' := hide (HA6.out.below HBR.out (Nat.le_refl _))
      have HRN := hide (readNums_any A6 c6 nx X wr p ((HS.out.below HBW.out).mono fun j hj => by omega) HNX.out (by omega) HA6'.out)
      rw [HRT.out] at HRN
      simp only at HRN
      rw [HN0.out] at HRN
      clear hO ha7 HO HBR HRT HX HA6
      go_wp2_with (first
        | (go_at_call 29; refine HRN.out.mono ?_; rintro e w8 ⟨hb8, A8, c8, E8, rfl, hf8, hi8⟩; obtain rfl := hf8.good; have HB8 := hide (HBW.out.trans (hb8.mono HBW.out.size)); have HI8 := hide hi8; have HA68 := hide (HA6'.out.below hb8 (Nat.le_refl _)); have HA78 := hide (HA7.out.below hb8 (Nat.le_refl _)); have HA18 := hide (HB.out.below (HBW.out.trans (hb8.mono HBW.out.size)) (Nat.le_refl _)); clear hb8 hf8 hi8)
        | fail)
      have HPR : Hid (PrSt w8 w8 A1 c1 w8.heap.size b (fine 0) (.slice none 0 0) [] → True) := hide fun _ => trivial
      clear HPR
      obtain ⟨w9, hw9⟩ : ∃ w9, w9 = w8.alloc (.cells #[.slice A1 b.length c1, .int .i64 0, .int .i64 0, .bool false, .int .i64 0] 60) := ⟨_, rfl⟩
      have hb89 : Below w8.heap.size w8 w9 := hw9 ▸ balloc (Below.refl _ _) _
      have hr9 : RRd w9 A1 c1 w8.heap.size b (fine 0) := hw9 ▸ RRd.newN w8 A1 c1 b HA18.out
      have HB89 := hide hb89
      have HR9 := hide hr9
      rw [HN1.out] at hw9
      rw [← hw9]
      have HNM := hide (rnum_any w9 A1 c1 w8.heap.size b (fine 0) 4096 hr9 (by have := HN1.out; omega))
      have hM := num_most b (fine 0) 4096
      obtain ⟨M, hMe⟩ : ∃ M, M = (Vi.num b (fine 0) 4096).1 := ⟨_, rfl⟩
      obtain ⟨s0, hs0⟩ : ∃ s0, s0 = (Vi.num b (fine 0) 4096).2 := ⟨_, rfl⟩
      rw [← hMe, ← hs0] at HNM
      rw [← hMe] at hM
      have hwM : IntKind.i64.wrap (M : Int) = (M : Int) := by rw [IntKind.wrap_i64]; omega
      have hG : w8.heap.size < w9.heap.size := hr9.lt
      have HRB : Hid (Vi.readN b = if (Vi.rd b M s0 []).2.code ≠ 0 then ([], (Vi.rd b M s0 []).2.code, (Vi.rd b M s0 []).2.pos) else if (Vi.rd b M s0 []).2.at_ < b.length then ([], 104, some (Vi.rd b M s0 []).2.at_) else ((Vi.rd b M s0 []).1, 0, none)) := hide (by rw [hMe, hs0]; rfl)
      clear hb89 hr9 hw9 hMe hs0
      have HBG : Hid (w.heap.size ≤ w8.heap.size) := hide HB8.out.size
      generalize hg8 : w8.heap.size = g at *
      have HG8 : Hid (w8.heap.size ≤ g) := hide (Nat.le_of_eq hg8)
      clear hg8
      refine HNM.out.mono ?_
      rintro e wa ⟨rfl, hra, hba⟩
      have HST : Hid (PrSt w9 wa A1 c1 g b s0 (.slice none 0 0) []) := hide ⟨hra, OwnN.none _ _, hba, hG, fun hl b' off e => by
        rcases HB.out.reads with h0 | ⟨b'', off', e', hlt', -⟩
        · exact absurd h0 hl
        · rw [e] at e'
          injection e' with e'
          injection e' with e1
          have h1 := HBW.out.size
          have h2 := HB8.out.size
          have h3 := HB89.out.size
          have h5 := HBG.out
          have h4 := HB2.out.size
          omega⟩
      have HB9 := hide (HB8.out.trans (HB89.out.mono HBG.out))
      clear hra hba HNM HR9 HRN
      go_wp2_with fail
      go_loopw [13, 14] (fun pv i wr => ∃ (ys : List Int) (s' : Vi.Rs), PrSt w9 wr A1 c1 g b s' pv ys ∧ i = .int .i64 (ys.length : Int) ∧ Vi.rd b M s0 [] = Vi.rd b (M - ys.length) s' ys ∧ ys.length ≤ M) (fun _ i _ => M - (intOf i).toNat)
      case atStart => exact ⟨[], s0, HST.out, rfl, by simp, Nat.zero_le _⟩
      case round =>
        obtain ⟨ys, s1, hst, rfl, hlp, hyM⟩ := hrel
        obtain ⟨Ar, cr, rfl, hcr1, hcr2⟩ := hst.own.shape
        have HST' := hide hst
        have HLP := hide hlp
        clear hst hlp HST
        by_cases hlt2 : ys.length < M
        · have dlt : decide ((ys.length : Int) < M) = true := decide_eq_true (by omega)
          by_cases hcz : s1.code = 0
          · have HON := hide (Vi.rd_on b M s1 ys ys.length hlt2 hcz)
            have HF := hide (fine_any wr A1 c1 g b s1 true HST'.out.rd (by rw [hcz]; rfl))
            have HIN := hide (rint_any wr A1 c1 g b s1 (-9223372036854775808) 9223372036854775807 HST'.out.rd (by have := HN1.out; omega))
            generalize Vi.int b s1 (-9223372036854775808) 9223372036854775807 = q at *
            obtain ⟨z, s2⟩ := q
            simp only at HON HIN
            clear hcz
            go_wp2_with (first
              | (go_at_call 31; refine HF.out.mono ?_; rintro e wv ⟨rfl, hwv⟩; obtain rfl : wr = wv := hwv)
              | (go_at_call 32; refine HIN.out.mono ?_; rintro e w3 ⟨rfl, hr3, hb3⟩; have H3 := hide (HST'.out.call hr3 hb3); clear hr3 hb3)
              | (at_builtin; refine wpList_app64 (w := w3.alloc _) rfl (.tmp 72) (.tmp 75) rfl w9.heap.size _ ys rfl (H3.out.quiet (balloc (Below.refl _ _) _)).own ⟨w3.heap.size, 0, none⟩ z rfl (by rw [Addr.add_lit, World.cell?_alloc_mark]; rfl) (by omega) (by have := H3.out.but.size; rw [World.size_alloc]; omega) ?_; intro v4 w4 ho4 hg4; have H4 := hide ((H3.out.quiet (balloc (Below.refl _ _) _)).push hg4 ho4); clear ho4 hg4)
              | fail)
            go_roundw
            case rel => exact ⟨ys ++ [z], s2, H4.out, by simp, by rw [HLP.out, HON.out, List.length_append]; rfl, by simp; omega⟩
            case measure => simp [intOf]; omega
          · have HF := hide (fine_any wr A1 c1 g b s1 false HST'.out.rd (by simp [hcz]))
            have HQ : Hid (Vi.readN b = ([], s1.code, s1.pos)) := hide (by rw [HRB.out, HLP.out, Vi.rd_stop _ _ _ _ hcz, if_pos hcz])
            obtain ⟨oc, op, hoe⟩ : ∃ oc op, overN b s1 = (oc, op) := ⟨_, _, rfl⟩
            have h2 : (s1.code, s1.pos) = (oc, op) := by rw [← hoe]; exact (if_neg (fun h => hcz h.1)).symm
            have HOE := hide hoe
            rw [h2] at HQ
            have HOC : Hid (oc ≠ 0) := hide (by injection h2 with h3 _; rw [← h3]; exact hcz)
            have HFB := HF
            clear HF hoe h2 hcz
            have HBWR : Hid (Below w.heap.size w wr) := hide (HB9.out.grown HST'.out.but.grown HB9.out.size (fun k hk => by injection hk with hk; have := HBG.out; omega))
            have HB8R : Hid (Below g w8 wr) := hide (HB89.out.grown HST'.out.but.grown (Nat.le_of_lt hG) (fun k hk => by injection hk with hk; omega))
            have HOV := hide (rover_any wr A1 c1 g b s1 HST'.out.rd (by have := HN1.out; omega))
            rw [HOE.out] at HOV
            simp only at HOV
            have HRN2 := hide (fun (W : World) (hW : Below w.heap.size w W) (h : Arg W A1 c1 b) => readNums_any A1 c1 n1 b W p ((HS.out.below hW).mono fun j hj => by omega) HN1.out (by omega) h)
            rw [HQ.out] at HRN2
            simp only at HRN2
            have hoc : ((oc : Int) == 0) = false := by simp; exact HOC.out
            rw [List.length_nil] at HRN2
            clear HRB HLP
            go_wp2_with (first
              | (have _t := HFB; go_at_call 31; refine HFB.out.mono ?_; rintro e wv ⟨rfl, hwv⟩; obtain rfl : wr = wv := hwv; clear HFB)
              | (go_at_call 33; refine HOV.out.mono ?_; rintro e wo ⟨rfl, hbo, hbb⟩; have HBO := hide hbo; have HBWO : Hid (Below w.heap.size w wo) := hide (HBWR.out.grown hbb.grown HBWR.out.size (fun k hk => by injection hk with hk; have := HBG.out; omega)); have HYS : Hid (OwnN wo w9.heap.size (.slice Ar ys.length cr) ys) := hide (HST'.out.own.same fun k hk => hbb.block k (HST'.out.own.lt k hk).2 (by have := (HST'.out.own.lt k hk).1; have := hG; simp; omega)); have HBO8 : Hid (g ≤ wo.heap.size) := hide (Nat.le_of_lt hbo.lt); have HB8O : Hid (Below g w8 wo) := hide (HB8R.out.grown hbb.grown (Nat.le_trans (Nat.le_of_lt hG) HST'.out.but.size) (fun k hk => by injection hk with hk; omega)); clear hbo hbb)
              | (go_at_call 29; refine (HRN2.out wo HBWO.out (HB.out.below HBWO.out (Nat.le_refl _))).mono ?_; rintro e wp ⟨hbp, Ap, cp, Ep, rfl, hfp, hip⟩; have HFP := hide hfp; have HIP := hide hip; have HBP := hide (HBO.out.below hbp); have HBWP := hide (HBWO.out.trans (hbp.mono HBWO.out.size)); have HYP := hide (HYS.out.ints.below hbp (Nat.le_refl _)); have HB8P := hide (HB8O.out.trans (hbp.mono HBO8.out)); clear hbp hfp hip)
              | (go_at_call 31; refine (HBP.out.fine _ hoc).mono ?_; rintro e wv ⟨rfl, hwv⟩; obtain rfl : wp = wv := hwv)
              | fail)
            have z2 := HBP.out.c2
            have z3 := HBP.out.c3
            have z4 := HBP.out.c4
            have hlg := HBP.out.lt

            have HSE : Hid (∀ W, Below w.heap.size w W → Sents W p) := hide (fun W hW => HS.out.below hW)
            have HSX := hide (sameBytes_any A6 A7 c6 c7 nx nx X X wp HNX.out HNX.out (by omega) (by omega) (HA68.out.below HB8P.out HG8.out).reads (HA78.out.below HB8P.out HG8.out).reads)
            go_wp2_with (first
              | (go_at_call 13; refine HSX.out.mono ?_; rintro e wq ⟨he, q, hq⟩; rw [decide_eq_true (rfl : X = X)] at he; subst he; have HBQ : Hid (Below wp.heap.size wp wq) := hide (by rw [hq]; exact below_drewN (Below.refl _ _) q); have HBWQ := hide (HBWP.out.trans (HBQ.out.mono HBWP.out.size)); have HB8Q := hide (HB8P.out.trans (HBQ.out.mono (Nat.le_of_lt HBP.out.lt))); clear hq)
              | (have _t := HBR1; go_at_call 34; refine (sameLongs_any Ap none cp 0 0 [] wr1 rfl (by omega) (HIP.out.below (HBQ.out.trans (HBR1.out.mono HBQ.out.size)) (Nat.le_refl _)) (.inl rfl)).mono ?_; rintro e ws ⟨rfl, q, hq⟩; have HBS : Hid (Below wp.heap.size wp ws) := hide ((HBQ.out.trans (HBR1.out.mono HBQ.out.size)).trans (by rw [hq]; exact below_drewN (Below.refl _ _) q)); have HBWS := hide (HBWP.out.trans (HBS.out.mono HBWP.out.size)); have y2 := (HBP.out.below HBS.out).c2; have y3 := (HBP.out.below HBS.out).c3; have y4 := (HBP.out.below HBS.out).c4; have yl := (HBP.out.below HBS.out).lt; clear hq)
              | (go_at_call 34; refine (sameLongs_any A8 A0 c8 c0 k zs wq HN0.out (by omega) (HI8.out.below HB8Q.out HG8.out) (HI.out.below HBWQ.out (Nat.le_refl _))).mono ?_; rintro e wr1 ⟨rfl, q, hq⟩; have HBR1 : Hid (Below wq.heap.size wq wr1) := hide (by rw [hq]; exact below_drewN (Below.refl _ _) q); clear hq)
              | (go_at_call 35; refine (same_fltN ws p (HSE.out ws HBWS.out) Ep (oc, op) (HFP.out.below HBS.out)).mono ?_; rintro e wt ⟨rfl, hbt⟩; have HBT := hide (HBWS.out.trans (hbt.mono HBWS.out.size)); clear hbt)
              | fail)
            go_ret
            exact ⟨rfl, HBT.out⟩

        · obtain rfl : ys.length = M := by omega
          have dlt : decide ((ys.length : Int) < ys.length) = false := decide_eq_false (by omega)
          have HLQ : Hid (Vi.rd b ys.length s0 [] = (ys, s1)) := hide (by rw [HLP.out, Nat.sub_self]; rfl)
          obtain ⟨oc, op, hoe⟩ : ∃ oc op, overN b s1 = (oc, op) := ⟨_, _, rfl⟩
          have hro := readN_over HST'.out.rd.ok (Vi.readN b) ys (by rw [HRB.out, HLQ.out])
          rw [hoe] at hro
          have HOE := hide hoe
          clear hoe HLQ hlt2
          by_cases hoc0 : oc = 0
          · have hop : oc = 0 ∧ op = none := ⟨hoc0, by have h := HOE.out; unfold overN at h; split at h; (injection h with h _; omega); (injection h with h1 h2; rw [← h2]; have hcode := HST'.out.rd.ok.code; rcases hcode with ⟨-, h⟩ | ⟨h, -⟩ | ⟨h, -⟩; exact h; omega; omega)⟩
            have HQ : Hid (Vi.readN b = (ys, oc, op)) := hide (by rw [hro, hop.1, hop.2]; rfl)
            have HOC : Hid (oc = 0) := hide hoc0
            clear hro hoc0 hop
            have HBWR : Hid (Below w.heap.size w wr) := hide (HB9.out.grown HST'.out.but.grown HB9.out.size (fun k hk => by injection hk with hk; have := HBG.out; omega))
            have HB8R : Hid (Below g w8 wr) := hide (HB89.out.grown HST'.out.but.grown (Nat.le_of_lt hG) (fun k hk => by injection hk with hk; omega))
            have HOV := hide (rover_any wr A1 c1 g b s1 HST'.out.rd (by have := HN1.out; omega))
            rw [HOE.out] at HOV
            simp only at HOV
            have HRN2 := hide (fun (W : World) (hW : Below w.heap.size w W) (h : Arg W A1 c1 b) => readNums_any A1 c1 n1 b W p ((HS.out.below hW).mono fun j hj => by omega) HN1.out (by omega) h)
            rw [HQ.out] at HRN2
            simp only at HRN2
            have hoc : ((oc : Int) == 0) = true := by rw [HOC.out]; rfl
            clear HRB HLP
            go_wp2_with (first
              | (go_at_call 33; refine HOV.out.mono ?_; rintro e wo ⟨rfl, hbo, hbb⟩; have HBO := hide hbo; have HBWO : Hid (Below w.heap.size w wo) := hide (HBWR.out.grown hbb.grown HBWR.out.size (fun k hk => by injection hk with hk; have := HBG.out; omega)); have HYS : Hid (OwnN wo w9.heap.size (.slice Ar ys.length cr) ys) := hide (HST'.out.own.same fun k hk => hbb.block k (HST'.out.own.lt k hk).2 (by have := (HST'.out.own.lt k hk).1; have := hG; simp; omega)); have HBO8 : Hid (g ≤ wo.heap.size) := hide (Nat.le_of_lt hbo.lt); have HB8O : Hid (Below g w8 wo) := hide (HB8R.out.grown hbb.grown (Nat.le_trans (Nat.le_of_lt hG) HST'.out.but.size) (fun k hk => by injection hk with hk; omega)); clear hbo hbb)
              | (go_at_call 29; refine (HRN2.out wo HBWO.out (HB.out.below HBWO.out (Nat.le_refl _))).mono ?_; rintro e wp ⟨hbp, Ap, cp, Ep, rfl, hfp, hip⟩; have HFP := hide hfp; have HIP := hide hip; have HBP := hide (HBO.out.below hbp); have HBWP := hide (HBWO.out.trans (hbp.mono HBWO.out.size)); have HYP := hide (HYS.out.ints.below hbp (Nat.le_refl _)); have HB8P := hide (HB8O.out.trans (hbp.mono HBO8.out)); clear hbp hfp hip)
              | (go_at_call 31; refine (HBP.out.fine _ hoc).mono ?_; rintro e wv ⟨rfl, hwv⟩; obtain rfl : wp = wv := hwv)
              | fail)
            have z2 := HBP.out.c2
            have z3 := HBP.out.c3
            have z4 := HBP.out.c4
            have hlg := HBP.out.lt

            have HSE : Hid (∀ W, Below w.heap.size w W → Sents W p) := hide (fun W hW => HS.out.below hW)
            have HSX := hide (sameBytes_any A6 A7 c6 c7 nx nx X X wp HNX.out HNX.out (by omega) (by omega) (HA68.out.below HB8P.out HG8.out).reads (HA78.out.below HB8P.out HG8.out).reads)
            go_wp2_with (first
              | (go_at_call 13; refine HSX.out.mono ?_; rintro e wq ⟨he, q, hq⟩; rw [decide_eq_true (rfl : X = X)] at he; subst he; have HBQ : Hid (Below wp.heap.size wp wq) := hide (by rw [hq]; exact below_drewN (Below.refl _ _) q); have HBWQ := hide (HBWP.out.trans (HBQ.out.mono HBWP.out.size)); have HB8Q := hide (HB8P.out.trans (HBQ.out.mono (Nat.le_of_lt HBP.out.lt))); clear hq)
              | (have _t := HBR1; go_at_call 34; refine (sameLongs_any Ap Ar cp cr ys.length ys wr1 rfl (by omega) (HIP.out.below (HBQ.out.trans (HBR1.out.mono HBQ.out.size)) (Nat.le_refl _)) (HYP.out.below (HBQ.out.trans (HBR1.out.mono HBQ.out.size)) (Nat.le_refl _))).mono ?_; rintro e ws ⟨rfl, q, hq⟩; have HBS : Hid (Below wp.heap.size wp ws) := hide ((HBQ.out.trans (HBR1.out.mono HBQ.out.size)).trans (by rw [hq]; exact below_drewN (Below.refl _ _) q)); have HBWS := hide (HBWP.out.trans (HBS.out.mono HBWP.out.size)); have y2 := (HBP.out.below HBS.out).c2; have y3 := (HBP.out.below HBS.out).c3; have y4 := (HBP.out.below HBS.out).c4; have yl := (HBP.out.below HBS.out).lt; clear hq)
              | (go_at_call 34; refine (sameLongs_any A8 A0 c8 c0 k zs wq HN0.out (by omega) (HI8.out.below HB8Q.out HG8.out) (HI.out.below HBWQ.out (Nat.le_refl _))).mono ?_; rintro e wr1 ⟨rfl, q, hq⟩; have HBR1 : Hid (Below wq.heap.size wq wr1) := hide (by rw [hq]; exact below_drewN (Below.refl _ _) q); clear hq)
              | (go_at_call 35; refine (same_fltN ws p (HSE.out ws HBWS.out) Ep (oc, op) (HFP.out.below HBS.out)).mono ?_; rintro e wt ⟨rfl, hbt⟩; have HBT := hide (HBWS.out.trans (hbt.mono HBWS.out.size)); clear hbt)
              | fail)
            go_ret
            exact ⟨rfl, HBT.out⟩

          · have HQ : Hid (Vi.readN b = ([], oc, op)) := hide (by rw [hro]; exact if_neg hoc0)
            have HOC : Hid (oc ≠ 0) := hide hoc0
            clear hro hoc0
            have HBWR : Hid (Below w.heap.size w wr) := hide (HB9.out.grown HST'.out.but.grown HB9.out.size (fun k hk => by injection hk with hk; have := HBG.out; omega))
            have HB8R : Hid (Below g w8 wr) := hide (HB89.out.grown HST'.out.but.grown (Nat.le_of_lt hG) (fun k hk => by injection hk with hk; omega))
            have HOV := hide (rover_any wr A1 c1 g b s1 HST'.out.rd (by have := HN1.out; omega))
            rw [HOE.out] at HOV
            simp only at HOV
            have HRN2 := hide (fun (W : World) (hW : Below w.heap.size w W) (h : Arg W A1 c1 b) => readNums_any A1 c1 n1 b W p ((HS.out.below hW).mono fun j hj => by omega) HN1.out (by omega) h)
            rw [HQ.out] at HRN2
            simp only at HRN2
            have hoc : ((oc : Int) == 0) = false := by simp; exact HOC.out
            rw [List.length_nil] at HRN2
            clear HRB HLP
            go_wp2_with (first
              | (go_at_call 33; refine HOV.out.mono ?_; rintro e wo ⟨rfl, hbo, hbb⟩; have HBO := hide hbo; have HBWO : Hid (Below w.heap.size w wo) := hide (HBWR.out.grown hbb.grown HBWR.out.size (fun k hk => by injection hk with hk; have := HBG.out; omega)); have HYS : Hid (OwnN wo w9.heap.size (.slice Ar ys.length cr) ys) := hide (HST'.out.own.same fun k hk => hbb.block k (HST'.out.own.lt k hk).2 (by have := (HST'.out.own.lt k hk).1; have := hG; simp; omega)); have HBO8 : Hid (g ≤ wo.heap.size) := hide (Nat.le_of_lt hbo.lt); have HB8O : Hid (Below g w8 wo) := hide (HB8R.out.grown hbb.grown (Nat.le_trans (Nat.le_of_lt hG) HST'.out.but.size) (fun k hk => by injection hk with hk; omega)); clear hbo hbb)
              | (go_at_call 29; refine (HRN2.out wo HBWO.out (HB.out.below HBWO.out (Nat.le_refl _))).mono ?_; rintro e wp ⟨hbp, Ap, cp, Ep, rfl, hfp, hip⟩; have HFP := hide hfp; have HIP := hide hip; have HBP := hide (HBO.out.below hbp); have HBWP := hide (HBWO.out.trans (hbp.mono HBWO.out.size)); have HYP := hide (HYS.out.ints.below hbp (Nat.le_refl _)); have HB8P := hide (HB8O.out.trans (hbp.mono HBO8.out)); clear hbp hfp hip)
              | (go_at_call 31; refine (HBP.out.fine _ hoc).mono ?_; rintro e wv ⟨rfl, hwv⟩; obtain rfl : wp = wv := hwv)
              | fail)
            have z2 := HBP.out.c2
            have z3 := HBP.out.c3
            have z4 := HBP.out.c4
            have hlg := HBP.out.lt

            have HSE : Hid (∀ W, Below w.heap.size w W → Sents W p) := hide (fun W hW => HS.out.below hW)
            have HSX := hide (sameBytes_any A6 A7 c6 c7 nx nx X X wp HNX.out HNX.out (by omega) (by omega) (HA68.out.below HB8P.out HG8.out).reads (HA78.out.below HB8P.out HG8.out).reads)
            go_wp2_with (first
              | (go_at_call 13; refine HSX.out.mono ?_; rintro e wq ⟨he, q, hq⟩; rw [decide_eq_true (rfl : X = X)] at he; subst he; have HBQ : Hid (Below wp.heap.size wp wq) := hide (by rw [hq]; exact below_drewN (Below.refl _ _) q); have HBWQ := hide (HBWP.out.trans (HBQ.out.mono HBWP.out.size)); have HB8Q := hide (HB8P.out.trans (HBQ.out.mono (Nat.le_of_lt HBP.out.lt))); clear hq)
              | (have _t := HBR1; go_at_call 34; refine (sameLongs_any Ap none cp 0 0 [] wr1 rfl (by omega) (HIP.out.below (HBQ.out.trans (HBR1.out.mono HBQ.out.size)) (Nat.le_refl _)) (.inl rfl)).mono ?_; rintro e ws ⟨rfl, q, hq⟩; have HBS : Hid (Below wp.heap.size wp ws) := hide ((HBQ.out.trans (HBR1.out.mono HBQ.out.size)).trans (by rw [hq]; exact below_drewN (Below.refl _ _) q)); have HBWS := hide (HBWP.out.trans (HBS.out.mono HBWP.out.size)); have y2 := (HBP.out.below HBS.out).c2; have y3 := (HBP.out.below HBS.out).c3; have y4 := (HBP.out.below HBS.out).c4; have yl := (HBP.out.below HBS.out).lt; clear hq)
              | (go_at_call 34; refine (sameLongs_any A8 A0 c8 c0 k zs wq HN0.out (by omega) (HI8.out.below HB8Q.out HG8.out) (HI.out.below HBWQ.out (Nat.le_refl _))).mono ?_; rintro e wr1 ⟨rfl, q, hq⟩; have HBR1 : Hid (Below wq.heap.size wq wr1) := hide (by rw [hq]; exact below_drewN (Below.refl _ _) q); clear hq)
              | (go_at_call 35; refine (same_fltN ws p (HSE.out ws HBWS.out) Ep (oc, op) (HFP.out.below HBS.out)).mono ?_; rintro e wt ⟨rfl, hbt⟩; have HBT := hide (HBWS.out.trans (hbt.mono HBWS.out.size)); clear hbt)
              | fail)
            go_ret
            exact ⟨rfl, HBT.out⟩

end Go.Proofs.YtfjanenooembkaaDoor

namespace Go.Proofs.YtfjanenooembkaaDoor.PNumsLaw
open Go.Proofs.YtfjanenooembkaaDoor
open Go.RowKit Go.ChangeShapes Go.WideShapes Go.ChangeAt

set_option maxRecDepth 100000 in
theorem lifted (os : Os) (started : os.Started) (H : Type) (enc : TypeId × Value → H) :
    ReturnsInHanded {} Tryd.checked os 6 .any (fun w args => (Rows.pointNumsSpec.pre enc Tryd.prog Tryd.f6 [] false w args ∧ laidMetH Tryd.prog laidErr w) ∧ sizedMet enc Tryd.prog Tryd.f6 (OpenSpec.ofChange Rows.pointNumsSpec) false w args)
      (Rows.pointNumsSpec.post enc Tryd.prog Tryd.f6 false true false false) := by
  refine returnsInHanded_of_change_and (C := Tryd.checked) (X := fun w _ => laidMetH Tryd.prog laidErr w) (fun _ _ _ hh h => h.of_heap hh) own started (by kernel_rfl) Tryd.func6
    (ChangeSpec.witness_shaped (enc := enc) (C := Tryd.checked) (os := os) (X := fun w _ => laidMetH Tryd.prog laidErr w) false (World.doorLaid Tryd.prog 400 os) #[.slice none 0 0, .slice none 0 0] 8 rfl (World.shaped_of_RefB (by kernel_rfl) (by kernel_rfl)) (by kernel_rfl) (by kernel_rfl) (by kernel_rfl) (door_met_err os _)) ?_
  intro W base args ds gs before hval0 hW _ _ hL _
  have hval : ∀ (j : Nat) t v, Tryd.f6.params[j]? = some t → args[j]? = some v → Value.okWide Tryd.prog W .any base t v := hval0
  have hW' := hW
  obtain ⟨p, q, hA0, hV, rfl, hfz, hnd⟩ := hW
  have hA : DataW.TrodAll enc Tryd.prog W 0 (fun _ => true) true Tryd.f6.params.toList args.toList ds p := hA0
  rw [Tryd.params6] at hA hval
  obtain ⟨v0, vs0, d0, ds0, p0, q0, hargs, rfl, rfl, h0, r0⟩ := trodAll_cons hA
  obtain ⟨v1, vs1, d1, ds1, p1, q1, rfl, rfl, rfl, h1, r1⟩ := trodAll_cons r0
  obtain ⟨rfl, rfl, rfl⟩ := trodAll_nil r1
  obtain rfl : args = #[v0, v1] := by cases args; simp_all
  obtain ⟨rfl, rfl⟩ := trodVars_none hV
  obtain ⟨a0, len0, cap0, rfl⟩ := okWide_slice Tryd.underlying49 (hval 0 49 v0 rfl rfl)
  have k0 := h0
  have lt0 : ∀ x ∈ p0, x.block < W.heap.size := by obtain ⟨m, hm⟩ := k0; exact DataW.trod_lt m _ _ _ hm
  obtain ⟨zs0, rfl, le0, mx0, w0, z0⟩ := longs_of h0
  obtain ⟨a1, len1, cap1, rfl⟩ := okWide_slice Tryd.underlying22 (hval 1 22 v1 rfl rfl)
  have k1 := h1
  have lt1 : ∀ x ∈ p1, x.block < W.heap.size := by obtain ⟨m, hm⟩ := k1; exact DataW.trod_lt m _ _ _ hm
  obtain ⟨l1, rfl, w1⟩ := arg_of h1
  clear hA0 hval0
  obtain ⟨ps, hsent⟩ := sents_of_err hL
  refine (pointNums_any W ps hsent a0 a1 cap0 cap1 _ _ zs0 l1 rfl rfl w0 (fun z hz => by obtain ⟨k, hk, rfl⟩ := List.getElem_of_mem hz; have := z0 k hk; simpa [List.getD, List.getElem?_eq_getElem hk] using this) w1).mono fun e W' ⟨he, bel⟩ => ?_
  subst he
  exact ⟨_, rfl, _, _, _, [], _, [], hW', trodAll_mk1 (shut_bool Tryd.underlying4 _), (trodAll_cons_mk (Below.trod laidOut (by kernel_rfl) (of_decide_eq_true (by kernel_rfl)) k0 bel lt0) (trodAll_cons_mk (Below.trod laidOut (by kernel_rfl) (of_decide_eq_true (by kernel_rfl)) k1 bel lt1) trodAll_mk0)), rfl, bel.frame _, fun h => by cases h⟩

theorem row : Rows.PointNumsSaid :=
  OpenClaim.holds_of_wide 6 Tryd.f6 rfl rfl rfl rfl rfl rfl rfl ⟨rfl, rfl, rfl, rfl, rfl⟩ rfl rfl rfl rfl rfl (by kernel_rfl) Tryd.func6 (by kernel_rfl)
    (of_decide_eq_true (by kernel_rfl)) (by unfold Func.isWrapper; first | (rw [if_pos (by decide +kernel)]; kernel_rfl) | (rw [if_neg (by decide +kernel)]; exact ⟨rfl, rfl⟩))
    (fun os started H enc _ => lifted os started H enc)

theorem proved : Rows.PointNumsCardSaid :=
  Claim7.holds_tied_plain_at .later [] _ true _ true
    row (fun _ h => by cases h) (by kernel_rfl) (fun _ h => by cases h) pointNums_row_tie rfl ⟨rfl, rfl⟩ (by kernel_rfl) rfl
    (fun f fn hf hfn => by
      obtain rfl : f = 6 := Option.some.inj ((show Tryd.prog.funcNamed "cordwood/cordwoodlaw8.PointNums" = some 6 by kernel_rfl).symm.trans hf) |>.symm
      obtain rfl : fn = Tryd.f6 := (Option.some.inj (Tryd.func6.symm.trans hfn)).symm
      exact ⟨by kernel_rfl, fun j t ht => by
        rw [Tryd.params6] at ht
        have hm : t ∈ [49, 22] := by simpa using Array.mem_of_getElem? ht
        have hall : ([49, 22].all fun u => !Tryd.prog.wantsStandIn u) = true := by kernel_rfl
        exact (show Tryd.prog.wantsStandIn t = false by simpa using List.all_eq_true.1 hall t hm)⟩)
    (by kernel_rfl)
end Go.Proofs.YtfjanenooembkaaDoor.PNumsLaw
