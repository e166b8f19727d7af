/-
  Package point: bytes read as numbers: plainly, and ReadNums under a walk.
  Errors with a place as plain data: what the statements' own helpers (Fault, Placed, Same) answer at a reader's error.
  The walks through the reference's numbers as bytes: the same plain answers.
  The walk through VintBack: a number's bytes are read as it, whatever stands behind; cut off they end too early.
  The walk through VintSays: any number's bytes, and any bytes' number, are what the chapter says.
  The walk through a reader's Fixed.
  The reference's own reader in memory: its five cells. The walks through its Fine and its fail.
  The walks through the reference's reader's Num and Int.
  The walk through the reference's reader's Bytes.
  The walks through the reference's Fixed, and its reader's.
  Package point: the reference's reader at its end, rows of numbers held against one another; PointNums walked.
-/
import Derived.Test.YtplpakdbahlgaaaDoorE9
import Derived.Test.YtplpakdbahlgaaaDoorE10
import Derived.Deep.LoopGhost
import Derived.Deep.RegionLaw
import Derived.Test.YtplpakdbahlgaaaDoorE1
namespace Go.Proofs.YtplpakdbahlgaaaDoor
open Go.RowKit

namespace Vi
/-- So many numbers more, as far as nothing is amiss. -/
def rd (l : List UInt8) : Nat → Rs → List Int → List Int × Rs
  | 0, s, acc => (acc, s)
  | m + 1, s, acc => if s.code ≠ 0 then (acc, s) else rd l m (int l s (-9223372036854775808) 9223372036854775807).2 (acc ++ [(int l s (-9223372036854775808) 9223372036854775807).1])
/-- What is read of bytes: the numbers, or what is amiss. -/
def readN (l : List UInt8) : List Int × Nat × Option Nat :=
  let q := rd l (num l (fine 0) 4096).1 (num l (fine 0) 4096).2 []
  if q.2.code ≠ 0 then ([], q.2.code, q.2.pos) else if q.2.at_ < l.length then ([], 104, some q.2.at_) else (q.1, 0, none)
theorem rd_stop (l : List UInt8) (m : Nat) (s : Rs) (acc : List Int) (h : s.code ≠ 0) : rd l m s acc = (acc, s) := by
  cases m with
  | zero => rfl
  | succ m => unfold rd; rw [if_pos h]
theorem rd_on (l : List UInt8) (M : Nat) (s : Rs) (acc : List Int) (j : Nat) (hj : j < M) (h : s.code = 0) : rd l (M - j) s acc = rd l (M - (j + 1)) (int l s (-9223372036854775808) 9223372036854775807).2 (acc ++ [(int l s (-9223372036854775808) 9223372036854775807).1]) := by
  rw [show M - j = (M - (j + 1)) + 1 by omega]
  show (if s.code ≠ 0 then _ else _) = _
  rw [if_neg (by omega)]
end Vi

theorem int64_info : (Tryd.prog.info? 2).map (fun i => (i.zero, i.size, i.bytes)) = some (some (.int .i64 0), 1, 8) := by kernel_rfl
def valI (zs : List Int) : List Value := zs.map (.int .i64)
theorem valI_at (zs : List Int) (j : Nat) (h : j < zs.length) : (valI zs)[j]? = some (.int .i64 (zs.getD j 0)) := by simp [valI, List.getD, h]
/-- A row of numbers, the call's own: nothing else stands in its second cell. -/
structure OwnN (w : World) (B : Nat) (v : Value) (zs : List Int) : Prop where
  own : w.ownsRow B 2 1 v zs.length (valI zs)
  nil : zs = [] → v = .slice none 0 0
  two : ∀ g, v.ownBlock = some g → ∀ c, w.cell? ⟨g, 1, none⟩ = some c → ∃ t, c = .int .i64 t
theorem OwnN.none (w : World) (B : Nat) : OwnN w B (.slice none 0 0) [] := ⟨World.ownsRow_nil w B _ 1, fun _ => rfl, fun g h => by cases h⟩
theorem OwnN.lt {w : World} {B : Nat} {v : Value} {zs : List Int} (h : OwnN w B v zs) : ∀ k, v.ownBlock = some k → B ≤ k ∧ k < w.heap.size := World.ownsRow.lt h.own
theorem OwnN.same {w w' : World} {B : Nat} {v : Value} {zs : List Int} (h : OwnN w B v zs) (hb : ∀ g, v.ownBlock = some g → w'.heap[g]? = w.heap[g]?) : OwnN w' B v zs := by
  refine ⟨⟨h.own.1, ?_⟩, h.nil, fun g hg c hc => h.two g hg c (by simpa [World.cell?, hb g hg] using hc)⟩
  rcases h.own.2 with h2 | ⟨g, cap, cur, rfl, hg, hh, r⟩
  · exact .inl h2
  · exact .inr ⟨g, cap, cur, rfl, hg, (hb g rfl).trans hh, r⟩
theorem OwnN.shape {w : World} {B : Nat} {v : Value} {zs : List Int} (h : OwnN w B v zs) : ∃ A c, v = .slice A zs.length c ∧ zs.length ≤ c ∧ c ≤ maxLen := by
  rcases h.own.2 with ⟨e, h0⟩ | ⟨g, cap, cur, e, _, hh, hn, hm, _⟩
  · exact ⟨_, 0, by rw [e, h0], by omega, by simp [maxLen]⟩
  · exact ⟨_, cap, e, hn, hm⟩
theorem OwnN.cell {w : World} {B : Nat} {v : Value} {zs : List Int} (h : OwnN w B v zs) (g : Nat) (hg : v.ownBlock = some g) (j : Nat) (hj : j < zs.length) : w.cell? ⟨g, j, .none⟩ = some (.int .i64 (zs.getD j 0)) := by
  have hc := h.own.cells (g := g) hg j (.int .i64 (zs.getD j 0)) (valI_at _ _ hj)
  rw [Addr.add_lit] at hc
  simpa using hc
theorem OwnN.ints {w : World} {B : Nat} {A : Option Addr} {n c : Nat} {zs : List Int} (h : OwnN w B (.slice A n c) zs) : Ints w A zs := by
  by_cases h0 : zs = []
  · exact .inl h0
  · rcases h.own.2 with ⟨e, h1⟩ | ⟨g, cap, cur, e, _⟩
    · exact absurd (List.length_eq_zero_iff.1 h1) h0
    · injection e with e1 _ _
      subst e1
      exact .inr ⟨g, 0, rfl, (h.lt g rfl).2, fun k hk => by rw [Nat.zero_add]; exact h.cell g rfl k hk⟩
section
variable {w : World} {ops : Array Oper} {rest : List Oper} {o : Oper} {a : Act} {Q : Exit → Act → World → Prop}
end
/-- A reader stays where a row that is no part of it is turned. -/
theorem Rdr.besideN {w w' : World} {p : Nat → Addr} {g B : Nat} {l : List UInt8} {s : Vi.Rs} {v : Value} {zs : List Int} (h : Rdr w p g l s) (hg : w.grownBy w' v.ownBlock) (hgB : g < B) (hrow : OwnN w B v zs)
    (hbuf : ∀ A n c b off, w.cell? ⟨g, 0, none⟩ = some (.slice A n c) → l ≠ [] → A = some ⟨b, off, none⟩ → b < B) : Rdr w' p g l s := by
  have hlt := fun k hk => (hrow.lt k hk).1
  obtain ⟨A, cap, E, h0, h1, h2, ha, hne, he⟩ := h.ex
  have cl : ∀ {b o : Nat} {u : Value}, w.cell? ⟨b, o, none⟩ = some u → some b ≠ v.ownBlock → w'.cell? ⟨b, o, none⟩ = some u := fun {b o u} hc hn => by
    have hb := hg.block b (World.block_lt_of_cell? w _ hc) hn
    simpa [World.cell?, hb] using hc
  have ne : ∀ b, b < B → some b ≠ v.ownBlock := fun b hb e => by have := hlt b e.symm; omega
  have err : ∀ a x, w.cell? ⟨a, 1, none⟩ = some (errV x) → some a ≠ v.ownBlock := fun a x hc e => by
    obtain ⟨t, ht⟩ := hrow.two a e.symm _ hc
    cases ht
  refine ⟨Nat.lt_of_lt_of_le h.lt hg.size, fun k => (World.frozen?_of_block (a := ⟨g, k, none⟩) (hg.block g h.lt (ne g hgB))).trans (h.free k), h.ok, A, cap, E, cl h0 (ne g hgB), cl h1 (ne g hgB), cl h2 (ne g hgB), ⟨ha.le, ha.max, ha.nil, ?_⟩, hne, ?_⟩
  · rcases ha.reads with hr | ⟨b, off, e, hlt, hc⟩
    · exact .inl hr
    · by_cases hl : l = []
      · exact .inl hl
      · exact .inr ⟨b, off, e, Nat.lt_of_lt_of_le hlt hg.size, fun k hk => cl (hc k hk) (ne b (hbuf A _ _ b off h0 hl e))⟩
  · rcases he with he | he | ⟨a, q, h1, h2, h3, h4, h5, h6, h7⟩
    · exact .inl he
    · exact .inr (.inl he)
    · exact .inr (.inr ⟨a, q, h1, h2, h3, h4, Nat.lt_of_lt_of_le h5 hg.size, cl h6 (err a _ h7), cl h7 (err a _ h7)⟩)

/-- ReadNums on its way: the reader, the row so far. -/
structure PnSt (w1 w : World) (p : Nat → Addr) (g : Nat) (l : List UInt8) (s : Vi.Rs) (v : Value) (zs : List Int) : Prop where
  rdr : Rdr w p g l s
  buf : ∃ A n c, w.cell? ⟨g, 0, none⟩ = some (.slice A n c) ∧ (l ≠ [] → ∀ b off, A = some ⟨b, off, none⟩ → b < w1.heap.size)
  own : OwnN w w1.heap.size v zs
  but : But g w1 w
  gl : g < w1.heap.size
section
variable {w1 w w' : World} {p : Nat → Addr} {g : Nat} {l : List UInt8} {s s' : Vi.Rs} {v : Value} {zs : List Int}
theorem PnSt.call (h : PnSt w1 w p g l s v zs) (hr : Rdr w' p g l s') (hb : But g w w') : PnSt w1 w' p g l s' v zs := by
  obtain ⟨A, n, c, hA, hl⟩ := h.buf
  exact ⟨hr, ⟨A, n, c, (hb.first h.rdr.lt).trans hA, hl⟩, h.own.same fun k hk => hb.block k (h.own.lt k hk).2 (by have := (h.own.lt k hk).1; have := h.gl; simp; omega), h.but.trans hb, h.gl⟩
theorem PnSt.quiet (h : PnSt w1 w p g l s v zs) (hb : Below w.heap.size w w') : PnSt w1 w' p g l s v zs := h.call (h.rdr.below hb) (But.of_below hb)
theorem PnSt.push {v' : Value} {z : Int} (h : PnSt w1 w p g l s v zs) (hg : w.grownBy w' v.ownBlock) (ho : OwnN w' w1.heap.size v' (zs ++ [z])) : PnSt w1 w' p g l s v' (zs ++ [z]) := by
  obtain ⟨A, n, c, hA, hl⟩ := h.buf
  have hgl := h.gl
  have hrow : ∀ k, v.ownBlock = some k → w1.heap.size ≤ k := fun k hk => (h.own.lt k hk).1
  have hgr : some g ≠ v.ownBlock := fun e => by have := hrow g e.symm; omega
  have e1 := hg.block g h.rdr.lt hgr
  have hbs := h.but.size
  refine ⟨h.rdr.besideN hg hgl h.own fun A' n' c' b off h0 hl' e => ?_, ⟨A, n, c, by simpa [World.cell?, e1] using hA, hl⟩, ho, ⟨⟨hg.os.trans h.but.grown.os, hg.tape.trans h.but.grown.tape, hg.output.trans h.but.grown.output, Nat.le_trans hbs hg.size, fun k hk hne => ?_⟩, fun hlt => ?_⟩, hgl⟩
  · rw [hA] at h0
    injection h0 with h0
    injection h0 with h0 _ _
    exact hl hl' b off (h0.trans e)
  · exact (hg.block k (Nat.lt_of_lt_of_le hk hbs) fun e => by have := hrow k e.symm; omega).trans (h.but.block k hk hne)
  · have : w'.cell? ⟨g, 0, none⟩ = w.cell? ⟨g, 0, none⟩ := by simp [World.cell?, e1]
    exact this.trans (h.but.first hlt)
end
/-- An error is this fault. -/
def FltN (w : World) (p : Nat → Addr) (E : Value) (q : Nat × Option Nat) : Prop :=
  (q = (0, none) ∧ E = .nilIface) ∨ (q = (101, none) ∧ E = errV (p 0)) ∨
  ∃ h a, q.2 = some a ∧ (103 ≤ q.1 ∧ q.1 ≤ 105) ∧ E = atV h ∧ h < w.heap.size ∧ w.cell? ⟨h, 0, none⟩ = some (.int .i64 (a : Nat)) ∧ w.cell? ⟨h, 1, none⟩ = some (errV (p (q.1 - 101)))
theorem FltN.below {w w' : World} {p : Nat → Addr} {E : Value} {q : Nat × Option Nat} (h : FltN w p E q) (hb : Below w.heap.size w w') : FltN w' p E q := by
  rcases h with h | h | ⟨x, a, h1, h2, h3, h4, h5, h6⟩
  · exact .inl h
  · exact .inr (.inl h)
  · exact .inr (.inr ⟨x, a, h1, h2, h3, Nat.lt_of_lt_of_le h4 hb.size, (hb.cell (p := ⟨x, 0, none⟩) h4).trans h5, (hb.cell (p := ⟨x, 1, none⟩) h4).trans h6⟩)
theorem FltN.of_err {w : World} {p : Nat → Addr} {g : Nat} {E : Value} {s : Vi.Rs} (h : ErrIs w p g E s) : FltN w p E (s.code, s.pos) := by
  rcases h with ⟨h1, h2, h3⟩ | ⟨h1, h2, h3⟩ | ⟨x, a, h1, h2, h3, h4, h5, h6, h7⟩
  · exact .inl ⟨by rw [h1, h2], h3⟩
  · exact .inr (.inl ⟨by rw [h1, h2], h3⟩)
  · exact .inr (.inr ⟨x, a, h2, (by show 103 ≤ s.code ∧ s.code ≤ 105; omega), h3, h5, h6, h7⟩)
theorem num_most (l : List UInt8) (s : Vi.Rs) (most : Nat) : (Vi.num l s most).1 ≤ most := by
  unfold Vi.num Vi.peek
  by_cases h : s.code ≠ 0
  · rw [if_pos h]; exact Nat.zero_le _
  · rw [if_neg h]
    simp only
    by_cases h1 : (Vi.get 0 0 (l.drop s.at_)).2.2 ≠ 0
    · rw [if_pos h1]; exact Nat.zero_le _
    · rw [if_neg h1]
      by_cases h2 : most < (Vi.get 0 0 (l.drop s.at_)).1
      · rw [if_pos h2]; exact Nat.zero_le _
      · rw [if_neg h2]; simp only; omega
/-- The errors that ReadNums tells. -/
abbrev SentsN (w : World) (p : Nat → Addr) : Prop := SentsOn (fun j => j = 0 ∨ 2 ≤ j ∧ j ≤ 4) w p
def slenN : Value → Nat
  | .slice _ n _ => n
  | _ => 0

end Go.Proofs.YtplpakdbahlgaaaDoor

namespace Go.Proofs.YtplpakdbahlgaaaDoor
open Go.RowKit

abbrev faultV (c : Int) (b : Bool) (q : Int) : Value := .agg #[.int .i64 c, .bool b, .int .i64 q]

set_option maxRecDepth 100000 in
theorem placed_any (c q : Int) (w : World) (hc : c ≠ 0) :
    Calls Tryd.prog 76 #[.int .i64 c, .int .i64 q] w fun e w' => e = .returned (faultV c true q) ∧ Below w.heap.size w w' := by
  have h1 : (c == 0) = false := by simp [hc]
  clear hc
  go_enter Tryd.func76, Tryd.ntmps76
  go_wp2_with fail
  go_returns
  exact ⟨rfl, balloc (Below.refl _ _) _⟩

set_option maxRecDepth 100000 in
theorem sameFault_eq (c : Int) (b : Bool) (q : Int) (w : World) :
    Calls Tryd.prog 61 #[faultV c b q, faultV c b q] w fun e w' => e = .returned (.bool true) ∧ Below w.heap.size w w' := by
  have h1 : (c == c) = true := by simp
  have h2 : (q == q) = true := by simp
  unfold faultV
  go_enter Tryd.func61, Tryd.ntmps61
  go_wp2_with fail
  go_ret
  exact ⟨by simp, balloc (balloc (Below.refl _ _) _) _⟩

theorem is_at (h : Nat) (W : World) : (Instr.typeAssert (atV h) 27 92 true).run Tryd.prog W = .ok (.tuple #[.pointer (some ⟨h, 0, none⟩), .bool true]) W := by
  kernel_rfl

set_option maxRecDepth 100000 in
set_option maxHeartbeats 1000000 in
theorem fault_at (w : World) (p : Nat → Addr) (hs : Sents w p) (h q k : Nat) (hk : k < 19) (hh : h < w.heap.size) (h0 : w.cell? ⟨h, 0, none⟩ = some (.int .i64 q)) (h1 : w.cell? ⟨h, 1, none⟩ = some (errV (p k))) :
    Calls Tryd.prog 62 #[atV h] w fun e w' => e = .returned (faultV ((101 + k : Nat) : Int) true q) ∧ Below w.heap.size w w' := by
  have k1 := eqn_nil 92 (.pointer (some ⟨h, 0, none⟩))
  have k2 := is_at h
  have k3 := eqn_nil 123 (.pointer (some (p k)))
  have HSE := hideE (fun W hb => sentinel_any W p (hs.below hb) k hk)
  have HPL := hideE (fun W => placed_any ((101 + k : Nat) : Int) q W (by omega))
  have hcode : ((101 + k : Nat) : Int) ≠ 0 := by omega
  clear hs hcode
  unfold errV atV at *
  generalize ((101 + k : Nat) : Int) = code at *
  go_enter Tryd.func62, Tryd.ntmps62
  go_upto_region 8 with fail
  have hb0 : Below w.heap.size w (w.alloc (.cells #[.int .i64 0, .bool false, .int .i64 0] 48)) := balloc (Below.refl _ _) _
  have HB0 := hideE hb0
  clear hb0 k1 k2
  refine wp_region_made [28, 29, 30, 31, 32, 33, 34, 35, 36, 37] (fun d => match d with
    | 28 => .is (.pointer (some ⟨h, 0, none⟩)) | 29 => .is (.pointer (some ⟨h, 0, none⟩)) | 30 => .is (.pointer (some ⟨h, 1, none⟩)) | 31 => .is (.iface 123 (.pointer (some (p k)))) | 32 => .is (.int .i64 code)
    | 33 => .is (.pointer (some ⟨h, 0, none⟩)) | 34 => .is (.pointer (some ⟨h, 0, none⟩)) | 35 => .is (.pointer (some ⟨h, 0, none⟩)) | 36 => .is (.int .i64 q) | 37 => .is (faultV code true q)
    | _ => .any) _ (by kernel_rfl) (by kernel_rfl) rfl (by kernel_rfl) ?_ ?_
  · simp only [List.size_toArray, List.length_cons, List.length_nil, List.take_succ_cons, List.take_zero, StepsOk]
    refine ⟨?_, ?_, ?_, ?_, ?_, ?_, ?_, ?_, ?_, ?_, trivial⟩
    all_goals
      intro ev w2 hb hev hd
      have ev3 : ev (.tmp 3) = .pointer (some ⟨h, 0, none⟩) := hev _ (by simp)
      have evf : ∀ f, ev (.func f) = .func (.func f) #[] #[] := fun f => hev _ (by simp)
      have hbw := HB0.out.trans (hb.mono HB0.out.size)
      have d0 := (hbw.cell (p := ⟨h, 0, none⟩) hh).trans h0
      have d1 := (hbw.cell (p := ⟨h, 1, none⟩) hh).trans h1
      have HB2 := hideE hbw
      clear hev hb hbw
      simp [DepsOk, Known.is] at hd
      try simp [OpRuns, execOp, go_sem, Known.is, Below.refl, *]
    · exact HSE.out w2 HB2.out
    · exact HPL.out w2
  · intro f w2 hb hf
    have e37 : f 37 = faultV code true q := hf 37 (by simp)
    obtain ⟨c0, c1, c2, f0, f1, f2, hb'⟩ := blk3 hb
    have HB2 := hideE hb'
    have hz : w.heap.size < w2.heap.size := by have := hb.size; simp at this; omega
    clear hf hb hb'
    obtain ⟨s0, s1, s2⟩ := set3 (.int .i64 code) (.bool true) (.int .i64 q) c0 c1 c2
    simp only [puts]
    unfold faultV at e37
    go_wp2_with fail
    refine bodyPost_ret (v := faultV code true q) (by simp [results, Tryd.results62, go_sem, s0, s1, s2]) rfl ⟨rfl, bset (bset (bset HB2.out _ _) _ _) _ _⟩

/-- A plain reader's fault. -/
def fltV (s : Vi.Rs) : Value := faultV (s.code : Int) s.pos.isSome ((s.pos.getD 0 : Nat) : Int)
theorem fault_err (w : World) (p : Nat → Addr) (hs : Sents w p) (g : Nat) (E : Value) (s : Vi.Rs) (he : ErrIs w p g E s) :
    Calls Tryd.prog 62 #[E] w fun e w' => e = .returned (fltV s) ∧ Below w.heap.size w w' := by
  rcases he with ⟨h1, h2, rfl⟩ | ⟨h1, h2, rfl⟩ | ⟨h, q, h1, h2, rfl, h3, h4, h5, h6⟩
  · refine (fault_nil w).mono fun e w' ⟨h, hb⟩ => ⟨?_, hb⟩
    rw [h]; unfold fltV; rw [h1, h2]; rfl
  · refine (fault_sent w p hs 0 (by omega)).mono fun e w' ⟨h, hb⟩ => ⟨?_, hb⟩
    rw [h]; unfold fltV; rw [h1, h2]; rfl
  · refine (fault_at w p hs h q (s.code - 101) (by omega) h4 h5 h6).mono fun e w' ⟨h, hb⟩ => ⟨?_, hb⟩
    rw [h]; unfold fltV; rw [h2, show 101 + (s.code - 101) = s.code by omega]; rfl

set_option maxRecDepth 100000 in
/-- 'Same', of what 'Fault' answers. -/
theorem same_of (v : Value) (c : Int) (b : Bool) (q : Int) (w : World) (hf : ∀ W, Below w.heap.size w W → Calls Tryd.prog 62 #[v] W fun e w' => e = .returned (faultV c b q) ∧ Below W.heap.size W w') :
    Calls Tryd.prog 27 #[v, faultV c b q] w fun e w' => e = .returned (.bool true) ∧ Below w.heap.size w w' := by
  have HF := hideE hf
  clear hf
  go_enter Tryd.func27, Tryd.ntmps27
  go_wp2_with fail
  refine wp_region_made [5, 6, 7, 8] (fun d => match d with | 5 => .is v | 6 => .is (faultV c b q) | 7 => .is (faultV c b q) | 8 => .is (.bool true) | _ => .any) _ (by kernel_rfl) (by kernel_rfl) rfl (by kernel_rfl) ?_ ?_
  · simp only [List.size_toArray, List.length_cons, List.length_nil, List.take_succ_cons, List.take_zero, StepsOk]
    refine ⟨?_, ?_, ?_, ?_, trivial⟩
    all_goals
      intro ev w2 hb hev hd
      have ev0 : ev (.tmp 0) = v := hev _ (by simp)
      have ev3 : ev (.tmp 3) = .pointer (some ⟨w.heap.size, 0, none⟩) := hev _ (by simp)
      have evf : ∀ f, ev (.func f) = .func (.func f) #[] #[] := fun f => hev _ (by simp)
      obtain ⟨c0, c1, c2, -, -, -, hb'⟩ := blk3 hb
      have HB' := hideE hb'
      clear hev hb hb'
      simp [DepsOk, Known.is] at hd
      try simp [OpRuns, execOp, go_sem, Known.is, Below.refl, *]
    · exact HF.out _ HB'.out
    · exact sameFault_eq c b q w2
  · intro f w2 hb hf
    obtain ⟨c0, c1, c2, -, -, -, hb'⟩ := blk3 hb
    have HB' := hideE hb'
    have e8 : f 8 = .bool true := hf 8 (by simp)
    clear hf hb hb' c0 c1 c2
    simp only [puts]
    go_wp2_with fail
    go_ret
    exact ⟨rfl, HB'.out⟩
theorem same_err (w : World) (p : Nat → Addr) (hs : Sents w p) (g : Nat) (E : Value) (s : Vi.Rs) (he : ErrIs w p g E s) :
    Calls Tryd.prog 27 #[E, fltV s] w fun e w' => e = .returned (.bool true) ∧ Below w.heap.size w w' :=
  same_of E _ _ _ w fun W hb => fault_err W p (hs.below hb) g E s (he.but (But.of_below hb))
end Go.Proofs.YtplpakdbahlgaaaDoor

namespace Go.Proofs.YtplpakdbahlgaaaDoor
open Go.RowKit

set_option maxRecDepth 100000 in
set_option maxHeartbeats 400000 in
theorem refPut_any (n : Nat) (w : World) (hn : n < 18446744073709551616) :
    Calls Tryd.prog 64 #[.int .u64 n] w fun e w' => ∃ v, e = .returned v ∧ Own w' w.heap.size v (Vi.put n) ∧ Below w.heap.size w w' := by
  have hsz := Vi.size_le10 hn
  clear hn
  go_enter Tryd.func64, Tryd.ntmps64
  go_wp2_with fail
  go_loopw [0, 3] (fun a v wr => ∃ (m : Nat) (pre : List UInt8), a = .int .u64 m ∧ Own wr w.heap.size v pre ∧ pre ++ Vi.put m = Vi.put n ∧ Below w.heap.size w wr) (fun a _ _ => (intOf a).toNat)
  case atStart => exact ⟨n, [], rfl, Own.nil _ _, rfl, Below.refl _ _⟩
  case round =>
    obtain ⟨m, pre, rfl, hown, hpre, hb⟩ := hrel
    have hpl : pre.length < 10 := by
      have h1 := congrArg List.length hpre
      rw [List.length_append] at h1
      have h2 := Vi.size_pos m
      unfold Vi.size at h2 hsz
      omega
    have HO := hide hown
    have HP := hide hpre
    have HB := hide hb
    have HZ : Hid (w.heap.size ≤ wr.heap.size) := hb.size
    clear hown hpre hb
    by_cases h : 128 ≤ m
    · have ho := or128 m
      have HPG := hide (Vi.put_ge h)
      generalize UInt8.ofNat (m % 128 + 128) = c at *
      go_wp2_with (at_builtin; refine wpList_app (w := wr.alloc _) rfl (.tmp 6) (.tmp 10) rfl w.heap.size _ pre [c] rfl (HO.out.alloc _) _ 1 1 rfl rfl (Reads.made _ _ _ _ _ _ rfl rfl) (by simp; omega) (by have := HZ.out; simp; omega) ?_; intro v w3 hown3 hg3 hv3)
      go_roundw
      case rel =>
        refine ⟨m / 128, pre ++ [c], by go_num, hown3, ?_, ?_⟩
        · rw [List.append_assoc, List.singleton_append, ← HPG.out]; exact HP.out
        · exact (HB.out.alloc HZ.out _).grown hg3 (by have := HZ.out; simp; omega) (fun g hg => (HO.out.lt g hg).1)
      case measure => simp [intOf]; omega
    · have HC : Hid ((cells [UInt8.ofNat m]).toArray = #[.int .u8 m]) := by
        show (cells [UInt8.ofNat m]).toArray = #[.int .u8 m]
        simp only [cells, List.map_cons, List.map_nil, byteV, ← mod256n]
        rw [show (m : Int) % 256 = m by omega]
      have HPL := hide (Vi.put_lt (show m < 128 by omega))
      generalize UInt8.ofNat m = c at *
      go_wp2_with (at_builtin; refine wpList_app (w := wr.alloc _) rfl (.tmp 14) (.tmp 17) rfl w.heap.size _ pre [c] rfl (HO.out.alloc _) _ 1 1 rfl rfl (Reads.made _ _ _ _ _ _ rfl HC.out) (by simp; omega) (by have := HZ.out; simp; omega) ?_; intro v w3 hown3 hg3 hv3)
      go_ret
      refine ⟨v, rfl, ?_, ?_⟩
      · rw [← HP.out, HPL.out]; exact hown3
      · exact (HB.out.alloc HZ.out _).grown hg3 (by have := HZ.out; simp; omega) (fun g hg => (HO.out.lt g hg).1)

theorem and127 (x : UInt8) : bits .and .u8 (B x) 127 = ((x.toNat % 128 : Nat) : Int) := by
  unfold B
  rw [show (127 : Int) = ((127 : Nat) : Int) from rfl, u8_and_nat _ _ x.toNat_lt (by omega)]
  congr 1
  exact Nat.and_two_pow_sub_one_eq_mod x.toNat 7

set_option maxRecDepth 100000 in
set_option maxHeartbeats 1000000 in
theorem refGet_any (A : Option Addr) (cap : Nat) (l : List UInt8) (w : World) (hl : l.length ≤ 1000000) (hr : Reads w A l) :
    Calls Tryd.prog 73 #[.slice A l.length cap] w fun e w' => e = .returned (.tuple #[.int .u64 (Vi.get 0 0 l).1, .int .i64 (Vi.get 0 0 l).2.1, .int .i64 (Vi.get 0 0 l).2.2]) ∧ w = w' := by
  have HR := hide hr
  clear hr
  go_enter Tryd.func73, Tryd.ntmps73
  go_wp2_with fail
  go_loop [5, 6] (fun n i => ∃ (k acc : Nat), k ≤ 10 ∧ k ≤ l.length ∧ i = .int .i64 k ∧ n = .int .u64 acc ∧ acc < 2 ^ (7 * k) ∧ Vi.get k acc (l.drop k) = Vi.get 0 0 l) (fun _ i => 10 - (intOf i).toNat)
  case atStart => exact ⟨0, 0, Nat.zero_le _, Nat.zero_le _, rfl, rfl, by omega, rfl⟩
  case round =>
    obtain ⟨k, acc, hk, hkl, rfl, rfl, hacc, hg⟩ := hrel
    by_cases h10 : k < 10
    · by_cases hlt : k < l.length
      · rcases HR.out with rfl | ⟨b, off, rfl, hb, hcl⟩
        · simp at hlt
        have hcell := hcl k hlt
        have hd : l.drop k = l.getD k 0 :: l.drop (k + 1) := by
          rw [List.drop_eq_getElem_cons hlt]; simp [List.getD, hlt]
        rw [hd, Vi.get, if_neg (by omega)] at hg
        clear hcl hd
        have HSH : Hid (∀ a r, Vi.get 10 a r = (0, 0, 103)) := hide (fun a r => by
          cases r with
          | nil => rfl
          | cons c r => rw [Vi.get, if_pos (by omega)])
        generalize l.getD k 0 = c at *
        have ha := and127 c
        have hb1 := B_lo c
        have hb2 := B_hi c
        have hcB : B c = (c.toNat : Int) := rfl
        have hx : c.toNat % 128 < 128 := by omega
        have HOR := hide (fun h8 => or_at acc (c.toNat % 128) k (by omega) hacc hx h8)
        have HACC := hide (acc_next acc (c.toNat % 128) k hacc hx)
        have HX : Hid (c.toNat % 128 = c.toNat % 128) := hide rfl
        clear hacc
        by_cases h9 : k = 9 ∧ 1 < c.toNat % 128
        · obtain ⟨h9, hx1⟩ := h9
          have HG : Hid ((0, 0, 103) = Vi.get 0 0 l) := by
            show _ = _
            rw [← hg]
            by_cases h128 : 128 ≤ c.toNat
            · rw [if_pos h128, h9, HSH.out]
            · rw [if_neg h128, if_pos (by omega)]
          have hk9 : ((k : Int) == 9) = true := by rw [h9]; rfl
          clear hg hcB h9 HX
          generalize c.toNat % 128 = x at *
          go_wp2_with fail
          go_ret3
          exact ⟨by rw [← HG.out]; rfl, rfl⟩
        · by_cases h0 : 0 < k ∧ c.toNat = 0
          · obtain ⟨h0, hc0⟩ := h0
            have HG : Hid ((0, 0, 103) = Vi.get 0 0 l) := by
              show _ = _
              rw [← hg, if_neg (by omega), if_pos (by omega)]
            have hz : (B c == 0) = true := by rw [hcB, hc0]; rfl
            have hxz : c.toNat % 128 ≤ 1 := by omega
            clear hg hcB h9 hc0 HX
            generalize c.toNat % 128 = x at *
            by_cases hk9 : ((k : Int) == 9) = true
            · go_wp2_with fail
              go_ret3
              exact ⟨by rw [← HG.out]; rfl, rfl⟩
            · have hk9 := Bool.eq_false_iff.2 hk9
              go_wp2_with fail
              go_ret3
              exact ⟨by rw [← HG.out]; rfl, rfl⟩
          · have kc : ((((k : Int) == 9) = true) ∧ c.toNat % 128 ≤ 1 ∧ 0 < k ∧ ((B c == 0) = false)) ∨ ((((k : Int) == 9) = false) ∧ 0 < k ∧ ((B c == 0) = false)) ∨ ((((k : Int) == 9) = false) ∧ k ≤ 0) := by
              by_cases h1 : k = 9
              · left
                refine ⟨by rw [h1]; rfl, by omega, by omega, ?_⟩
                rw [beq_eq_false_iff_ne, hcB]; omega
              · right
                by_cases h2 : 0 < k
                · left
                  refine ⟨by rw [beq_eq_false_iff_ne]; omega, h2, ?_⟩
                  rw [beq_eq_false_iff_ne, hcB]; omega
                · right
                  exact ⟨by rw [beq_eq_false_iff_ne]; omega, by omega⟩
            have hor := HOR.out (by omega)
            have HOR := hide hor
            clear hor
            by_cases h128 : 128 ≤ c.toNat
            · rw [if_pos h128] at hg
              have hB : 128 ≤ B c := by rw [hcB]; omega
              have HG := hide hg
              clear hg hcB h128 h9 h0 HX
              generalize c.toNat % 128 = x at *
              rcases kc with ⟨k9, x1, k0, cz⟩ | ⟨k9, k0, cz⟩ | ⟨k9, k0⟩
              · go_wp2_with fail
                exact ⟨⟨k + 1, _, by omega, by omega, by go_num, congrArg (Value.int .u64) HOR.out, HACC.out, HG.out⟩, by simp [intOf]; omega⟩
              · go_wp2_with fail
                exact ⟨⟨k + 1, _, by omega, by omega, by go_num, congrArg (Value.int .u64) HOR.out, HACC.out, HG.out⟩, by simp [intOf]; omega⟩
              · go_wp2_with fail
                exact ⟨⟨k + 1, _, by omega, by omega, by go_num, congrArg (Value.int .u64) HOR.out, HACC.out, HG.out⟩, by simp [intOf]; omega⟩
            · have hcx : c.toNat % 128 = c.toNat := by omega
              rw [if_neg h128, if_neg (by omega), ← hcx] at hg
              have hB : B c < 128 := by rw [hcB]; omega
              have HG := hide hg
              clear hg hcB h128 h9 h0 HX hcx
              generalize c.toNat % 128 = x at *
              rcases kc with ⟨k9, x1, k0, cz⟩ | ⟨k9, k0, cz⟩ | ⟨k9, k0⟩
              · go_wp2_with fail
                go_ret3
                exact ⟨by rw [← HG.out]; exact ret3 (congrArg (Value.int .u64) HOR.out) rfl rfl, rfl⟩
              · go_wp2_with fail
                go_ret3
                exact ⟨by rw [← HG.out]; exact ret3 (congrArg (Value.int .u64) HOR.out) rfl rfl, rfl⟩
              · go_wp2_with fail
                go_ret3
                exact ⟨by rw [← HG.out]; exact ret3 (congrArg (Value.int .u64) HOR.out) rfl rfl, rfl⟩
      · have HG : Hid ((0, 0, 101) = Vi.get 0 0 l) := by
          show _ = _
          rw [← hg, List.drop_of_length_le (by omega), Vi.get, if_pos h10]
        clear hg
        go_wp2_with fail
        go_ret3
        exact ⟨by rw [← HG.out]; rfl, rfl⟩
    · have HG : Hid ((0, 0, 103) = Vi.get 0 0 l) := by
        show _ = _
        rw [← hg]
        obtain rfl : k = 10 := by omega
        cases l.drop 10 with
        | nil => rfl
        | cons c r => rw [Vi.get, if_pos (by omega)]
      clear hg
      go_wp2_with fail
      go_ret3
      exact ⟨by rw [← HG.out]; rfl, rfl⟩


end Go.Proofs.YtplpakdbahlgaaaDoor

namespace Go.Proofs.YtplpakdbahlgaaaDoor
open Go.RowKit

end Go.Proofs.YtplpakdbahlgaaaDoor

namespace Go.Proofs.YtplpakdbahlgaaaDoor
open Go.RowKit

theorem refGet_at (A : Option Addr) (cap n : Nat) (l : List UInt8) (w : World) (a k c : Nat) (hn : l.length = n) (hg : Vi.get 0 0 l = (a, k, c)) (hl : n ≤ 1000000) (hr : Reads w A l) :
    Calls Tryd.prog 73 #[.slice A n cap] w fun e w' => e = .returned (.tuple #[.int .u64 a, .int .i64 k, .int .i64 c]) ∧ w = w' := by
  subst hn
  have h := refGet_any A cap l w hl hr
  rw [hg] at h; exact h
theorem is_errOf (w : World) (p : Nat → Addr) (h : Sents w p) (c : Nat) (hc : c = 0 ∨ c = 101 ∨ c = 103) :
    Calls Tryd.prog 13 #[errOf p c, .int .i64 c] w fun e w' => e = .returned (.bool true) ∧ Below w.heap.size w w' := by
  rcases hc with rfl | rfl | rfl
  · exact (is_nil 0 w).mono fun e w' ⟨he, hb⟩ => ⟨by rw [he]; rfl, hb⟩
  · exact (is_sent w p h 0 (by omega) 101).mono fun e w' ⟨he, hb⟩ => ⟨by rw [he]; rfl, hb⟩
  · exact (is_sent w p h 2 (by omega) 103).mono fun e w' ⟨he, hb⟩ => ⟨by rw [he]; rfl, hb⟩

end Go.Proofs.YtplpakdbahlgaaaDoor

namespace Go.Proofs.YtplpakdbahlgaaaDoor
open Go.RowKit

theorem or64g (n x e : Nat) (hn : n < 2 ^ e) (hn2 : n < 18446744073709551616) (h : x * 2 ^ e < 18446744073709551616) : bits .or .u64 (n : Int) (IntKind.u64.wrap ((x : Int) * 2 ^ e)) = ((n + x * 2 ^ e : Nat) : Int) := by
  have e1 : IntKind.u64.wrap ((x : Int) * 2 ^ e) = ((x * 2 ^ e : Nat) : Int) := by
    have : ((x : Int) * 2 ^ e) = ((x * 2 ^ e : Nat) : Int) := by simp
    rw [IntKind.wrap_u64, this]; omega
  rw [e1, u64_or_nat _ _ hn2 h, Nat.or_comm, nat_join e _ _ (Nat.mul_mod_left _ _) hn, Nat.add_comm]
theorem little_snoc (l : List UInt8) (c : UInt8) : Vi.little (l ++ [c]) = Vi.little l + c.toNat * 2 ^ (8 * l.length) := by
  induction l with
  | nil => simp [Vi.little]
  | cons a l ih =>
    simp only [List.cons_append, Vi.little, ih, List.length_cons]
    rw [show 8 * (l.length + 1) = 8 * l.length + 8 by omega, Nat.pow_add, Nat.mul_add, show (2 : Nat) ^ 8 = 256 from rfl]
    have : c.toNat * (2 ^ (8 * l.length) * 256) = 256 * (c.toNat * 2 ^ (8 * l.length)) := by
      rw [← Nat.mul_assoc, Nat.mul_comm]
    omega
theorem little_lt (l : List UInt8) : Vi.little l < 2 ^ (8 * l.length) := by
  induction l with
  | nil => simp [Vi.little]
  | cons a l ih =>
    simp only [Vi.little, List.length_cons]
    rw [show 8 * (l.length + 1) = 8 * l.length + 8 by omega, Nat.pow_add, show (2 : Nat) ^ 8 = 256 from rfl]
    have := a.toNat_lt
    omega
theorem pow_le64 (k : Nat) (h : k ≤ 7) : 2 ^ (8 * k) ≤ 72057594037927936 := Nat.le_trans (Nat.pow_le_pow_right (by omega) (show 8 * k ≤ 56 by omega)) (by decide)
theorem little_or (l : List UInt8) (c : UInt8) (h : l.length ≤ 7) : bits .or .u64 (Vi.little l : Int) (IntKind.u64.wrap (B c * 2 ^ (8 * l.length))) = (Vi.little (l ++ [c]) : Int) := by
  rw [little_snoc]
  have h1 := little_lt l
  have h2 := pow_le64 l.length h
  have hc := c.toNat_lt
  refine or64g (Vi.little l) c.toNat (8 * l.length) h1 (by omega) ?_
  have : c.toNat * 2 ^ (8 * l.length) ≤ 255 * 72057594037927936 := Nat.mul_le_mul (by omega) h2
  omega

end Go.Proofs.YtplpakdbahlgaaaDoor

namespace Go.Proofs.YtplpakdbahlgaaaDoor
open Go.RowKit

theorem Arg.butx {g : Nat} {w w' : World} {A : Option Addr} {cap : Nat} {l : List UInt8} (h : Arg w A cap l) (hb : But g w w') (hne : ∀ b off, A = some ⟨b, off, none⟩ → l ≠ [] → b ≠ g) : Arg w' A cap l := by
  refine ⟨h.le, h.max, h.nil, ?_⟩
  rcases h.reads with h0 | ⟨b, off, e, hlt, hc⟩
  · exact .inl h0
  · by_cases hl : l = []
    · exact .inl hl
    · exact .inr ⟨b, off, e, Nat.lt_of_lt_of_le hlt hb.size, fun k hk => (hb.cell hlt (hne b off e hl)).trans (hc k hk)⟩
/-- The reference's reader of l (which lies at A) at block g, in the state s. -/
structure RRd (w : World) (A : Option Addr) (cap g : Nat) (l : List UInt8) (s : Vi.Rs) : Prop where
  lt : g < w.heap.size
  free : ∀ k, w.frozen? ⟨g, k, none⟩ = false
  ok : Vi.Ok l s
  c0 : w.cell? ⟨g, 0, none⟩ = some (.slice A l.length cap)
  c1 : w.cell? ⟨g, 1, none⟩ = some (.int .i64 (s.at_ : Int))
  c2 : w.cell? ⟨g, 2, none⟩ = some (.int .i64 (s.code : Int))
  c3 : w.cell? ⟨g, 3, none⟩ = some (.bool s.pos.isSome)
  c4 : w.cell? ⟨g, 4, none⟩ = some (.int .i64 ((s.pos.getD 0 : Nat) : Int))
  arg : Arg w A cap l
  ne : ∀ b off, A = some ⟨b, off, none⟩ → l ≠ [] → b ≠ g
  past : ∀ k, 5 ≤ k → w.cell? ⟨g, k, none⟩ = none
theorem RRd.below {w w' : World} {A : Option Addr} {cap g : Nat} {l : List UInt8} {s : Vi.Rs} (h : RRd w A cap g l s) (hb : Below w.heap.size w w') : RRd w' A cap g l s :=
  ⟨Nat.lt_of_lt_of_le h.lt hb.size, fun k => (hb.frozen (p := ⟨g, k, none⟩) h.lt).trans (h.free k), h.ok, (hb.cell (p := ⟨g, 0, none⟩) h.lt).trans h.c0, (hb.cell (p := ⟨g, 1, none⟩) h.lt).trans h.c1, (hb.cell (p := ⟨g, 2, none⟩) h.lt).trans h.c2, (hb.cell (p := ⟨g, 3, none⟩) h.lt).trans h.c3, (hb.cell (p := ⟨g, 4, none⟩) h.lt).trans h.c4, h.arg.below hb (Nat.le_refl _), h.ne, fun k hk => (hb.cell (p := ⟨g, k, none⟩) h.lt).trans (h.past k hk)⟩
/-- What another block's reader does leaves this one as it is. -/
theorem RRd.but {w w' : World} {A : Option Addr} {cap g g' : Nat} {l : List UInt8} {s : Vi.Rs} (h : RRd w A cap g l s) (hb : But g' w w') (hg : g ≠ g') (hne : ∀ b off, A = some ⟨b, off, none⟩ → l ≠ [] → b ≠ g') : RRd w' A cap g l s :=
  ⟨Nat.lt_of_lt_of_le h.lt hb.size, fun k => (hb.frozen h.lt hg).trans (h.free k), h.ok, (hb.cell h.lt hg).trans h.c0, (hb.cell h.lt hg).trans h.c1, (hb.cell h.lt hg).trans h.c2, (hb.cell h.lt hg).trans h.c3, (hb.cell h.lt hg).trans h.c4, h.arg.butx hb hne, h.ne, fun k hk => (hb.cell h.lt hg).trans (h.past k hk)⟩
theorem RRd.at_set {w : World} {A : Option Addr} {cap g : Nat} {l : List UInt8} {s : Vi.Rs} (h : RRd w A cap g l s) (k : Nat) (hk : s.at_ + k ≤ l.length) (hz : s.code = 0) : RRd (w.setCell ⟨g, 1, none⟩ (.int .i64 ((s.at_ : Int) + (k : Int)))) A cap g l (s.on k) := by
  have hb : But g w (w.setCell ⟨g, 1, none⟩ (.int .i64 ((s.at_ : Int) + (k : Int)))) := But.setCell _ _ _ _
  refine ⟨Nat.lt_of_lt_of_le h.lt hb.size, fun j => (World.frozen?_setCell _ _ _ _).trans (h.free j), ⟨hk, ?_⟩, ?_, World.cell?_setCell_same _ _ _ h.c1, ?_, ?_, ?_, h.arg.butx hb h.ne, h.ne, fun j hj => by rw [World.cell?_setCell_other _ _ _ _ (by intro e; injection e; omega)]; exact h.past j hj⟩
  · rcases h.ok.code with h | h | ⟨h, h'⟩
    · exact .inl h
    · exact .inr (.inl h)
    · omega
  · rw [World.cell?_setCell_other _ _ _ _ (by simp)]; exact h.c0
  · rw [World.cell?_setCell_other _ _ _ _ (by simp)]; exact h.c2
  · rw [World.cell?_setCell_other _ _ _ _ (by simp)]; exact h.c3
  · rw [World.cell?_setCell_other _ _ _ _ (by simp)]; exact h.c4
theorem RRd.bad_set {w : World} {A : Option Addr} {cap g : Nat} {l : List UInt8} {s s' : Vi.Rs} (h : RRd w A cap g l s) (hok : Vi.Ok l s') (hat : s'.at_ = s.at_) :
    RRd (((w.setCell ⟨g, 2, none⟩ (.int .i64 (s'.code : Int))).setCell ⟨g, 3, none⟩ (.bool s'.pos.isSome)).setCell ⟨g, 4, none⟩ (.int .i64 ((s'.pos.getD 0 : Nat) : Int))) A cap g l s' ∧
    But g w (((w.setCell ⟨g, 2, none⟩ (.int .i64 (s'.code : Int))).setCell ⟨g, 3, none⟩ (.bool s'.pos.isSome)).setCell ⟨g, 4, none⟩ (.int .i64 ((s'.pos.getD 0 : Nat) : Int))) := by
  have hb : But g w (((w.setCell ⟨g, 2, none⟩ (.int .i64 (s'.code : Int))).setCell ⟨g, 3, none⟩ (.bool s'.pos.isSome)).setCell ⟨g, 4, none⟩ (.int .i64 ((s'.pos.getD 0 : Nat) : Int))) := ((But.setCell _ _ _ _).trans (But.setCell _ _ _ _)).trans (But.setCell _ _ _ _)
  refine ⟨⟨Nat.lt_of_lt_of_le h.lt hb.size, fun j => ?_, hok, ?_, ?_, ?_, ?_, ?_, h.arg.butx hb h.ne, h.ne, fun j hj => by rw [World.cell?_setCell_other _ _ _ _ (by intro e; injection e; omega), World.cell?_setCell_other _ _ _ _ (by intro e; injection e; omega), World.cell?_setCell_other _ _ _ _ (by intro e; injection e; omega)]; exact h.past j hj⟩, hb⟩
  · rw [World.frozen?_setCell, World.frozen?_setCell, World.frozen?_setCell]; exact h.free j
  · rw [World.cell?_setCell_other _ _ _ _ (by simp), World.cell?_setCell_other _ _ _ _ (by simp), World.cell?_setCell_other _ _ _ _ (by simp)]; exact h.c0
  · rw [World.cell?_setCell_other _ _ _ _ (by simp), World.cell?_setCell_other _ _ _ _ (by simp), World.cell?_setCell_other _ _ _ _ (by simp), hat]; exact h.c1
  · rw [World.cell?_setCell_other _ _ _ _ (by simp), World.cell?_setCell_other _ _ _ _ (by simp)]; exact World.cell?_setCell_same _ _ _ h.c2
  · rw [World.cell?_setCell_other _ _ _ _ (by simp)]; exact World.cell?_setCell_same (u := .bool s.pos.isSome) _ _ _ (by rw [World.cell?_setCell_other _ _ _ _ (by simp)]; exact h.c3)
  · exact World.cell?_setCell_same (u := .int .i64 ((s.pos.getD 0 : Nat) : Int)) _ _ _ (by rw [World.cell?_setCell_other _ _ _ _ (by simp), World.cell?_setCell_other _ _ _ _ (by simp)]; exact h.c4)

/-- The program's reader stays as it is, whatever the reference's does. -/
theorem Rdr.butx {w w' : World} {p : Nat → Addr} {g gx cap : Nat} {A : Option Addr} {l : List UInt8} {s s' : Vi.Rs} (h : Rdr w p g l s) (hx : RRd w A cap gx l s') (hb : But gx w w') (hg : g ≠ gx) : Rdr w' p g l s := by
  obtain ⟨C, capc, E, h0, h1, h2, ha, hne, he⟩ := h.ex
  have nob : ∀ b off, C = some ⟨b, off, none⟩ → l ≠ [] → b ≠ gx := by
    rintro b off e hl rfl
    rcases ha.reads with h9 | ⟨b', off', e', hlt, hc⟩
    · exact hl h9
    · rw [e] at e'
      injection e' with e'
      injection e' with e1 e2
      subst e1 e2
      have hc0 := hc 0 (List.length_pos_iff.2 hl)
      have q0 := hx.c0
      have q1 := hx.c1
      have q2 := hx.c2
      have q3 := hx.c3
      have q4 := hx.c4
      by_cases h5 : 5 ≤ off + 0
      · rw [hx.past _ h5] at hc0; cases hc0
      · have : off = 0 ∨ off = 1 ∨ off = 2 ∨ off = 3 ∨ off = 4 := by omega
        rcases this with rfl | rfl | rfl | rfl | rfl
        · rw [q0] at hc0; cases hc0
        · rw [q1] at hc0; cases hc0
        · rw [q2] at hc0; cases hc0
        · rw [q3] at hc0; cases hc0
        · rw [q4] at hc0; cases hc0
  have he' : ErrIs w' p g E s := by
    rcases he with h | h | ⟨a, q, a1, a2, a3, a4, a5, a6, a7⟩
    · exact .inl h
    · exact .inr (.inl h)
    · have hax : a ≠ gx := by
        rintro rfl
        rw [hx.c0] at a6; cases a6
      exact .inr (.inr ⟨a, q, a1, a2, a3, a4, Nat.lt_of_lt_of_le a5 hb.size, (hb.cell a5 hax).trans a6, (hb.cell a5 hax).trans a7⟩)
  exact ⟨Nat.lt_of_lt_of_le h.lt hb.size, fun k => (hb.frozen h.lt hg).trans (h.free k), h.ok, C, capc, E, (hb.cell h.lt hg).trans h0, (hb.cell h.lt hg).trans h1, (hb.cell h.lt hg).trans h2, ha.butx hb nob, hne, he'⟩

theorem fine_any (w : World) (A : Option Addr) (cap g : Nat) (l : List UInt8) (s : Vi.Rs) (b : Bool) (h : RRd w A cap g l s) (hb : ((s.code : Int) == 0) = b) :
    Calls Tryd.prog 58 #[.pointer (some ⟨g, 0, none⟩)] w fun e w' => e = .returned (.bool b) ∧ w = w' := by
  have h2 := h.c2
  have hl := h.lt
  clear h
  generalize (s.code : Int) = c at *
  go_enter Tryd.func58, Tryd.ntmps58
  go_wp2_with fail
  go_ret
  exact ⟨rfl, rfl⟩

set_option maxRecDepth 100000 in
theorem rfail_end (w : World) (A : Option Addr) (cap g : Nat) (l : List UInt8) (s : Vi.Rs) (h : RRd w A cap g l s) :
    Calls Tryd.prog 74 #[.pointer (some ⟨g, 0, none⟩), .int .i64 101] w fun e w' => e = .returned (.tuple #[]) ∧ RRd w' A cap g l (s.fail 101) ∧ But g w w' := by
  have HB := hide (bare_any 101 w)
  have HR := hide h
  clear h
  go_enter Tryd.func74, Tryd.ntmps74
  go_wp2_with fail
  refine HB.out.mono ?_
  rintro e w1 ⟨rfl, hb⟩
  have hr := HR.out.below hb
  have HS := hide (hr.bad_set (hr.ok.fail (c := 101) (.inl rfl)) rfl)
  have HBB := hide (But.of_below (g := g) hb)
  have f2 := hr.free 2
  have f3 := hr.free 3
  have f4 := hr.free 4
  have c2 := hr.c2
  have c3 := hr.c3
  have c4 := hr.c4
  have hl := hr.lt
  clear hr hb HB HR
  go_wp2_with fail
  go_returns
  exact ⟨rfl, HS.out.1, HBB.out.trans HS.out.2⟩
set_option maxRecDepth 100000 in
theorem rfail_at (w : World) (A : Option Addr) (cap g : Nat) (l : List UInt8) (s : Vi.Rs) (c : Nat) (hc : c = 103 ∨ c = 105) (h : RRd w A cap g l s) :
    Calls Tryd.prog 74 #[.pointer (some ⟨g, 0, none⟩), .int .i64 c] w fun e w' => e = .returned (.tuple #[]) ∧ RRd w' A cap g l (s.fail c) ∧ But g w w' := by
  have HB := hide (placed_any c s.at_ w (by omega))
  have HR := hide h
  have hl0 := h.lt
  have hc1 := h.c1
  have hne : ((c : Int) == 101) = false := by simp; omega
  have hok := h.ok.fail (c := c) (by omega)
  have hfl : s.fail c = ⟨s.at_, c, some s.at_⟩ := by unfold Vi.Rs.fail; rw [if_neg (by omega)]
  rw [hfl] at hok
  have HOK := hide hok
  have HFL := hide hfl
  clear h hc hok hfl
  go_enter Tryd.func74, Tryd.ntmps74
  go_wp2_with fail
  refine HB.out.mono ?_
  rintro e w1 ⟨rfl, hb⟩
  have hr := HR.out.below hb
  have HS := hide (hr.bad_set HOK.out rfl)
  have HBB := hide (But.of_below (g := g) hb)
  have f2 := hr.free 2
  have f3 := hr.free 3
  have f4 := hr.free 4
  have c2 := hr.c2
  have c3 := hr.c3
  have c4 := hr.c4
  have hl := hr.lt
  clear hr hb HB HR
  go_wp2_with fail
  go_end0
  rw [HFL.out]
  exact ⟨rfl, HS.out.1, HBB.out.trans HS.out.2⟩
theorem rfail_any (w : World) (A : Option Addr) (cap g : Nat) (l : List UInt8) (s : Vi.Rs) (c : Nat) (hc : c = 101 ∨ c = 103 ∨ c = 105) (h : RRd w A cap g l s) :
    Calls Tryd.prog 74 #[.pointer (some ⟨g, 0, none⟩), .int .i64 c] w fun e w' => e = .returned (.tuple #[]) ∧ RRd w' A cap g l (s.fail c) ∧ But g w w' := by
  rcases hc with rfl | rfl | rfl
  · exact rfail_end w A cap g l s h
  · exact rfail_at w A cap g l s 103 (.inl rfl) h
  · exact rfail_at w A cap g l s 105 (.inr rfl) h
end Go.Proofs.YtplpakdbahlgaaaDoor

namespace Go.Proofs.YtplpakdbahlgaaaDoor
open Go.RowKit

set_option maxRecDepth 100000 in
set_option maxHeartbeats 1000000 in
theorem rnum_good (w : World) (A : Option Addr) (cap g : Nat) (l : List UInt8) (s : Vi.Rs) (most : Nat) (h : RRd w A cap g l s) (hl : l.length ≤ 1000000) (hc : s.code = 0) (a k c : Nat) (hg : Vi.get 0 0 (l.drop s.at_) = (a, k, c)) (h3 : c = 0 ∨ c = 101 ∨ c = 103) (hk : k ≤ l.length - s.at_) :
    Calls Tryd.prog 57 #[.pointer (some ⟨g, 0, none⟩), .int .u64 most] w fun e w' =>
      if c ≠ 0 then e = .returned (.int .u64 0) ∧ RRd w' A cap g l (s.fail c) ∧ But g w w'
      else if most < a then e = .returned (.int .u64 0) ∧ RRd w' A cap g l (s.fail 105) ∧ But g w w'
      else e = .returned (.int .u64 a) ∧ RRd w' A cap g l (s.on k) ∧ But g w w' := by
  have HFI := hide (fine_any w A cap g l s true h (by simp [hc]))
  have HFA := hide (fun q c hc => rfail_any (w.drewN q) A cap g l s c hc (h.below (below_drewN (Below.refl w.heap.size w) q)))
  have hle := h.ok.le
  have HG := hide (fun W hW => refGet_at (cutA A cap s.at_) (cap - s.at_) (l.length - s.at_) (l.drop s.at_) W a k c (by rw [List.length_drop]) hg (by omega) (((h.arg.below (w' := W) hW (Nat.le_refl _)).cut s.at_ hle).reads))
  have HAT := hide (fun q => (h.below (below_drewN (Below.refl w.heap.size w) q)).at_set k (by omega) hc)
  have HBT := hide (fun q => (But.drewN g w q).trans (But.setCell g 1 (w.drewN q) (.int .i64 ((s.at_ : Int) + (k : Int)))))
  have HBQ := hide (fun q => But.drewN g w q)
  have k1 := fun W => run_cut_l W A l.length cap s.at_ hle
  have hcap := h.arg.le
  have c0 := h.c0
  have c1 := h.c1
  have f1 := h.free 1
  have hlt := h.lt
  clear h hg hc
  go_enter Tryd.func57, Tryd.ntmps57
  go_wp2_with fail
  refine HFI.out.mono ?_
  rintro e w0 ⟨rfl, rfl⟩
  go_wp2_with fail
  go_quiet (first | (go_at_call 73; exact Calls.quiet_of_same ((HG.out _ (below_drewN (Below.refl _ _) _)).mono fun _ _ ⟨h1, h2⟩ => ⟨h1, h2.symm⟩)))
  clear k1 HG
  by_cases hc0 : c = 0
  · subst hc0
    by_cases hm : most < a
    · have hm' : (most : Int) < (a : Int) := by omega
      have HM := hide hm
      have HF := hide (HFA.out nq 105 (by omega))
      clear hm
      go_wp2_with fail
      refine HF.out.mono ?_
      rintro e w1 ⟨rfl, hr1, hb1⟩
      go_wp2_with fail
      go_ret
      exact ⟨rfl, hr1, (HBQ.out nq).trans hb1⟩
    · have hm' : ¬ (most : Int) < (a : Int) := by omega
      have HM := hide hm
      clear hm
      go_wp2_with fail
      go_ret
      exact ⟨rfl, HAT.out nq, HBT.out nq⟩
  · have HC := hide hc0
    have hc1 : ((c : Int) == 0) = false := by simp; omega
    have HF := hide (HFA.out nq c (by omega))
    clear hc0
    go_wp2_with fail
    refine HF.out.mono ?_
    rintro e w1 ⟨rfl, hr1, hb1⟩
    go_wp2_with fail
    go_ret
    exact ⟨rfl, hr1, (HBQ.out nq).trans hb1⟩

set_option maxRecDepth 100000 in
theorem rnum_bad (w : World) (A : Option Addr) (cap g : Nat) (l : List UInt8) (s : Vi.Rs) (most : Nat) (h : RRd w A cap g l s) (hc : s.code ≠ 0) :
    Calls Tryd.prog 57 #[.pointer (some ⟨g, 0, none⟩), .int .u64 most] w fun e w' => e = .returned (.int .u64 0) ∧ w = w' := by
  have HFI := hide (fine_any w A cap g l s false h (by simp [hc]))
  clear h hc
  go_enter Tryd.func57, Tryd.ntmps57
  go_wp2_with fail
  refine HFI.out.mono ?_
  rintro e w0 ⟨rfl, rfl⟩
  go_wp2_with fail
  go_ret
  exact ⟨rfl, rfl⟩

theorem rnum_any (w : World) (A : Option Addr) (cap g : Nat) (l : List UInt8) (s : Vi.Rs) (most : Nat) (h : RRd w A cap g l s) (hl : l.length ≤ 1000000) :
    Calls Tryd.prog 57 #[.pointer (some ⟨g, 0, none⟩), .int .u64 most] w fun e w' => e = .returned (.int .u64 (Vi.num l s most).1) ∧ RRd w' A cap g l (Vi.num l s most).2 ∧ But g w w' := by
  by_cases hc : s.code ≠ 0
  · have e : Vi.num l s most = (0, s) := by unfold Vi.num Vi.peek; rw [if_pos hc]; rfl
    rw [e]
    exact (rnum_bad w A cap g l s most h hc).mono fun e w' ⟨h1, h2⟩ => ⟨h1, h2 ▸ h, h2 ▸ But.refl g w⟩
  · have hc0 : s.code = 0 := by omega
    obtain ⟨_, h5, _, h4⟩ := Vi.getD_bd l s
    refine (rnum_good w A cap g l s most h hl hc0 _ _ _ rfl h4 h5).mono fun e w' hp => ?_
    unfold Vi.num Vi.peek
    rw [if_neg hc]
    simp only
    by_cases h5 : (Vi.get 0 0 (l.drop s.at_)).2.2 ≠ 0
    · rw [if_pos h5] at hp ⊢; exact hp
    · rw [if_neg h5] at hp ⊢
      by_cases h6 : most < (Vi.get 0 0 (l.drop s.at_)).1
      · rw [if_pos h6] at hp ⊢; exact hp
      · rw [if_neg h6] at hp ⊢; exact hp

end Go.Proofs.YtplpakdbahlgaaaDoor

namespace Go.Proofs.YtplpakdbahlgaaaDoor
open Go.RowKit

theorem peek_most {l : List UInt8} {s : Vi.Rs} {most : Nat} : (Vi.peek l s most).1 ≤ most := by
  unfold Vi.peek
  by_cases hc : s.code ≠ 0
  · rw [if_pos hc]; exact Nat.zero_le _
  · rw [if_neg hc]
    simp only
    by_cases hg : (Vi.get 0 0 (l.drop s.at_)).2.2 ≠ 0
    · rw [if_pos hg]; exact Nat.zero_le _
    · rw [if_neg hg]
      by_cases hm : most < (Vi.get 0 0 (l.drop s.at_)).1
      · rw [if_pos hm]; exact Nat.zero_le _
      · rw [if_neg hm]; simp only; omega
theorem RRd.at_back {w : World} {A : Option Addr} {cap g : Nat} {l : List UInt8} {s : Vi.Rs} {k : Nat} (h : RRd w A cap g l (s.on k)) (hok : Vi.Ok l s) : RRd (w.setCell ⟨g, 1, none⟩ (.int .i64 (s.at_ : Int))) A cap g l s := by
  have hb : But g w (w.setCell ⟨g, 1, none⟩ (.int .i64 (s.at_ : Int))) := But.setCell _ _ _ _
  refine ⟨Nat.lt_of_lt_of_le h.lt hb.size, fun j => (World.frozen?_setCell _ _ _ _).trans (h.free j), hok, ?_, World.cell?_setCell_same _ _ _ h.c1, ?_, ?_, ?_, h.arg.butx hb h.ne, h.ne, fun j hj => by rw [World.cell?_setCell_other _ _ _ _ (by intro e; injection e; omega)]; exact h.past j hj⟩
  · rw [World.cell?_setCell_other _ _ _ _ (by simp)]; exact h.c0
  · rw [World.cell?_setCell_other _ _ _ _ (by simp)]; exact h.c2
  · rw [World.cell?_setCell_other _ _ _ _ (by simp)]; exact h.c3
  · rw [World.cell?_setCell_other _ _ _ _ (by simp)]; exact h.c4
theorem Own.two {w : World} {base g : Nat} {v : Value} {l : List UInt8} (h : Own w base v l) (hg : g < base) : Own2 base g l v w := by
  obtain ⟨A, c, rfl, ha⟩ := h.arg
  refine ⟨A, c, rfl, ha, fun b off hA => ?_⟩
  subst hA
  have := (h.lt b rfl).1
  exact ⟨this, by omega⟩
theorem Own2.nil (lo g : Nat) (w : World) : Own2 lo g [] (.slice none 0 0) w := ⟨none, 0, rfl, ⟨by simp, by omega, fun _ => rfl, .inl rfl⟩, fun b off h => by cases h⟩

end Go.Proofs.YtplpakdbahlgaaaDoor

namespace Go.Proofs.YtplpakdbahlgaaaDoor
open Go.RowKit

end Go.Proofs.YtplpakdbahlgaaaDoor

namespace Go.Proofs.YtplpakdbahlgaaaDoor
open Go.RowKit

/-- What is amiss with a reader of the reference, as it lies. -/
structure BadAt (w : World) (g c k : Nat) (b : Bool) : Prop where
  c2 : w.cell? ⟨g, 2, none⟩ = some (.int .i64 (c : Int))
  c3 : w.cell? ⟨g, 3, none⟩ = some (.bool b)
  c4 : w.cell? ⟨g, 4, none⟩ = some (.int .i64 (k : Int))
  lt : g < w.heap.size
theorem BadAt.of {w : World} {A : Option Addr} {cap g : Nat} {l : List UInt8} {s : Vi.Rs} (h : RRd w A cap g l s) : BadAt w g s.code (s.pos.getD 0) s.pos.isSome := ⟨h.c2, h.c3, h.c4, h.lt⟩
theorem BadAt.below {w w' : World} {g c k : Nat} {b : Bool} (h : BadAt w g c k b) (hb : Below w.heap.size w w') : BadAt w' g c k b :=
  ⟨(hb.cell (p := ⟨g, 2, none⟩) h.lt).trans h.c2, (hb.cell (p := ⟨g, 3, none⟩) h.lt).trans h.c3, (hb.cell (p := ⟨g, 4, none⟩) h.lt).trans h.c4, Nat.lt_of_lt_of_le h.lt hb.size⟩
theorem BadAt.fine {w : World} {g c k : Nat} {f : Bool} (h : BadAt w g c k f) (b : Bool) (hb : ((c : Int) == 0) = b) :
    Calls Tryd.prog 58 #[.pointer (some ⟨g, 0, none⟩)] w fun e w' => e = .returned (.bool b) ∧ w = w' := by
  have h2 := h.c2
  have hl := h.lt
  clear h
  generalize (c : Int) = c at *
  go_enter Tryd.func58, Tryd.ntmps58
  go_wp2_with fail
  go_ret
  exact ⟨rfl, rfl⟩
set_option maxRecDepth 100000 in
theorem rfail_many (w : World) (A : Option Addr) (cap g : Nat) (l : List UInt8) (s : Vi.Rs) (h : RRd w A cap g l s) :
    Calls Tryd.prog 74 #[.pointer (some ⟨g, 0, none⟩), .int .i64 104] w fun e w' => e = .returned (.tuple #[]) ∧ BadAt w' g 104 s.at_ true ∧ But g w w' := by
  have HB := hide (placed_any 104 s.at_ w (by omega))
  have HR := hide h
  have hl0 := h.lt
  have hc1 := h.c1
  clear h
  go_enter Tryd.func74, Tryd.ntmps74
  go_wp2_with fail
  refine HB.out.mono ?_
  rintro e w1 ⟨rfl, hb⟩
  have hr := HR.out.below hb
  have HBB := hide (But.of_below (g := g) hb)
  have f2 := hr.free 2
  have f3 := hr.free 3
  have f4 := hr.free 4
  have c2 := hr.c2
  have c3 := hr.c3
  have c4 := hr.c4
  have HC := hide (show (_ ∧ _ ∧ _) from ⟨c2, c3, c4⟩)
  have hl := hr.lt
  clear hr hb HB HR
  go_wp2_with fail
  go_end0
  obtain ⟨d2, d3, d4⟩ := HC.out
  refine ⟨rfl, ⟨?_, ?_, ?_, by simp only [World.size_setCell]; exact hl⟩, HBB.out.trans (((But.setCell _ _ _ _).trans (But.setCell _ _ _ _)).trans (But.setCell _ _ _ _))⟩
  · rw [World.cell?_setCell_other _ _ _ _ (by simp), World.cell?_setCell_other _ _ _ _ (by simp)]; exact World.cell?_setCell_same _ _ _ d2
  · rw [World.cell?_setCell_other _ _ _ _ (by simp)]; exact World.cell?_setCell_same (u := .bool s.pos.isSome) _ _ _ (by rw [World.cell?_setCell_other _ _ _ _ (by simp)]; exact d3)
  · exact World.cell?_setCell_same (u := .int .i64 ((s.pos.getD 0 : Nat) : Int)) _ _ _ (by rw [World.cell?_setCell_other _ _ _ _ (by simp), World.cell?_setCell_other _ _ _ _ (by simp)]; exact d4)
/-- What is amiss behind Over. -/
def overN (l : List UInt8) (s : Vi.Rs) : Nat × Option Nat := if s.code = 0 ∧ s.at_ < l.length then (104, some s.at_) else (s.code, s.pos)
set_option maxRecDepth 100000 in
theorem rover_any (w : World) (A : Option Addr) (cap g : Nat) (l : List UInt8) (s : Vi.Rs) (h : RRd w A cap g l s) (_hl : l.length ≤ 1000000) :
    Calls Tryd.prog 59 #[.pointer (some ⟨g, 0, none⟩), .int .i64 104] w fun e w' => e = .returned (.tuple #[]) ∧ BadAt w' g (overN l s).1 ((overN l s).2.getD 0) (overN l s).2.isSome ∧ But g w w' := by
  have hc0 := h.c0
  have hc1 := h.c1
  have hlt := h.lt
  have HR := hide h
  by_cases hc : s.code = 0
  · have HF := hide (fun (W : World) (hb : Below w.heap.size w W) => fine_any W A cap g l s true (h.below hb) (by rw [hc]; rfl))
    by_cases ha : s.at_ < l.length
    · have HO : Hid (overN l s = (104, some s.at_)) := hide (if_pos ⟨hc, ha⟩)
      have da : decide (s.at_ < l.length) = true := decide_eq_true ha
      have da' : decide ((s.at_ : Int) < l.length) = true := decide_eq_true (by omega)
      clear h
      go_enter Tryd.func59, Tryd.ntmps59
      go_wp2_with fail
      go_quiet (first | (go_at_call 58; exact Calls.quiet_of_same ((HF.out _ (below_drewN (Below.refl _ _) _)).mono fun _ _ ⟨h1, h2⟩ => ⟨h1, h2.symm⟩)))
      rename Nat => q
      have HB := hide (below_drewN (Below.refl w.heap.size w) q)
      have HFL := hide (rfail_many (w.drewN q) A cap g l s (HR.out.below HB.out))
      go_wp2_with (first
        | (go_at_call 74; refine HFL.out.mono ?_; rintro e w2 ⟨rfl, hr2, hb2⟩)
        | fail)
      go_end0
      rw [HO.out]
      exact ⟨rfl, hr2, (But.of_below HB.out).trans hb2⟩
    · have HO : Hid (overN l s = (s.code, s.pos)) := hide (if_neg (fun hh => ha hh.2))
      have da : decide (s.at_ < l.length) = false := decide_eq_false ha
      have da' : decide ((s.at_ : Int) < l.length) = false := decide_eq_false (by omega)
      clear h
      go_enter Tryd.func59, Tryd.ntmps59
      go_wp2_with fail
      go_quiet (first | (go_at_call 58; exact Calls.quiet_of_same ((HF.out _ (below_drewN (Below.refl _ _) _)).mono fun _ _ ⟨h1, h2⟩ => ⟨h1, h2.symm⟩)))
      rename Nat => q
      go_wp2_with fail
      go_end0
      rw [HO.out]
      exact ⟨rfl, BadAt.of (HR.out.below (below_drewN (Below.refl _ _) q)), But.of_below (below_drewN (Below.refl _ _) q)⟩
  · have HF := hide (fun (W : World) (hb : Below w.heap.size w W) => fine_any W A cap g l s false (h.below hb) (by simp [hc]))
    have HO : Hid (overN l s = (s.code, s.pos)) := hide (if_neg (fun hh => hc hh.1))
    clear h
    go_enter Tryd.func59, Tryd.ntmps59
    go_wp2_with fail
    go_quiet (first | (go_at_call 58; exact Calls.quiet_of_same ((HF.out _ (below_drewN (Below.refl _ _) _)).mono fun _ _ ⟨h1, h2⟩ => ⟨h1, h2.symm⟩)))
    rename Nat => q
    go_wp2_with fail
    go_end0
    rw [HO.out]
    exact ⟨rfl, BadAt.of (HR.out.below (below_drewN (Below.refl _ _) q)), But.of_below (below_drewN (Below.refl _ _) q)⟩
end Go.Proofs.YtplpakdbahlgaaaDoor
