/-
  Package epoch: bytes read as a lineage: plainly, and Read under a walk.
  Package epoch: a lineage as bytes, and read back.
-/
import Derived.Test.YtplpakdbahlgaaaDoorE3
import Derived.Test.YtplpakdbahlgaaaDoorE9
import Derived.Test.YtplpakdbahlgaaaDoorE10
import Derived.Deep.LoopGhost
import Derived.Deep.RegionLaw
namespace Go.Proofs.YtplpakdbahlgaaaDoor
open Go.RowKit

namespace Vi
theorem num_most9 (l : List UInt8) (s : Vi.Rs) (most : Nat) : (Vi.num l s most).1 ≤ most := by
  unfold Vi.num Vi.peek
  by_cases h : s.code ≠ 0
  · rw [if_pos h]; exact Nat.zero_le _
  · rw [if_neg h]
    simp only
    by_cases h1 : (Vi.get 0 0 (l.drop s.at_)).2.2 ≠ 0
    · rw [if_pos h1]; exact Nat.zero_le _
    · rw [if_neg h1]
      by_cases h2 : most < (Vi.get 0 0 (l.drop s.at_)).1
      · rw [if_pos h2]; exact Nat.zero_le _
      · rw [if_neg h2]; simp only; omega
/-- One pair more. -/
def pair (l : List UInt8) (s : Rs) : Ep.Pr × Rs := (⟨((num l s 1073741824).1 : Nat), ((num l (num l s 1073741824).2 1099511627776).1 : Nat)⟩, (num l (num l s 1073741824).2 1099511627776).2)
/-- So many pairs more, as far as nothing is amiss. -/
def rdP (l : List UInt8) : Nat → Rs → List Ep.Pr → List Ep.Pr × Rs
  | 0, s, acc => (acc, s)
  | m + 1, s, acc => if s.code ≠ 0 then (acc, s) else rdP l m (pair l s).2 (acc ++ [(pair l s).1])
/-- What is read of bytes: the pairs, or what is amiss. -/
noncomputable def readP (l : List UInt8) : List Ep.Pr × Nat × Option Nat :=
  let q := rdP l (num l (fine 0) 256).1 (num l (fine 0) 256).2 []
  if q.2.code ≠ 0 then ([], q.2.code, q.2.pos) else if q.2.at_ < l.length then ([], 104, some q.2.at_) else match Ep.bad q.1 with | some j => ([], 101 + j, none) | none => (q.1, 0, none)
theorem rdP_stop (l : List UInt8) (m : Nat) (s : Rs) (acc : List Ep.Pr) (h : s.code ≠ 0) : rdP l m s acc = (acc, s) := by
  cases m with
  | zero => rfl
  | succ m => unfold rdP; rw [if_pos h]
theorem rdP_on (l : List UInt8) (M : Nat) (s : Rs) (acc : List Ep.Pr) (j : Nat) (hj : j < M) (h : s.code = 0) : rdP l (M - j) s acc = rdP l (M - (j + 1)) (pair l s).2 (acc ++ [(pair l s).1]) := by
  rw [show M - j = (M - (j + 1)) + 1 by omega]
  show (if s.code ≠ 0 then _ else _) = _
  rw [if_neg (by omega)]
theorem rdP_len (l : List UInt8) : ∀ (m : Nat) (s : Rs) (acc : List Ep.Pr), (rdP l m s acc).1.length ≤ acc.length + m
  | 0, _, acc => Nat.le_refl _
  | m + 1, s, acc => by
    unfold rdP
    split
    · exact Nat.le_add_right _ _
    · have := rdP_len l m (pair l s).2 (acc ++ [(pair l s).1])
      simp only [List.length_append, List.length_cons, List.length_nil] at this
      omega
end Vi

/-- A row of pairs, the call's own: it has a block where it has a pair. -/
structure OwnQ (w : World) (B : Nat) (v : Value) (l : List Ep.Pr) : Prop where
  own : OwnP w B v l
  blk : ∀ g, v.ownBlock = some g → l ≠ []
theorem OwnQ.empty (w : World) (B : Nat) : OwnQ w B (.slice none 0 0) [] := ⟨World.ownsRow_nil w B _ 2, fun g h => by cases h⟩
theorem OwnQ.lt {w : World} {B : Nat} {v : Value} {l : List Ep.Pr} (h : OwnQ w B v l) : ∀ k, v.ownBlock = some k → B ≤ k ∧ k < w.heap.size := World.ownsRow.lt h.own
theorem OwnQ.same {w w' : World} {B : Nat} {v : Value} {l : List Ep.Pr} (h : OwnQ w B v l) (hb : ∀ g, v.ownBlock = some g → w'.heap[g]? = w.heap[g]?) : OwnQ w' B v l := ⟨ownsRow_same h.own hb, h.blk⟩
theorem OwnQ.two {w : World} {B : Nat} {v : Value} {l : List Ep.Pr} (h : OwnQ w B v l) : ∀ g, v.ownBlock = some g → ∀ c, w.cell? ⟨g, 1, none⟩ = some c → ∃ t, c = .int .i64 t := fun g hg c hc => by
  have h0 := List.length_pos_iff.2 (h.blk g hg)
  have h1 := World.ownsRow.cells (g := g) h.own hg 1 _ (prs_at l 0 h0).2
  rw [Addr.add_lit, Nat.zero_add] at h1
  rw [h1] at hc
  exact ⟨_, (Option.some.inj hc).symm⟩
/-- A reader stays where a row that is no part of it is turned. -/
theorem Rdr.besideQ {w w' : World} {p : Nat → Addr} {g B : Nat} {l : List UInt8} {s : Vi.Rs} {v : Value} {zs : List Ep.Pr} (h : Rdr w p g l s) (hg : w.grownBy w' v.ownBlock) (hgB : g < B) (hrow : OwnQ w B v zs)
    (hbuf : ∀ A n c b off, w.cell? ⟨g, 0, none⟩ = some (.slice A n c) → l ≠ [] → A = some ⟨b, off, none⟩ → b < B) : Rdr w' p g l s := by
  have hlt := fun k hk => (hrow.lt k hk).1
  obtain ⟨A, cap, E, h0, h1, h2, ha, hne, he⟩ := h.ex
  have cl : ∀ {b o : Nat} {u : Value}, w.cell? ⟨b, o, none⟩ = some u → some b ≠ v.ownBlock → w'.cell? ⟨b, o, none⟩ = some u := fun {b o u} hc hn => by
    have hb := hg.block b (World.block_lt_of_cell? w _ hc) hn
    simpa [World.cell?, hb] using hc
  have ne : ∀ b, b < B → some b ≠ v.ownBlock := fun b hb e => by have := hlt b e.symm; omega
  have err : ∀ a x, w.cell? ⟨a, 1, none⟩ = some (errV x) → some a ≠ v.ownBlock := fun a x hc e => by
    obtain ⟨t, ht⟩ := hrow.two a e.symm _ hc
    cases ht
  refine ⟨Nat.lt_of_lt_of_le h.lt hg.size, fun k => (World.frozen?_of_block (a := ⟨g, k, none⟩) (hg.block g h.lt (ne g hgB))).trans (h.free k), h.ok, A, cap, E, cl h0 (ne g hgB), cl h1 (ne g hgB), cl h2 (ne g hgB), ⟨ha.le, ha.max, ha.nil, ?_⟩, hne, ?_⟩
  · rcases ha.reads with hr | ⟨b, off, e, hlt, hc⟩
    · exact .inl hr
    · by_cases hl : l = []
      · exact .inl hl
      · exact .inr ⟨b, off, e, Nat.lt_of_lt_of_le hlt hg.size, fun k hk => cl (hc k hk) (ne b (hbuf A _ _ b off h0 hl e))⟩
  · rcases he with he | he | ⟨a, q, h1, h2, h3, h4, h5, h6, h7⟩
    · exact .inl he
    · exact .inr (.inl he)
    · exact .inr (.inr ⟨a, q, h1, h2, h3, h4, Nat.lt_of_lt_of_le h5 hg.size, cl h6 (err a _ h7), cl h7 (err a _ h7)⟩)

/-- Read on its way: the reader, the row so far. -/
structure PqSt (w1 w : World) (p : Nat → Addr) (g : Nat) (l : List UInt8) (s : Vi.Rs) (v : Value) (zs : List Ep.Pr) : Prop where
  rdr : Rdr w p g l s
  buf : ∃ A n c, w.cell? ⟨g, 0, none⟩ = some (.slice A n c) ∧ (l ≠ [] → ∀ b off, A = some ⟨b, off, none⟩ → b < w1.heap.size)
  own : OwnQ w w1.heap.size v zs
  but : But g w1 w
  gl : g < w1.heap.size
section
variable {w1 w w' : World} {p : Nat → Addr} {g : Nat} {l : List UInt8} {s s' : Vi.Rs} {v : Value} {zs : List Ep.Pr}
theorem PqSt.call (h : PqSt w1 w p g l s v zs) (hr : Rdr w' p g l s') (hb : But g w w') : PqSt w1 w' p g l s' v zs := by
  obtain ⟨A, n, c, hA, hl⟩ := h.buf
  exact ⟨hr, ⟨A, n, c, (hb.first h.rdr.lt).trans hA, hl⟩, h.own.same fun k hk => hb.block k (h.own.lt k hk).2 (by have := (h.own.lt k hk).1; have := h.gl; simp; omega), h.but.trans hb, h.gl⟩
theorem PqSt.quiet (h : PqSt w1 w p g l s v zs) (hb : Below w.heap.size w w') : PqSt w1 w' p g l s v zs := h.call (h.rdr.below hb) (But.of_below hb)
theorem PqSt.push {v' : Value} {z : Ep.Pr} (h : PqSt w1 w p g l s v zs) (hg : w.grownBy w' v.ownBlock) (ho : OwnP w' w1.heap.size v' (zs ++ [z])) : PqSt w1 w' p g l s v' (zs ++ [z]) := by
  obtain ⟨A, n, c, hA, hl⟩ := h.buf
  have hgl := h.gl
  have hrow : ∀ k, v.ownBlock = some k → w1.heap.size ≤ k := fun k hk => (h.own.lt k hk).1
  have hgr : some g ≠ v.ownBlock := fun e => by have := hrow g e.symm; omega
  have e1 := hg.block g h.rdr.lt hgr
  have hbs := h.but.size
  refine ⟨h.rdr.besideQ hg hgl h.own fun A' n' c' b off h0 hl' e => ?_, ⟨A, n, c, by simpa [World.cell?, e1] using hA, hl⟩, ⟨ho, fun _ _ => by simp⟩, ⟨⟨hg.os.trans h.but.grown.os, hg.tape.trans h.but.grown.tape, hg.output.trans h.but.grown.output, Nat.le_trans hbs hg.size, fun k hk hne => ?_⟩, fun hlt => ?_⟩, hgl⟩
  · rw [hA] at h0
    injection h0 with h0
    injection h0 with h0 _ _
    exact hl hl' b off (h0.trans e)
  · exact (hg.block k (Nat.lt_of_lt_of_le hk hbs) fun e => by have := hrow k e.symm; omega).trans (h.but.block k hk hne)
  · have : w'.cell? ⟨g, 0, none⟩ = w.cell? ⟨g, 0, none⟩ := by simp [World.cell?, e1]
    exact this.trans (h.but.first hlt)
end
/-- An error is this fault: one with a place, or a bare one. -/
def FltQ (w : World) (p : Nat → Addr) (E : Value) (q : Nat × Option Nat) : Prop :=
  (q = (0, none) ∧ E = .nilIface) ∨ (∃ j, j < 19 ∧ (j = 0 ∨ j = 2 ∨ j = 3 ∨ j = 4) ∧ q = (101 + j, none) ∧ E = errV (p j)) ∨
  ∃ h a, q.2 = some a ∧ (103 ≤ q.1 ∧ q.1 ≤ 105) ∧ E = atV h ∧ h < w.heap.size ∧ w.cell? ⟨h, 0, none⟩ = some (.int .i64 (a : Nat)) ∧ w.cell? ⟨h, 1, none⟩ = some (errV (p (q.1 - 101)))
theorem FltQ.below {w w' : World} {p : Nat → Addr} {E : Value} {q : Nat × Option Nat} (h : FltQ w p E q) (hb : Below w.heap.size w w') : FltQ w' p E q := by
  rcases h with h | h | ⟨x, a, h1, h2, h3, h4, h5, h6⟩
  · exact .inl h
  · exact .inr (.inl h)
  · exact .inr (.inr ⟨x, a, h1, h2, h3, Nat.lt_of_lt_of_le h4 hb.size, (hb.cell (p := ⟨x, 0, none⟩) h4).trans h5, (hb.cell (p := ⟨x, 1, none⟩) h4).trans h6⟩)
theorem FltQ.of_err {w : World} {p : Nat → Addr} {g : Nat} {E : Value} {s : Vi.Rs} (h : ErrIs w p g E s) : FltQ w p E (s.code, s.pos) := by
  rcases h with ⟨h1, h2, h3⟩ | ⟨h1, h2, h3⟩ | ⟨x, a, h1, h2, h3, h4, h5, h6, h7⟩
  · exact .inl ⟨by rw [h1, h2], h3⟩
  · exact .inr (.inl ⟨0, by omega, .inl rfl, by rw [h1, h2], h3⟩)
  · exact .inr (.inr ⟨x, a, h2, (by show 103 ≤ s.code ∧ s.code ≤ 105; omega), h3, h5, h6, h7⟩)
def slenQ : Value → Nat
  | .slice _ n _ => n
  | _ => 0
theorem bad_cases (l : List Ep.Pr) (j : Nat) (h : Ep.bad l = some j) : j = 2 ∨ j = 3 ∨ j = 4 := by
  unfold Ep.bad at h
  split at h
  · injection h with h; omega
  · split at h
    · injection h with h; omega
    · split at h
      · injection h with h; omega
      · cases h
/-- The errors that Read tells. -/
abbrev SentsQ (w : World) (p : Nat → Addr) : Prop := SentsOn (fun j => j = 0 ∨ j = 2 ∨ j = 3 ∨ j = 4) w p

set_option maxRecDepth 100000 in
set_option maxHeartbeats 2000000 in
theorem epRead_any (A : Option Addr) (cap n : Nat) (b : List UInt8) (w : World) (p : Nat → Addr) (hs : SentsQ w p) (hn : b.length = n) (hl : n ≤ 100000) (ha : Arg w A cap b) :
    Calls Tryd.prog 25 #[.slice A n cap] w fun e w' => Below w.heap.size w w' ∧
      (((Vi.readP b).2.1 ≠ 0 ∧ ∃ E, e = .returned (.tuple #[.pointer none, E]) ∧ FltQ w' p E (Vi.readP b).2) ∨
       ((Vi.readP b).2 = (0, none) ∧ Ep.Ok (Vi.readP b).1 ∧ ∃ X, e = .returned (.tuple #[.pointer (some ⟨X, 0, none⟩), .nilIface]) ∧ EpAt w' X (Vi.readP b).1 (fun k => w.heap.size ≤ k ∧ k < w'.heap.size))) := by
  have HNR := hide (newReader_any A cap n b w p hn (by omega) ha)
  have HS : Hid (∀ W, Below w.heap.size w W → SentsV W p) := hide (fun W hb => (hs.below hb).mono fun j hj => by omega)
  have HS3 : Hid (∀ W, Below w.heap.size w W → W.cell? ⟨3, 0, none⟩ = some (errV (p 3))) := hide (fun W hb => (hs.below hb).cell 3 (by omega))
  have HSN : Hid (∀ W, Below w.heap.size w W → Sents3 W p) := hide (fun W hb => (hs.below hb).mono fun j hj => by omega)
  have HLB : Hid (b.length ≤ 1000000) := hide (by omega)
  have hM := Vi.num_most9 b (fine 0) 256
  obtain ⟨M, hMe⟩ : ∃ M, M = (Vi.num b (fine 0) 256).1 := ⟨_, rfl⟩
  obtain ⟨s0, hs0⟩ : ∃ s0, s0 = (Vi.num b (fine 0) 256).2 := ⟨_, rfl⟩
  obtain ⟨R, hR⟩ : ∃ R, R = Vi.readP b := ⟨_, rfl⟩
  have HR : Hid (R = if (Vi.rdP b M s0 []).2.code ≠ 0 then ([], (Vi.rdP b M s0 []).2.code, (Vi.rdP b M s0 []).2.pos) else if (Vi.rdP b M s0 []).2.at_ < b.length then ([], 104, some (Vi.rdP b M s0 []).2.at_) else match Ep.bad (Vi.rdP b M s0 []).1 with | some j => ([], 101 + j, none) | none => ((Vi.rdP b M s0 []).1, 0, none)) := hide (by rw [hR, hMe, hs0]; rfl)
  have HN0 : Hid (∀ W g, Rdr W p g b (fine 0) → SentsV W p → Calls Tryd.prog 53 #[.pointer (some ⟨g, 0, none⟩), .int .u64 256] W fun e w' => e = .returned (.int .u64 M) ∧ Rdr w' p g b s0 ∧ But g W w') := hide (fun W g h h2 => by rw [hMe, hs0]; exact num_any W p g b (fine 0) 256 h h2 (by omega))
  rw [← hMe] at hM
  rw [← hR]
  have hwM : IntKind.i64.wrap (M : Int) = (M : Int) := by rw [IntKind.wrap_i64]; omega
  clear hs ha hn hMe hs0 hR
  go_enter Tryd.func25, Tryd.ntmps25
  go_wp2_with (first
    | (go_at_call 52; refine HNR.out.mono ?_; rintro e w1 ⟨g, rfl, hg, hr1, hb1⟩; have HG := hide hg; have HR1 := hide hr1; have HB1 := hide hb1; clear hg hr1 hb1)
    | (go_at_call 53; refine (HN0.out w1 g HR1.out (HS.out w1 HB1.out)).mono ?_; rintro e w2 ⟨rfl, hr2, hb2⟩; have HR2 := hide hr2; have HB2 := hide hb2; clear hr2 hb2)
    | fail)
  have HST : Hid (PqSt w1 w2 p g b s0 (.slice none 0 0) []) := hide (by
    obtain ⟨A, c, E, h0, h1, h2, ha, hne, he⟩ := HR1.out.ex
    refine ⟨HR2.out, ⟨A, _, c, (HB2.out.first HR1.out.lt).trans h0, fun hl' b' off e => ?_⟩, OwnQ.empty _ _, HB2.out, HR1.out.lt⟩
    rcases ha.reads with hr | ⟨b'', off', e', hlt, hc⟩
    · exact absurd hr hl'
    · rw [e] at e'; injection e' with e'; injection e' with e1 e2; omega)
  clear HR1 HR2 HB2 HNR HN0
  go_loopw [6] (fun v wr => ∃ (zs : List Ep.Pr) (s' : Vi.Rs), PqSt w1 wr p g b s' v zs ∧ Vi.rdP b M s0 [] = Vi.rdP b (M - zs.length) s' zs ∧ zs.length ≤ M) (fun v _ => M - slenQ v)
  case atStart => exact ⟨[], s0, HST.out, by simp, Nat.zero_le _⟩
  case round =>
    obtain ⟨zs, s1, hst, hlp, hzM⟩ := hrel
    obtain ⟨Ar, cr, rfl, hpr, hpr0, -⟩ := pairs_at hst.own.own
    have HST' := hide hst
    have HLP := hide hlp
    have HPR := hide (And.intro hpr hpr0)
    have HERR := hide (rerr_any wr p g b s1 hst.rdr)
    have hbw : Below w.heap.size w wr := HB1.out.grown hst.but.grown HB1.out.size (fun k hk => by injection hk with hk; have := HG.out; omega)
    have HBW := hide hbw
    clear hst hlp HST hbw hpr hpr0
    by_cases hlt : zs.length < M
    · have dlt : decide ((zs.length : Int) < M) = true := decide_eq_true (by omega)
      by_cases hc : s1.code = 0
      · have HON := hide (Vi.rdP_on b M s1 zs zs.length hlt hc)
        have HI1 := hide (num_any wr p g b s1 1073741824 HST'.out.rdr (HS.out wr HBW.out) HLB.out)
        have hm1 := Vi.num_most9 b s1 1073741824
        have hm2 := Vi.num_most9 b (Vi.num b s1 1073741824).2 1099511627776
        have HI2 := hide (fun (V : World) (hr : Rdr V p g b (Vi.num b s1 1073741824).2) (hv : SentsV V p) => num_any V p g b (Vi.num b s1 1073741824).2 1099511627776 hr hv HLB.out)
        have HPA : Hid (Vi.pair b s1 = (⟨((Vi.num b s1 1073741824).1 : Nat), ((Vi.num b (Vi.num b s1 1073741824).2 1099511627776).1 : Nat)⟩, (Vi.num b (Vi.num b s1 1073741824).2 1099511627776).2)) := hide rfl
        rw [HPA.out] at HON
        generalize Vi.num b (Vi.num b s1 1073741824).2 1099511627776 = q2 at *
        obtain ⟨y, s3⟩ := q2
        generalize Vi.num b s1 1073741824 = q1 at *
        obtain ⟨x, s2⟩ := q1
        simp only at HON HI1 HI2 hm1 hm2
        have hx1 : IntKind.i64.wrap (x : Int) = (x : Int) := by rw [IntKind.wrap_i64]; omega
        have hy1 : IntKind.i64.wrap (y : Int) = (y : Int) := by rw [IntKind.wrap_i64]; omega
        clear HPA
        go_wp2_with (first
          | (go_at_call 54; refine HERR.out.mono ?_; rintro e w9 ⟨⟨E, rfl, hE⟩, rfl⟩; obtain rfl := hE.good hc; clear hE)
          | (go_at_call 53; have _t := H3; refine (HI2.out _ H3.out.rdr (HS.out _ HBW3.out)).mono ?_; rintro e w4 ⟨rfl, hr4, hb4⟩; have H4 := hide (H3.out.call hr4 hb4); clear hr4 hb4)
          | (go_at_call 53; refine HI1.out.mono ?_; rintro e w3 ⟨rfl, hr3, hb3⟩; have h3 := HST'.out.call hr3 hb3; have H3 := hide h3; have HBW3 : Hid (Below w.heap.size w w3) := hide (HB1.out.grown h3.but.grown HB1.out.size (fun k hk => by injection hk with hk; have := HG.out; omega)); clear hr3 hb3 h3)
          | (at_builtin; refine wpList_appG (w := w4.alloc _) rfl 22 59 2 16 _ (by kernel_rfl) pair_info rfl (by omega) (.tmp 21) (.tmp 29) rfl w1.heap.size _ zs.length (zs.flatMap prCells) rfl (H4.out.quiet (balloc (Below.refl _ _) _)).own.own ⟨w4.heap.size, 0, none⟩ 1 1 (prCells ⟨x, y⟩) rfl rfl (news2 (w := w4)) (prs_one [⟨x, y⟩]) (by simp [maxLen]; omega) (by omega) (by have := H4.out.but.size; rw [World.size_alloc]; omega) ?_; intro v5 w5 ho5 hg5 hv5; have ho5' : OwnP w5 w1.heap.size v5 (zs ++ [⟨x, y⟩]) := (by unfold OwnP; rw [List.length_append, List.flatMap_append]; exact ho5); have H5 := hide ((H4.out.quiet (balloc (Below.refl _ _) _)).push hg5 ho5'); obtain ⟨A5, c5, rfl, -⟩ := pairs_at ho5'; simp only [List.length_append, List.length_cons, List.length_nil, Nat.zero_add] at H5; clear ho5 hg5 hv5 ho5')
          | fail)
        go_roundw
        case rel => exact ⟨zs ++ [⟨x, y⟩], s3, H5.out, by rw [HLP.out, HON.out, List.length_append]; rfl, by simp; omega⟩
        case measure => simp only [slenQ]; omega
      · have HQ : Hid (R = ([], s1.code, s1.pos)) := hide (by rw [HR.out, HLP.out, Vi.rdP_stop _ _ _ _ hc, if_pos hc])
        go_wp2_with (first
          | (go_at_call 54; refine HERR.out.mono ?_; rintro e w9 ⟨⟨E, rfl, hE⟩, rfl⟩; have HF := hide (FltQ.of_err hE); obtain ⟨ue, xe, rfl⟩ := hE.bad hc; have hnil := eqn_nil ue xe; have hnn := neq_nil ue xe; clear hE)
          | fail)
        go_ret2
        rw [HQ.out]
        exact ⟨HBW.out, .inl ⟨hc, _, rfl, HF.out⟩⟩
    · obtain rfl : zs.length = M := by omega
      have HLQ : Hid (Vi.rdP b zs.length s0 [] = (zs, s1)) := hide (by rw [HLP.out, Nat.sub_self]; rfl)
      rw [HLQ.out] at HR
      simp only at HR
      clear HLP HLQ
      by_cases hc : s1.code = 0
      · have HQ : Hid (R = if s1.at_ < b.length then ([], 104, some s1.at_) else match Ep.bad zs with | some j => ([], 101 + j, none) | none => (zs, 0, none)) := hide (by rw [HR.out, if_neg (by omega)])
        clear HR
        have HLF := hide (rleft_any wr p g b s1 HST'.out.rdr HLB.out)
        have hatl := HST'.out.rdr.ok.le
        by_cases hlt' : s1.at_ < b.length
        · rw [if_pos hlt'] at HQ
          obtain ⟨lf, hlf⟩ : ∃ lf : Nat, lf = b.length - s1.at_ := ⟨_, rfl⟩
          rw [← hlf] at HLF
          have dl : decide (0 < lf) = true := decide_eq_true (by omega)
          clear hlf hlt' hatl
          go_upto_region 9 with (first
            | (go_at_call 54; refine HERR.out.mono ?_; rintro e w9 ⟨⟨E, rfl, hE⟩, rfl⟩; obtain rfl := hE.good hc; clear hE)
            | (go_at_call 55; refine HLF.out.mono ?_; rintro e w5 ⟨rfl, k5, rfl⟩)
            | fail)
          have HB5 : Hid (Below w.heap.size w (wr.drewN k5)) := hide (below_drewN HBW.out k5)
          have HR5 : Hid (Rdr (wr.drewN k5) p g b s1) := hide (HST'.out.rdr.below (below_drewN (Below.refl _ _) k5))
          generalize wr.drewN k5 = w5 at *
          have c3 : w5.cell? ⟨3, 0, none⟩ = some (errV (p 3)) := HS3.out _ HB5.out
          unfold errV at c3
          have HAT := hide (fun (W : World) (hb : Below w5.heap.size w5 W) => rat_any W p g b s1 (HR5.out.below hb))
          clear HERR HLF HST' HBW HPR
          go_region_law
            (first
              | (go_simp; go_at_call 56; (with_reducible refine (HAT.out _ (Below.refl _ _).drew).mono ?_); rintro e w7 ⟨rfl, rfl⟩)
              | fail)
          all_goals
            go_wp2_with fail
            go_ret2
            rw [HQ.out]
            refine ⟨(balloc HB5.out _).drew, .inl ⟨by simp, _, rfl, .inr (.inr ⟨w5.heap.size, s1.at_, rfl, (by simp), rfl, by simp, ?_, ?_⟩)⟩⟩
            · show (w5.alloc _).cell? _ = _
              rw [World.cell?_alloc_mark]; rfl
            · show (w5.alloc _).cell? _ = _
              rw [World.cell?_alloc_mark]; rfl
        · rw [if_neg hlt'] at HQ
          have hz0 : b.length - s1.at_ = 0 := by omega
          rw [hz0] at HLF
          clear hz0 hlt' hatl
          have HNW := hide (fun (V : World) (hb : Below wr.heap.size wr V) => epNew_any Ar cr zs V p (HSN.out V (HBW.out.trans (hb.mono HBW.out.size))) (HPR.out.1.below hb) HPR.out.2)
          cases hbd : Ep.bad zs with
          | some j =>
            rw [hbd] at HQ
            simp only at HQ
            have hj := bad_cases zs j hbd
            have HNB : Hid (∀ V, Below wr.heap.size wr V → Calls Tryd.prog 11 #[.slice Ar zs.length cr] V fun r w' => r = .returned (.tuple #[.pointer none, errV (p j)]) ∧ Below V.heap.size V w') := hide fun V hb => by
              refine (HNW.out V hb).mono ?_
              rintro e w' ⟨h1, ⟨j', h2, h3⟩ | ⟨h2, -⟩⟩
              · rw [hbd] at h2; cases h2; exact ⟨h3, h1⟩
              · rw [h2.bad] at hbd; cases hbd
            clear hbd HNW
            go_wp2_with (first
              | (go_at_call 54; refine HERR.out.mono ?_; rintro e w9 ⟨⟨E, rfl, hE⟩, rfl⟩; obtain rfl := hE.good hc; clear hE)
              | (go_at_call 55; refine HLF.out.mono ?_; rintro e w5 ⟨rfl, k5, hk5⟩; have HB5 : Hid (Below wr.heap.size wr w5) := hide (by rw [hk5]; exact below_drewN (Below.refl _ _) k5); clear hk5)
              | (go_at_call 11; refine (HNB.out _ HB5.out).mono ?_; rintro e w6 ⟨rfl, hb6⟩; have HB6 := hide (HB5.out.trans (hb6.mono HB5.out.size)); clear hb6)
              | fail)
            go_ret2
            rw [HQ.out]
            exact ⟨HBW.out.trans (HB6.out.mono HBW.out.size), .inl ⟨by simp, _, rfl, .inr (.inl ⟨j, by omega, by omega, rfl, rfl⟩)⟩⟩
          | none =>
            rw [hbd] at HQ
            simp only at HQ
            have HOK := hide (Ep.bad_none.1 hbd)
            have HNB : Hid (∀ V, Below wr.heap.size wr V → Calls Tryd.prog 11 #[.slice Ar zs.length cr] V fun r w' => ∃ X, r = .returned (.tuple #[.pointer (some ⟨X, 0, none⟩), .nilIface]) ∧ EpAt w' X zs (fun k => V.heap.size ≤ k ∧ k < w'.heap.size) ∧ Below V.heap.size V w') := hide fun V hb => by
              refine (HNW.out V hb).mono ?_
              rintro e w' ⟨h1, ⟨j', h2, h3⟩ | ⟨h2, X, h3, h4⟩⟩
              · rw [hbd] at h2; cases h2
              · exact ⟨X, h3, h4, h1⟩
            clear hbd HNW
            go_wp2_with (first
              | (go_at_call 54; refine HERR.out.mono ?_; rintro e w9 ⟨⟨E, rfl, hE⟩, rfl⟩; obtain rfl := hE.good hc; clear hE)
              | (go_at_call 55; refine HLF.out.mono ?_; rintro e w5 ⟨rfl, k5, hk5⟩; have HB5 : Hid (Below wr.heap.size wr w5) := hide (by rw [hk5]; exact below_drewN (Below.refl _ _) k5); clear hk5)
              | (go_at_call 11; refine (HNB.out _ HB5.out).mono ?_; rintro e w6 ⟨X, rfl, hx6, hb6⟩; have HX6 := hide hx6; have HB6 := hide (HB5.out.trans (hb6.mono HB5.out.size)); clear hb6 hx6)
              | fail)
            go_ret2
            rw [HQ.out]
            exact ⟨HBW.out.trans (HB6.out.mono HBW.out.size), .inr ⟨rfl, HOK.out, X, rfl, HX6.out.mono fun k hk => ⟨Nat.le_trans (HBW.out.trans (HB5.out.mono HBW.out.size)).size hk.1, hk.2⟩⟩⟩
      · have HQ : Hid (R = ([], s1.code, s1.pos)) := hide (by rw [HR.out, if_pos hc])
        go_wp2_with (first
          | (go_at_call 54; refine HERR.out.mono ?_; rintro e w9 ⟨⟨E, rfl, hE⟩, rfl⟩; have HF := hide (FltQ.of_err hE); obtain ⟨ue, xe, rfl⟩ := hE.bad hc; have hnil := eqn_nil ue xe; have hnn := neq_nil ue xe; clear hE)
          | fail)
        go_ret2
        rw [HQ.out]
        exact ⟨HBW.out, .inl ⟨hc, _, rfl, HF.out⟩⟩
end Go.Proofs.YtplpakdbahlgaaaDoor

namespace Go.Proofs.YtplpakdbahlgaaaDoor
open Go.RowKit

namespace Vi
def pairB (q : Ep.Pr) : List UInt8 := put q.ep.toNat ++ put q.st.toNat
/-- Pairs as bytes. -/
def pairsB (l : List Ep.Pr) : List UInt8 := put l.length ++ l.flatMap pairB
theorem pair_at {L r : List UInt8} {k : Nat} {q : Ep.Pr} (h : L.drop k = pairB q ++ r) (hq : Ep.right q) : pair L (fine k) = (q, fine (k + (pairB q).length)) := by
  obtain ⟨⟨h1, h2⟩, h3, h4⟩ := hq
  have hd1 : L.drop k = put q.ep.toNat ++ (put q.st.toNat ++ r) := by rw [h]; unfold pairB; rw [List.append_assoc]
  have e1 := num_at_lo L (put q.st.toNat ++ r) k q.ep.toNat 1073741824 (by omega) hd1 (by omega)
  have hd2 : L.drop (k + size q.ep.toNat) = put q.st.toNat ++ r := by
    rw [← List.drop_drop, hd1]
    unfold size
    rw [List.drop_append_of_le_length (Nat.le_refl _), List.drop_of_length_le (Nat.le_refl _), List.nil_append]
  have e2 := num_at_lo L r (k + size q.ep.toNat) q.st.toNat 1099511627776 (by omega) hd2 (by omega)
  unfold pair
  rw [e1]
  simp only
  rw [e2]
  simp only
  refine Prod.ext (Ep.Pr.ext2 ?_ ?_) ?_
  · show ((q.ep.toNat : Nat) : Int) = q.ep; omega
  · show ((q.st.toNat : Nat) : Int) = q.st; omega
  · show fine _ = fine _
    unfold pairB size
    rw [List.length_append, Nat.add_assoc]
theorem rdP_all (L : List UInt8) (zs : List Ep.Pr) (P : Nat → Nat) (h : ∀ k, k < zs.length → pair L (fine (P k)) = (Ep.pr zs k, fine (P (k + 1)))) : ∀ k, k ≤ zs.length → rdP L (zs.length - k) (fine (P k)) (zs.take k) = (zs, fine (P zs.length)) := by
  intro k hk
  induction hd : zs.length - k generalizing k with
  | zero =>
    obtain rfl : k = zs.length := by omega
    rw [List.take_length]; rfl
  | succ d ih =>
    have hlt : k < zs.length := by omega
    have h1 := ih (k + 1) (by omega) (by omega)
    unfold rdP
    rw [if_neg (by simp [fine]), h k hlt]
    simp only
    rw [← Ep.take_succ hlt]
    exact h1
/-- What is read of a lineage's bytes: it. -/
theorem readP_pairsB {l : List Ep.Pr} (h : Ep.Ok l) : readP (pairsB l) = (l, 0, none) := by
  have hlen := h.len
  obtain ⟨P, hP0, hP, hPe⟩ : ∃ P : Nat → Nat, P 0 = size l.length ∧ (∀ k, k < l.length → pair (pairsB l) (fine (P k)) = (Ep.pr l k, fine (P (k + 1)))) ∧ P l.length = (pairsB l).length := by
    refine ⟨fun k => (put l.length).length + ((l.take k).flatMap pairB).length, by simp; rfl, fun k hk => ?_, ?_⟩
    · have hd := flat_at pairB (put l.length) [] l k hk
      rw [List.append_nil, List.append_nil] at hd
      have hg : l[k] = Ep.pr l k := (Ep.pr_lt hk).symm
      rw [hg] at hd
      have e : pairsB l = put l.length ++ l.flatMap pairB := rfl
      rw [e, pair_at hd (h.right k hk)]
      dsimp only
      rw [flat_succ pairB l k hk, List.length_append, hg, ← Nat.add_assoc]
    · dsimp only
      rw [List.take_length, ← List.length_append]; rfl
  have h0 : num (pairsB l) (fine 0) 256 = (l.length, fine (P 0)) := by
    rw [num_at_lo (pairsB l) (l.flatMap pairB) 0 l.length 256 (by omega) rfl hlen, hP0, Nat.zero_add]
  have h1 := rdP_all (pairsB l) l P hP 0 (Nat.zero_le _)
  rw [Nat.sub_zero, List.take_zero] at h1
  unfold readP
  rw [h0]
  simp only
  rw [h1]
  simp only
  rw [if_neg (by simp [fine]), if_neg (by show ¬ P l.length < _; omega), h.bad]
theorem num_canon9 {l : List UInt8} {k most : Nat} (h : (Vi.num l (fine k) most).2.code = 0) : ∃ u r, l.drop k = Vi.put u ++ r ∧ u ≤ most ∧ Vi.num l (fine k) most = (u, fine (k + Vi.size u)) := by
  obtain ⟨u, r, h3, h4, h5, h6⟩ := num_canon (l := l) (k := k) (most := most) h
  exact ⟨u, r, h3, h4, num_at_lo l r k u most h5 h3 h4⟩
theorem num_off {l : List UInt8} {s : Rs} {m : Nat} (h : s.code ≠ 0) : (num l s m).2.code ≠ 0 := by
  have e : (peek l s m) = (0, 0, s) := by unfold peek; rw [if_pos h]
  unfold num
  rw [e]
  exact h
theorem pair_canon {l : List UInt8} {k : Nat} (h : (pair l (fine k)).2.code = 0) : ∃ q r, l.drop k = pairB q ++ r ∧ pair l (fine k) = (q, fine (k + (pairB q).length)) := by
  have h1 : (num l (fine k) 1073741824).2.code = 0 := Classical.byContradiction fun k => num_off k h
  obtain ⟨u, r, d1, u1, e1⟩ := num_canon9 h1
  unfold pair at h ⊢
  rw [e1] at h ⊢
  simp only at h ⊢
  obtain ⟨v, r2, d2, v1, e2⟩ := num_canon9 h
  rw [e2]
  refine ⟨⟨(u : Nat), (v : Nat)⟩, r2, ?_, ?_⟩
  · have hr : r = put v ++ r2 := by
      have := congrArg (List.drop (size u)) d1
      rw [List.drop_drop, d2] at this
      unfold size at this
      rw [List.drop_append_of_le_length (Nat.le_refl _), List.drop_of_length_le (Nat.le_refl _), List.nil_append] at this
      exact this.symm
    rw [d1, hr]
    unfold pairB
    simp only [Int.toNat_natCast, List.append_assoc]
  · unfold pairB size
    simp only [Int.toNat_natCast, List.length_append, Nat.add_assoc]
theorem rdP_canon (l : List UInt8) : ∀ (m k : Nat) (acc : List Ep.Pr), (rdP l m (fine k) acc).2.code = 0 → ∃ zs r, zs.length = m ∧ l.drop k = zs.flatMap pairB ++ r ∧ rdP l m (fine k) acc = (acc ++ zs, fine (k + (zs.flatMap pairB).length))
  | 0, k, acc, _ => ⟨[], l.drop k, rfl, rfl, by simp [rdP]⟩
  | m + 1, k, acc, h => by
    have e : rdP l (m + 1) (fine k) acc = rdP l m (pair l (fine k)).2 (acc ++ [(pair l (fine k)).1]) := by
      show (if (fine k).code ≠ 0 then _ else _) = _
      rw [if_neg (by simp [fine])]
    rw [e] at h ⊢
    have hc : (pair l (fine k)).2.code = 0 := Classical.byContradiction fun hk => by rw [rdP_stop _ _ _ _ hk] at h; exact hk h
    obtain ⟨q, r, d1, e1⟩ := pair_canon hc
    rw [e1] at h ⊢
    simp only at h ⊢
    obtain ⟨zs, r2, hz, d2, e2⟩ := rdP_canon l m _ _ h
    refine ⟨q :: zs, r2, by simp [hz], ?_, ?_⟩
    · have hr : r = zs.flatMap pairB ++ r2 := by
        have := congrArg (List.drop (pairB q).length) d1
        rw [List.drop_drop, d2, List.drop_append_of_le_length (Nat.le_refl _), List.drop_of_length_le (Nat.le_refl _), List.nil_append] at this
        exact this.symm
      rw [d1, hr, List.flatMap_cons, List.append_assoc]
    · rw [e2, List.flatMap_cons, List.length_append, List.append_assoc, Nat.add_assoc]; rfl
/-- What is read whole is the bytes of what is read. -/
theorem readP_canon {b : List UInt8} (h : (readP b).2.1 = 0) : pairsB (readP b).1 = b ∧ Ep.Ok (readP b).1 ∧ (readP b).2 = (0, none) := by
  unfold readP at h ⊢
  simp only at h ⊢
  by_cases h1 : (rdP b (num b (fine 0) 256).1 (num b (fine 0) 256).2 []).2.code ≠ 0
  · rw [if_pos h1] at h; exact absurd h h1
  · rw [if_neg h1] at h ⊢
    have hc : (num b (fine 0) 256).2.code = 0 := Classical.byContradiction fun hk => by rw [rdP_stop _ _ _ _ hk] at h1; exact h1 hk
    obtain ⟨u, r, d1, u1, e1⟩ := num_canon9 hc
    rw [e1] at h h1 ⊢
    simp only at h h1 ⊢
    obtain ⟨zs, r2, hz, d2, e2⟩ := rdP_canon b u (0 + size u) [] (Classical.byContradiction fun hk => h1 hk)
    rw [e2] at h ⊢
    simp only [List.nil_append] at h ⊢
    by_cases h2 : (fine (0 + size u + (zs.flatMap pairB).length)).at_ < b.length
    · rw [if_pos h2] at h; simp at h
    · rw [if_neg h2] at h ⊢
      cases hb : Ep.bad zs with
      | some j => rw [hb] at h; simp at h
      | none =>
        refine ⟨?_, Ep.bad_none.1 hb, rfl⟩
        simp only
        have hr : r = zs.flatMap pairB ++ r2 := by
          have := congrArg (List.drop (size u)) d1
          rw [List.drop_drop, d2] at this
          unfold size at this
          rw [List.drop_append_of_le_length (Nat.le_refl _), List.drop_of_length_le (Nat.le_refl _), List.nil_append] at this
          exact this.symm
        have hb2 : b = put u ++ (zs.flatMap pairB ++ r2) := by rw [← hr, ← d1]; rfl
        have hl : r2 = [] := by
          have h3 := congrArg List.length hb2
          simp only [List.length_append] at h3
          have h4 : ¬ 0 + size u + (zs.flatMap pairB).length < b.length := h2
          unfold size at h4
          apply List.eq_nil_of_length_eq_zero
          omega
        rw [hl, List.append_nil] at hb2
        unfold pairsB
        rw [hz]
        exact hb2.symm
theorem pairsB_flat (l : List Ep.Pr) : ∀ (_ : ∀ i, i < l.length → Ep.right (Ep.pr l i)), (l.flatMap pairB).length ≤ 20 * l.length := fun h => by
  induction l with
  | nil => simp
  | cons q l ih =>
    rw [List.flatMap_cons, List.length_append, List.length_cons]
    have h1 := ih fun i hi => h (i + 1) (by simp; omega)
    obtain ⟨⟨a1, a2⟩, a3, a4⟩ : Ep.right q := h 0 (by simp)
    have h2 := size_le10 (n := q.ep.toNat) (by omega)
    have h3 := size_le10 (n := q.st.toNat) (by omega)
    unfold size at h2 h3
    have h4 : (pairB q).length = (put q.ep.toNat).length + (put q.st.toNat).length := by unfold pairB; rw [List.length_append]
    omega
end Vi

set_option maxRecDepth 100000 in
set_option maxHeartbeats 2000000 in
theorem epBytes_any (X : Nat) (l : List Ep.Pr) (S : Nat → Prop) (w : World) (h : EpAt w X l S) (ho : Ep.Ok l) :
    Calls Tryd.prog 29 #[.pointer (some ⟨X, 0, none⟩)] w fun e w' => ∃ v, e = .returned v ∧ Own w' w.heap.size v (Vi.pairsB l) ∧ Below w.heap.size w w' := by
  obtain ⟨v, h⟩ := h
  obtain ⟨A, c, rfl, hp, -, cX⟩ := h.cells
  have hlen := ho.len
  have HA := hide hp
  have HOK := hide ho
  have hle := hp.le
  have HCX := hide (fun V (hb : Below w.heap.size w V) => (hb.cell (p := ⟨X, 0, none⟩) h.lt).trans cX)
  obtain ⟨n, hn⟩ : ∃ n, n = l.length := ⟨_, rfl⟩
  have HN := hide hn.symm
  rw [← hn] at hlen hle cX HCX
  have hwn : IntKind.u64.wrap (n : Int) = (n : Int) := by rw [IntKind.wrap_u64]; omega
  have HPN := hide (put_nil n w (by omega))
  have HSN : Hid ((Vi.put n).length ≤ 10) := hide (by have := Vi.size_le10 (n := n) (by omega); unfold Vi.size at this; exact this)
  clear h ho hp hn
  go_enter Tryd.func29, Tryd.ntmps29
  go_wp2_with (first
    | (go_at_call 63; refine HPN.out.mono ?_; rintro e w1 ⟨A1, c1, rfl, ho1, -, hb1⟩; have HO1 := hide ho1; have HB1 := hide hb1; have cX1 := HCX.out _ hb1; clear ho1 hb1)
    | fail)
  go_loopw [3, 18] (fun b i wr => ∃ k : Nat, k ≤ n ∧ i = .int .i64 k ∧ Own wr w.heap.size b (Vi.put n ++ (l.take k).flatMap Vi.pairB) ∧ Below w.heap.size w wr) (fun _ i _ => n - (intOf i).toNat)
  case atStart => exact ⟨0, Nat.zero_le _, rfl, by rw [List.take_zero, List.flatMap_nil, List.append_nil]; exact HO1.out, HB1.out⟩
  case round =>
    obtain ⟨k, hk, rfl, ho, hb⟩ := hrel
    have HO := hide ho
    have HB := hide hb
    by_cases hlt : k < n
    · obtain ⟨g, f, rfl, -, k0, k1⟩ := (HA.out.below hb).at_ k (by rw [HN.out]; exact hlt)
      have d1 : decide ((k : Int) < n) = true := decide_eq_true (by omega)
      have hrt := HOK.out.right k (by rw [HN.out]; exact hlt)
      have hpre : (Vi.put n ++ (l.take k).flatMap Vi.pairB).length ≤ 10 + 20 * k := by
        have h1 := Vi.pairsB_flat (l.take k) (HOK.out.right.take k)
        have h2 := HSN.out
        rw [List.length_take] at h1
        rw [List.length_append]
        omega
      have HT : Hid ((Vi.put n ++ (l.take (k + 1)).flatMap Vi.pairB) = Vi.put n ++ (l.take k).flatMap Vi.pairB ++ Vi.put (Ep.pr l k).ep.toNat ++ Vi.put (Ep.pr l k).st.toNat) := hide (by
        rw [flat_succ Vi.pairB l k (by rw [HN.out]; exact hlt), ← Ep.pr_lt (by rw [HN.out]; exact hlt)]
        show _ ++ (_ ++ (_ ++ _)) = _
        simp only [List.append_assoc])
      generalize Ep.pr l k = q at *
      obtain ⟨e, s⟩ := q
      obtain ⟨⟨r1, r2⟩, r3, r4⟩ := hrt
      simp only at k0 k1 HT r1 r2 r3 r4
      obtain ⟨x, rfl⟩ := Int.eq_ofNat_of_zero_le r1
      obtain ⟨y, rfl⟩ := Int.eq_ofNat_of_zero_le r3
      simp only [Int.toNat_natCast] at HT
      have hwx : IntKind.u64.wrap (x : Int) = (x : Int) := by rw [IntKind.wrap_u64]; omega
      have hwy : IntKind.u64.wrap (y : Int) = (y : Int) := by rw [IntKind.wrap_u64]; omega
      have HPX := hide (fun V => put_nil x V (by omega))
      have HPY := hide (fun V => put_nil y V (by omega))
      have hzx := Vi.size_le10 (n := x) (by omega)
      have hzy := Vi.size_le10 (n := y) (by omega)
      have HLX : Hid ((Vi.put x).length = Vi.size x) := hide rfl
      have HLY : Hid ((Vi.put y).length = Vi.size y) := hide rfl
      obtain ⟨W2, hW2⟩ : ∃ W2, W2 = wr.alloc (.cells #[.int .i64 x, .int .i64 y] 59) := ⟨_, rfl⟩
      have hb2 : Below wr.heap.size wr W2 := by rw [hW2]; exact balloc (Below.refl _ _) _
      have hz2 : wr.heap.size < W2.heap.size := by rw [hW2]; simp
      have y0 : W2.cell? ⟨wr.heap.size, 0, none⟩ = some (.int .i64 x) := by rw [hW2, World.cell?_alloc_mark]; rfl
      have y1 : W2.cell? ⟨wr.heap.size, 1, none⟩ = some (.int .i64 y) := by rw [hW2, World.cell?_alloc_mark]; rfl
      have HB2 : Hid (Below w.heap.size w W2) := hide (hb.trans (hb2.mono hb.size))
      have HO2 : Hid (Own W2 w.heap.size u3 (Vi.put n ++ (l.take k).flatMap Vi.pairB)) := hide (ho.below hb2 (Nat.le_refl _))
      have HPL := hide hpre
      have HNB : Hid (u3.ownBlock ≠ some wr.heap.size) := hide fun e => by have := (ho.lt _ e).2; omega
      have HW2 := hide hW2
      have HY := hide (And.intro y0 (And.intro y1 hz2))
      generalize (Vi.put n ++ (l.take k).flatMap Vi.pairB) = pre at *
      generalize Vi.put x = px at *
      generalize Vi.size x = sx at *
      generalize Vi.put y = py at *
      generalize Vi.size y = sy at *
      clear ho hb hW2 hb2 hz2 r1 r2 r3 r4 hpre
      go_upto_region 5 with fail
      rw [← HW2.out]
      go_wp2_with (first
        | (go_at_call 63; have _t := HO4; refine (HPY.out w4).mono ?_; rintro e w5 ⟨A5, c5, rfl, -, ha5, hb5⟩; have HA5 := hide ha5; have HO5 := hide (HO4.out.below hb5 (Nat.le_refl _)); have HB5 := hide (HB4.out.trans (hb5.mono HB4.out.size)); clear ha5 hb5)
        | (go_at_call 63; refine (HPX.out W2).mono ?_; rintro e w3 ⟨A3, c3, rfl, -, ha3, hb3⟩; have HA3 := hide ha3; have HO3 := hide (HO2.out.below hb3 (Nat.le_refl _)); have HB3 := hide (HB2.out.trans (hb3.mono HB2.out.size)); have HY3 : Hid (w3.cell? ⟨wr.heap.size, 1, none⟩ = some (.int .i64 y)) := hide ((hb3.cell (p := ⟨wr.heap.size, 1, none⟩) HY.out.2.2).trans HY.out.2.1); have HZ3 : Hid (W2.heap.size ≤ w3.heap.size) := hide hb3.size; clear ha3 hb3)
        | (at_builtin; have _t := HO5; refine wpList_app (w := w5) rfl (.tmp 28) (.tmp 32) rfl w.heap.size _ (pre ++ px) py rfl HO5.out A5 sy c5 rfl HLY.out HA5.out.reads (by have := HPL.out; have := HLX.out; rw [List.length_append]; omega) HB5.out.size ?_; intro v6 w6 ho6 hg6 hv6; have hb6 := HB5.out.grown hg6 HB5.out.size (fun g hg => (HO5.out.lt g hg).1); have HO6 := hide ho6; have HB6 := hide hb6; clear ho6 hg6 hv6 hb6)
        | (at_builtin; refine wpList_app (w := w3) rfl (.tmp 22) (.tmp 26) rfl w.heap.size _ pre px rfl HO3.out A3 sx c3 rfl HLX.out HA3.out.reads (by have := HPL.out; omega) HB3.out.size ?_; intro v4 w4 ho4 hg4 hv4; have hb4 := HB3.out.grown hg4 HB3.out.size (fun g hg => (HO3.out.lt g hg).1); have z41 : w4.cell? ⟨wr.heap.size, 1, none⟩ = some (.int .i64 y) := (by have := hg4.block wr.heap.size (Nat.lt_of_lt_of_le HY.out.2.2 HZ3.out) (fun e => HNB.out (e.symm)); simp only [World.cell?, this]; exact HY3.out); have HO4 := hide ho4; have HB4 := hide hb4; clear ho4 hg4 hv4 hb4)
        | fail)
      go_roundw
      case rel => exact ⟨k + 1, by omega, by go_num, by rw [HT.out]; exact HO6.out, HB6.out⟩
      case measure => simp [intOf]; omega
    · obtain rfl : k = n := by omega
      have d1 : decide ((k : Int) < k) = false := decide_eq_false (by omega)
      clear ho hb
      go_wp2_with fail
      go_ret
      refine ⟨_, rfl, ?_, HB.out⟩
      have h := HO.out
      rw [List.take_of_length_le (by rw [HN.out]; exact Nat.le_refl _)] at h
      unfold Vi.pairsB
      rw [HN.out]
      exact h
end Go.Proofs.YtplpakdbahlgaaaDoor
