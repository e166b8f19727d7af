/-
  Batches as bytes, plainly: which may be, their bytes, what is read. Nothing of any program is named here.
  A batch's bytes read, plainly.
  A batch's records in memory; the walks through rec's small helpers: within, Next, fixed, text.
  The walk through rec's Valid.
  The walks through rec's text and lay.
  Records that the call itself lays in a row of its own, beside a reader and two blocks.
  What the walk through rec's unlay keeps from step to step.
  The walks through rec's Bytes, Size, and the chapter's example.
  The walk through rec's unlay.
  The walk through rec's Read.
  What is read of a batch's bytes, plainly: the batch.
  The walks through rec's Time and the statements' Long; a batch that is built record by record.
-/
import Derived.Test.YtfdppggdgdnnaaaGreatDoorZ2
import Derived.Test.YtfdppggdgdnnaaaGreatDoorZ1
import Derived.Deep.RegionHeld3
import Derived.Deep.DeepCutAuto
import Derived.RegionTactic
import Derived.ChangeAlike
import Derived.BigRegion
namespace Go.Proofs.YtfdppggdgdnnaaaGreatDoor

namespace Rc
/-- A record; a batch. -/
structure Rec where
  t : Int
  k : List UInt8
  v : List UInt8
instance : Inhabited Rec := ⟨⟨0, [], []⟩⟩
structure Bat where
  base : Int
  epoch : Int
  recs : List Rec

def recOk (r : Rec) : Bool := decide (-1099511627776 ≤ r.t ∧ r.t ≤ 1099511627776 ∧ r.k.length ≤ 64 ∧ r.v.length ≤ 512)
/-- Why a batch may not be: the error's number; 0: it may. -/
def bad (b : Bat) : Nat :=
  if b.recs.length = 0 ∨ 64 < b.recs.length then 104
  else if b.base < 0 ∨ 1099511627776 < b.base + b.recs.length ∨ b.epoch < 0 ∨ 1073741824 < b.epoch ∨ b.recs.all recOk = false then 105
  else 0
structure Good (b : Bat) : Prop where
  n0 : 0 < b.recs.length
  n1 : b.recs.length ≤ 64
  base0 : 0 ≤ b.base
  base1 : b.base + b.recs.length ≤ 1099511627776
  ep0 : 0 ≤ b.epoch
  ep1 : b.epoch ≤ 1073741824
  recs : ∀ r ∈ b.recs, -1099511627776 ≤ r.t ∧ r.t ≤ 1099511627776 ∧ r.k.length ≤ 64 ∧ r.v.length ≤ 512
theorem bad_good (b : Bat) : bad b = 0 ↔ Good b := by
  unfold bad
  constructor
  · intro h
    split at h
    · omega
    · rename_i h1
      split at h
      · omega
      · rename_i h2
        have h3 : b.recs.all recOk = true := by
          cases h4 : b.recs.all recOk
          · exact absurd (.inr (.inr (.inr (.inr h4)))) h2
          · rfl
        refine ⟨by omega, by omega, by omega, by omega, by omega, by omega, fun r hr => ?_⟩
        have := List.all_eq_true.1 h3 r hr
        simpa [recOk] using this
  · intro g
    have h3 : b.recs.all recOk = true := List.all_eq_true.2 fun r hr => by simpa [recOk] using g.recs r hr
    have := g.n0
    have := g.n1
    have := g.base0
    have := g.base1
    have := g.ep0
    have := g.ep1
    rw [if_neg (by omega), if_neg (by rw [h3]; simp; omega)]
theorem bad_cases (b : Bat) : bad b = 0 ∨ bad b = 104 ∨ bad b = 105 := by
  unfold bad
  split
  · exact .inr (.inl rfl)
  · split
    · exact .inr (.inr rfl)
    · exact .inl rfl

/-- So many bytes of a number, the lowest first. -/
def le : Nat → Nat → List UInt8
  | 0, _ => []
  | k + 1, n => UInt8.ofNat n :: le k (n / 256)
theorem le_len (k n : Nat) : (le k n).length = k := by
  induction k generalizing n with
  | zero => rfl
  | succ k ih => simp [le, ih]
theorem little_le (k n : Nat) (h : n < 256 ^ k) : Vi.little (le k n) = n := by
  induction k generalizing n with
  | zero => simp at h; subst h; rfl
  | succ k ih =>
    have h2 : n / 256 < 256 ^ k := by
      rw [Nat.pow_succ] at h
      exact Nat.div_lt_of_lt_mul (by omega)
    simp only [le, Vi.little, ih _ h2, UInt8.toNat_ofNat']
    omega
theorem le_snoc (k n : Nat) : le (k + 1) n = le k n ++ [UInt8.ofNat (n / 256 ^ k)] := by
  induction k generalizing n with
  | zero => simp [le]
  | succ k ih =>
    have e : n / 256 ^ (k + 1) = n / 256 / 256 ^ k := by rw [Nat.pow_succ, Nat.mul_comm, Nat.div_div_eq_div_mul]
    rw [show le (k + 1 + 1) n = UInt8.ofNat n :: le (k + 1) (n / 256) from rfl, ih, e]
    rfl

/-- A text behind its length. -/
def eT (l : List UInt8) : List UInt8 := Vi.put l.length ++ l
def recB (last : Int) (r : Rec) : List UInt8 := (Vi.put (Vi.zz (r.t - last)) ++ eT r.k) ++ eT r.v
def lastT (t : Int) : List Rec → Int
  | [] => t
  | r :: rs => lastT r.t rs
def recsB (t : Int) : List Rec → List UInt8
  | [] => []
  | r :: rs => recB t r ++ recsB r.t rs
theorem lastT_snoc (t : Int) (rs : List Rec) (r : Rec) : lastT t (rs ++ [r]) = r.t := by
  induction rs generalizing t with
  | nil => rfl
  | cons a rs ih => exact ih a.t
theorem recsB_snoc (t : Int) (rs : List Rec) (r : Rec) : recsB t (rs ++ [r]) = recsB t rs ++ recB (lastT t rs) r := by
  induction rs generalizing t with
  | nil => simp [recsB, lastT]
  | cons a rs ih => simp only [List.cons_append, recsB, lastT, ih, List.append_assoc]
theorem recsB_app (t : Int) (rs qs : List Rec) : recsB t (rs ++ qs) = recsB t rs ++ recsB (lastT t rs) qs := by
  induction rs generalizing t with
  | nil => simp [recsB, lastT]
  | cons a rs ih => simp only [List.cons_append, recsB, lastT, ih, List.append_assoc]
def t0 (b : Bat) : Int := (b.recs.getD 0 default).t
def hd (b : Bat) : List UInt8 := (le 8 b.base.toNat ++ le 4 b.epoch.toNat) ++ le 2 b.recs.length
def body (b : Bat) : List UInt8 := (hd b ++ Vi.put (Vi.zz (t0 b))) ++ recsB (t0 b) b.recs

theorem eT_len (l : List UInt8) (h : l.length ≤ 512) : (eT l).length ≤ l.length + 10 := by
  unfold eT
  rw [List.length_append]
  have : (Vi.put l.length).length ≤ 10 := Vi.size_le10 (by omega)
  omega
theorem recB_len (last : Int) (r : Rec) (h : -1099511627776 ≤ r.t ∧ r.t ≤ 1099511627776 ∧ r.k.length ≤ 64 ∧ r.v.length ≤ 512) (h2 : -1099511627776 ≤ last ∧ last ≤ 1099511627776) : (recB last r).length ≤ 606 := by
  unfold recB
  rw [List.length_append, List.length_append]
  have h1 : (Vi.put (Vi.zz (r.t - last))).length ≤ 10 := Vi.size_le10 (Vi.zz_lt _ (by omega) (by omega))
  have := eT_len r.k (by omega)
  have := eT_len r.v (by omega)
  omega
theorem recsB_len (last : Int) (rs : List Rec) (h : ∀ r ∈ rs, -1099511627776 ≤ r.t ∧ r.t ≤ 1099511627776 ∧ r.k.length ≤ 64 ∧ r.v.length ≤ 512) (h2 : -1099511627776 ≤ last ∧ last ≤ 1099511627776) : (recsB last rs).length ≤ 606 * rs.length := by
  induction rs generalizing last with
  | nil => simp [recsB]
  | cons a rs ih =>
    have ha := h a List.mem_cons_self
    have := recB_len last a ha h2
    have := ih a.t (fun r hr => h r (List.mem_cons_of_mem _ hr)) ⟨ha.1, ha.2.1⟩
    simp only [recsB, List.length_append, List.length_cons]
    omega
theorem lastT_ok (t : Int) (rs : List Rec) (h : ∀ r ∈ rs, -1099511627776 ≤ r.t ∧ r.t ≤ 1099511627776 ∧ r.k.length ≤ 64 ∧ r.v.length ≤ 512) (h2 : -1099511627776 ≤ t ∧ t ≤ 1099511627776) : -1099511627776 ≤ lastT t rs ∧ lastT t rs ≤ 1099511627776 := by
  induction rs generalizing t with
  | nil => exact h2
  | cons a rs ih =>
    have ha := h a List.mem_cons_self
    exact ih a.t (fun r hr => h r (List.mem_cons_of_mem _ hr)) ⟨ha.1, ha.2.1⟩
theorem Good.t0 {b : Bat} (g : Good b) : -1099511627776 ≤ t0 b ∧ t0 b ≤ 1099511627776 := by
  have h := g.n0
  have e : b.recs.getD 0 default = b.recs[0] := by simp [List.getD, h]
  unfold Rc.t0
  rw [e]
  have := g.recs _ (List.getElem_mem h)
  exact ⟨this.1, this.2.1⟩
theorem hd_len (b : Bat) : (hd b).length = 14 := by simp [hd, le_len]
theorem body_len (b : Bat) (g : Good b) : 14 ≤ (body b).length ∧ (body b).length ≤ 24 + 606 * b.recs.length := by
  have h1 := recsB_len (Rc.t0 b) b.recs g.recs g.t0
  have h2 := g.t0
  have h3 : (Vi.put (Vi.zz (Rc.t0 b))).length ≤ 10 := Vi.size_le10 (Vi.zz_lt _ (by omega) (by omega))
  unfold body
  rw [List.length_append, List.length_append, hd_len]
  omega
end Rc
end Go.Proofs.YtfdppggdgdnnaaaGreatDoor

namespace Go.Proofs.YtfdppggdgdnnaaaGreatDoor
namespace Rc

def toI (n : Nat) : Int := if n < 9223372036854775808 then (n : Int) else (n : Int) - 18446744073709551616
theorem toI_bd (n : Nat) (h : n < 18446744073709551616) : -9223372036854775808 ≤ toI n ∧ toI n ≤ 9223372036854775807 := by
  unfold toI; split <;> omega
theorem toI_wrap (n : Nat) (h : n < 18446744073709551616) : IntKind.i64.wrap (n : Int) = toI n := by
  rw [IntKind.wrap_i64]; unfold toI; split <;> omega
/-- One record read. -/
def step1 (l : List UInt8) (s : Vi.Rs) (t st : Int) : Rec × Vi.Rs :=
  let i := Vi.int l s (-st) st
  let k := Vi.text l i.2 64
  let v := Vi.text l k.2 512
  (⟨t + i.1, k.1, v.1⟩, v.2)
def loop (l : List UInt8) (many : Nat) : Nat → Vi.Rs → Int → Int → List Rec → List Rec × Vi.Rs
  | 0, s, _, _, acc => (acc, s)
  | f + 1, s, t, st, acc =>
    if acc.length < many ∧ s.code = 0 then loop l many f (step1 l s t st).2 (step1 l s t st).1.t 2199023255552 (acc ++ [(step1 l s t st).1]) else (acc, s)
theorem loop_on (l : List UInt8) (many : Nat) (s : Vi.Rs) (t st : Int) (acc : List Rec) (h : acc.length < many) (hc : s.code = 0) :
    loop l many (many - acc.length) s t st acc = loop l many (many - (acc ++ [(step1 l s t st).1]).length) (step1 l s t st).2 (step1 l s t st).1.t 2199023255552 (acc ++ [(step1 l s t st).1]) := by
  rw [show many - acc.length = (many - acc.length - 1) + 1 by omega, loop, if_pos ⟨h, hc⟩]
  congr 1
  rw [List.length_append]; simp; omega
theorem loop_end (l : List UInt8) (many : Nat) (s : Vi.Rs) (t st : Int) (acc : List Rec) (h : ¬ (acc.length < many ∧ s.code = 0)) : loop l many (many - acc.length) s t st acc = (acc, s) := by
  cases hk : many - acc.length with
  | zero => rfl
  | succ k => rw [loop, if_neg h]
def head1 (l : List UInt8) : Nat × Vi.Rs := Vi.fixed l start 8
def head2 (l : List UInt8) : Nat × Vi.Rs := Vi.fixed l (head1 l).2 4
def head3 (l : List UInt8) : Nat × Vi.Rs := Vi.fixed l (head2 l).2 2
def head4 (l : List UInt8) : Int × Vi.Rs := Vi.int l (head3 l).2 (-1099511627776) 1099511627776
def tail (l : List UInt8) : List Rec × Vi.Rs := loop l (head3 l).1 (head3 l).1 (head4 l).2 (head4 l).1 0 []
def parse (l : List UInt8) : Bat := ⟨toI (head1 l).1, (head2 l).1, (tail l).1⟩
def okay (l : List UInt8) : Bool := decide ((tail l).2.code = 0 ∧ l.length ≤ (tail l).2.at_ ∧ bad (parse l) = 0)

theorem int_bd (l : List UInt8) (s : Vi.Rs) (st : Int) (h : 0 ≤ st) : -st ≤ (Vi.int l s (-st) st).1 ∧ (Vi.int l s (-st) st).1 ≤ st := by
  unfold Vi.int Vi.peekI
  split
  · exact ⟨by show -st ≤ 0; omega, h⟩
  · simp only
    split
    · exact ⟨by show -st ≤ 0; omega, h⟩
    · split
      · exact ⟨by show -st ≤ 0; omega, h⟩
      · rename_i h3
        exact ⟨by omega, by omega⟩
theorem fixed_lt (l : List UInt8) (s : Vi.Rs) (n : Nat) : (Vi.fixed l s n).1 < 2 ^ (8 * n) := by
  unfold Vi.fixed
  split
  · exact Nat.two_pow_pos _
  · split
    · exact Nat.two_pow_pos _
    · rename_i h
      have h1 := little_lt ((l.drop s.at_).take (n : Int).toNat)
      refine Nat.lt_of_lt_of_le h1 (Nat.pow_le_pow_right (by omega) ?_)
      rw [List.length_take]
      omega
end Rc
end Go.Proofs.YtfdppggdgdnnaaaGreatDoor

namespace Go.Proofs.YtfdppggdgdnnaaaGreatDoor
open Go.RowKit

/-- Where a record lies. -/
structure RecAt (w : World) (b off : Nat) (r : Rc.Rec) : Prop where
  ex : ∃ Ak ck Av cv, w.cell? ⟨b, off, none⟩ = some (.int .i64 r.t) ∧ w.cell? ⟨b, off + 1, none⟩ = some (.slice Ak r.k.length ck) ∧ w.cell? ⟨b, off + 2, none⟩ = some (.slice Av r.v.length cv) ∧ Arg w Ak ck r.k ∧ Arg w Av cv r.v
/-- A slice that reads as these records. -/
def Recs (w : World) (A : Option Addr) (rs : List Rc.Rec) : Prop :=
  rs = [] ∨ ∃ b off, A = some ⟨b, off, none⟩ ∧ b < w.heap.size ∧ ∀ k, k < rs.length → RecAt w b (off + k * 3) (rs.getD k default)
theorem RecAt.below {w w' : World} {C b off : Nat} {r : Rc.Rec} (h : RecAt w b off r) (hb : Below C w w') (hC : w.heap.size ≤ C) (hl : b < w.heap.size) : RecAt w' b off r := by
  obtain ⟨Ak, ck, Av, cv, h0, h1, h2, ha, hv⟩ := h.ex
  exact ⟨Ak, ck, Av, cv, (hb.cell (p := ⟨b, off, none⟩) (by show b < C; omega)).trans h0, (hb.cell (p := ⟨b, off + 1, none⟩) (by show b < C; omega)).trans h1, (hb.cell (p := ⟨b, off + 2, none⟩) (by show b < C; omega)).trans h2, ha.below hb hC, hv.below hb hC⟩
theorem Recs.below {w w' : World} {C : Nat} {A : Option Addr} {rs : List Rc.Rec} (h : Recs w A rs) (hb : Below C w w') (hC : w.heap.size ≤ C) : Recs w' A rs := by
  rcases h with h | ⟨b, off, e, hl, hc⟩
  · exact .inl h
  · exact .inr ⟨b, off, e, Nat.lt_of_lt_of_le hl hb.size, fun k hk => (hc k hk).below hb hC hl⟩
abbrev batV (base epoch : Int) (A : Option Addr) (n cap : Nat) : Value := .agg #[.int .i64 base, .int .i64 epoch, .slice A n cap]
/-- A batch as a value, and what it is. -/
structure IsBat (w : World) (A : Option Addr) (cap : Nat) (b : Rc.Bat) : Prop where
  le : b.recs.length ≤ cap
  max : cap ≤ 9223372036854775807
  recs : Recs w A b.recs
  base : -9223372036854775808 ≤ b.base ∧ b.base ≤ 9223372036854775807
  epoch : -9223372036854775808 ≤ b.epoch ∧ b.epoch ≤ 9223372036854775807
theorem IsBat.below {w w' : World} {C : Nat} {A : Option Addr} {cap : Nat} {b : Rc.Bat} (h : IsBat w A cap b) (hb : Below C w w') (hC : w.heap.size ≤ C) : IsBat w' A cap b := ⟨h.le, h.max, h.recs.below hb hC, h.base, h.epoch⟩

theorem within_any (n a b : Int) (w : World) :
    Calls Tryz.prog 124 #[.int .i64 n, .int .i64 a, .int .i64 b] w fun e w' => e = .returned (.bool (decide (a ≤ n ∧ n ≤ b))) ∧ w = w' := by
  by_cases h1 : a ≤ n
  · have hd : decide (a ≤ n) = true := by simp [h1]
    have he : decide (a ≤ n ∧ n ≤ b) = decide (n ≤ b) := by simp [h1]
    rw [he]
    clear he h1
    go_enter Tryz.func124, Tryz.ntmps124
    go_wp2_with fail
    go_ret
    exact ⟨rfl, rfl⟩
  · have hd : decide (a ≤ n) = false := by simp [h1]
    have he : decide (a ≤ n ∧ n ≤ b) = false := by simp [h1]
    rw [he]
    clear he h1
    go_enter Tryz.func124, Tryz.ntmps124
    go_wp2_with fail
    go_ret
    exact ⟨rfl, rfl⟩

theorem next_bat (base epoch : Int) (A : Option Addr) (n cap : Nat) (w : World) (h1 : -9223372036854775808 ≤ base + n) (h2 : base + n ≤ 9223372036854775807) :
    Calls Tryz.prog 110 #[batV base epoch A n cap] w fun e w' => e = .returned (.int .i64 (base + n)) ∧ Below w.heap.size w w' := by
  go_enter Tryz.func110, Tryz.ntmps110
  go_wp2_with fail
  go_ret
  exact ⟨rfl, balloc (Below.refl _ _) _⟩

/-- From w to w' nothing old has turned but the row that v lies in; v' lies there too, or in a new one. -/
structure Grown (w w' : World) (v v' : Value) : Prop where
  g : w.grownBy w' v.ownBlock
  o : v'.ownBlock = v.ownBlock ∨ ∃ k, v'.ownBlock = some k ∧ w.heap.size ≤ k
theorem Grown.refl (w : World) (v : Value) : Grown w w v v := ⟨World.grownBy.refl w _, .inl rfl⟩
theorem Grown.size {w w' : World} {v v' : Value} (h : Grown w w' v v') : w.heap.size ≤ w'.heap.size := h.g.size
theorem Grown.of_below {w w' : World} (h : Below w.heap.size w w') (v : Value) : Grown w w' v v := ⟨⟨h.os, h.tape, h.output, h.size, fun k hk _ => h.block k hk⟩, .inl rfl⟩
theorem Grown.trans {a b c : World} {u v x : Value} (h : Grown a b u v) (k : Grown b c v x) : Grown a c u x := by
  refine ⟨⟨k.g.os.trans h.g.os, k.g.tape.trans h.g.tape, k.g.output.trans h.g.output, Nat.le_trans h.g.size k.g.size, fun i hi hne => (k.g.block i (Nat.lt_of_lt_of_le hi h.g.size) ?_).trans (h.g.block i hi hne)⟩, ?_⟩
  · rcases h.o with e | ⟨j, e, hj⟩
    · rw [e]; exact hne
    · rw [e]; intro e'; injection e' with e'; omega
  · rcases k.o with e | ⟨j, e, hj⟩
    · rcases h.o with e' | ⟨j, e', hj⟩
      · exact .inl (e.trans e')
      · exact .inr ⟨j, e.trans e', hj⟩
    · exact .inr ⟨j, e, Nat.le_trans h.g.size hj⟩
theorem Grown.app {w w' : World} {v v' : Value} (g : w.grownBy w' v.ownBlock) (o : v'.ownBlock = v.ownBlock ∨ v'.ownBlock = some w.heap.size) : Grown w w' v v' :=
  ⟨g, o.imp id fun e => ⟨_, e, Nat.le_refl _⟩⟩
theorem Grown.below {w w' : World} {v v' : Value} {base C : Nat} {l : List UInt8} (h : Grown w w' v v') (ho : Own w base v l) (hC : C ≤ base) (hb : C ≤ w.heap.size) : Below C w w' :=
  (Below.refl C w).grown h.g hb fun k hk => Nat.le_trans hC (ho.lt k hk).1
theorem Grown.cell {w w' : World} {v v' : Value} (h : Grown w w' v v') {b o : Nat} (hb : b < w.heap.size) (hne : v.ownBlock ≠ some b) : w'.cell? ⟨b, o, none⟩ = w.cell? ⟨b, o, none⟩ := by
  have := h.g.block b hb (fun e => hne e.symm)
  simp [World.cell?, this]
theorem Grown.keep {w w' : World} {v v' : Value} (h : Grown w w' v v') {b : Nat} (hb : b < w.heap.size) (hne : v.ownBlock ≠ some b) : v'.ownBlock ≠ some b := by
  rcases h.o with e | ⟨j, e, hj⟩
  · rw [e]; exact hne
  · rw [e]; intro e'; injection e' with e'; omega

set_option maxRecDepth 100000 in
/-- fixed, from nothing or what is the call's own on. -/
theorem fix_any (base : Nat) (v : Value) (l : List UInt8) (n k : Nat) (w : World) (hn : n < 18446744073709551616) (hk : k ≤ 8) (hl : l.length ≤ 1000000) (ho : Own w base v l) (hbase : base ≤ w.heap.size) :
    Calls Tryz.prog 109 #[v, .int .u64 n, .int .i64 k] w fun e w' => ∃ v', e = .returned v' ∧ Own w' base v' (l ++ Rc.le k n) ∧ Grown w w' v v' := by
  have HO := hide ho
  clear ho
  go_enter Tryz.func109, Tryz.ntmps109
  go_wp2_with fail
  go_loopw [0, 1, 8] (fun u m i wr => ∃ j : Nat, j ≤ k ∧ i = .int .i64 j ∧ m = .int .u64 ((n / 256 ^ j : Nat) : Int) ∧ Own wr base u (l ++ Rc.le j n) ∧ Grown w wr v u) (fun _ _ i _ => k - (intOf i).toNat)
  case atStart => exact ⟨0, Nat.zero_le _, rfl, by simp, by simpa [Rc.le] using HO.out, Grown.refl _ _⟩
  case round =>
    obtain ⟨j, hj, rfl, rfl, ho, hb⟩ := hrel
    by_cases hlt : j < k
    · have hm : n / 256 ^ j < 18446744073709551616 := Nat.lt_of_le_of_lt (Nat.div_le_self _ _) hn
      have HS : Hid (l ++ Rc.le (j + 1) n = (l ++ Rc.le j n) ++ [UInt8.ofNat (n / 256 ^ j)]) := by
        show _ = _
        rw [Rc.le_snoc, List.append_assoc]
      have HD : Hid (n / 256 ^ (j + 1) = n / 256 ^ j / 256) := by
        show _ = _
        rw [Nat.pow_succ, Nat.div_div_eq_div_mul]
      have hll : (l ++ Rc.le j n).length ≤ 1000008 := by rw [List.length_append, Rc.le_len]; omega
      have HOJ := hide ho
      have HBJ := hide hb
      have HZ : Hid (w.heap.size ≤ wr.heap.size) := hide hb.size
      clear ho hb
      have hmod := mod256n (n / 256 ^ j)
      generalize n / 256 ^ j = m at *
      generalize l ++ Rc.le j n = pre at *
      generalize UInt8.ofNat m = c at *
      go_wp2_with (at_builtin; refine wpList_app (w := wr.alloc _) rfl (.tmp 10) (.tmp 13) rfl base _ pre [c] rfl (HOJ.out.alloc _) _ 1 1 rfl rfl (Reads.made _ _ _ _ _ _ rfl rfl) (by simp; omega) (by have := HZ.out; simp; omega) ?_; intro v3 w3 hown3 hg3 hv3)
      go_roundw
      case rel =>
        refine ⟨j + 1, by omega, by go_num, ?_, ?_, ?_⟩
        · rw [HD.out]; go_num
        · rw [HS.out]; exact hown3
        · exact HBJ.out.trans ((Grown.of_below (balloc (Below.refl _ _) _) _).trans (Grown.app hg3 hv3))
      case measure => simp [intOf]; omega
    · obtain rfl : j = k := by omega
      go_wp2_with fail
      go_ret
      exact ⟨_, rfl, ho, hb⟩
end Go.Proofs.YtfdppggdgdnnaaaGreatDoor

namespace Go.Proofs.YtfdppggdgdnnaaaGreatDoor
open Go.RowKit

theorem SentsOn.alloc {S : Nat → Prop} {w : World} {p : Nat → Addr} (h : SentsOn S w p) (o : Obj) : SentsOn S (w.alloc o) p := h.below (balloc (Below.refl _ _) o)
theorem err_cell {w : World} {p : Nat → Addr} (h : Sents2 w p) : w.cell? ⟨0, 0, none⟩ = some (.iface 258 (.pointer (some (p 4)))) := h.cell 4 (by omega)

set_option maxRecDepth 100000 in
set_option maxHeartbeats 1000000 in
theorem valid_many (base epoch : Int) (n : Nat) (A : Option Addr) (cap : Nat) (w : World) (p : Nat → Addr) (hs : Sents2 w p) (hm : n ≤ 9223372036854775807) (hn : n = 0 ∨ 64 < n) :
    Calls Tryz.prog 103 #[batV base epoch A n cap] w fun e w' => e = .returned (errV (p 3)) ∧ Below w.heap.size w w' := by
  have e0 := (hs.alloc (.cells #[.int .i64 base, .int .i64 epoch, .slice A n cap] 41)).cell 3 (by omega)
  change (w.alloc _).cell? ⟨8, 0, none⟩ = _ at e0
  clear hs
  unfold errV at *
  rcases hn with rfl | hn
  · go_enter Tryz.func103, Tryz.ntmps103
    go_wp2_with fail
    go_ret
    exact ⟨rfl, balloc (Below.refl _ _) _⟩
  · go_enter Tryz.func103, Tryz.ntmps103
    go_wp2_with fail
    go_ret
    exact ⟨rfl, balloc (Below.refl _ _) _⟩

set_option maxRecDepth 100000 in
set_option maxHeartbeats 1000000 in
theorem valid_range (ba ep : Int) (n : Nat) (A : Option Addr) (cap : Nat) (w : World) (p : Nat → Addr) (hb1 : -9223372036854775808 ≤ ba ∧ ba ≤ 9223372036854775807) (hs : Sents2 w p) (hn0 : n ≠ 0) (hn1 : n ≤ 64) (hr : ba < 0 ∨ 1099511627776 < ba + n ∨ ep < 0 ∨ 1073741824 < ep) :
    Calls Tryz.prog 103 #[batV ba ep A n cap] w fun e w' => e = .returned (errV (p 4)) ∧ Below w.heap.size w w' := by
  have hs0 := hs.alloc (.cells #[.int .i64 ba, .int .i64 ep, .slice A n cap] 41)
  have e0 := err_cell hs0
  have HS0 := hide hs0
  have hbb : Below w.heap.size w (w.alloc (.cells #[.int .i64 ba, .int .i64 ep, .slice A n cap] 41)) := balloc (Below.refl _ _) _
  have HB0 := hide hbb
  have q1 : ((n : Int) == 0) = false := by simp; omega
  have q2 : decide ((64 : Int) < (n : Int)) = false := by simp; omega
  clear hs hs0 hn0 hbb
  unfold errV at *
  by_cases hw1 : 0 ≤ ba ∧ ba ≤ 1099511627776
  · have HN := hide (fun W => next_bat ba ep A n cap W (by omega) (by omega))
    have hd1 : decide (0 ≤ ba ∧ ba ≤ 1099511627776) = true := by simp [hw1]
    by_cases hw2 : 1099511627776 < ba + n
    · have hd2 : decide (1099511627776 < ba + n) = true := by simp [hw2]
      clear hr hw1 hw2 hb1
      go_enter Tryz.func103, Tryz.ntmps103
      go_wp2_with (go_at_call 124; refine (within_any _ _ _ _).mono ?_; rintro e w1 ⟨rfl, rfl⟩; rw [hd1])
      refine (HN.out _).mono ?_
      rintro e w1 ⟨rfl, hb2⟩
      have e1 := err_cell (HS0.out.below hb2)
      have HB2 := hide (HB0.out.trans (hb2.mono HB0.out.size))
      clear hb2
      go_wp2_with fail
      go_ret
      exact ⟨rfl, HB2.out⟩
    · have hd2 : decide (1099511627776 < ba + n) = false := by simp; omega
      have hd3 : decide (0 ≤ ep ∧ ep ≤ 1073741824) = false := by simp; omega
      clear hr hw1 hw2 hb1
      go_enter Tryz.func103, Tryz.ntmps103
      go_wp2_with (go_at_call 124; refine (within_any _ _ _ _).mono ?_; rintro e w1 ⟨rfl, rfl⟩; rw [hd1])
      refine (HN.out _).mono ?_
      rintro e w1 ⟨rfl, hb2⟩
      have hc : ∀ k, w1.cell? ⟨w.heap.size, k, none⟩ = (w.alloc (.cells #[.int .i64 ba, .int .i64 ep, .slice A n cap] 41)).cell? ⟨w.heap.size, k, none⟩ := fun k => hb2.cell (p := ⟨w.heap.size, k, none⟩) (by simp)
      have hc1 : w1.cell? ⟨w.heap.size, 1, none⟩ = some (.int .i64 ep) := by rw [hc, World.cell?_alloc_mark]; rfl
      have e1 := err_cell (HS0.out.below hb2)
      have HB2 := hide (HB0.out.trans (hb2.mono HB0.out.size))
      clear hb2 hc
      go_wp2_with (go_at_call 124; refine (within_any _ _ _ _).mono ?_; rintro e w1 ⟨rfl, rfl⟩; rw [hd3])
      go_ret
      exact ⟨rfl, HB2.out⟩
  · have hd1 : decide (0 ≤ ba ∧ ba ≤ 1099511627776) = false := by simp; omega
    clear hr hw1 hb1
    go_enter Tryz.func103, Tryz.ntmps103
    go_wp2_with (go_at_call 124; refine (within_any _ _ _ _).mono ?_; rintro e w1 ⟨rfl, rfl⟩; rw [hd1])
    go_ret
    exact ⟨rfl, HB0.out⟩

theorem all_take_succ (rs : List Rc.Rec) (k : Nat) (h : k < rs.length) : (rs.take (k + 1)).all Rc.recOk = ((rs.take k).all Rc.recOk && Rc.recOk (rs.getD k default)) := by
  rw [List.take_succ_eq_append_getElem h, List.all_append]
  simp [List.getD, h]

set_option maxRecDepth 100000 in
set_option maxHeartbeats 1000000 in
theorem valid_recs (ba ep : Int) (rs : List Rc.Rec) (A : Option Addr) (cap : Nat) (w : World) (p : Nat → Addr) (hrec : Recs w A rs) (hs : Sents2 w p) (hn0 : rs.length ≠ 0) (hn1 : rs.length ≤ 64) (hw : 0 ≤ ba) (hw2 : ba + rs.length ≤ 1099511627776) (he : 0 ≤ ep ∧ ep ≤ 1073741824) :
    Calls Tryz.prog 103 #[batV ba ep A rs.length cap] w fun e w' => e = .returned (errOf p (if rs.all Rc.recOk = false then 105 else 0)) ∧ Below w.heap.size w w' := by
  generalize hV : errOf p (if rs.all Rc.recOk = false then 105 else 0) = V
  have HV := hide hV.symm
  clear hV
  have hs0 := hs.alloc (.cells #[.int .i64 ba, .int .i64 ep, .slice A rs.length cap] 41)
  have HS0 := hide hs0
  have hbb : Below w.heap.size w (w.alloc (.cells #[.int .i64 ba, .int .i64 ep, .slice A rs.length cap] 41)) := balloc (Below.refl _ _) _
  have HB0 := hide hbb
  have HR := hide hrec
  have HS := hide hs
  have q1 : ((rs.length : Int) == 0) = false := by rw [beq_eq_false_iff_ne]; omega
  have q2 : decide ((64 : Int) < (rs.length : Int)) = false := by simp; omega
  have HN := hide (fun W => next_bat ba ep A rs.length cap W (by omega) (by omega))
  have hd1 : decide (0 ≤ ba ∧ ba ≤ 1099511627776) = true := decide_eq_true (by omega)
  have hd2 : decide (1099511627776 < ba + rs.length) = false := by simp; omega
  have hd3 : decide (0 ≤ ep ∧ ep ≤ 1073741824) = true := by simp [he]
  clear hs hs0 hn0 hbb hrec hw hw2 he
  go_enter Tryz.func103, Tryz.ntmps103
  go_wp2_with (go_at_call 124; refine (within_any _ _ _ _).mono ?_; rintro e w1 ⟨rfl, rfl⟩; rw [hd1])
  refine (HN.out _).mono ?_
  rintro e w1 ⟨rfl, hb2⟩
  have hc : ∀ k, w1.cell? ⟨w.heap.size, k, none⟩ = (w.alloc (.cells #[.int .i64 ba, .int .i64 ep, .slice A rs.length cap] 41)).cell? ⟨w.heap.size, k, none⟩ := fun k => hb2.cell (p := ⟨w.heap.size, k, none⟩) (by simp)
  have hc1 : w1.cell? ⟨w.heap.size, 1, none⟩ = some (.int .i64 ep) := by rw [hc, World.cell?_alloc_mark]; rfl
  have hc2 : w1.cell? ⟨w.heap.size, 2, none⟩ = some (.slice A rs.length cap) := by rw [hc, World.cell?_alloc_mark]; rfl
  have HB2 := hide (HB0.out.trans (hb2.mono HB0.out.size))
  clear hb2 hc
  go_wp2_with (go_at_call 124; refine (within_any _ _ _ _).mono ?_; rintro e w1 ⟨rfl, rfl⟩; rw [hd3])
  go_loopw [35] (fun i wr => ∃ k : Nat, k ≤ rs.length ∧ i = .int .i64 k ∧ (rs.take k).all Rc.recOk = true ∧ Below w.heap.size w wr) (fun i _ => rs.length - (intOf i).toNat)
  case atStart => exact ⟨0, Nat.zero_le _, rfl, by simp, HB2.out⟩
  case round =>
    obtain ⟨k, hk, rfl, hok, hb⟩ := hrel
    have HBK := hide hb
    have HOK := hide hok
    clear hb hok
    by_cases hlt : k < rs.length
    · rcases HR.out with h0 | ⟨b, off, rfl, hb0, hcl⟩
      · rw [h0] at hlt; simp at hlt
      obtain ⟨Ak, ck, Av, cv, c0, c1, c2, ha, hv⟩ := (hcl k hlt).ex
      have d0 := (HBK.out.cell (p := ⟨b, off + k * 3, none⟩) hb0).trans c0
      have d1 := (HBK.out.cell (p := ⟨b, off + k * 3 + 1, none⟩) hb0).trans c1
      have d2 := (HBK.out.cell (p := ⟨b, off + k * 3 + 2, none⟩) hb0).trans c2
      have HAS := hide (all_take_succ rs k hlt)
      have HMEM : Hid (rs.getD k default ∈ rs) := by
        show _ ∈ _
        rw [show rs.getD k default = rs[k] from by simp [List.getD, hlt]]; exact List.getElem_mem hlt
      have hmk := Nat.le_trans ha.le ha.max
      have hmv := Nat.le_trans hv.le hv.max
      clear hcl c0 c1 c2 ha hv
      generalize rs.getD k default = x at *
      obtain ⟨t, ky, vl⟩ := x
      simp only at d0 d1 d2 hmk hmv
      have e1 := err_cell ((HS.out.below HBK.out).alloc (.cells #[.int .i64 t, .slice Ak ky.length ck, .slice Av vl.length cv] 81))
      have HBN := hide (balloc HBK.out (.cells #[.int .i64 t, .slice Ak ky.length ck, .slice Av vl.length cv] 81))
      by_cases hbad : Rc.recOk ⟨t, ky, vl⟩ = true
      · have HN1 : Hid ((rs.take (k + 1)).all Rc.recOk = true) := by
          show _ = _
          rw [HAS.out, HOK.out, hbad]; rfl
        simp only [Rc.recOk, decide_eq_true_eq] at hbad
        have hd4 : decide (-1099511627776 ≤ t ∧ t ≤ 1099511627776) = true := by simp; omega
        have hd5 : decide ((64 : Int) < (ky.length : Int)) = false := by simp; omega
        have hd6 : decide ((512 : Int) < (vl.length : Int)) = false := by simp; omega
        clear hbad HAS HMEM
        go_wp2_with (go_at_call 124; refine (within_any _ _ _ _).mono ?_; rintro e w1 ⟨rfl, rfl⟩; rw [hd4])
        go_roundw
        case rel => exact ⟨k + 1, by omega, by go_num, HN1.out, HBN.out⟩
        case measure => simp [intOf]; omega
      · have HE : Hid (V = .iface 258 (.pointer (some (p 4)))) := by
          show _ = _
          have : rs.all Rc.recOk = false := by
            rw [List.all_eq_false]
            exact ⟨_, HMEM.out, hbad⟩
          rw [HV.out, if_pos this]; rfl
        simp only [Rc.recOk, decide_eq_true_eq] at hbad
        clear HAS HMEM
        by_cases ht : -1099511627776 ≤ t ∧ t ≤ 1099511627776
        · have hd4 : decide (-1099511627776 ≤ t ∧ t ≤ 1099511627776) = true := by simp [ht]
          by_cases hkl : 64 < ky.length
          · have hd5 : decide ((64 : Int) < (ky.length : Int)) = true := by simp; omega
            clear hbad ht
            go_wp2_with (go_at_call 124; refine (within_any _ _ _ _).mono ?_; rintro e w1 ⟨rfl, rfl⟩; rw [hd4])
            go_ret
            exact ⟨HE.out.symm ▸ rfl, HBN.out⟩
          · have hd5 : decide ((64 : Int) < (ky.length : Int)) = false := by simp; omega
            have hd6 : decide ((512 : Int) < (vl.length : Int)) = true := by simp; omega
            clear hbad ht
            go_wp2_with (go_at_call 124; refine (within_any _ _ _ _).mono ?_; rintro e w1 ⟨rfl, rfl⟩; rw [hd4])
            go_ret
            exact ⟨HE.out.symm ▸ rfl, HBN.out⟩
        · have hd4 : decide (-1099511627776 ≤ t ∧ t ≤ 1099511627776) = false := by simp; omega
          clear hbad ht
          go_wp2_with (go_at_call 124; refine (within_any _ _ _ _).mono ?_; rintro e w1 ⟨rfl, rfl⟩; rw [hd4])
          go_ret
          exact ⟨HE.out.symm ▸ rfl, HBN.out⟩
    · obtain rfl : k = rs.length := by omega
      have HE : Hid (V = .nilIface) := by
        show _ = _
        have := HOK.out
        rw [List.take_length] at this
        rw [HV.out, this]; rfl
      go_wp2_with fail
      go_ret
      exact ⟨HE.out.symm ▸ rfl, HBK.out⟩

theorem valid_any (b : Rc.Bat) (A : Option Addr) (cap n : Nat) (w : World) (p : Nat → Addr) (h : IsBat w A cap b) (hs : Sents2 w p) (hn : b.recs.length = n) :
    Calls Tryz.prog 103 #[batV b.base b.epoch A n cap] w fun e w' => e = .returned (errOf p (Rc.bad b)) ∧ Below w.heap.size w w' := by
  subst hn
  have hm := Nat.le_trans h.le h.max
  unfold Rc.bad
  by_cases h1 : b.recs.length = 0 ∨ 64 < b.recs.length
  · rw [if_pos h1]
    exact valid_many b.base b.epoch b.recs.length A cap w p hs hm h1
  · rw [if_neg h1]
    by_cases h2 : b.base < 0 ∨ 1099511627776 < b.base + b.recs.length ∨ b.epoch < 0 ∨ 1073741824 < b.epoch
    · rw [if_pos (by
        rcases h2 with hh | hh | hh | hh
        · exact .inl hh
        · exact .inr (.inl hh)
        · exact .inr (.inr (.inl hh))
        · exact .inr (.inr (.inr (.inl hh))))]
      exact valid_range b.base b.epoch b.recs.length A cap w p h.base hs (by omega) (by omega) h2
    · refine (valid_recs b.base b.epoch b.recs A cap w p h.recs hs (by omega) (by omega) (by omega) (by omega) (by omega)).mono fun e w' ⟨he, hb⟩ => ⟨?_, hb⟩
      rw [he]
      by_cases h3 : b.recs.all Rc.recOk = false
      · rw [if_pos h3, if_pos (.inr (.inr (.inr (.inr h3))))]
      · rw [if_neg h3, if_neg (fun hh => by
          rcases hh with hh | hh | hh | hh | hh
          · exact h2 (.inl hh)
          · exact h2 (.inr (.inl hh))
          · exact h2 (.inr (.inr (.inl hh)))
          · exact h2 (.inr (.inr (.inr hh)))
          · exact h3 hh)]
end Go.Proofs.YtfdppggdgdnnaaaGreatDoor

namespace Go.Proofs.YtfdppggdgdnnaaaGreatDoor
open Go.RowKit

set_option maxRecDepth 100000 in
set_option maxHeartbeats 1000000 in
theorem text_any (base : Nat) (v : Value) (l : List UInt8) (A : Option Addr) (cap n : Nat) (s : List UInt8) (w : World) (hn : s.length = n) (hl : l.length ≤ 1000000) (hsl : n ≤ 1000) (ho : Own w base v l) (hbase : base ≤ w.heap.size) (hst : ∀ W, Below base w W → Arg W A cap s) :
    Calls Tryz.prog 125 #[v, .slice A n cap] w fun e w' => ∃ v', e = .returned v' ∧ Own w' base v' (l ++ Rc.eT s) ∧ Grown w w' v v' := by
  subst hn
  have HO := hide ho
  have HST := hide hst
  have HP := hide (put_nil s.length w (by omega))
  have hps : (Vi.put s.length).length = Vi.size s.length := rfl
  have hs10 := Vi.size_le10 (show s.length < 18446744073709551616 by omega)
  clear ho hst
  go_enter Tryz.func125, Tryz.ntmps125
  go_wp2_with fail
  refine HP.out.mono ?_
  rintro e w1 ⟨A1, c1, rfl, -, ha1, hb1⟩
  have HO1 := hide (HO.out.below hb1 (Nat.le_refl _))
  have HG1 := hide (Grown.of_below hb1 v)
  have HA1 := hide ha1.reads
  have hz1 := hb1.size
  have HE : Hid (l ++ Rc.eT s = (l ++ Vi.put s.length) ++ s) := by show _ = _; unfold Rc.eT; rw [List.append_assoc]
  clear ha1 hb1 HP
  generalize Vi.put s.length = pu at *
  generalize Vi.size s.length = sz at *
  go_upto_region 2 with (at_builtin; refine wpList_app (w := w1) rfl (.tmp 5) (.tmp 9) rfl base _ l pu rfl HO1.out A1 sz c1 rfl hps HA1.out (by omega) (by omega) ?_; intro v2 w2 hown2 hg2 hv2)
  have HO2 := hide hown2
  have HG2 := hide (HG1.out.trans (Grown.app hg2 hv2))
  have hz2 := hg2.size
  have hl2 : (l ++ pu).length ≤ 1000010 := by rw [List.length_append]; omega
  have HA2 := hide ((HST.out _ (HG2.out.below HO.out (Nat.le_refl _) hbase)).reads)
  clear hown2 hg2 hv2 HST
  go_wp2_with (at_builtin; refine wpList_app (w := w2) rfl (.tmp 11) (.tmp 12) rfl base _ (l ++ pu) s rfl HO2.out A s.length cap rfl rfl HA2.out (by omega) (by omega) ?_; intro v3 w3 hown3 hg3 hv3)
  go_ret
  refine ⟨_, rfl, ?_, HG2.out.trans (Grown.app hg3 hv3)⟩
  rw [HE.out]; exact hown3

/-- A block of three cells, just made. -/
theorem made3 (w : World) (v0 v1 v2 : Value) (t : TypeId) : (w.alloc (.cells #[v0, v1, v2] t)).cell? ⟨w.heap.size, 0, none⟩ = some v0 ∧ (w.alloc (.cells #[v0, v1, v2] t)).cell? ⟨w.heap.size, 1, none⟩ = some v1 ∧ (w.alloc (.cells #[v0, v1, v2] t)).cell? ⟨w.heap.size, 2, none⟩ = some v2 :=
  ⟨by rw [World.cell?_alloc_mark]; rfl, by rw [World.cell?_alloc_mark]; rfl, by rw [World.cell?_alloc_mark]; rfl⟩

set_option maxRecDepth 100000 in
set_option maxHeartbeats 2000000 in
theorem lay_any (b : Rc.Bat) (A : Option Addr) (cap n : Nat) (w : World) (h : IsBat w A cap b) (hg : Rc.Good b) (hn : b.recs.length = n) :
    Calls Tryz.prog 104 #[batV b.base b.epoch A n cap] w fun e w' => ∃ v, e = .returned v ∧ Own w' w.heap.size v (Rc.body b) ∧ Below w.heap.size w w' := by
  subst hn
  obtain ⟨ba, hba⟩ := Int.eq_ofNat_of_zero_le hg.base0
  obtain ⟨ep, hep⟩ := Int.eq_ofNat_of_zero_le hg.ep0
  have hba1 := hg.base1
  have hep1 := hg.ep1
  have hn1 := hg.n1
  have hn0 := hg.n0
  rw [hba, hep]
  rw [hba] at hba1
  rw [hep] at hep1
  have HBODY : Hid (Rc.body b = (((Rc.le 8 ba ++ Rc.le 4 ep) ++ Rc.le 2 b.recs.length) ++ Vi.put (Vi.zz (Rc.t0 b))) ++ Rc.recsB (Rc.t0 b) b.recs) := by
    show _ = _
    unfold Rc.body Rc.hd
    rw [hba, hep]; rfl
  have hbl := Rc.body_len b hg
  have HBL := hide hbl
  have HG := hide hg
  have hrec := h.recs
  obtain ⟨W0, hW0⟩ : ∃ W0, W0 = w.alloc (.cells #[.int .i64 ba, .int .i64 ep, .slice A b.recs.length cap] 41) := ⟨_, rfl⟩
  have hb0 : Below w.heap.size w W0 := hW0 ▸ balloc (Below.refl _ _) _
  have hz0 : W0.heap.size = w.heap.size + 1 := by rw [hW0]; simp
  obtain ⟨m0, m1, m2⟩ := made3 w (.int .i64 ba) (.int .i64 ep) (.slice A b.recs.length cap) 41
  rw [← hW0] at m0 m1 m2
  have HR := hide (hrec.below hb0 (Nat.le_refl _))
  have HB0 := hide hb0
  have HF1 := hide (fix_any (w.heap.size + 1) (.slice none 0 0) [] ba 8 W0 (by omega) (by omega) (by simp) (Own.nil _ _) (by omega))
  clear h hg hbl hb0 hrec hba hep
  go_enter Tryz.func104, Tryz.ntmps104
  go_upto_region 1 with fail
  rw [← hW0]
  clear hW0
  go_wp2_with fail
  refine HF1.out.mono ?_
  rintro e w1 ⟨v1, rfl, ho1, hg1⟩
  have HO1 := hide ho1
  have hb1 := hg1.below (Own.nil W0 (w.heap.size + 1)) (Nat.le_refl _) (by omega)
  have HB1 := hide hb1
  have d1 := (hb1.cell (p := ⟨w.heap.size, 1, none⟩) (by show w.heap.size < _; omega)).trans m1
  have hz1 := hb1.size
  have HF2 := hide (fix_any (w.heap.size + 1) v1 (Rc.le 8 ba) ep 4 w1 (by omega) (by omega) (by rw [Rc.le_len]; omega) (by simpa using ho1) (by omega))
  clear ho1 hg1 hb1 HF1 m0
  go_wp2_with fail
  refine HF2.out.mono ?_
  rintro e w2 ⟨v2, rfl, ho2, hg2⟩
  have hb2 := HB1.out.trans (hg2.below HO1.out (Nat.le_refl _) (by omega))
  have HB2 := hide hb2
  have HO2 := hide ho2
  have d2 := (hb2.cell (p := ⟨w.heap.size, 2, none⟩) (by show w.heap.size < _; omega)).trans m2
  have hz2 := hb2.size
  have HF3 := hide (fix_any (w.heap.size + 1) v2 (Rc.le 8 ba ++ Rc.le 4 ep) b.recs.length 2 w2 (by omega) (by omega) (by rw [List.length_append, Rc.le_len, Rc.le_len]; omega) ho2 (by omega))
  clear ho2 hg2 hb2 HF2 d1 m1 HO1
  go_wp2_with fail
  refine HF3.out.mono ?_
  rintro e w3 ⟨v3, rfl, ho3, hg3⟩
  have hb3 := HB2.out.trans (hg3.below HO2.out (Nat.le_refl _) (by omega))
  have HB3 := hide hb3
  have HO3 := hide ho3
  have d3 := (hb3.cell (p := ⟨w.heap.size, 2, none⟩) (by show w.heap.size < _; omega)).trans m2
  have hz3 := hb3.size
  have hr3 := HR.out.below hb3 (Nat.le_of_eq hz0)
  have hd3 : ((Rc.le 8 ba ++ Rc.le 4 ep) ++ Rc.le 2 b.recs.length).length = 14 := by simp [Rc.le_len]
  clear ho3 hg3 hb3 HF3 d2 HO2 HB2 HB1
  generalize (Rc.le 8 ba ++ Rc.le 4 ep) ++ Rc.le 2 b.recs.length = hd at *
  rcases hr3 with h0 | ⟨bb, off, rfl, hb0, hcl⟩
  · rw [h0] at hn0; simp at hn0
  obtain ⟨Ak, ck, Av, cv, c0, -⟩ := (hcl 0 hn0).ex
  rw [Nat.zero_mul, Nat.add_zero] at c0
  change w3.cell? ⟨bb, off, none⟩ = some (.int .i64 (Rc.t0 b)) at c0
  obtain ⟨ht1, ht2⟩ := HG.out.t0
  have hzp : (Vi.put (Vi.zz (Rc.t0 b))).length = Vi.size (Vi.zz (Rc.t0 b)) := rfl
  have hz10 := Vi.size_le10 (Vi.zz_lt (Rc.t0 b) (by omega) (by omega))
  have HP3 := hide (putInt_nil (Rc.t0 b) w3 (by omega) (by omega))
  clear hcl
  go_wp2_with fail
  refine HP3.out.mono ?_
  rintro e w4 ⟨A4, c4, rfl, -, ha4, hb4⟩
  have HO4 := hide (HO3.out.below hb4 (Nat.le_refl _))
  have HB4 := hide (HB3.out.trans (hb4.mono (by omega)))
  have HA4 := hide ha4.reads
  have hz4 := hb4.size
  clear ha4 hb4 HP3 c0 d3 HB3 HO3
  generalize hzb : Vi.put (Vi.zz (Rc.t0 b)) = pz at *
  have HZB := hide hzb
  clear hzb
  generalize Vi.size (Vi.zz (Rc.t0 b)) = sz at *
  go_upto_region 6 with (at_builtin; refine wpList_app (w := w4) rfl (.tmp 27) (.tmp 29) rfl (w.heap.size + 1) _ hd pz rfl HO4.out A4 sz c4 rfl hzp HA4.out (by omega) (by omega) ?_; intro v5 w5 hown5 hg5 hv5)
  have HO5 := hide hown5
  have hb5 := HB4.out.trans ((Grown.app hg5 hv5).below HO4.out (Nat.le_refl _) (by omega))
  have HB5 := hide hb5
  have d5 := (hb5.cell (p := ⟨w.heap.size, 2, none⟩) (by show w.heap.size < _; omega)).trans m2
  have hz5 := hb5.size
  have hl5 : (hd ++ pz).length ≤ 24 := by rw [List.length_append]; omega
  clear hown5 hg5 hv5 hb5 HO4 HB4 HA4
  generalize hd ++ pz = pre at *
  generalize ht0 : Rc.t0 b = T at *
  generalize hrs : b.recs = rs at *
  have HGR : Hid (∀ r ∈ rs, -1099511627776 ≤ r.t ∧ r.t ≤ 1099511627776 ∧ r.k.length ≤ 64 ∧ r.v.length ≤ 512) := hide (hrs ▸ HG.out.recs)
  clear hrs ht0 HG
  go_wp2_with fail
  go_loopw [3, 4, 34] (fun v t i wr => ∃ k : Nat, k ≤ rs.length ∧ i = .int .i64 k ∧ t = .int .i64 (Rc.lastT T (rs.take k)) ∧ Own wr (w.heap.size + 1) v (pre ++ Rc.recsB T (rs.take k)) ∧ (pre ++ Rc.recsB T (rs.take k)).length ≤ 24 + 606 * k ∧ Below (w.heap.size + 1) W0 wr) (fun _ _ i _ => rs.length - (intOf i).toNat)
  case atStart => exact ⟨0, Nat.zero_le _, rfl, rfl, by simpa [Rc.recsB] using HO5.out, by simpa [Rc.recsB] using hl5, HB5.out⟩
  case round =>
    obtain ⟨k, hk, rfl, rfl, ho, hll, hb⟩ := hrel
    have HOK := hide ho
    have HBK := hide hb
    have HZK : Hid (w.heap.size + 1 ≤ wr.heap.size) := hide (by have := hb.size; omega)
    clear ho hb
    by_cases hlt : k < rs.length
    · rcases HR.out with h0 | ⟨b', off', e', hb0', hcl⟩
      · rw [h0] at hlt; simp at hlt
      injection e' with e'
      injection e' with e1 e2
      subst e1 e2
      obtain ⟨Ak, ck, Av, cv, c0, c1, c2, ha, hv⟩ := (hcl k hlt).ex
      have hbl : bb < w.heap.size + 1 := by omega
      have d0 := (HBK.out.cell (p := ⟨bb, off + k * 3, none⟩) hbl).trans c0
      have d1 := (HBK.out.cell (p := ⟨bb, off + k * 3 + 1, none⟩) hbl).trans c1
      have d2 := (HBK.out.cell (p := ⟨bb, off + k * 3 + 2, none⟩) hbl).trans c2
      have hok := HGR.out (rs.getD k default) (by rw [show rs.getD k default = rs[k] from by simp [List.getD, hlt]]; exact List.getElem_mem hlt)
      have hlo := Rc.lastT_ok T (rs.take k) (fun r hr => HGR.out r (List.mem_of_mem_take hr)) ⟨ht1, ht2⟩
      have hrl := Rc.recB_len (Rc.lastT T (rs.take k)) (rs.getD k default) hok hlo
      have HT1 : Hid (rs.take (k + 1) = rs.take k ++ [rs.getD k default]) := by
        show _ = _
        rw [List.take_succ_eq_append_getElem hlt]; simp [List.getD, hlt]
      have HT2 : Hid (Rc.lastT T (rs.take (k + 1)) = (rs.getD k default).t) := by
        show _ = _
        rw [HT1.out, Rc.lastT_snoc]
      have HT3 : Hid (pre ++ Rc.recsB T (rs.take (k + 1)) = (pre ++ Rc.recsB T (rs.take k)) ++ Rc.recB (Rc.lastT T (rs.take k)) (rs.getD k default)) := by
        show _ = _
        rw [HT1.out, Rc.recsB_snoc, List.append_assoc]
      have HKA := hide (fun W (hw : Below (w.heap.size + 1) wr W) => ha.below (HBK.out.trans hw) (Nat.le_of_eq hz0))
      have HVA := hide (fun W (hw : Below (w.heap.size + 1) wr W) => hv.below (HBK.out.trans hw) (Nat.le_of_eq hz0))
      clear hcl c0 c1 c2 ha hv HT1
      generalize rs.getD k default = x at *
      generalize hpk : pre ++ Rc.recsB T (rs.take k) = pk at *
      generalize hlk : Rc.lastT T (rs.take k) = lk at *
      have HPK := hide hpk
      clear hpk hlk
      obtain ⟨t, ky, vl⟩ := x
      simp only at d0 d1 d2 hok HKA HVA
      go_upto_region 9 with fail
      obtain ⟨k0, k1, k2⟩ := made3 wr (.int .i64 t) (.slice Ak ky.length ck) (.slice Av vl.length cv) 81
      have hba : Below wr.heap.size wr (wr.alloc (.cells #[.int .i64 t, .slice Ak ky.length ck, .slice Av vl.length cv] 81)) := balloc (Below.refl _ _) _
      have hga : wr.heap.size < (wr.alloc (.cells #[.int .i64 t, .slice Ak ky.length ck, .slice Av vl.length cv] 81)).heap.size := by simp
      have HOA := hide (HOK.out.below hba (Nat.le_refl _))
      have HBA : Hid (Below (w.heap.size + 1) wr (wr.alloc (.cells #[.int .i64 t, .slice Ak ky.length ck, .slice Av vl.length cv] 81))) := hide (hba.mono HZK.out)
      have HNE := hide (show u3.ownBlock ≠ some wr.heap.size from fun e => by have := (HOK.out.lt _ e).2; omega)
      have HZA := hide HZK.out
      clear d0 d1 d2 hba HOK
      generalize wr.alloc (.cells #[.int .i64 t, .slice Ak ky.length ck, .slice Av vl.length cv] 81) = wa at *
      generalize wr.heap.size = ga at *
      have hsub : IntKind.i64.wrap (t - lk) = t - lk := by rw [IntKind.wrap_i64]; omega
      have HPI := hide (putInt_nil (t - lk) wa (by omega) (by omega))
      have hzz : (Vi.put (Vi.zz (t - lk))).length = Vi.size (Vi.zz (t - lk)) := rfl
      have hz10 := Vi.size_le10 (Vi.zz_lt (t - lk) (by omega) (by omega))
      have HRB : Hid (pk ++ Rc.recB lk ⟨t, ky, vl⟩ = ((pk ++ Vi.put (Vi.zz (t - lk))) ++ Rc.eT ky) ++ Rc.eT vl) := by
        show _ = _
        unfold Rc.recB
        simp only [List.append_assoc]
      have hek := Rc.eT_len ky (by omega)
      have hev := Rc.eT_len vl (by omega)
      have HRL := hide hrl
      clear hrl
      go_upto_region 10 with fail
      refine HPI.out.mono ?_
      rintro e wb ⟨A6, c6, rfl, -, ha6, hb6⟩
      have HOB := hide (HOA.out.below hb6 (Nat.le_refl _))
      have HGB := hide (Grown.of_below hb6 u3)
      have HA6 := hide ha6.reads
      have hzb := hb6.size
      clear ha6 hb6 HPI
      generalize Vi.put (Vi.zz (t - lk)) = pd at *
      generalize Vi.size (Vi.zz (t - lk)) = sd at *
      go_upto_region 10 with (at_builtin; refine wpList_app (w := wb) rfl (.tmp 38) (.tmp 43) rfl (w.heap.size + 1) _ pk pd rfl HOB.out A6 sd c6 rfl hzz HA6.out (by omega) (by have := HZA.out; omega) ?_; intro vc wc hownc hgc hvc)
      have HOC := hide hownc
      have hgc' := HGB.out.trans (Grown.app hgc hvc)
      have HGC := hide hgc'
      have f1 := (hgc'.cell (o := 1) hga HNE.out).trans k1
      have f2 := (hgc'.cell (o := 2) hga HNE.out).trans k2
      have f0 := (hgc'.cell (o := 0) hga HNE.out).trans k0
      have hzc := hgc'.size
      have hlc : (pk ++ pd).length ≤ 100000 := by rw [List.length_append]; omega
      have HBC := hide (HBA.out.trans (hgc'.below HOA.out (Nat.le_refl _) (by have := HZA.out; omega)))
      have HTK := hide (text_any (w.heap.size + 1) vc (pk ++ pd) Ak ck ky.length ky wc rfl (by omega) (by omega) hownc (by have := HZA.out; omega) (fun W hW => HKA.out W (HBC.out.trans hW)))
      have k0' := k0
      have k2' := k2
      have K0 := hide k0'
      have K2 := hide k2'
      clear hownc hgc hvc hgc' k0 k1 k2 k0' k2'
      go_upto_region 11 with fail
      refine HTK.out.mono ?_
      rintro e wd ⟨vd, rfl, hod, hgd⟩
      have hgd' := HGC.out.trans hgd
      have HGD := hide hgd'
      have HOD := hide hod
      have l1 := (hgd'.cell (o := 2) hga HNE.out).trans K2.out
      have l0 := (hgd'.cell (o := 0) hga HNE.out).trans K0.out
      have hzd := hgd'.size
      have hld : ((pk ++ pd) ++ Rc.eT ky).length ≤ 200000 := by rw [List.length_append]; omega
      have HBD := hide (HBA.out.trans (hgd'.below HOA.out (Nat.le_refl _) (by have := HZA.out; omega)))
      have HTV := hide (text_any (w.heap.size + 1) vd ((pk ++ pd) ++ Rc.eT ky) Av cv vl.length vl wd rfl (by omega) (by omega) hod (by have := HZA.out; omega) (fun W hW => HVA.out W (HBD.out.trans hW)))
      clear hod hgd hgd' HTK f0 f1 f2 HGC HOC HBC
      go_upto_region 11 with fail
      go_upto_region 12 with fail
      refine HTV.out.mono ?_
      rintro e we ⟨ve, rfl, hoe, hge⟩
      have hge' := HGD.out.trans hge
      have HOE := hide hoe
      have r0 := (hge'.cell (o := 0) hga HNE.out).trans K0.out
      have HBE := hide (HBK.out.trans (HBA.out.trans (hge'.below HOA.out (Nat.le_refl _) (by have := HZA.out; omega))))
      have hle : (pre ++ Rc.recsB T (rs.take (k + 1))).length ≤ 24 + 606 * (k + 1) := by
        rw [HT3.out, List.length_append]; have := HRL.out; omega
      have HLE := hide hle
      clear hoe hge hge' HTV l0 l1 HGD HOD HBD hle
      go_wp2_with fail
      refine ⟨⟨k + 1, by omega, by go_num, by rw [HT2.out], ?_, HLE.out, HBE.out⟩, by simp [intOf]; omega⟩
      rw [HT3.out, HRB.out]; exact HOE.out
    · obtain rfl : k = rs.length := by omega
      have HTT : Hid (rs.take rs.length = rs) := hide (List.take_length)
      go_wp2_with fail
      go_ret
      refine ⟨_, rfl, ?_, HB0.out.trans (HBK.out.mono (by omega))⟩
      rw [HBODY.out]
      have := HOK.out
      rw [HTT.out] at this
      exact this.mono (by omega)
end Go.Proofs.YtfdppggdgdnnaaaGreatDoor

namespace Go.Proofs.YtfdppggdgdnnaaaGreatDoor
open Go.RowKit

theorem record_info : (Tryz.prog.info? 81).map (fun i => (i.zero, i.size, i.bytes)) = some (some (.agg #[.int .i64 0, .slice none 0 0, .slice none 0 0]), 3, 56) := by kernel_rfl

/-- A record, and where its texts lie. -/
structure PRec where
  r : Rc.Rec
  Ak : Option Addr
  ck : Nat
  Av : Option Addr
  cv : Nat
def PRec.cells (q : PRec) : List Value := [.int .i64 q.r.t, .slice q.Ak q.r.k.length q.ck, .slice q.Av q.r.v.length q.cv]
theorem PRec.cells_len (q : PRec) : q.cells.length = 3 := rfl
theorem PRec.cells_one (q : PRec) : ∀ u ∈ q.cells, u.oneCell' = true := by
  intro u hu
  simp [PRec.cells] at hu
  rcases hu with rfl | rfl | rfl <;> rfl
theorem pcells_len (qs : List PRec) : (qs.flatMap PRec.cells).length = qs.length * 3 := by
  induction qs with
  | nil => rfl
  | cons q qs ih => simp [ih, PRec.cells_len]; omega

theorem Arg.grown {w w' : World} {row : Option Nat} {A : Option Addr} {cap : Nat} {l : List UInt8} (h : Arg w A cap l) (hg : w.grownBy w' row) (hne : l ≠ [] → ∀ b off, A = some ⟨b, off, none⟩ → some b ≠ row) : Arg w' A cap l := by
  refine ⟨h.le, h.max, h.nil, ?_⟩
  rcases h.reads with h0 | ⟨b, off, e, hlt, hc⟩
  · exact .inl h0
  · by_cases hl : l = []
    · exact .inl hl
    · exact .inr ⟨b, off, e, Nat.lt_of_lt_of_le hlt hg.size, fun k hk => hg.cell (hc k hk) (hne hl b off e)⟩

/-- A text that lies at or beyond lo, and not in v's row. -/
structure Txt (w : World) (lo : Nat) (v : Value) (A : Option Addr) (c : Nat) (l : List UInt8) : Prop where
  arg : Arg w A c l
  far : l ≠ [] → ∀ b off, A = some ⟨b, off, none⟩ → lo ≤ b ∧ v.ownBlock ≠ some b
theorem Txt.keep {w w' : World} {lo x : Nat} {v : Value} {A : Option Addr} {c : Nat} {l : List UInt8} (h : Txt w lo v A c l) (hg : w.grownBy w' (some x)) (hx : x < lo) : Txt w' lo v A c l :=
  ⟨h.arg.grown hg fun hl b off e => by have := (h.far hl b off e).1; intro e'; injection e' with e'; omega, h.far⟩
theorem Txt.lt {w : World} {lo : Nat} {v : Value} {A : Option Addr} {c : Nat} {l : List UInt8} (h : Txt w lo v A c l) (hl : l ≠ []) : ∀ b off, A = some ⟨b, off, none⟩ → b < w.heap.size := by
  intro b off e
  rcases h.arg.reads with h0 | ⟨b', off', e', hlt, _⟩
  · exact absurd h0 hl
  · rw [e] at e'
    injection e' with e'
    injection e' with e1
    omega
theorem Txt.app {w w' : World} {lo : Nat} {v v' : Value} {A : Option Addr} {c : Nat} {l : List UInt8} (h : Txt w lo v A c l) (hg : w.grownBy w' v.ownBlock) (hv : v'.ownBlock = v.ownBlock ∨ ∃ k, v'.ownBlock = some k ∧ w.heap.size ≤ k) : Txt w' lo v' A c l := by
  refine ⟨h.arg.grown hg fun hl b off e e' => (h.far hl b off e).2 e'.symm, fun hl b off e => ⟨(h.far hl b off e).1, ?_⟩⟩
  rcases hv with hv | ⟨k, hv, hk⟩
  · rw [hv]; exact (h.far hl b off e).2
  · rw [hv]; have := h.lt hl b off e; intro e'; injection e' with e'; omega

/-- The row of records. -/
structure Row (w : World) (lo : Nat) (v : Value) (qs : List PRec) : Prop where
  own : w.ownsRow lo 81 3 v qs.length (qs.flatMap PRec.cells)
  txt : ∀ q ∈ qs, Txt w lo v q.Ak q.ck q.r.k ∧ Txt w lo v q.Av q.cv q.r.v
theorem Row.nil (w : World) (lo : Nat) : Row w lo (.slice none 0 0) [] := ⟨World.ownsRow_nil w lo _ 3, fun q hq => by simp at hq⟩
theorem Row.keep {w w' : World} {lo x : Nat} {v : Value} {qs : List PRec} (h : Row w lo v qs) (hg : w.grownBy w' (some x)) (hx : x < lo) : Row w' lo v qs :=
  ⟨h.own.kept hg (.inr fun e => by have := (h.own.lt x e).1; omega), fun q hq => ⟨(h.txt q hq).1.keep hg hx, (h.txt q hq).2.keep hg hx⟩⟩
theorem grown_of_below {w w' : World} (h : Below w.heap.size w w') (row : Option Nat) : w.grownBy w' row := ⟨h.os, h.tape, h.output, h.size, fun k hk _ => h.block k hk⟩
theorem Txt.below {w w' : World} {lo : Nat} {v : Value} {A : Option Addr} {c : Nat} {l : List UInt8} (h : Txt w lo v A c l) (hb : Below w.heap.size w w') : Txt w' lo v A c l := ⟨h.arg.below hb (Nat.le_refl _), h.far⟩
theorem Row.below {w w' : World} {lo : Nat} {v : Value} {qs : List PRec} (h : Row w lo v qs) (hb : Below w.heap.size w w') : Row w' lo v qs :=
  ⟨h.own.kept (grown_of_below hb none) (by cases v.ownBlock <;> simp), fun q hq => ⟨(h.txt q hq).1.below hb, (h.txt q hq).2.below hb⟩⟩
theorem Row.app {w w' : World} {lo : Nat} {v v' : Value} {qs : List PRec} {q : PRec} (h : Row w lo v qs) (hk : Txt w lo v q.Ak q.ck q.r.k) (hq : Txt w lo v q.Av q.cv q.r.v) (hg : w.grownBy w' v.ownBlock) (hv : v'.ownBlock = v.ownBlock ∨ ∃ k, v'.ownBlock = some k ∧ w.heap.size ≤ k)
    (ho : w'.ownsRow lo 81 3 v' (qs.length + 1) (qs.flatMap PRec.cells ++ q.cells)) : Row w' lo v' (qs ++ [q]) := by
  refine ⟨?_, fun x hx => ?_⟩
  · rw [List.length_append, List.flatMap_append]
    simpa using ho
  · rcases List.mem_append.1 hx with hx | hx
    · exact ⟨(h.txt x hx).1.app hg hv, (h.txt x hx).2.app hg hv⟩
    · obtain rfl := List.mem_singleton.1 hx
      exact ⟨hk.app hg hv, hq.app hg hv⟩
theorem Row.val {w : World} {lo : Nat} {v : Value} {qs : List PRec} (h : Row w lo v qs) : ∃ A c, v = .slice A qs.length c ∧ qs.length ≤ c ∧ c ≤ 9223372036854775807 ∧ Recs w A (qs.map (·.r)) := by
  rcases h.own.2 with ⟨rfl, h0⟩ | ⟨g, cap, cur, rfl, hg, hh, hn, hm, hs, ht⟩
  · have : qs = [] := List.eq_nil_of_length_eq_zero h0
    subst this
    exact ⟨none, 0, rfl, Nat.le_refl _, by omega, .inl rfl⟩
  · refine ⟨_, _, rfl, hn, by simpa [maxLen] using hm, .inr ⟨g, 0, rfl, ?_, fun k hk => ?_⟩⟩
    · rcases Nat.lt_or_ge g w.heap.size with h | h
      · exact h
      · rw [Array.getElem?_eq_none h] at hh; cases hh
    · have hk' : k < qs.length := by simpa using hk
      have hq := h.txt _ (List.getElem_mem hk')
      have e : (qs.map (·.r)).getD k default = qs[k].r := by simp [List.getD, hk']
      have hcells : ∀ j u, j < 3 → (qs[k].cells)[j]? = some u → w.cell? ⟨g, 0 + k * 3 + j, none⟩ = some u := by
        intro j u hj hu
        have h1 : (qs.flatMap PRec.cells)[k * 3 + j]? = some u := by
          have e1 : qs.flatMap PRec.cells = (qs.take k).flatMap PRec.cells ++ (qs[k].cells ++ (qs.drop (k + 1)).flatMap PRec.cells) := by
            conv => lhs; rw [← List.take_append_drop k qs, List.drop_eq_getElem_cons hk']
            rw [List.flatMap_append, List.flatMap_cons]
          have e2 : ((qs.take k).flatMap PRec.cells).length = k * 3 := by rw [pcells_len, List.length_take]; congr 1; omega
          rw [e1, List.getElem?_append_right (by rw [e2]; omega), e2, Nat.add_sub_cancel_left, List.getElem?_append_left (by rw [PRec.cells_len]; exact hj)]
          exact hu
        have h2 := h.own.cells (g := g) rfl _ _ h1
        rw [show (⟨g, 0, none⟩ : Addr).add (k * 3 + j) = ⟨g, 0 + k * 3 + j, none⟩ from by rw [Addr.add_lit]; congr 1; omega] at h2
        exact h2
      rw [e]
      exact ⟨_, _, _, _, hcells 0 _ (by omega) rfl, hcells 1 _ (by omega) rfl, hcells 2 _ (by omega) rfl, hq.1.arg, hq.2.arg⟩
end Go.Proofs.YtfdppggdgdnnaaaGreatDoor

namespace Go.Proofs.YtfdppggdgdnnaaaGreatDoor
open Go.RowKit

theorem Row.one {w : World} {lo : Nat} {v : Value} {qs : List PRec} (h : Row w lo v qs) (h0 : qs = [] → v = .slice none 0 0) {k : Nat} (hk : v.ownBlock = some k) : ∃ A n c, w.cell? ⟨k, 1, none⟩ = some (.slice A n c) := by
  cases qs with
  | nil => rw [h0 rfl] at hk; simp [Value.ownBlock] at hk
  | cons q qs =>
    have := h.own.cells hk 1 (.slice q.Ak q.r.k.length q.ck) (by simp [PRec.cells])
    rw [show (⟨k, 0, none⟩ : Addr).add 1 = ⟨k, 1, none⟩ from by rw [Addr.add_lit]] at this
    exact ⟨_, _, _, this⟩

/-- The reader at g, the result at B2, the batch at B4, its row of records v. -/
structure UnSt (w0 w : World) (p : Nat → Addr) (B2 B4 g lo : Nat) (l : List UInt8) (s : Vi.Rs) (base ep : Int) (v : Value) (qs : List PRec) : Prop where
  rdr : Rdr w p g l s
  buf : ∃ A n c, w.cell? ⟨g, 0, none⟩ = some (.slice A n c) ∧ (l ≠ [] → ∀ b off, A = some ⟨b, off, none⟩ → b < lo)
  e0 : w.cell? ⟨B2, 0, none⟩ = some (.int .i64 0)
  e1 : w.cell? ⟨B2, 1, none⟩ = some (.int .i64 0)
  e2 : w.cell? ⟨B2, 2, none⟩ = some (.slice none 0 0)
  c0 : w.cell? ⟨B4, 0, none⟩ = some (.int .i64 base)
  c1 : w.cell? ⟨B4, 1, none⟩ = some (.int .i64 ep)
  c2 : w.cell? ⟨B4, 2, none⟩ = some v
  past : ∀ k, 3 ≤ k → w.cell? ⟨B4, k, none⟩ = none
  f2 : ∀ k, w.frozen? ⟨B2, k, none⟩ = false
  f4 : ∀ k, w.frozen? ⟨B4, k, none⟩ = false
  o2 : w0.heap.size ≤ B2
  o4 : B2 < B4
  og : B4 < g
  ol : g < lo
  os : lo ≤ w.heap.size
  row : Row w lo v qs
  rnil : qs = [] → v = .slice none 0 0
  below : Below w0.heap.size w0 w

theorem UnSt.size {w0 w : World} {p : Nat → Addr} {B2 B4 g lo : Nat} {l : List UInt8} {s : Vi.Rs} {base ep : Int} {v : Value} {qs : List PRec} (h : UnSt w0 w p B2 B4 g lo l s base ep v qs) : w0.heap.size ≤ w.heap.size ∧ B2 < w.heap.size ∧ B4 < w.heap.size ∧ g < w.heap.size := by
  have := h.o2; have := h.o4; have := h.og; have := h.ol; have := h.os
  omega
/-- The reader has gone on. -/
theorem UnSt.reader {w0 w w' : World} {p : Nat → Addr} {B2 B4 g lo : Nat} {l : List UInt8} {s s' : Vi.Rs} {base ep : Int} {v : Value} {qs : List PRec} (h : UnSt w0 w p B2 B4 g lo l s base ep v qs) (hr : Rdr w' p g l s') (hb : But g w w') : UnSt w0 w' p B2 B4 g lo l s' base ep v qs := by
  obtain ⟨hz, z2, z4, zg⟩ := h.size
  have n2 : B2 ≠ g := by have := h.o4; have := h.og; omega
  have n4 : B4 ≠ g := by have := h.og; omega
  obtain ⟨A, n, c, hA, hl⟩ := h.buf
  exact ⟨hr, ⟨A, n, c, (hb.first zg).trans hA, hl⟩, (hb.cell z2 n2).trans h.e0, (hb.cell z2 n2).trans h.e1, (hb.cell z2 n2).trans h.e2, (hb.cell z4 n4).trans h.c0, (hb.cell z4 n4).trans h.c1, (hb.cell z4 n4).trans h.c2, fun k hk => (hb.cell z4 n4).trans (h.past k hk),
    fun k => (hb.frozen z2 n2).trans (h.f2 k), fun k => (hb.frozen z4 n4).trans (h.f4 k), h.o2, h.o4, h.og, h.ol, Nat.le_trans h.os hb.size, h.row.keep hb.grown h.ol, h.rnil,
    h.below.grown hb.grown hz (fun k hk => by injection hk with hk; have := h.o2; have := h.o4; have := h.og; omega)⟩
theorem UnSt.quiet {w0 w w' : World} {p : Nat → Addr} {B2 B4 g lo : Nat} {l : List UInt8} {s : Vi.Rs} {base ep : Int} {v : Value} {qs : List PRec} (h : UnSt w0 w p B2 B4 g lo l s base ep v qs) (hb : Below w.heap.size w w') : UnSt w0 w' p B2 B4 g lo l s base ep v qs := h.reader (h.rdr.below hb) (But.of_below hb)
theorem UnSt.sents {w0 w : World} {p : Nat → Addr} {B2 B4 g lo : Nat} {l : List UInt8} {s : Vi.Rs} {base ep : Int} {v : Value} {qs : List PRec} (h : UnSt w0 w p B2 B4 g lo l s base ep v qs) {S : Nat → Prop} (hs : SentsOn S w0 p) : SentsOn S w p ∧ ∀ W, But g w W → SentsOn S W p := by
  obtain ⟨hz, z2, z4, zg⟩ := h.size
  refine ⟨hs.below h.below, fun W hb => hs.below (h.below.grown hb.grown hz (fun k hk => by injection hk with hk; have := h.o2; have := h.o4; have := h.og; omega))⟩
/-- A reader stays where another row is turned. -/
theorem Rdr.other {w w' : World} {p : Nat → Addr} {g : Nat} {l : List UInt8} {s : Vi.Rs} {row : Option Nat} (h : Rdr w p g l s) (hg : w.grownBy w' row) (hgg : some g ≠ row)
    (hbuf : l ≠ [] → ∀ A n c b off, w.cell? ⟨g, 0, none⟩ = some (.slice A n c) → A = some ⟨b, off, none⟩ → w.cell? ⟨b, off, none⟩ = some (.int .u8 (B (l.getD 0 0))) → some b ≠ row)
    (herr : ∀ a x, w.cell? ⟨a, 1, none⟩ = some (errV x) → some a ≠ row) : Rdr w' p g l s := by
  obtain ⟨A, cap, E, h0, h1, h2, ha, hne, he⟩ := h.ex
  refine ⟨Nat.lt_of_lt_of_le h.lt hg.size, fun k => (World.frozen?_of_block (a := ⟨g, k, none⟩) (hg.block g h.lt hgg)).trans (h.free k), h.ok, A, cap, E, hg.cell h0 hgg, hg.cell h1 hgg, hg.cell h2 hgg, ha.grown hg (fun hl b off e => ?_), hne, ?_⟩
  · refine hbuf hl A _ _ b off h0 e ?_
    rcases ha.reads with h0 | ⟨b', off', e', hlt, hc⟩
    · exact absurd h0 hl
    · rw [e] at e'
      injection e' with e'
      injection e' with e1 e2
      subst e1 e2
      exact hc 0 (List.length_pos_iff.2 hl)
  · rcases he with he | he | ⟨a, q, h1, h2, h3, h4, h5, h6, h7⟩
    · exact .inl he
    · exact .inr (.inl he)
    · exact .inr (.inr ⟨a, q, h1, h2, h3, h4, Nat.lt_of_lt_of_le h5 hg.size, hg.cell h6 (herr a _ h7), hg.cell h7 (herr a _ h7)⟩)
theorem UnSt.isSlice {w0 w : World} {p : Nat → Addr} {B2 B4 g lo : Nat} {l : List UInt8} {s : Vi.Rs} {base ep : Int} {v : Value} {qs : List PRec} (h : UnSt w0 w p B2 B4 g lo l s base ep v qs) : ∃ A c, v = .slice A qs.length c := by
  obtain ⟨A, c, e, _⟩ := h.row.val
  exact ⟨A, c, e⟩
theorem grown_set (w : World) (b k : Nat) (x : Value) : w.grownBy (w.setCell ⟨b, k, none⟩ x) (some b) :=
  ⟨rfl, rfl, rfl, by simp [World.setCell], fun i hi hne => Below.heap_setCell _ _ _ _ (by intro e; exact hne (by rw [e]))⟩
/-- A cell of the batch is set: the reader stays. -/
theorem UnSt.rdr_set {w0 w : World} {p : Nat → Addr} {B2 B4 g lo : Nat} {l : List UInt8} {s : Vi.Rs} {base ep : Int} {v : Value} {qs : List PRec} (h : UnSt w0 w p B2 B4 g lo l s base ep v qs) (k : Nat) (x : Value) : Rdr (w.setCell ⟨B4, k, none⟩ x) p g l s := by
  have og := h.og
  refine h.rdr.other (grown_set w B4 k x) (by simp; omega) (fun hl A n c b off h0 e hc => ?_) (fun a x hc => ?_)
  · intro e'
    injection e' with e'
    subst e'
    obtain ⟨Av, cv, rfl⟩ := h.isSlice
    rcases Nat.lt_or_ge off 3 with hk | hk
    · match off, hk with
      | 0, _ => rw [h.c0] at hc; simp at hc
      | 1, _ => rw [h.c1] at hc; simp at hc
      | 2, _ => rw [h.c2] at hc; simp at hc
    · rw [h.past off hk] at hc; simp at hc
  · intro e'
    injection e' with e'
    subst e'
    rw [h.c1] at hc; simp [errV] at hc
theorem UnSt.num0 {w0 w : World} {p : Nat → Addr} {B2 B4 g lo : Nat} {l : List UInt8} {s : Vi.Rs} {base ep : Int} {v : Value} {qs : List PRec} (h : UnSt w0 w p B2 B4 g lo l s base ep v qs) (x : Int) : UnSt w0 (w.setCell ⟨B4, 0, none⟩ (.int .i64 x)) p B2 B4 g lo l s x ep v qs := by
  obtain ⟨hz, z2, z4, zg⟩ := h.size
  have hb := grown_set w B4 0 (.int .i64 x)
  have o2 := h.o2
  have o4 := h.o4
  have og := h.og
  have ol := h.ol
  obtain ⟨A, n, c, hA, hl⟩ := h.buf
  have ho : ∀ b k, b ≠ B4 → (w.setCell ⟨B4, 0, none⟩ (.int .i64 x)).cell? ⟨b, k, none⟩ = w.cell? ⟨b, k, none⟩ := fun b k hne => World.cell?_setCell_other _ _ _ _ (by simp)
  have h4 : ∀ k, k ≠ 0 → (w.setCell ⟨B4, 0, none⟩ (.int .i64 x)).cell? ⟨B4, k, none⟩ = w.cell? ⟨B4, k, none⟩ := fun k hk => World.cell?_setCell_other _ _ _ _ (by simp)
  exact ⟨h.rdr_set 0 _, ⟨A, n, c, (ho g 0 (by omega)).trans hA, hl⟩, (ho B2 0 (by omega)).trans h.e0, (ho B2 1 (by omega)).trans h.e1, (ho B2 2 (by omega)).trans h.e2, World.cell?_setCell_same _ _ _ h.c0, (h4 1 (by omega)).trans h.c1, (h4 2 (by omega)).trans h.c2, fun k hk => (h4 k (by omega)).trans (h.past k hk),
    fun k => (World.frozen?_setCell _ _ _ _).trans (h.f2 k), fun k => (World.frozen?_setCell _ _ _ _).trans (h.f4 k), o2, o4, og, ol, Nat.le_trans h.os hb.size, h.row.keep hb (by omega), h.rnil, h.below.grown hb hz (fun k hk => by injection hk with hk; omega)⟩
theorem UnSt.num1 {w0 w : World} {p : Nat → Addr} {B2 B4 g lo : Nat} {l : List UInt8} {s : Vi.Rs} {base ep : Int} {v : Value} {qs : List PRec} (h : UnSt w0 w p B2 B4 g lo l s base ep v qs) (x : Int) : UnSt w0 (w.setCell ⟨B4, 1, none⟩ (.int .i64 x)) p B2 B4 g lo l s base x v qs := by
  obtain ⟨hz, z2, z4, zg⟩ := h.size
  have hb := grown_set w B4 1 (.int .i64 x)
  have o2 := h.o2
  have o4 := h.o4
  have og := h.og
  have ol := h.ol
  obtain ⟨A, n, c, hA, hl⟩ := h.buf
  have ho : ∀ b k, b ≠ B4 → (w.setCell ⟨B4, 1, none⟩ (.int .i64 x)).cell? ⟨b, k, none⟩ = w.cell? ⟨b, k, none⟩ := fun b k hne => World.cell?_setCell_other _ _ _ _ (by simp)
  have h4 : ∀ k, k ≠ 1 → (w.setCell ⟨B4, 1, none⟩ (.int .i64 x)).cell? ⟨B4, k, none⟩ = w.cell? ⟨B4, k, none⟩ := fun k hk => World.cell?_setCell_other _ _ _ _ (by simp)
  exact ⟨h.rdr_set 1 _, ⟨A, n, c, (ho g 0 (by omega)).trans hA, hl⟩, (ho B2 0 (by omega)).trans h.e0, (ho B2 1 (by omega)).trans h.e1, (ho B2 2 (by omega)).trans h.e2, (h4 0 (by omega)).trans h.c0, World.cell?_setCell_same _ _ _ h.c1, (h4 2 (by omega)).trans h.c2, fun k hk => (h4 k (by omega)).trans (h.past k hk),
    fun k => (World.frozen?_setCell _ _ _ _).trans (h.f2 k), fun k => (World.frozen?_setCell _ _ _ _).trans (h.f4 k), o2, o4, og, ol, Nat.le_trans h.os hb.size, h.row.keep hb (by omega), h.rnil, h.below.grown hb hz (fun k hk => by injection hk with hk; omega)⟩
/-- A record is put behind the row, and the row set. -/
theorem UnSt.push {w0 w w1 w2 : World} {p : Nat → Addr} {B2 B4 g lo : Nat} {l : List UInt8} {s : Vi.Rs} {base ep : Int} {v v' : Value} {qs : List PRec} {q : PRec} (h : UnSt w0 w p B2 B4 g lo l s base ep v qs) (hk : Txt w lo v q.Ak q.ck q.r.k) (hq : Txt w lo v q.Av q.cv q.r.v)
    (hw1 : Below w.heap.size w w1) (hg : w1.grownBy w2 v.ownBlock) (hv : v'.ownBlock = v.ownBlock ∨ v'.ownBlock = some w1.heap.size) (ho : w2.ownsRow lo 81 3 v' (qs.length + 1) (qs.flatMap PRec.cells ++ q.cells)) :
    UnSt w0 (w2.setCell ⟨B4, 2, none⟩ v') p B2 B4 g lo l s base ep v' (qs ++ [q]) := by
  have h1 := h.quiet hw1
  obtain ⟨hz, z2, z4, zg⟩ := h1.size
  have o2 := h.o2
  have o4 := h.o4
  have og := h.og
  have ol := h.ol
  have hvl : ∀ k, v.ownBlock = some k → lo ≤ k := fun k hk => (h.row.own.lt k hk).1
  have hne : ∀ k, k < lo → some k ≠ v.ownBlock := fun k hk e => by have := hvl k e.symm; omega
  obtain ⟨A, n, c, hA, hl⟩ := h1.buf
  have hrdr2 : Rdr w2 p g l s := by
    refine h1.rdr.other hg (hne g ol) (fun hl' A' n' c' b off h0 e hc => ?_) (fun a x hc e => ?_)
    · rw [hA] at h0
      injection h0 with h0
      injection h0 with h0
      subst h0
      exact hne b (hl hl' b off e)
    · obtain ⟨A1, n1, c1, h1c⟩ := h1.row.one h1.rnil e.symm
      rw [hc] at h1c; simp [errV] at h1c
  have hrow := (h1.row).app (hk.below hw1) (hq.below hw1) hg (hv.imp id fun e => ⟨_, e, Nat.le_refl _⟩) ho
  have hst : UnSt w0 w2 p B2 B4 g lo l s base ep v qs → True := fun _ => trivial
  have cc : ∀ b k x, b < lo → w1.cell? ⟨b, k, none⟩ = some x → w2.cell? ⟨b, k, none⟩ = some x := fun b k x hb hc => hg.cell hc (hne b hb)
  have ff : ∀ b k, b < lo → b < w1.heap.size → w2.frozen? ⟨b, k, none⟩ = w1.frozen? ⟨b, k, none⟩ := fun b k hb hbs => World.frozen?_of_block (a := ⟨b, k, none⟩) (hg.block b hbs (hne b hb))
  have pp : ∀ k, 3 ≤ k → w2.cell? ⟨B4, k, none⟩ = none := fun k hk => (World.cell?_of_block (a := ⟨B4, k, none⟩) (hg.block B4 z4 (hne B4 (by omega)))).trans (h1.past k hk)
  clear hst
  have d1 := cc B4 1 _ (by omega) h1.c1
  have d2 := cc B4 2 _ (by omega) h1.c2
  have d0 := cc B4 0 _ (by omega) h1.c0
  have hb := grown_set w2 B4 2 v'
  have hoo : ∀ b k, b ≠ B4 → (w2.setCell ⟨B4, 2, none⟩ v').cell? ⟨b, k, none⟩ = w2.cell? ⟨b, k, none⟩ := fun b k hne => World.cell?_setCell_other _ _ _ _ (by simp)
  have h4 : ∀ k, k ≠ 2 → (w2.setCell ⟨B4, 2, none⟩ v').cell? ⟨B4, k, none⟩ = w2.cell? ⟨B4, k, none⟩ := fun k hk => World.cell?_setCell_other _ _ _ _ (by simp)
  have hbel : Below w0.heap.size w0 w2 := h1.below.grown hg hz (fun k hk => by have := hvl k hk; omega)
  have hs2 := hg.size
  obtain ⟨Av, cv, hvs⟩ := h.isSlice
  refine ⟨?_, ⟨A, n, c, (hoo g 0 (by omega)).trans (cc g 0 _ ol hA), hl⟩, (hoo B2 0 (by omega)).trans (cc B2 0 _ (by omega) h1.e0), (hoo B2 1 (by omega)).trans (cc B2 1 _ (by omega) h1.e1), (hoo B2 2 (by omega)).trans (cc B2 2 _ (by omega) h1.e2), (h4 0 (by omega)).trans d0, (h4 1 (by omega)).trans d1, World.cell?_setCell_same _ _ _ d2, fun k hk => (h4 k (by omega)).trans (pp k hk),
    fun k => (World.frozen?_setCell _ _ _ _).trans ((ff B2 k (by omega) z2).trans (h1.f2 k)), fun k => (World.frozen?_setCell _ _ _ _).trans ((ff B4 k (by omega) z4).trans (h1.f4 k)), o2, o4, og, ol, ?_, hrow.keep hb (by omega), fun e => by simp at e, hbel.grown hb (Nat.le_trans hz hs2) (fun k hk => by injection hk with hk; omega)⟩
  · refine hrdr2.other hb (by simp; omega) (fun hl' A' n' c' b off h0 e hc => ?_) (fun a x hc => ?_)
    · intro e'
      injection e' with e'
      subst e'
      rcases Nat.lt_or_ge off 3 with hk3 | hk3
      · match off, hk3 with
        | 0, _ => rw [d0] at hc; simp at hc
        | 1, _ => rw [d1] at hc; simp at hc
        | 2, _ => rw [d2, hvs] at hc; simp at hc
      · rw [pp off hk3] at hc; simp at hc
    · intro e'
      injection e' with e'
      subst e'
      rw [d1] at hc; simp [errV] at hc
  · have := h1.os; have := hb.size; omega
theorem UnSt.mid {w0 w w1 w2 : World} {p : Nat → Addr} {B2 B4 g lo : Nat} {l : List UInt8} {s : Vi.Rs} {base ep : Int} {v : Value} {qs : List PRec} (h : UnSt w0 w p B2 B4 g lo l s base ep v qs) (hw1 : Below w.heap.size w w1) (hg : w1.grownBy w2 v.ownBlock) : w2.cell? ⟨B4, 2, none⟩ = some v ∧ w2.frozen? ⟨B4, 2, none⟩ = false := by
  have h1 := h.quiet hw1
  obtain ⟨hz, z2, z4, zg⟩ := h1.size
  have hne : some B4 ≠ v.ownBlock := fun e => by have := (h.row.own.lt B4 e.symm).1; have := h.og; have := h.ol; omega
  exact ⟨hg.cell h1.c2 hne, (World.frozen?_of_block (a := ⟨B4, 2, none⟩) (hg.block B4 z4 hne)).trans (h1.f4 2)⟩
theorem UnSt.fin {w0 w : World} {p : Nat → Addr} {B2 B4 g lo : Nat} {l : List UInt8} {s : Vi.Rs} {base ep : Int} {v : Value} {qs : List PRec} (h : UnSt w0 w p B2 B4 g lo l s base ep v qs) (x0 x1 x2 : Value) :
    Below w0.heap.size w0 (((w.setCell ⟨B2, 0, none⟩ x0).setCell ⟨B2, 1, none⟩ x1).setCell ⟨B2, 2, none⟩ x2) ∧ Row (((w.setCell ⟨B2, 0, none⟩ x0).setCell ⟨B2, 1, none⟩ x1).setCell ⟨B2, 2, none⟩ x2) lo v qs := by
  obtain ⟨hz, z2, z4, zg⟩ := h.size
  have o2 := h.o2
  have o4 := h.o4
  have og := h.og
  have ol := h.ol
  have g1 := grown_set w B2 0 x0
  have g2 := grown_set (w.setCell ⟨B2, 0, none⟩ x0) B2 1 x1
  have g3 := grown_set ((w.setCell ⟨B2, 0, none⟩ x0).setCell ⟨B2, 1, none⟩ x1) B2 2 x2
  have hr : ∀ k, some B2 = some k → w0.heap.size ≤ k := fun k e => by injection e with e; omega
  have s1 := g1.size
  have s2 := g2.size
  exact ⟨((h.below.grown g1 hz hr).grown g2 (by omega) hr).grown g3 (by omega) hr, ((h.row.keep g1 (by omega)).keep g2 (by omega)).keep g3 (by omega)⟩
theorem UnSt.fincells {w0 w : World} {p : Nat → Addr} {B2 B4 g lo : Nat} {l : List UInt8} {s : Vi.Rs} {base ep : Int} {v : Value} {qs : List PRec} (h : UnSt w0 w p B2 B4 g lo l s base ep v qs) (x0 x1 x2 : Value) :
    (((w.setCell ⟨B2, 0, none⟩ x0).setCell ⟨B2, 1, none⟩ x1).setCell ⟨B2, 2, none⟩ x2).cell? ⟨B2, 0, none⟩ = some x0 ∧ (((w.setCell ⟨B2, 0, none⟩ x0).setCell ⟨B2, 1, none⟩ x1).setCell ⟨B2, 2, none⟩ x2).cell? ⟨B2, 1, none⟩ = some x1 ∧ (((w.setCell ⟨B2, 0, none⟩ x0).setCell ⟨B2, 1, none⟩ x1).setCell ⟨B2, 2, none⟩ x2).cell? ⟨B2, 2, none⟩ = some x2 := by
  have e0 := h.e0
  have e1 := h.e1
  have e2 := h.e2
  refine ⟨?_, ?_, ?_⟩
  · rw [World.cell?_setCell_other _ _ _ _ (by simp), World.cell?_setCell_other _ _ _ _ (by simp)]; exact World.cell?_setCell_same _ _ _ e0
  · rw [World.cell?_setCell_other _ _ _ _ (by simp)]
    exact World.cell?_setCell_same _ _ _ ((World.cell?_setCell_other _ _ _ _ (by simp)).trans e1)
  · exact World.cell?_setCell_same _ _ _ (((World.cell?_setCell_other _ _ _ _ (by simp)).trans (World.cell?_setCell_other _ _ _ _ (by simp))).trans e2)
theorem cells_three (w : World) (a b c : Value) (t : TypeId) : ∀ j u, ([a, b, c] : List Value)[j]? = some u → (w.alloc (.cells #[a, b, c] t)).cell? ((⟨w.heap.size, 0, none⟩ : Addr).add j) = some u := by
  intro j u hu
  rw [show (⟨w.heap.size, 0, none⟩ : Addr).add j = ⟨w.heap.size, j, none⟩ from by rw [Addr.add_lit]; simp, World.cell?_alloc_mark]
  simpa using hu

/-- From lo on nothing old has turned. -/
structure Above (lo : Nat) (w W : World) : Prop where
  size : w.heap.size ≤ W.heap.size
  block : ∀ k, lo ≤ k → k < w.heap.size → W.heap[k]? = w.heap[k]?
theorem Above.refl (lo : Nat) (w : World) : Above lo w w := ⟨Nat.le_refl _, fun _ _ _ => rfl⟩
theorem Above.trans {lo : Nat} {a b c : World} (h : Above lo a b) (k : Above lo b c) : Above lo a c := ⟨Nat.le_trans h.size k.size, fun i hi hl => (k.block i hi (Nat.lt_of_lt_of_le hl h.size)).trans (h.block i hi hl)⟩
theorem Above.of_below {lo : Nat} {w W : World} (h : Below w.heap.size w W) : Above lo w W := ⟨h.size, fun k _ hl => h.block k hl⟩
theorem Above.of_grown {lo x : Nat} {w W : World} (h : w.grownBy W (some x)) (hx : x < lo) : Above lo w W := ⟨h.size, fun k hk hl => h.block k hl (by simp; omega)⟩
theorem Above.mono {lo lo' : Nat} {w W : World} (h : Above lo w W) (hl : lo ≤ lo') : Above lo' w W := ⟨h.size, fun k hk h' => h.block k (Nat.le_trans hl hk) h'⟩
theorem Txt.above {w w' : World} {lo : Nat} {v : Value} {A : Option Addr} {c : Nat} {l : List UInt8} (h : Txt w lo v A c l) (hg : Above lo w w') : Txt w' lo v A c l := by
  refine ⟨⟨h.arg.le, h.arg.max, h.arg.nil, ?_⟩, h.far⟩
  rcases h.arg.reads with h0 | ⟨b, off, e, hlt, hc⟩
  · exact .inl h0
  · by_cases hl : l = []
    · exact .inl hl
    · exact .inr ⟨b, off, e, Nat.lt_of_lt_of_le hlt hg.size, fun k hk => (World.cell?_of_block (a := ⟨b, off + k, none⟩) (hg.block b (h.far hl b off e).1 hlt)).trans (hc k hk)⟩
theorem Row.above {w w' : World} {lo : Nat} {v : Value} {qs : List PRec} (h : Row w lo v qs) (hg : Above lo w w') : Row w' lo v qs := by
  refine ⟨⟨h.own.1, ?_⟩, fun q hq => ⟨(h.txt q hq).1.above hg, (h.txt q hq).2.above hg⟩⟩
  rcases h.own.2 with h0 | ⟨g, cap, cur, hv, hgl, hh, r⟩
  · exact .inl h0
  · refine .inr ⟨g, cap, cur, hv, hgl, ?_, r⟩
    rw [hg.block g hgl (Array.getElem?_eq_some_iff.1 hh).1]; exact hh
/-- A batch that lies in new memory. -/
def NewBat (lo : Nat) (w : World) (A : Option Addr) (c : Nat) (b : Rc.Bat) : Prop := ∀ W, Above lo w W → IsBat W A c b
theorem NewBat.isBat {lo : Nat} {w : World} {A : Option Addr} {c : Nat} {b : Rc.Bat} (h : NewBat lo w A c b) : IsBat w A c b := h w (Above.refl _ _)
theorem NewBat.above {lo : Nat} {w W : World} {A : Option Addr} {c : Nat} {b : Rc.Bat} (h : NewBat lo w A c b) (hw : Above lo w W) : NewBat lo W A c b := fun W' h' => h W' (hw.trans h')
theorem NewBat.mono {lo lo' : Nat} {w : World} {A : Option Addr} {c : Nat} {b : Rc.Bat} (h : NewBat lo w A c b) (hl : lo' ≤ lo) : NewBat lo' w A c b := fun W hw => h W (hw.mono hl)
theorem Row.newBat {w : World} {lo : Nat} {A : Option Addr} {n c : Nat} {qs : List PRec} (h : Row w lo (.slice A n c) qs) (base ep : Int) (h1 : -9223372036854775808 ≤ base ∧ base ≤ 9223372036854775807) (h2 : -9223372036854775808 ≤ ep ∧ ep ≤ 9223372036854775807) : NewBat lo w A c ⟨base, ep, qs.map (·.r)⟩ := by
  intro W hw
  obtain ⟨A', c', e, hl, hm, hr⟩ := (h.above hw).val
  injection e with e1 e2 e3
  subst e1 e3
  exact ⟨by simpa using hl, hm, hr, h1, h2⟩
end Go.Proofs.YtfdppggdgdnnaaaGreatDoor

namespace Go.Proofs.YtfdppggdgdnnaaaGreatDoor
open Go.RowKit Crc

def Rc.sumN (l : List UInt8) : Nat := (sum l).toNat
theorem Rc.sumN_lt (l : List UInt8) : Rc.sumN l < 4294967296 := (sum l).isLt
def Rc.bytes (b : Rc.Bat) : List UInt8 := (Rc.le 4 (Rc.body b).length ++ Rc.le 4 (Rc.sumN (Rc.body b))) ++ Rc.body b
theorem Rc.bytes_len (b : Rc.Bat) : (Rc.bytes b).length = 8 + (Rc.body b).length := by
  unfold Rc.bytes
  simp only [List.length_append, Rc.le_len]
theorem sum_one (A : Option Addr) (c : Nat) (l : List UInt8) : U (sum (flat [⟨A, c, l⟩])) = ((Rc.sumN l : Nat) : Int) := by
  unfold U Rc.sumN flat
  simp

set_option maxRecDepth 100000 in
set_option maxHeartbeats 1000000 in
theorem batBytes_bad (b : Rc.Bat) (A : Option Addr) (cap n : Nat) (w : World) (p : Nat → Addr) (h : IsBat w A cap b) (hs : Sents2 w p) (hn : b.recs.length = n) (hb : Rc.bad b ≠ 0) :
    Calls Tryz.prog 73 #[batV b.base b.epoch A n cap] w fun e w' => e = .returned (.tuple #[.slice none 0 0, errV (p (Rc.bad b - 101))]) ∧ Below w.heap.size w w' := by
  have hb0 : Below w.heap.size w (w.alloc (.cells #[.int .i64 b.base, .int .i64 b.epoch, .slice A n cap] 41)) := balloc (Below.refl _ _) _
  have HV := hide (valid_any b A cap n (w.alloc (.cells #[.int .i64 b.base, .int .i64 b.epoch, .slice A n cap] 41)) p (h.below hb0 (Nat.le_refl _)) (hs.below hb0) hn)
  have HB0 := hide hb0
  have hE : errOf p (Rc.bad b) = .iface 258 (.pointer (some (p (Rc.bad b - 101)))) := by unfold errOf; rw [if_neg hb]; rfl
  rw [hE] at HV
  have k1 := neq_nil 258 (.pointer (some (p (Rc.bad b - 101))))
  unfold errV
  clear h hs hb0 hE
  go_enter Tryz.func73, Tryz.ntmps73
  go_wp2_with fail
  refine HV.out.mono ?_
  rintro e w1 ⟨rfl, hb1⟩
  have HB1 := hide (HB0.out.trans (hb1.mono HB0.out.size))
  clear hb1
  go_wp2_with fail
  go_ret2
  exact ⟨rfl, HB1.out⟩

set_option maxRecDepth 100000 in
set_option maxHeartbeats 2000000 in
theorem batBytes_any (b : Rc.Bat) (A : Option Addr) (cap n : Nat) (w : World) (p : Nat → Addr) (h : IsBat w A cap b) (hs : Sents2 w p) (ht : Tabs w) (hn : b.recs.length = n) (hg : Rc.Good b) :
    Calls Tryz.prog 73 #[batV b.base b.epoch A n cap] w fun e w' => ∃ v, e = .returned (.tuple #[v, .nilIface]) ∧ Own w' w.heap.size v (Rc.bytes b) ∧ Below w.heap.size w w' := by
  obtain ⟨W0, hW0⟩ : ∃ W0, W0 = w.alloc (.cells #[.int .i64 b.base, .int .i64 b.epoch, .slice A n cap] 41) := ⟨_, rfl⟩
  have hb0 : Below w.heap.size w W0 := hW0 ▸ balloc (Below.refl _ _) _
  have hz0 : W0.heap.size = w.heap.size + 1 := by rw [hW0]; simp
  obtain ⟨m0, m1, m2⟩ := made3 w (.int .i64 b.base) (.int .i64 b.epoch) (.slice A n cap) 41
  rw [← hW0] at m0 m1 m2
  have HV := hide (valid_any b A cap n W0 p (h.below hb0 (Nat.le_refl _)) (hs.below hb0) hn)
  rw [(Rc.bad_good b).2 hg, show errOf p 0 = .nilIface from rfl] at HV
  have HB0 := hide hb0
  obtain ⟨hbl1, hbl2⟩ := Rc.body_len b hg
  have hn1 := hg.n1
  have HT := hide ht
  have HL := hide (fun W (hw : Below W0.heap.size W0 W) => lay_any b A cap n W ((h.below hb0 (Nat.le_refl _)).below hw (Nat.le_refl _)) hg hn)
  have HBY : Hid (Rc.bytes b = (Rc.le 4 (Rc.body b).length ++ Rc.le 4 (Rc.sumN (Rc.body b))) ++ Rc.body b) := hide rfl
  have HSL := hide (Rc.sumN_lt (Rc.body b))
  clear h hs hb0 ht hg
  go_enter Tryz.func73, Tryz.ntmps73
  go_upto_region 1 with fail
  rw [← hW0]
  clear hW0
  go_wp2_with fail
  refine HV.out.mono ?_
  rintro e w1 ⟨rfl, hb1⟩
  have HB1 := hide hb1
  have d0 := (hb1.cell (p := ⟨w.heap.size, 0, none⟩) (by show w.heap.size < _; omega)).trans m0
  have d1 := (hb1.cell (p := ⟨w.heap.size, 1, none⟩) (by show w.heap.size < _; omega)).trans m1
  have d2 := (hb1.cell (p := ⟨w.heap.size, 2, none⟩) (by show w.heap.size < _; omega)).trans m2
  have hz1 := hb1.size
  clear hb1 m0 m1 m2 HV
  go_wp2_with fail
  refine (HL.out _ HB1.out).mono ?_
  rintro e w2 ⟨v2, rfl, ho2, hb2⟩
  have HB2 := hide (HB1.out.trans (hb2.mono hz1))
  have hz2 := hb2.size
  have HO2 := hide (ho2.mono hz1)
  clear d0 d1 d2 ho2 hb2 HL HB1
  obtain ⟨A2, c2, rfl, ha2⟩ := HO2.out.arg
  have HA2 := hide ha2
  clear ha2
  generalize Rc.body b = bd at *
  have HF3 := hide (fix_any w2.heap.size (.slice none 0 0) [] bd.length 4 w2 (by omega) (by omega) (by simp) (Own.nil _ _) (Nat.le_refl _))
  go_upto_region 6 with fail
  refine HF3.out.mono ?_
  rintro e w3 ⟨v3, rfl, ho3, hg3⟩
  have hb3 := hg3.below (Own.nil w2 w2.heap.size) (Nat.le_refl _) (Nat.le_refl _)
  have HO3 := hide ho3
  have HB3 := hide hb3
  have hz3 := hb3.size
  have HA3 := hide (HA2.out.below hb3 (Nat.le_refl _))
  have HT3 := hide (HT.out.below (HB0.out.trans ((HB2.out.trans (hb3.mono (by omega))).mono HB0.out.size)) (Nat.le_refl _))
  clear ho3 hg3 hb3 HF3
  go_upto_region 6 with fail
  have HOF := hide (of_at (some ⟨w3.heap.size, 0, none⟩) 1 1 [⟨A2, c2, bd⟩] (w3.alloc (.cells #[.slice A2 bd.length c2] 32)) rfl (by omega) (readsAll_slice _ _ _ _ _ _ _ rfl rfl HA3.out.reads (by omega)) (HT3.out.below (balloc (Below.refl _ _) _) (Nat.le_refl _)))
  rw [sum_one] at HOF
  have hba : Below w3.heap.size w3 (w3.alloc (.cells #[.slice A2 bd.length c2] 32)) := balloc (Below.refl _ _) _
  go_wp2_with fail
  refine HOF.out.mono ?_
  rintro e w4 ⟨rfl, q, rfl⟩
  have hb4 := below_drewN hba q
  have HB4 := hide (HB3.out.trans (hb4.mono hz3))
  have HA4 := hide (HA3.out.below hb4 (Nat.le_refl _))
  have HO4 := hide (HO3.out.below hb4 (Nat.le_refl _))
  have hz4 := hb4.size
  clear hba hb4 HOF HA3 HO3 HB3 HT3
  generalize (w3.alloc (.cells #[.slice A2 bd.length c2] 32)).drewN q = w4 at *
  generalize hsn : Rc.sumN bd = sn at *
  have HF5 := hide (fix_any w2.heap.size v3 ([] ++ Rc.le 4 bd.length) sn 4 w4 (by have := HSL.out; omega) (by omega) (by simp [Rc.le_len]) HO4.out (by omega))
  have hsl := HSL.out
  go_wp2_with fail
  refine HF5.out.mono ?_
  rintro e w5 ⟨v5, rfl, ho5, hg5⟩
  have hb5 := hg5.below HO4.out (Nat.le_refl _) (by omega)
  have HB5 := hide (HB4.out.trans hb5)
  have HA5 := hide (HA2.out.below HB5.out (Nat.le_refl _))
  have HO5 := hide ho5
  have hz5 := hb5.size
  have hl5 : (([] ++ Rc.le 4 bd.length) ++ Rc.le 4 sn).length = 8 := by simp [Rc.le_len]
  clear ho5 hg5 hb5 HF5 hsl HA4 HO4 HB4
  go_wp2_with (at_builtin; refine wpList_app (w := w5) rfl (.tmp 24) (.tmp 25) rfl w2.heap.size _ (([] ++ Rc.le 4 bd.length) ++ Rc.le 4 sn) bd rfl HO5.out A2 bd.length c2 rfl rfl HA5.out.reads (by omega) (by omega) ?_; intro v6 w6 hown6 hg6 hv6)
  go_ret2
  refine ⟨_, rfl, ?_, HB0.out.trans ((HB2.out.trans ((HB5.out.grown hg6 (by omega) (fun g hg => (HO5.out.lt g hg).1)).mono (by omega))).mono (by omega))⟩
  rw [HBY.out]
  exact hown6.mono (by omega)

set_option maxRecDepth 100000 in
set_option maxHeartbeats 1000000 in
theorem size_any_bat (b : Rc.Bat) (A : Option Addr) (cap n : Nat) (w : World) (p : Nat → Addr) (h : IsBat w A cap b) (hs : Sents2 w p) (hn : b.recs.length = n) :
    Calls Tryz.prog 65 #[batV b.base b.epoch A n cap] w fun e w' => e = .returned (.int .i64 ((if Rc.bad b = 0 then (Rc.bytes b).length else 0 : Nat) : Int)) ∧ Below w.heap.size w w' := by
  obtain ⟨W0, hW0⟩ : ∃ W0, W0 = w.alloc (.cells #[.int .i64 b.base, .int .i64 b.epoch, .slice A n cap] 41) := ⟨_, rfl⟩
  have hb0 : Below w.heap.size w W0 := hW0 ▸ balloc (Below.refl _ _) _
  have hz0 : W0.heap.size = w.heap.size + 1 := by rw [hW0]; simp
  obtain ⟨m0, m1, m2⟩ := made3 w (.int .i64 b.base) (.int .i64 b.epoch) (.slice A n cap) 41
  rw [← hW0] at m0 m1 m2
  have HV := hide (valid_any b A cap n W0 p (h.below hb0 (Nat.le_refl _)) (hs.below hb0) hn)
  have HB0 := hide hb0
  have HH := hide (h.below hb0 (Nat.le_refl _))
  clear h hs hb0
  by_cases hbad : Rc.bad b = 0
  · have hg := (Rc.bad_good b).1 hbad
    rw [hbad, show errOf p 0 = .nilIface from rfl] at HV
    have HL := hide (fun W (hw : Below W0.heap.size W0 W) => lay_any b A cap n W (HH.out.below hw (Nat.le_refl _)) hg hn)
    obtain ⟨hbl1, hbl2⟩ := Rc.body_len b hg
    have hn1 := hg.n1
    have HLN : Hid ((if Rc.bad b = 0 then (Rc.bytes b).length else 0 : Nat) = 8 + (Rc.body b).length) := by show _ = _; rw [if_pos hbad, Rc.bytes_len]
    rw [HLN.out]
    clear hg hbad HH HLN
    generalize Rc.body b = bd at *
    go_enter Tryz.func65, Tryz.ntmps65
    go_upto_region 1 with fail
    rw [← hW0]
    clear hW0
    go_wp2_with fail
    refine HV.out.mono ?_
    rintro e w1 ⟨rfl, hb1⟩
    have HB1 := hide hb1
    have d0 := (hb1.cell (p := ⟨w.heap.size, 0, none⟩) (by show w.heap.size < _; omega)).trans m0
    have d1 := (hb1.cell (p := ⟨w.heap.size, 1, none⟩) (by show w.heap.size < _; omega)).trans m1
    have d2 := (hb1.cell (p := ⟨w.heap.size, 2, none⟩) (by show w.heap.size < _; omega)).trans m2
    have hz1 := hb1.size
    clear hb1 m0 m1 m2 HV
    go_wp2_with fail
    refine (HL.out _ HB1.out).mono ?_
    rintro e w2 ⟨v2, rfl, ho2, hb2⟩
    have HB2 := hide (HB0.out.trans ((HB1.out.trans (hb2.mono hz1)).mono (by omega)))
    obtain ⟨A2, c2, rfl, ha2⟩ := ho2.arg
    clear ho2 hb2 ha2 HL HB1 d0 d1 d2
    go_wp2_with fail
    go_ret
    refine ⟨?_, HB2.out⟩
    congr 2
  · have hE : errOf p (Rc.bad b) = .iface 258 (.pointer (some (p (Rc.bad b - 101)))) := by unfold errOf; rw [if_neg hbad]; rfl
    rw [hE] at HV
    have k1 := neq_nil 258 (.pointer (some (p (Rc.bad b - 101))))
    have HLN : Hid ((if Rc.bad b = 0 then (Rc.bytes b).length else 0 : Nat) = 0) := by show _ = _; rw [if_neg hbad]
    rw [HLN.out]
    clear hE hbad HH HLN
    go_enter Tryz.func65, Tryz.ntmps65
    go_upto_region 1 with fail
    rw [← hW0]
    clear hW0
    go_wp2_with fail
    refine HV.out.mono ?_
    rintro e w1 ⟨rfl, hb1⟩
    have HB1 := hide (HB0.out.trans (hb1.mono HB0.out.size))
    clear hb1
    go_wp2_with fail
    go_ret
    exact ⟨rfl, HB1.out⟩

def Rc.one : Rc.Bat := ⟨0, 0, [⟨0, [], []⟩]⟩
theorem Rc.one_good : Rc.Good Rc.one := ⟨by decide, by decide, by decide, by decide, by decide, by decide, fun r hr => by
  simp [Rc.one] at hr; subst hr; simp⟩
theorem Rc.one_len : (Rc.bytes Rc.one).length = 26 := by
  have hz : Vi.put (Vi.zz 0) = [0] := by
    rw [show Vi.zz 0 = 0 from rfl, Vi.put_lt (by omega)]; rfl
  have hp : Vi.put 0 = [0] := by rw [Vi.put_lt (by omega)]; rfl
  rw [Rc.bytes_len]
  simp [Rc.body, Rc.hd_len, Rc.one, Rc.t0, Rc.recsB, Rc.recB, Rc.eT, hz, hp]

theorem IsBat.one (w : World) (t : TypeId) : IsBat (w.alloc (.cells #[.int .i64 0, .slice none 0 0, .slice none 0 0] t)) (some ⟨w.heap.size, 0, none⟩) 1 Rc.one := by
  refine ⟨by decide, by omega, .inr ⟨_, _, rfl, by simp, fun k hk => ?_⟩, by decide, by decide⟩
  obtain rfl : k = 0 := by simp [Rc.one] at hk; exact hk
  exact ⟨none, 0, none, 0, by simp [Rc.one], by simp [Rc.one], by simp [Rc.one], ⟨Nat.le_refl _, by omega, fun _ => rfl, .inl rfl⟩, ⟨Nat.le_refl _, by omega, fun _ => rfl, .inl rfl⟩⟩

end Go.Proofs.YtfdppggdgdnnaaaGreatDoor

namespace Go.Proofs.YtfdppggdgdnnaaaGreatDoor
open Go.RowKit

/-- What unlay gives. -/
def Unlaid (l : List UInt8) (w : World) (e : Ending) (w' : World) : Prop :=
  (∃ val, e = .returned (.tuple #[val, .bool (Rc.okay l)]) ∧ (Rc.okay l = true → ∃ A c, val = batV (Rc.parse l).base (Rc.parse l).epoch A (Rc.parse l).recs.length c ∧ NewBat w.heap.size w' A c (Rc.parse l)) ∧ (Rc.okay l = false → val = batV 0 0 none 0 0)) ∧ Below w.heap.size w w'

theorem Unlaid.no {l : List UInt8} {w w' : World} (h : Rc.okay l = false) (hb : Below w.heap.size w w') : Unlaid l w (.returned (.tuple #[batV 0 0 none 0 0, .bool false])) w' :=
  ⟨⟨batV 0 0 none 0 0, by rw [h], fun h' => absurd (h.symm.trans h') (by decide), fun _ => rfl⟩, hb⟩
theorem Unlaid.yes {l : List UInt8} {w w' : World} (h : Rc.okay l = true) {b : Rc.Bat} (hp : Rc.parse l = b) {A : Option Addr} {c n : Nat} (hn : b.recs.length = n) (hi : NewBat w.heap.size w' A c b) (hb : Below w.heap.size w w') : Unlaid l w (.returned (.tuple #[batV b.base b.epoch A n c, .bool true])) w' := by
  subst hp hn
  exact ⟨⟨batV (Rc.parse l).base (Rc.parse l).epoch A (Rc.parse l).recs.length c, by rw [h], fun _ => ⟨A, c, rfl, hi⟩, fun h' => absurd (h.symm.trans h') (by decide)⟩, hb⟩

theorem UnSt.start {w0 w1 : World} {p : Nat → Addr} {g : Nat} {l : List UInt8} (t : TypeId) (hw : w1 = (w0.alloc (.cells #[.int .i64 0, .int .i64 0, .slice none 0 0] t)).alloc (.cells #[.int .i64 0, .int .i64 0, .slice none 0 0] t)) {w : World} (hb : Below w1.heap.size w1 w) (hg : w1.heap.size ≤ g) (hr : Rdr w p g l start) :
    UnSt w0 w p w0.heap.size (w0.heap.size + 1) g w.heap.size l start 0 0 (.slice none 0 0) [] := by
  obtain ⟨A, cap, E, h0, h1, h2, ha, hne, he⟩ := hr.ex
  have z : w1.heap.size = w0.heap.size + 2 := by rw [hw]; simp
  have a0 : ∀ k, w1.cell? ⟨w0.heap.size, k, none⟩ = (#[.int .i64 0, .int .i64 0, .slice none 0 0] : Array Value)[k]? := fun k => by
    rw [hw, World.cell?_alloc_lt _ _ _ (by simp), World.cell?_alloc_mark]
  have a1 : ∀ k, w1.cell? ⟨w0.heap.size + 1, k, none⟩ = (#[.int .i64 0, .int .i64 0, .slice none 0 0] : Array Value)[k]? := fun k => by
    rw [hw, show w0.heap.size + 1 = (w0.alloc (.cells #[.int .i64 0, .int .i64 0, .slice none 0 0] t)).heap.size from by simp, World.cell?_alloc_mark]
  have f0 : ∀ k, w1.frozen? ⟨w0.heap.size, k, none⟩ = false := fun k => by rw [hw]; simp [go_sem]
  have f1 : ∀ k, w1.frozen? ⟨w0.heap.size + 1, k, none⟩ = false := fun k => by rw [hw]; simp [go_sem]
  have hbuf : l ≠ [] → ∀ b off, A = some ⟨b, off, none⟩ → b < w.heap.size := fun hl b off e => by
    rcases ha.reads with h0 | ⟨b', off', e', hlt, _⟩
    · exact absurd h0 hl
    · rw [e] at e'
      injection e' with e'
      injection e' with e1
      omega
  have b2 : w0.heap.size < w1.heap.size := by omega
  have b4 : w0.heap.size + 1 < w1.heap.size := by omega
  have c2 : ∀ k, w.cell? ⟨w0.heap.size, k, none⟩ = (#[.int .i64 0, .int .i64 0, .slice none 0 0] : Array Value)[k]? := fun k => (hb.cell (p := ⟨w0.heap.size, k, none⟩) b2).trans (a0 k)
  have c4 : ∀ k, w.cell? ⟨w0.heap.size + 1, k, none⟩ = (#[.int .i64 0, .int .i64 0, .slice none 0 0] : Array Value)[k]? := fun k => (hb.cell (p := ⟨w0.heap.size + 1, k, none⟩) b4).trans (a1 k)
  refine ⟨hr, ⟨A, _, _, h0, hbuf⟩, c2 0, c2 1, c2 2, c4 0, c4 1, c4 2, fun k hk => ?_, fun k => (hb.frozen (p := ⟨w0.heap.size, k, none⟩) b2).trans (f0 k), fun k => (hb.frozen (p := ⟨w0.heap.size + 1, k, none⟩) b4).trans (f1 k), Nat.le_refl _, by omega, by omega, hr.lt, Nat.le_refl _, Row.nil _ _, fun _ => rfl, ?_⟩
  · rw [c4 k]
    simp
    omega
  · have hb1 : Below w0.heap.size w0 w1 := hw ▸ balloc (balloc (Below.refl _ _) _) _
    exact hb1.trans (hb.mono (by omega))

theorem row_succ {w : World} {base : Nat} {e : TypeId} {size n : Nat} {v : Value} {xs : List Value} (h : w.ownsRow base e size v (n + 1) xs) : ∃ g cap, v = .slice (some ⟨g, 0, none⟩) (n + 1) cap := by
  rcases h.2 with ⟨_, h0⟩ | ⟨g, cap, _, e, _⟩
  · omega
  · exact ⟨g, cap, e⟩

set_option maxRecDepth 100000 in
set_option maxHeartbeats 2000000 in
theorem unlay_any (A : Option Addr) (cap n : Nat) (l : List UInt8) (w : World) (p : Nat → Addr) (hn : l.length = n) (hl : n ≤ 70000) (ha : Arg w A cap l) (hs : Sents5 w p) :
    Calls Tryz.prog 137 #[.slice A n cap] w (Unlaid l w) := by
  subst hn
  obtain ⟨w1, hw1⟩ : ∃ w1, w1 = (w.alloc (.cells #[.int .i64 0, .int .i64 0, .slice none 0 0] 41)).alloc (.cells #[.int .i64 0, .int .i64 0, .slice none 0 0] 41) := ⟨_, rfl⟩
  have hb1 : Below w.heap.size w w1 := hw1 ▸ balloc (balloc (Below.refl _ _) _) _
  have HNW := hide (newReader_any A cap l.length l w1 p rfl (by omega) (ha.below hb1 (Nat.le_refl _)))
  have HS := hide hs
  clear ha hs
  go_enter Tryz.func137, Tryz.ntmps137
  go_upto_region 2 with fail
  rw [← hw1]
  have HW1 := hide hw1
  clear hw1
  go_upto_region 3 with fail
  refine HNW.out.mono ?_
  rintro e w2 ⟨g, rfl, hg, hr2, hb2⟩
  have hst := UnSt.start 41 HW1.out hb2 hg hr2
  have HST := hide hst
  clear hg hr2 hb2 hb1 HNW HW1 hst
  have hsn := HST.out.sents HS.out
  have h8 : (Rc.head1 l).1 < 18446744073709551616 := Rc.fixed_lt l start 8
  have hF1 : Calls Tryz.prog _ _ _ _ := fixed_any w2 p g l start 8 (by omega) (by omega) HST.out.rdr hsn.1 (by omega)
  change Calls Tryz.prog _ _ _ (fun e w' => e = .returned (.int .u64 (Rc.head1 l).1) ∧ Rdr w' p g l (Rc.head1 l).2 ∧ But g w2 w') at hF1
  have HF1 := hide hF1
  have hwr := Rc.toI_wrap _ h8
  have HU1 := hide h8
  clear hF1 hsn h8
  generalize hh1 : Rc.head1 l = h1 at *
  obtain ⟨u1, s1⟩ := h1
  simp only at HF1 hwr HU1
  go_upto_region 4 with fail
  refine HF1.out.mono ?_
  rintro e w3 ⟨rfl, hr3, hb3⟩
  have hst3 := HST.out.reader hr3 hb3
  have q0 := hst3.c0
  have q1 := hst3.f4 0
  have HST3 := hide (hst3.num0 (Rc.toI u1))
  clear hr3 hb3 hst3 HST HF1
  go_upto_region 4 with fail
  generalize w3.setCell ⟨w.heap.size + 1, 0, none⟩ (.int .i64 (Rc.toI u1)) = w4 at *
  have hsn := HST3.out.sents HS.out
  have h4 : (Rc.head2 l).1 < 4294967296 := Rc.fixed_lt l (Rc.head1 l).2 4
  have hF2 : Calls Tryz.prog _ _ _ _ := fixed_any w4 p g l s1 4 (by omega) (by omega) HST3.out.rdr hsn.1 (by omega)
  rw [show Vi.fixed l s1 4 = Rc.head2 l from by unfold Rc.head2; rw [hh1]] at hF2
  have HF2 := hide hF2
  clear hF2 hsn
  generalize hh2 : Rc.head2 l = h2 at *
  obtain ⟨u2, s2⟩ := h2
  simp only at HF2 h4
  go_upto_region 5 with fail
  refine HF2.out.mono ?_
  rintro e w5 ⟨rfl, hr5, hb5⟩
  have hst5 := HST3.out.reader hr5 hb5
  have q2 := hst5.c1
  have q3 := hst5.f4 1
  have HST5 := hide (hst5.num1 (u2 : Int))
  clear hr5 hb5 hst5 HST3 HF2
  go_upto_region 5 with fail
  generalize w5.setCell ⟨w.heap.size + 1, 1, none⟩ (.int .i64 (u2 : Int)) = w6 at *
  have hsn := HST5.out.sents HS.out
  have h2b : (Rc.head3 l).1 < 65536 := Rc.fixed_lt l (Rc.head2 l).2 2
  have hF3 : Calls Tryz.prog _ _ _ _ := fixed_any w6 p g l s2 2 (by omega) (by omega) HST5.out.rdr hsn.1 (by omega)
  rw [show Vi.fixed l s2 2 = Rc.head3 l from by unfold Rc.head3; rw [hh2]] at hF3
  have HF3 := hide hF3
  clear hF3 hsn q0 q1 q2 q3
  generalize hh3 : Rc.head3 l = h3 at *
  obtain ⟨u3, s3⟩ := h3
  simp only at HF3 h2b
  go_upto_region 6 with fail
  refine HF3.out.mono ?_
  rintro e w7 ⟨rfl, hr7, hb7⟩
  have HST7 := hide (HST5.out.reader hr7 hb7)
  clear hr7 hb7 HST5 HF3
  have hsn := HST7.out.sents HS.out
  have hF4 : Calls Tryz.prog _ _ _ _ := int_any w7 p g l s3 (-1099511627776) 1099511627776 HST7.out.rdr hsn.1 (by omega)
  rw [show Vi.int l s3 (-1099511627776) 1099511627776 = Rc.head4 l from by unfold Rc.head4; rw [hh3]] at hF4
  have hi4 : -1099511627776 ≤ (Rc.head4 l).1 ∧ (Rc.head4 l).1 ≤ 1099511627776 := Rc.int_bd l (Rc.head3 l).2 1099511627776 (by omega)
  have HF4 := hide hF4
  clear hF4 hsn
  generalize hh4 : Rc.head4 l = h4' at *
  obtain ⟨t4, s4⟩ := h4'
  simp only at HF4 hi4
  go_upto_region 6 with fail
  go_upto_region 7 with fail
  refine HF4.out.mono ?_
  rintro e w8 ⟨rfl, hr8, hb8⟩
  have HST8 := hide (HST7.out.reader hr8 hb8)
  clear hr8 hb8 HST7 HF4
  have HT : Hid (Rc.tail l = Rc.loop l u3 u3 s4 t4 0 []) := by
    show _ = _
    unfold Rc.tail
    rw [hh3, hh4]
  have HPA : Hid ((Rc.parse l).base = Rc.toI u1 ∧ (Rc.parse l).epoch = u2 ∧ (Rc.parse l).recs = (Rc.tail l).1) := by
    show _ ∧ _
    unfold Rc.parse
    rw [hh1, hh2]
    exact ⟨rfl, rfl, rfl⟩
  have HLL := hide hl
  clear hh1 hh2 hh3 hh4 hwr
  go_upto_block 0 with fail
  go_cut [7, 8] (fun _ _ wx => ∃ v qs s, UnSt w wx p w.heap.size (w.heap.size + 1) g w2.heap.size l s (Rc.toI u1) u2 v qs ∧ (qs.map (·.r), s) = Rc.tail l)
  case first =>
    go_wp2_with fail
    go_loopg [7, 8] u3 (fun gh tv sv wr => ∃ (s : Vi.Rs) (ti st : Int) (v : Value) (qs : List PRec), tv = .int .i64 ti ∧ sv = .int .i64 st ∧ (st = 0 ∨ st = 2199023255552) ∧ UnSt w wr p w.heap.size (w.heap.size + 1) g w2.heap.size l s (Rc.toI u1) u2 v qs ∧ gh = u3 - qs.length ∧ qs.length ≤ u3 ∧
      Rc.loop l u3 (u3 - qs.length) s ti st (qs.map (·.r)) = Rc.tail l ∧ -1099511627776 - 2199023255552 * (qs.length : Int) ≤ ti ∧ ti ≤ 1099511627776 + 2199023255552 * (qs.length : Int))
    case atStart => exact ⟨s4, t4, 0, _, [], rfl, rfl, .inl rfl, HST8.out, rfl, Nat.zero_le _, HT.out.symm, by simp; omega, by simp; omega⟩
    case round =>
      obtain ⟨s, ti, st, v, qs, rfl, rfl, hst01, hst, rfl, hqn, hloop, hti1, hti2⟩ := hrel
      have HSTK := hide hst
      have HLP := hide hloop
      have c2 := hst.c2
      have f2 := hst.f4 2
      obtain ⟨Av, cv, rfl⟩ := hst.isSlice
      have HER := hide (rerr_any wr p g l s hst.rdr)
      have hsn := hst.sents HS.out
      have HSN := hide hsn
      by_cases hlt : qs.length < u3
      · by_cases hc : s.code = 0
        · have hlo := Rc.loop_on l u3 s ti st (qs.map (·.r)) (by simpa using hlt) hc
          have HLO := hide hlo
          clear hst hloop hlo hsn
          go_upto_region 9 with fail
          refine HER.out.mono ?_
          rintro e w9 ⟨⟨E, rfl, hE⟩, rfl⟩
          obtain rfl := hE.good hc
          clear hE HER
          go_upto_region 9 with fail
          have hx1 : (Rc.step1 l s ti st) = (⟨ti + (Vi.int l s (-st) st).1, (Vi.text l (Vi.int l s (-st) st).2 64).1, (Vi.text l (Vi.text l (Vi.int l s (-st) st).2 64).2 512).1⟩, (Vi.text l (Vi.text l (Vi.int l s (-st) st).2 64).2 512).2) := rfl
          have hbd := Rc.int_bd l s st (by omega)
          have HI := hide (int_any wr p g l s (-st) st HSTK.out.rdr HSN.out.1 (by have := HLL.out; omega))
          have HX1 := hide hx1
          clear hx1
          generalize Vi.int l s (-st) st = I at *
          obtain ⟨d, si⟩ := I
          simp only at HI hbd HX1
          go_upto_region 10 with fail
          refine HI.out.mono ?_
          rintro e wa ⟨rfl, hra, hba⟩
          have HSA := hide (HSTK.out.reader hra hba)
          clear hra hba HI HSTK
          have hsn := HSA.out.sents HS.out
          have HTK := hide (rbytes_any wa p g l si 64 (by omega) (by omega) HSA.out.rdr hsn.1 (fun W hb => (hsn.2 W hb).mono fun j hj => by omega) (by have := HLL.out; omega))
          clear hsn
          rw [show ((64 : Int)).toNat = 64 from rfl] at HTK
          generalize Vi.text l si 64 = TK at *
          obtain ⟨ky, sk⟩ := TK
          simp only at HTK HX1
          go_upto_region 10 with fail
          go_upto_region 11 with fail
          refine HTK.out.mono ?_
          rintro e wb ⟨vk, rfl, ⟨Ak, ck, rfl, hak, hfk⟩, hrb, hbb⟩
          have hown := HSA.out.row.own.lt
          have hosa := HSA.out.os
          have HSB := hide (HSA.out.reader hrb hbb)
          have hwab := hbb.size
          have htk : Txt wb w2.heap.size (.slice Av qs.length cv) Ak ck ky := ⟨hak, fun _ b off e => ⟨by have := (hfk b off e).1; omega, fun e' => by have := (hown b e').2; have := (hfk b off e).1; omega⟩⟩
          have HTXK := hide htk
          clear hrb hbb HTK HSA hak hfk htk hown
          have hsn := HSB.out.sents HS.out
          have HTV := hide (rbytes_any wb p g l sk 512 (by omega) (by omega) HSB.out.rdr hsn.1 (fun W hb => (hsn.2 W hb).mono fun j hj => by omega) (by have := HLL.out; omega))
          clear hsn
          rw [show ((512 : Int)).toNat = 512 from rfl] at HTV
          generalize Vi.text l sk 512 = TV at *
          obtain ⟨vl, sv⟩ := TV
          simp only at HTV HX1
          go_upto_region 12 with fail
          refine HTV.out.mono ?_
          rintro e wc ⟨vv, rfl, ⟨Ax, cx, rfl, hax, hfx⟩, hrc, hbc⟩
          have hown := HSB.out.row.own.lt
          have hosb := HSB.out.os
          have HSC := hide (HSB.out.reader hrc hbc)
          have hwbc := hbc.size
          have htv : Txt wc w2.heap.size (.slice Av qs.length cv) Ax cx vl := ⟨hax, fun _ b off e => ⟨by have := (hfx b off e).1; omega, fun e' => by have := (hown b e').2; have := (hfx b off e).1; omega⟩⟩
          have HTXV := hide htv
          have HTXK2 := hide (HTXK.out.keep hbc.grown HSB.out.ol)
          clear hrc hbc HTV HSB hax hfx htv hown HTXK
          go_upto_region 12 with fail
          obtain ⟨i0, hi, hz, hs1, hby⟩ := info_parts record_info
          have hbal : Below wc.heap.size wc (wc.alloc (.cells #[.int .i64 (ti + d), .slice Ak ky.length ck, .slice Ax vl.length cx] 81)) := balloc (Below.refl _ _) _
          have HBAL := hide hbal
          have hosc := HSC.out.os
          have y0 := HSC.out.c2
          have y1 := HSC.out.f4 2
          clear hbal c2 f2
          go_wp2_with (at_builtin; refine wpList_append_own_at (w := wc.alloc _) rfl (.tmp 48) (.tmp 53) 39 rfl w2.heap.size 81 i0 _ 3 56 Tryz.underlying39 hi hz hs1 hby rfl (by omega) (.slice Av qs.length cv) qs.length (qs.flatMap PRec.cells) rfl (HSC.out.row.own.alloc _) ⟨wc.heap.size, 0, none⟩ 1 1 (PRec.cells ⟨⟨ti + d, ky, vl⟩, Ak, ck, Ax, cx⟩) rfl rfl (cells_three _ _ _ _ _) (PRec.cells_one _) (by simp only [maxLen]; omega) (by omega) (by simp; omega) ?_; intro v5 wd hown5 hg5 hnil5 hat5; obtain ⟨g5, c5, rfl⟩ := row_succ hown5; have ymid := HSC.out.mid HBAL.out hg5; have y2 := ymid.1; have y3 := ymid.2; have HPUSH := hide (HSC.out.push (q := ⟨⟨ti + d, ky, vl⟩, Ak, ck, Ax, cx⟩) HTXK2.out HTXV.out HBAL.out hg5 hat5 hown5); clear hown5 hg5 hnil5 hat5 ymid)
          go_roundg (u3 - (qs.length + 1))
          case measure => omega
          case rel =>
            refine ⟨sv, ti + d, 2199023255552, _, _, rfl, rfl, .inr rfl, HPUSH.out, by simp, by simp; omega, ?_, by simp; omega, by simp; omega⟩
            have h := HLO.out
            rw [HX1.out] at h
            have h2 := HLP.out
            simp only [List.length_map, List.length_append, List.length_cons, List.length_nil] at h h2
            rw [List.map_append, List.length_append, ← h2, h]
            rfl
        · obtain ⟨A1, c1', E', z0, z1, z2, za, zn, zE⟩ := hst.rdr.ex
          obtain ⟨ue, xe, rfl⟩ := zE.bad hc
          have HLE := hide (Rc.loop_end l u3 s ti st (qs.map (·.r)) (fun h => hc h.2))
          clear hst hloop hsn z0 z1 z2 za zn zE HSN
          go_upto_region 9 with fail
          refine HER.out.mono ?_
          rintro e w9 ⟨⟨E, rfl, hE⟩, rfl⟩
          obtain ⟨ue, xe, rfl⟩ := hE.bad hc
          have k1 := eqn_nil ue xe
          clear hE HER
          go_wp2_with fail
          go_meet
          refine ⟨_, qs, s, HSTK.out, ?_⟩
          have h := HLE.out
          have h2 := HLP.out
          simp only [List.length_map] at h
          rw [← h2, h]
      · have HLE := hide (Rc.loop_end l u3 s ti st (qs.map (·.r)) (fun h => hlt (by simpa using h.1)))
        clear hst hloop hsn HSN HER
        go_wp2_with fail
        go_meet
        refine ⟨_, qs, s, HSTK.out, ?_⟩
        have h := HLE.out
        have h2 := HLP.out
        simp only [List.length_map] at h
        rw [← h2, h]
  case rest =>
    obtain ⟨v, qs, s, hst, htl⟩ := hcut
    have HSTK := hide hst
    have HER := hide (rerr_any wc p g l s hst.rdr)
    have HLF := hide (rleft_any wc p g l s hst.rdr (by omega))
    have c0 := hst.c0
    have c1 := hst.c1
    have c2 := hst.c2
    have e0 := hst.e0
    have e1 := hst.e1
    have e2 := hst.e2
    have f20 := hst.f2 0
    have f21 := hst.f2 1
    have f22 := hst.f2 2
    obtain ⟨Av, cv, rfl, hqc, hqm, hrecs⟩ := hst.row.val
    have hfin := hst.fin (.int .i64 0) (.int .i64 0) (.slice none 0 0)
    have HFB := hide hfin.1
    have HOK : Hid (Rc.okay l = decide (s.code = 0 ∧ l.length ≤ s.at_ ∧ Rc.bad (Rc.parse l) = 0)) := by
      show _ = _
      unfold Rc.okay
      rw [← htl]
    have HPR : Hid (Rc.parse l = ⟨Rc.toI u1, u2, qs.map (·.r)⟩) := by
      show _ = _
      have h := HPA.out
      rw [← htl] at h
      obtain ⟨h1, h2, h3⟩ := h
      cases hp : Rc.parse l with
      | mk b e r => rw [hp] at h1 h2 h3; simp only at h1 h2 h3; rw [h1, h2, h3]
    clear hst htl hfin
    by_cases hc : s.code = 0
    · go_wp2_with fail
      refine HER.out.mono ?_
      rintro e w9 ⟨⟨E, rfl, hE⟩, rfl⟩
      obtain rfl := hE.good hc
      clear hE HER
      by_cases hle : s.at_ < l.length
      · have HNO : Hid (Rc.okay l = false) := by show _ = _; rw [HOK.out]; simp; omega
        have hlf : (0 : Int) < ((l.length - s.at_ : Nat) : Int) := by omega
        obtain ⟨s0, s1', s2'⟩ := HSTK.out.fincells (.int .i64 0) (.int .i64 0) (.slice none 0 0)
        go_wp2_with fail
        refine HLF.out.mono ?_
        rintro e w10 ⟨rfl, q, rfl⟩
        have hq := HSTK.out.quiet (below_drewN (Below.refl _ _) q)
        have HQ := hide hq
        have e0q := hq.e0
        have e1q := hq.e1
        have e2q := hq.e2
        have f20q := hq.f2 0
        have f21q := hq.f2 1
        have f22q := hq.f2 2
        clear hq HLF s0 s1' s2'
        generalize wc.drewN q = wq at *
        go_wp2_with fail
        obtain ⟨s0, s1', s2'⟩ := HQ.out.fincells (.int .i64 0) (.int .i64 0) (.slice none 0 0)
        have hfin := HQ.out.fin (.int .i64 0) (.int .i64 0) (.slice none 0 0)
        refine bodyPost_ret (v := .tuple #[batV 0 0 none 0 0, .bool false]) (by simp [results, Tryz.results137, go_sem, s0, s1', s2']) rfl (Unlaid.no HNO.out hfin.1)
      · have hlf : ((l.length - s.at_ : Nat) : Int) = 0 := by omega
        rw [hlf] at HLF
        go_wp2_with fail
        refine HLF.out.mono ?_
        rintro e w10 ⟨rfl, q, rfl⟩
        have hq := HSTK.out.quiet (below_drewN (Below.refl _ _) q)
        have HQ := hide hq
        have c0q := hq.c0
        have c1q := hq.c1
        have c2q := hq.c2
        have hrq := hq.row.val
        obtain ⟨Ar, cr, hsl, hrc1, hrc2, hrecsq⟩ := hrq
        injection hsl with hs1 hs2 hs3
        subst hs1 hs3
        have hib : IsBat (wc.drewN q) Av cv ⟨Rc.toI u1, u2, qs.map (·.r)⟩ := ⟨by simpa using hqc, hqm, hrecsq, Rc.toI_bd u1 (by have := HU1.out; omega), by simp; omega⟩
        have HV := hide (valid_any ⟨Rc.toI u1, u2, qs.map (·.r)⟩ Av cv qs.length (wc.drewN q) p hib (hq.sents HS.out).1.two (by simp))
        simp only at HV
        clear hq HLF hrecsq hib
        generalize wc.drewN q = wq at *
        by_cases hbad : Rc.bad ⟨Rc.toI u1, u2, qs.map (·.r)⟩ = 0
        · rw [hbad, show errOf p 0 = .nilIface from rfl] at HV
          have HYES : Hid (Rc.okay l = true) := by
            show _ = _
            rw [HOK.out, HPR.out]
            exact decide_eq_true ⟨hc, by omega, hbad⟩
          go_wp2_with fail
          refine HV.out.mono ?_
          rintro e w11 ⟨rfl, hb11⟩
          have hx := HQ.out.quiet hb11
          have HX := hide hx
          have x0 := hx.c0
          have x1 := hx.c1
          have x2 := hx.c2
          have e0q := hx.e0
          have e1q := hx.e1
          have e2q := hx.e2
          have f20q := hx.f2 0
          have f21q := hx.f2 1
          have f22q := hx.f2 2
          clear hx hb11 HV HQ c0q c1q c2q
          go_wp2_with fail
          obtain ⟨s0, s1', s2'⟩ := HX.out.fincells (.int .i64 (Rc.toI u1)) (.int .i64 u2) (.slice Av qs.length cv)
          have hfin := HX.out.fin (.int .i64 (Rc.toI u1)) (.int .i64 u2) (.slice Av qs.length cv)
          refine bodyPost_ret (v := .tuple #[batV (Rc.toI u1) u2 Av qs.length cv, .bool true]) (by simp [results, Tryz.results137, go_sem, s0, s1', s2']) rfl (Unlaid.yes HYES.out HPR.out (by simp) ((hfin.2.newBat (Rc.toI u1) u2 (Rc.toI_bd u1 (by have := HU1.out; omega)) (by simp; omega)).mono (by have := HX.out.o2; have := HX.out.o4; have := HX.out.og; have := HX.out.ol; omega)) hfin.1)
        · have hE : errOf p (Rc.bad ⟨Rc.toI u1, u2, qs.map (·.r)⟩) = .iface 258 (.pointer (some (p (Rc.bad ⟨Rc.toI u1, u2, qs.map (·.r)⟩ - 101)))) := by unfold errOf; rw [if_neg hbad]; rfl
          rw [hE] at HV
          have HNO : Hid (Rc.okay l = false) := by
            show _ = _
            rw [HOK.out, HPR.out]
            exact decide_eq_false (fun h => hbad h.2.2)
          generalize (.pointer (some (p (Rc.bad ⟨Rc.toI u1, u2, qs.map (·.r)⟩ - 101))) : Value) = xe at *
          have k1 := neq_nil 258 xe
          clear hE hbad
          go_wp2_with fail
          refine HV.out.mono ?_
          rintro e w11 ⟨rfl, hb11⟩
          have hx := HQ.out.quiet hb11
          have HX := hide hx
          have e0q := hx.e0
          have e1q := hx.e1
          have e2q := hx.e2
          have f20q := hx.f2 0
          have f21q := hx.f2 1
          have f22q := hx.f2 2
          clear hx hb11 HV HQ c0q c1q c2q
          go_wp2_with fail
          obtain ⟨s0, s1', s2'⟩ := HX.out.fincells (.int .i64 0) (.int .i64 0) (.slice none 0 0)
          have hfin := HX.out.fin (.int .i64 0) (.int .i64 0) (.slice none 0 0)
          refine bodyPost_ret (v := .tuple #[batV 0 0 none 0 0, .bool false]) (by simp [results, Tryz.results137, go_sem, s0, s1', s2']) rfl (Unlaid.no HNO.out hfin.1)
    · have HNO : Hid (Rc.okay l = false) := by show _ = _; rw [HOK.out]; simp [hc]
      go_wp2_with fail
      refine HER.out.mono ?_
      rintro e w9 ⟨⟨E, rfl, hE⟩, rfl⟩
      obtain ⟨ue, xe, rfl⟩ := hE.bad hc
      have k1 := neq_nil ue xe
      clear hE HER
      go_wp2_with fail
      obtain ⟨s0, s1, s2⟩ := HSTK.out.fincells (.int .i64 0) (.int .i64 0) (.slice none 0 0)
      refine bodyPost_ret (v := .tuple #[batV 0 0 none 0 0, .bool false]) (by simp [results, Tryz.results137, go_sem, s0, s1, s2]) rfl (Unlaid.no HNO.out HFB.out)
end Go.Proofs.YtfdppggdgdnnaaaGreatDoor

namespace Go.Proofs.YtfdppggdgdnnaaaGreatDoor
open Go.RowKit Crc

namespace Rc
def rn (l : List UInt8) : Nat := Vi.little (l.take 4)
def rsum (l : List UInt8) : Nat := Vi.little ((l.drop 4).take 4)
def rbody (l : List UInt8) : List UInt8 := (l.drop 8).take (rn l)
/-- Why there is no batch at l's beginning. -/
def rcode (l : List UInt8) : Nat :=
  if l.length < 8 then 101
  else if 65536 < rn l then 104
  else if l.length - 8 < rn l then 101
  else if sumN (rbody l) ≠ rsum l then 102
  else if okay (rbody l) = true then 0 else 103
def rsize (l : List UInt8) : Nat := if rcode l = 0 then 8 + rn l else 0
theorem rn_lt (l : List UInt8) : rn l < 4294967296 := by
  have h := little_lt (l.take 4)
  have h2 : (l.take 4).length ≤ 4 := by rw [List.length_take]; omega
  refine Nat.lt_of_lt_of_le h (Nat.le_trans (Nat.pow_le_pow_right (by omega) (show 8 * (l.take 4).length ≤ 32 by omega)) (by decide))
theorem rsum_lt (l : List UInt8) : rsum l < 4294967296 := by
  have h := little_lt ((l.drop 4).take 4)
  have h2 : ((l.drop 4).take 4).length ≤ 4 := by rw [List.length_take]; omega
  refine Nat.lt_of_lt_of_le h (Nat.le_trans (Nat.pow_le_pow_right (by omega) (show 8 * ((l.drop 4).take 4).length ≤ 32 by omega)) (by decide))
end Rc
/-- What Read gives. -/
def ReadPost (p : Nat → Addr) (l : List UInt8) (w : World) (e : Ending) (w' : World) : Prop :=
  (∃ val, e = .returned (.tuple #[val, .int .i64 (Rc.rsize l : Nat), errOf p (Rc.rcode l)]) ∧ (Rc.rcode l = 0 → ∃ A c, val = batV (Rc.parse (Rc.rbody l)).base (Rc.parse (Rc.rbody l)).epoch A (Rc.parse (Rc.rbody l)).recs.length c ∧ NewBat w.heap.size w' A c (Rc.parse (Rc.rbody l))) ∧ (Rc.rcode l ≠ 0 → val = batV 0 0 none 0 0)) ∧ Below w.heap.size w w'
theorem ReadPost.no {p : Nat → Addr} {l : List UInt8} {w w' : World} {c : Nat} (h : Rc.rcode l = c) (h0 : c ≠ 0) (hb : Below w.heap.size w w') : ReadPost p l w (.returned (.tuple #[batV 0 0 none 0 0, .int .i64 0, errV (p (c - 101))])) w' := by
  have hs : Rc.rsize l = 0 := by unfold Rc.rsize; rw [if_neg (by omega)]
  have he : errOf p (Rc.rcode l) = errV (p (c - 101)) := by unfold errOf; rw [h, if_neg h0]
  refine ⟨⟨batV 0 0 none 0 0, by rw [hs, he]; rfl, fun h' => absurd (h.symm.trans h') h0, fun _ => rfl⟩, hb⟩

theorem ReadPost.yes {p : Nat → Addr} {l : List UInt8} {w w' : World} {A : Option Addr} {c : Nat} (h : Rc.rcode l = 0) (hi : NewBat w.heap.size w' A c (Rc.parse (Rc.rbody l))) (hb : Below w.heap.size w w') : ReadPost p l w (.returned (.tuple #[batV (Rc.parse (Rc.rbody l)).base (Rc.parse (Rc.rbody l)).epoch A (Rc.parse (Rc.rbody l)).recs.length c, .int .i64 (8 + (Rc.rn l : Int)), .nilIface])) w' := by
  have hs : Rc.rsize l = 8 + Rc.rn l := by unfold Rc.rsize; rw [if_pos h]
  have he : errOf p (Rc.rcode l) = .nilIface := by unfold errOf; rw [h, if_pos rfl]
  refine ⟨⟨batV (Rc.parse (Rc.rbody l)).base (Rc.parse (Rc.rbody l)).epoch A (Rc.parse (Rc.rbody l)).recs.length c, by rw [hs, he]; rfl, fun _ => ⟨A, c, rfl, hi⟩, fun h' => absurd h h'⟩, hb⟩

/-- The result's block: three cells, all nothing. -/
structure Res (w : World) (g : Nat) : Prop where
  c0 : w.cell? ⟨g, 0, none⟩ = some (.int .i64 0)
  c1 : w.cell? ⟨g, 1, none⟩ = some (.int .i64 0)
  c2 : w.cell? ⟨g, 2, none⟩ = some (.slice none 0 0)
  f : ∀ k, w.frozen? ⟨g, k, none⟩ = false
theorem Res.new (w : World) (t : TypeId) : Res (w.alloc (.cells #[.int .i64 0, .int .i64 0, .slice none 0 0] t)) w.heap.size := by
  obtain ⟨m0, m1, m2⟩ := made3 w (.int .i64 0) (.int .i64 0) (.slice none 0 0) t
  exact ⟨m0, m1, m2, fun k => by simp [go_sem]⟩
theorem Res.below {w w' : World} {g C : Nat} (h : Res w g) (hb : Below C w w') (hg : g < C) : Res w' g :=
  ⟨(hb.cell (p := ⟨g, 0, none⟩) hg).trans h.c0, (hb.cell (p := ⟨g, 1, none⟩) hg).trans h.c1, (hb.cell (p := ⟨g, 2, none⟩) hg).trans h.c2, fun k => (hb.frozen (p := ⟨g, k, none⟩) hg).trans (h.f k)⟩
theorem Res.cells {w : World} {g : Nat} (h : Res w g) (x0 x1 x2 : Value) :
    (((w.setCell ⟨g, 0, none⟩ x0).setCell ⟨g, 1, none⟩ x1).setCell ⟨g, 2, none⟩ x2).cell? ⟨g, 0, none⟩ = some x0 ∧ (((w.setCell ⟨g, 0, none⟩ x0).setCell ⟨g, 1, none⟩ x1).setCell ⟨g, 2, none⟩ x2).cell? ⟨g, 1, none⟩ = some x1 ∧ (((w.setCell ⟨g, 0, none⟩ x0).setCell ⟨g, 1, none⟩ x1).setCell ⟨g, 2, none⟩ x2).cell? ⟨g, 2, none⟩ = some x2 := by
  refine ⟨?_, ?_, ?_⟩
  · rw [World.cell?_setCell_other _ _ _ _ (by simp), World.cell?_setCell_other _ _ _ _ (by simp)]; exact World.cell?_setCell_same _ _ _ h.c0
  · rw [World.cell?_setCell_other _ _ _ _ (by simp)]
    exact World.cell?_setCell_same _ _ _ ((World.cell?_setCell_other _ _ _ _ (by simp)).trans h.c1)
  · exact World.cell?_setCell_same _ _ _ (((World.cell?_setCell_other _ _ _ _ (by simp)).trans (World.cell?_setCell_other _ _ _ _ (by simp))).trans h.c2)
theorem Res.set {w0 w : World} {g : Nat} (h : Below w0.heap.size w0 w) (hg : w0.heap.size ≤ g) (x0 x1 x2 : Value) : Below w0.heap.size w0 (((w.setCell ⟨g, 0, none⟩ x0).setCell ⟨g, 1, none⟩ x1).setCell ⟨g, 2, none⟩ x2) := by
  have hr : ∀ k, some g = some k → w0.heap.size ≤ k := fun k e => by injection e with e; omega
  have g1 := grown_set w g 0 x0
  have g2 := grown_set (w.setCell ⟨g, 0, none⟩ x0) g 1 x1
  have g3 := grown_set ((w.setCell ⟨g, 0, none⟩ x0).setCell ⟨g, 1, none⟩ x1) g 2 x2
  have s1 := g1.size
  have s2 := g2.size
  have s0 := h.size
  exact ((h.grown g1 s0 hr).grown g2 (by omega) hr).grown g3 (by omega) hr

set_option maxRecDepth 100000 in
set_option maxHeartbeats 2000000 in
theorem read_any (A : Option Addr) (cap n : Nat) (l : List UInt8) (w : World) (p : Nat → Addr) (hn : l.length = n) (hl : n ≤ 1000000) (ha : Arg w A cap l) (hs : Sents5 w p) (ht : Tabs w) :
    Calls Tryz.prog 119 #[.slice A n cap] w (ReadPost p l w) := by
  subst hn
  obtain ⟨w1, hw1⟩ : ∃ w1, w1 = w.alloc (.cells #[.int .i64 0, .int .i64 0, .slice none 0 0] 41) := ⟨_, rfl⟩
  have hb1 : Below w.heap.size w w1 := hw1 ▸ balloc (Below.refl _ _) _
  have hres : Res w1 w.heap.size := hw1 ▸ Res.new w 41
  have hz1 : w1.heap.size = w.heap.size + 1 := by rw [hw1]; simp
  have HS := hide (hs.below hb1)
  have HSZ := hide (fun j (hj : j < 5) => hs.size j hj)
  have HT := hide (ht.below hb1 (Nat.le_refl _))
  have HA := hide (ha.below hb1 (Nat.le_refl _))
  have HB1 := hide hb1
  have HW1 := hide hw1
  clear ha hs ht hb1 hw1
  go_enter Tryz.func119, Tryz.ntmps119
  go_upto_region 1 with fail
  rw [← HW1.out]
  have HRES := hide hres
  have r0 := hres.c0
  have r1 := hres.c1
  have r2 := hres.c2
  have rf0 := hres.f 0
  have rf1 := hres.f 1
  have rf2 := hres.f 2
  clear HW1 hres
  by_cases h8 : l.length < 8
  · have HC : Hid (Rc.rcode l = 101) := by show _ = _; unfold Rc.rcode; rw [if_pos h8]
    have k0 := HS.out.cell 0 (by omega)
    change w1.cell? ⟨9, 0, none⟩ = some (errV (p 0)) at k0
    have kz : 9 < w.heap.size := HSZ.out 0 (by omega)
    have k0' : (w1.setCell ⟨w.heap.size, 0, none⟩ (.int .i64 0)).cell? ⟨9, 0, none⟩ = some (errV (p 0)) := (World.cell?_setCell_other _ _ _ _ (by intro e; injection e with e; omega)).trans k0
    unfold errV at k0 k0'
    go_upto_region 2 with fail
    go_region
    go_wp2_with fail
    obtain ⟨s0, s1', s2'⟩ := HRES.out.cells (.int .i64 0) (.int .i64 0) (.slice none 0 0)
    have hset := Res.set HB1.out (Nat.le_refl _) (.int .i64 0) (.int .i64 0) (.slice none 0 0)
    refine bodyPost_ret (v := .tuple #[batV 0 0 none 0 0, .int .i64 0, errV (p 0)]) (by simp [results, Tryz.results119, go_sem, s0, s1', s2', errV]) rfl (ReadPost.no HC.out (by omega) hset.drew)
  · have hcap := HA.out.le
    have kcut : ∀ W, (Instr.sliceAt 32 (.slice A l.length cap) none (some (.int .i64 8)) none).run Tryz.prog W = .ok (.slice A 8 cap) W := fun W => run_cut_h W A l.length cap 8 (by omega)
    have HNW := hide (newReader_any A cap 8 (l.take 8) w1 p (by rw [List.length_take]; omega) (by omega) (HA.out.first 8))
    have hf1 : Vi.fixed (l.take 8) start 4 = (Rc.rn l, ⟨4, 0, none⟩) := by
      unfold Vi.fixed
      rw [if_neg (by simp [start]), if_neg (by rw [List.length_take]; simp [start]; omega)]
      simp [start, Rc.rn, Vi.Rs.on, List.take_take]
    have hf2 : Vi.fixed (l.take 8) ⟨4, 0, none⟩ 4 = (Rc.rsum l, ⟨8, 0, none⟩) := by
      unfold Vi.fixed
      rw [if_neg (by simp), if_neg (by rw [List.length_take]; simp; omega)]
      simp [Rc.rsum, Vi.Rs.on, List.drop_take, List.take_take]
    have HF1 := hide hf1
    have HF2 := hide hf2
    have HL8 : Hid ((l.take 8).length = 8) := by show _ = _; rw [List.length_take]; omega
    clear hf1 hf2
    go_wp2_with fail
    refine HNW.out.mono ?_
    rintro e w2 ⟨g, rfl, hg, hr2, hb2⟩
    have HR2 := hide hr2
    have HB2 := hide hb2
    have HG := hide hg
    clear hr2 hb2 hg HNW kcut
    have HX1 := hide (fixed_any w2 p g (l.take 8) start 4 (by omega) (by omega) HR2.out (HS.out.below HB2.out) (by rw [HL8.out]; omega))
    rw [HF1.out] at HX1
    have hn1 := Rc.rn_lt l
    have hn2 := Rc.rsum_lt l
    have HCODE : Hid (Rc.rcode l = if 65536 < Rc.rn l then 104 else if l.length - 8 < Rc.rn l then 101 else if Rc.sumN (Rc.rbody l) ≠ Rc.rsum l then 102 else if Rc.okay (Rc.rbody l) = true then 0 else 103) := by
      show _ = _
      unfold Rc.rcode
      rw [if_neg h8]
    have HBD : Hid (Rc.rbody l = (l.drop 8).take (Rc.rn l)) := hide rfl
    have HSZE : Hid (Rc.rsize l = if Rc.rcode l = 0 then 8 + Rc.rn l else 0) := hide rfl
    generalize hrn : Rc.rn l = rn at *
    have HRN := hide hrn
    clear hrn
    generalize Rc.rsum l = rsum at *
    go_wp2_with fail
    refine HX1.out.mono ?_
    rintro e w3 ⟨rfl, hr3, hb3⟩
    have hb3' : Below w1.heap.size w1 w3 := HB2.out.grown hb3.grown HB2.out.size (fun k hk => by injection hk with hk; have := HG.out; omega)
    have HX2 := hide (fixed_any w3 p g (l.take 8) ⟨4, 0, none⟩ 4 (by omega) (by omega) hr3 (HS.out.below hb3') (by rw [HL8.out]; omega))
    rw [HF2.out] at HX2
    have HB3 := hide hb3'
    clear hr3 hb3 hb3' HX1 HR2 HB2
    go_wp2_with fail
    refine HX2.out.mono ?_
    rintro e w4 ⟨rfl, hr4, hb4⟩
    have hb4' : Below w1.heap.size w1 w4 := HB3.out.grown hb4.grown HB3.out.size (fun k hk => by injection hk with hk; have := HG.out; omega)
    have HB4 := hide hb4'
    have hres4 := HRES.out.below hb4' (by omega)
    have HRES4 := hide hres4
    have HS4 := hide (HS.out.below hb4')
    have HW4 := hide (HB1.out.trans (hb4'.mono (by omega)))
    have r0 := hres4.c0
    have r1 := hres4.c1
    have r2 := hres4.c2
    have rf0 := hres4.f 0
    have rf1 := hres4.f 1
    have rf2 := hres4.f 2
    clear hr4 hb4 hb4' HX2 HB3 hres4 HF1 HF2
    by_cases hm : 65536 < rn
    · have HC : Hid (Rc.rcode l = 104) := by show _ = _; rw [HCODE.out, if_pos hm]
      have k0 := HS4.out.cell 3 (by omega)
      change w4.cell? ⟨8, 0, none⟩ = some (errV (p 3)) at k0
      have kz : 8 < w.heap.size := HSZ.out 3 (by omega)
      have k0' : (w4.setCell ⟨w.heap.size, 0, none⟩ (.int .i64 0)).cell? ⟨8, 0, none⟩ = some (errV (p 3)) := (World.cell?_setCell_other _ _ _ _ (by intro e; injection e with e; omega)).trans k0
      unfold errV at k0 k0'
      go_upto_region 7 with fail
      go_region
      go_wp2_with fail
      obtain ⟨s0, s1', s2'⟩ := HRES4.out.cells (.int .i64 0) (.int .i64 0) (.slice none 0 0)
      have hset := Res.set HW4.out (Nat.le_refl _) (.int .i64 0) (.int .i64 0) (.slice none 0 0)
      refine bodyPost_ret (v := .tuple #[batV 0 0 none 0 0, .int .i64 0, errV (p 3)]) (by simp [results, Tryz.results119, go_sem, s0, s1', s2', errV]) rfl (ReadPost.no HC.out (by omega) hset.drew)
    · by_cases he : l.length - 8 < rn
      · have HC : Hid (Rc.rcode l = 101) := by show _ = _; rw [HCODE.out, if_neg hm, if_pos he]
        have hd : decide (((l.length : Int) - 8) < (rn : Int)) = true := by simp; omega
        have k0 := HS4.out.cell 0 (by omega)
        change w4.cell? ⟨9, 0, none⟩ = some (errV (p 0)) at k0
        have kz : 9 < w.heap.size := HSZ.out 0 (by omega)
        have k0' : (w4.setCell ⟨w.heap.size, 0, none⟩ (.int .i64 0)).cell? ⟨9, 0, none⟩ = some (errV (p 0)) := (World.cell?_setCell_other _ _ _ _ (by intro e; injection e with e; omega)).trans k0
        unfold errV at k0 k0'
        go_upto_region 9 with fail
        go_region
        go_wp2_with fail
        obtain ⟨s0, s1', s2'⟩ := HRES4.out.cells (.int .i64 0) (.int .i64 0) (.slice none 0 0)
        have hset := Res.set HW4.out (Nat.le_refl _) (.int .i64 0) (.int .i64 0) (.slice none 0 0)
        refine bodyPost_ret (v := .tuple #[batV 0 0 none 0 0, .int .i64 0, errV (p 0)]) (by simp [results, Tryz.results119, go_sem, s0, s1', s2', errV]) rfl (ReadPost.no HC.out (by omega) hset.drew)
      · have hd : decide (((l.length : Int) - 8) < (rn : Int)) = false := by simp; omega
        have kcut2 : ∀ W, (Instr.sliceAt 32 (.slice A l.length cap) (some (.int .i64 8)) (some (.int .i64 (8 + (rn : Int)))) none).run Tryz.prog W = .ok (.slice (cutA A cap 8) rn (cap - 8)) W := fun W => by
          have h := run_cut_lh W A l.length cap 8 (8 + rn) (by omega) (by omega)
          rw [show 8 + rn - 8 = rn by omega, Int.natCast_add] at h
          exact h
        have HAB := hide ((HA.out.cut 8 (by omega)).first rn)
        rw [← HBD.out] at HAB
        have HBL : Hid ((Rc.rbody l).length = rn) := by show _ = _; rw [HBD.out, List.length_take, List.length_drop]; omega
        have HCODE2 : Hid (Rc.rcode l = if Rc.sumN (Rc.rbody l) ≠ rsum then 102 else if Rc.okay (Rc.rbody l) = true then 0 else 103) := by
          show _ = _
          rw [HCODE.out, if_neg hm, if_neg he]
        have hsl := Rc.sumN_lt (Rc.rbody l)
        have HRX := hide (sum_one (cutA A cap 8) (cap - 8) (Rc.rbody l))
        have HUN := hide (fun W (hw : Below w1.heap.size w1 W) => unlay_any (cutA A cap 8) (cap - 8) rn (Rc.rbody l) W p HBL.out (by omega) (HAB.out.below hw (Nat.le_refl _)) (HS.out.below hw))
        clear HCODE
        generalize hbd : Rc.rbody l = bd at *
        have HEB := hide hbd
        clear hbd
        generalize cutA A cap 8 = A' at *
        go_upto_region 12 with fail
        have HRA := hide (HAB.out.below HB4.out (Nat.le_refl _))
        have HOF := hide (of_at (some ⟨w4.heap.size, 0, none⟩) 1 1 [⟨A', cap - 8, bd⟩] (w4.alloc (.cells #[.slice A' rn (cap - 8)] 32)) rfl (by omega) (readsAll_slice _ _ _ _ _ _ _ HBL.out rfl HRA.out.reads (by omega)) (HT.out.below (HB4.out.trans ((balloc (Below.refl _ _) _).mono HB4.out.size)) (Nat.le_refl _)))
        rw [HRX.out] at HOF
        have hba : Below w1.heap.size w1 (w4.alloc (.cells #[.slice A' rn (cap - 8)] 32)) := HB4.out.trans ((balloc (Below.refl _ _) _).mono HB4.out.size)
        have HBA := hide hba
        clear hba kcut2
        generalize hsn : Rc.sumN bd = sn at *
        by_cases hne : sn = rsum
        · subst hne
          have hdn : ((sn : Int) != sn) = false := by simp
          go_wp2_with fail
          refine HOF.out.mono ?_
          rintro e w5 ⟨rfl, q, rfl⟩
          have hb5 := below_drewN HBA.out q
          have HB5 := hide hb5
          have HZ5 : Hid (w1.heap.size ≤ ((w4.alloc (.cells #[.slice A' rn (cap - 8)] 32)).drewN q).heap.size) := hide hb5.size
          clear hb5 HOF HBA r0 r1 r2 rf0 rf1 rf2 HRES4 HW4 HB4 HS4
          generalize (w4.alloc (.cells #[.slice A' rn (cap - 8)] 32)).drewN q = w5 at *
          go_wp2_with fail
          refine (HUN.out _ HB5.out).mono ?_
          rintro e w6 ⟨⟨val, rfl, hy, hno⟩, hb6⟩
          have hb6' := HB5.out.trans (hb6.mono HB5.out.size)
          have hres6 := HRES.out.below hb6' (by omega)
          have HB6 := hide hb6'
          clear hb6 hb6' hres6 HUN HB5
          by_cases hok : Rc.okay bd = true
          · have HC : Hid (Rc.rcode l = 0) := by show _ = _; rw [HCODE2.out, if_neg (by simp), if_pos hok]
            obtain ⟨Ar, cr, rfl, hib⟩ := hy hok
            rw [hok]
            clear hy hno
            go_upto_region 15 with fail
            obtain ⟨x0, x1, x2⟩ := made3 w6 (.int .i64 (Rc.parse bd).base) (.int .i64 (Rc.parse bd).epoch) (.slice Ar (Rc.parse bd).recs.length cr) 41
            have hal : Below w6.heap.size w6 (w6.alloc (.cells #[.int .i64 (Rc.parse bd).base, .int .i64 (Rc.parse bd).epoch, .slice Ar (Rc.parse bd).recs.length cr] 41)) := balloc (Below.refl _ _) _
            have hb7 := HB6.out.trans (hal.mono HB6.out.size)
            have hres7 := HRES.out.below hb7 (by omega)
            have HRES7 := hide hres7
            have HW7 := hide (HB1.out.trans (hb7.mono (by omega)))
            have HIB := hide (hib.above (Above.of_below hal))
            have r0 := hres7.c0
            have r1 := hres7.c1
            have r2 := hres7.c2
            have rf0 := hres7.f 0
            have rf1 := hres7.f 1
            have rf2 := hres7.f 2
            clear hal hb7 hres7 hib
            generalize w6.alloc (.cells #[.int .i64 (Rc.parse bd).base, .int .i64 (Rc.parse bd).epoch, .slice Ar (Rc.parse bd).recs.length cr] 41) = w7 at *
            have hw5 : w.heap.size < w5.heap.size := by have := HZ5.out; omega
            go_wp2_with fail
            obtain ⟨s0, s1', s2'⟩ := HRES7.out.cells (.int .i64 (Rc.parse bd).base) (.int .i64 (Rc.parse bd).epoch) (.slice Ar (Rc.parse bd).recs.length cr)
            have hset := Res.set HW7.out (Nat.le_refl _) (.int .i64 (Rc.parse bd).base) (.int .i64 (Rc.parse bd).epoch) (.slice Ar (Rc.parse bd).recs.length cr)
            have hnb := ((HIB.out.above (Above.of_grown (grown_set _ w.heap.size 0 (.int .i64 (Rc.parse bd).base)) hw5)).above (Above.of_grown (grown_set _ w.heap.size 1 (.int .i64 (Rc.parse bd).epoch)) hw5)).above (Above.of_grown (grown_set _ w.heap.size 2 (.slice Ar (Rc.parse bd).recs.length cr)) hw5)
            have hpost := ReadPost.yes (p := p) HC.out (by rw [HEB.out]; exact hnb.mono (Nat.le_of_lt hw5)) hset
            rw [HEB.out, HRN.out] at hpost
            exact bodyPost_ret (v := .tuple #[batV (Rc.parse bd).base (Rc.parse bd).epoch Ar (Rc.parse bd).recs.length cr, .int .i64 (8 + (rn : Int)), .nilIface]) (by simp [results, Tryz.results119, go_sem, s0, s1', s2']) rfl hpost
          · have HC : Hid (Rc.rcode l = 103) := by show _ = _; rw [HCODE2.out, if_neg (by simp), if_neg hok]
            have hokf : Rc.okay bd = false := by simpa using hok
            obtain rfl := hno hokf
            rw [hokf]
            clear hy hno
            go_upto_region 15 with fail
            have hal : Below w6.heap.size w6 (w6.alloc (.cells #[.int .i64 0, .int .i64 0, .slice none 0 0] 41)) := balloc (Below.refl _ _) _
            have hb7 := HB6.out.trans (hal.mono HB6.out.size)
            have hres7 := HRES.out.below hb7 (by omega)
            have HRES7 := hide hres7
            have HW7 := hide (HB1.out.trans (hb7.mono (by omega)))
            have HS7 := hide (HS.out.below hb7)
            have r0 := hres7.c0
            have r1 := hres7.c1
            have r2 := hres7.c2
            have rf0 := hres7.f 0
            have rf1 := hres7.f 1
            have rf2 := hres7.f 2
            clear hal hb7 hres7
            generalize w6.alloc (.cells #[.int .i64 0, .int .i64 0, .slice none 0 0] 41) = w7 at *
            have k0 := HS7.out.cell 2 (by omega)
            change w7.cell? ⟨2, 0, none⟩ = some (errV (p 2)) at k0
            have kz : 2 < w.heap.size := HSZ.out 2 (by omega)
            have k0' : (w7.setCell ⟨w.heap.size, 0, none⟩ (.int .i64 0)).cell? ⟨2, 0, none⟩ = some (errV (p 2)) := (World.cell?_setCell_other _ _ _ _ (by intro e; injection e with e; omega)).trans k0
            unfold errV at k0 k0'
            go_upto_region 16 with fail
            go_region
            go_wp2_with fail
            obtain ⟨s0, s1', s2'⟩ := HRES7.out.cells (.int .i64 0) (.int .i64 0) (.slice none 0 0)
            have hset := Res.set HW7.out (Nat.le_refl _) (.int .i64 0) (.int .i64 0) (.slice none 0 0)
            refine bodyPost_ret (v := .tuple #[batV 0 0 none 0 0, .int .i64 0, errV (p 2)]) (by simp [results, Tryz.results119, go_sem, s0, s1', s2', errV]) rfl (ReadPost.no HC.out (by omega) hset.drew)
        · have hdn : ((sn : Int) != rsum) = true := by simp; omega
          have HC : Hid (Rc.rcode l = 102) := by show _ = _; rw [HCODE2.out, if_pos hne]
          go_wp2_with fail
          refine HOF.out.mono ?_
          rintro e w5 ⟨rfl, q, rfl⟩
          have hb5 := below_drewN HBA.out q
          have hres5 := HRES.out.below hb5 (by omega)
          have HRES5 := hide hres5
          have HS5 := hide (HS.out.below hb5)
          have HW5 := hide (HB1.out.trans (hb5.mono (by omega)))
          have r0 := hres5.c0
          have r1 := hres5.c1
          have r2 := hres5.c2
          have rf0 := hres5.f 0
          have rf1 := hres5.f 1
          have rf2 := hres5.f 2
          clear hb5 HOF HBA hres5
          generalize (w4.alloc (.cells #[.slice A' rn (cap - 8)] 32)).drewN q = w5 at *
          have k0 := HS5.out.cell 1 (by omega)
          change w5.cell? ⟨10, 0, none⟩ = some (errV (p 1)) at k0
          have kz : 10 < w.heap.size := HSZ.out 1 (by omega)
          have k0' : (w5.setCell ⟨w.heap.size, 0, none⟩ (.int .i64 0)).cell? ⟨10, 0, none⟩ = some (errV (p 1)) := (World.cell?_setCell_other _ _ _ _ (by intro e; injection e with e; omega)).trans k0
          unfold errV at k0 k0'
          go_upto_region 13 with fail
          go_region
          go_wp2_with fail
          obtain ⟨s0, s1', s2'⟩ := HRES5.out.cells (.int .i64 0) (.int .i64 0) (.slice none 0 0)
          have hset := Res.set HW5.out (Nat.le_refl _) (.int .i64 0) (.int .i64 0) (.slice none 0 0)
          refine bodyPost_ret (v := .tuple #[batV 0 0 none 0 0, .int .i64 0, errV (p 1)]) (by simp [results, Tryz.results119, go_sem, s0, s1', s2', errV]) rfl (ReadPost.no HC.out (by omega) hset.drew)
end Go.Proofs.YtfdppggdgdnnaaaGreatDoor

namespace Go.Proofs.YtfdppggdgdnnaaaGreatDoor
namespace Rc

def okR (r : Rec) : Prop := -1099511627776 ≤ r.t ∧ r.t ≤ 1099511627776 ∧ r.k.length ≤ 64 ∧ r.v.length ≤ 512

theorem step1_at (l tl : List UInt8) (k : Nat) (t st : Int) (r : Rec) (h : l.drop k = recB t r ++ tl) (hr : okR r) (ht : -1099511627776 ≤ t ∧ t ≤ 1099511627776) (h1 : -st ≤ r.t - t) (h2 : r.t - t ≤ st) :
    step1 l (fine k) t st = (r, fine (k + (recB t r).length)) := by
  obtain ⟨r1, r2, r3, r4⟩ := hr
  have hd1 : l.drop k = Vi.put (Vi.zz (r.t - t)) ++ ((Vi.put r.k.length ++ r.k) ++ ((Vi.put r.v.length ++ r.v) ++ tl)) := by
    rw [h]; unfold recB eT; simp only [List.append_assoc]
  have e1 : Vi.int l (fine k) (-st) st = (r.t - t, fine (k + Vi.size (Vi.zz (r.t - t)))) := by
    rw [int_at l _ k (r.t - t) (-st) st (by omega) (by omega) hd1, if_neg (by omega)]
  have hd2 : l.drop (k + Vi.size (Vi.zz (r.t - t))) = Vi.put r.k.length ++ (r.k ++ ((Vi.put r.v.length ++ r.v) ++ tl)) := by
    rw [← List.drop_drop, hd1]; rw [drop_pad _ _ _ (show (Vi.put (Vi.zz (r.t - t))).length = Vi.size (Vi.zz (r.t - t)) from rfl)]; simp only [List.append_assoc]
  have e2 := text_at l r.k ((Vi.put r.v.length ++ r.v) ++ tl) _ 64 (by omega) hd2 r3
  have hd3 : l.drop (k + Vi.size (Vi.zz (r.t - t)) + (Vi.size r.k.length + r.k.length)) = Vi.put r.v.length ++ (r.v ++ tl) := by
    rw [← List.drop_drop, hd2, ← List.append_assoc, drop_pad _ _ _ (by rw [List.length_append]; rfl)]; simp only [List.append_assoc]
  have e3 := text_at l r.v tl _ 512 (by omega) hd3 r4
  unfold step1
  simp only [e1, e2, e3]
  have hlen : (recB t r).length = Vi.size (Vi.zz (r.t - t)) + (Vi.size r.k.length + r.k.length) + (Vi.size r.v.length + r.v.length) := by
    unfold recB eT; simp only [List.length_append, Vi.size]
  refine Prod.ext ?_ ?_
  · cases r; simp; omega
  · simp only [hlen]; congr 1; omega

theorem loop_at (l tl : List UInt8) (many : Nat) (rs : List Rec) : ∀ (k : Nat) (t st : Int) (acc : List Rec), l.drop k = recsB t rs ++ tl → many = acc.length + rs.length → (∀ r ∈ rs, okR r) → (-1099511627776 ≤ t ∧ t ≤ 1099511627776) →
    (st = 2199023255552 ∨ (st = 0 ∧ ∀ r, rs.head? = some r → r.t = t)) → loop l many rs.length (fine k) t st acc = (acc ++ rs, fine (k + (recsB t rs).length)) := by
  induction rs with
  | nil => intro k t st acc h hm hr ht hs; simp [loop, recsB]
  | cons r rs ih =>
    intro k t st acc h hm hr ht hs
    have hr0 := hr r List.mem_cons_self
    have hst : -st ≤ r.t - t ∧ r.t - t ≤ st := by
      have := hr0.1
      have := hr0.2.1
      rcases hs with hs | ⟨hs, he⟩
      · omega
      · have := he r rfl
        omega
    have h1 := step1_at l (recsB r.t rs ++ tl) k t st r (by rw [h]; simp only [recsB, List.append_assoc]) hr0 ht hst.1 hst.2
    rw [List.length_cons, loop, if_pos ⟨by rw [hm, List.length_cons]; omega, rfl⟩, h1]
    have h2 := ih (k + (recB t r).length) r.t 2199023255552 (acc ++ [r]) (by rw [← List.drop_drop, h]; simp only [recsB, List.append_assoc]; exact drop_pad _ _ _ rfl) (by rw [hm]; simp; omega) (fun x hx => hr x (List.mem_cons_of_mem _ hx)) ⟨hr0.1, hr0.2.1⟩ (.inl rfl)
    simp only [h2]
    refine Prod.ext (by simp) ?_
    simp only [recsB, List.length_append]
    congr 1; omega

theorem fixed_at (l tl : List UInt8) (k n x : Nat) (h : l.drop k = le n x ++ tl) (hn0 : 0 < n) (hn : n ≤ 8) (hx : x < 256 ^ n) : Vi.fixed l (fine k) n = (x, fine (k + n)) := by
  have hl : l.length - k = n + tl.length := by
    have := congrArg List.length h
    rw [List.length_drop, List.length_append, le_len] at this
    exact this
  unfold Vi.fixed
  rw [if_neg (by simp [fine]; omega)]
  by_cases hnk : l.length < (fine k).at_ + ((n : Int)).toNat
  · simp only [fine, Int.toNat_natCast] at hnk
    omega
  · rw [if_neg hnk]
    simp only [fine, Int.toNat_natCast, h]
    rw [List.take_append_of_le_length (by rw [le_len]; omega), List.take_of_length_le (by rw [le_len]; omega), little_le n x hx]
    rfl

theorem body_read (b : Bat) (g : Good b) : parse (body b) = b ∧ okay (body b) = true := by
  obtain ⟨ba, hba⟩ := Int.eq_ofNat_of_zero_le g.base0
  obtain ⟨ep, hep⟩ := Int.eq_ofNat_of_zero_le g.ep0
  have hb1 := g.base1
  have he1 := g.ep1
  have hn1 := g.n1
  have hn0 := g.n0
  have hb : body b = le 8 ba ++ (le 4 ep ++ (le 2 b.recs.length ++ (Vi.put (Vi.zz (t0 b)) ++ recsB (t0 b) b.recs))) := by
    unfold body hd
    rw [hba, hep]
    simp only [List.append_assoc]
    rfl
  obtain ⟨l, hl⟩ : ∃ l, l = body b := ⟨_, rfl⟩
  rw [← hl] at hb ⊢
  have d1 := hb
  have h1 : head1 l = (ba, fine 8) := by
    have := fixed_at l _ 0 8 ba (by rw [List.drop_zero]; exact d1) (by omega) (by omega) (by rw [show (256 : Nat) ^ 8 = 18446744073709551616 from rfl]; omega)
    rw [Nat.zero_add] at this; exact this
  have d2 : l.drop 8 = le 4 ep ++ (le 2 b.recs.length ++ (Vi.put (Vi.zz (t0 b)) ++ recsB (t0 b) b.recs)) := by rw [d1]; exact drop_pad _ _ _ (le_len _ _)
  have h2 : head2 l = (ep, fine 12) := by
    unfold head2
    rw [h1]
    exact fixed_at l _ 8 4 ep d2 (by omega) (by omega) (by rw [show (256 : Nat) ^ 4 = 4294967296 from rfl]; omega)
  have d3 : l.drop 12 = le 2 b.recs.length ++ (Vi.put (Vi.zz (t0 b)) ++ recsB (t0 b) b.recs) := by
    rw [show (12 : Nat) = 8 + 4 from rfl, ← List.drop_drop, d2]; exact drop_pad _ _ _ (le_len _ _)
  have h3 : head3 l = (b.recs.length, fine 14) := by
    unfold head3
    rw [h2]
    exact fixed_at l _ 12 2 b.recs.length d3 (by omega) (by omega) (by rw [show (256 : Nat) ^ 2 = 65536 from rfl]; omega)
  have d4 : l.drop 14 = Vi.put (Vi.zz (t0 b)) ++ recsB (t0 b) b.recs := by
    rw [show (14 : Nat) = 12 + 2 from rfl, ← List.drop_drop, d3]; exact drop_pad _ _ _ (le_len _ _)
  have ht := g.t0
  have h4 : head4 l = (t0 b, fine (14 + Vi.size (Vi.zz (t0 b)))) := by
    unfold head4
    rw [h3, int_at l _ 14 (t0 b) _ _ (by omega) (by omega) d4, if_neg (by omega)]
  have d5 : l.drop (14 + Vi.size (Vi.zz (t0 b))) = recsB (t0 b) b.recs ++ [] := by
    rw [← List.drop_drop, d4, List.append_nil]; exact drop_pad _ _ _ rfl
  have h5 : tail l = (b.recs, fine (14 + Vi.size (Vi.zz (t0 b)) + (recsB (t0 b) b.recs).length)) := by
    unfold tail
    rw [h3, h4]
    have := loop_at l [] b.recs.length b.recs _ (t0 b) 0 [] d5 (by simp) (fun r hr => g.recs r hr) ht (.inr ⟨rfl, fun r hr => by
      unfold t0
      cases hrs : b.recs with
      | nil => rw [hrs] at hr; simp at hr
      | cons a rs => rw [hrs] at hr; simp at hr; subst hr; rfl⟩)
    simpa using this
  have hp : parse l = b := by
    unfold parse
    rw [h1, h2, h5]
    cases b with
    | mk base epoch recs =>
      simp only at hba hep hb1 ⊢
      subst hba hep
      congr 1
      unfold toI
      rw [if_pos (by simp only at *; omega)]
  refine ⟨hp, ?_⟩
  unfold okay
  rw [hp, h5]
  refine decide_eq_true ⟨rfl, ?_, (bad_good b).2 g⟩
  have : l.length = 14 + Vi.size (Vi.zz (t0 b)) + (recsB (t0 b) b.recs).length := by
    rw [hb]; simp only [List.length_append, le_len, Vi.size]; omega
  simp only [fine]
  omega

theorem bytes_read (b : Bat) (g : Good b) (rest : List UInt8) : rcode (bytes b ++ rest) = 0 ∧ rn (bytes b ++ rest) = (body b).length ∧ rbody (bytes b ++ rest) = body b := by
  have hbl := body_len b g
  have hn1 := g.n1
  have hsl := sumN_lt (body b)
  have e : bytes b ++ rest = le 4 (body b).length ++ (le 4 (sumN (body b)) ++ (body b ++ rest)) := by unfold bytes; simp only [List.append_assoc]
  have h1 : rn (bytes b ++ rest) = (body b).length := by
    unfold rn
    rw [e, List.take_append_of_le_length (by rw [le_len]; omega), List.take_of_length_le (by rw [le_len]; omega), little_le 4 _ (by rw [show (256 : Nat) ^ 4 = 4294967296 from rfl]; omega)]
  have h2 : rsum (bytes b ++ rest) = sumN (body b) := by
    unfold rsum
    rw [e, drop_pad _ _ _ (le_len _ _), List.take_append_of_le_length (by rw [le_len]; omega), List.take_of_length_le (by rw [le_len]; omega), little_le 4 _ (by rw [show (256 : Nat) ^ 4 = 4294967296 from rfl]; omega)]
  have h3 : rbody (bytes b ++ rest) = body b := by
    unfold rbody
    rw [h1, e, ← List.append_assoc (le 4 _), drop_pad _ _ _ (by simp only [List.length_append, le_len]), List.take_append_of_le_length (Nat.le_refl _), List.take_of_length_le (Nat.le_refl _)]
  have hl : (bytes b ++ rest).length = 8 + (body b).length + rest.length := by rw [List.length_append, bytes_len]
  refine ⟨?_, h1, h3⟩
  unfold rcode
  rw [if_neg (by omega), h1, if_neg (by omega), if_neg (by omega), h3, h2, if_neg (by simp), if_pos (body_read b g).2]
theorem bytes_rsize (b : Bat) (g : Good b) (rest : List UInt8) : rsize (bytes b ++ rest) = (bytes b).length := by
  obtain ⟨h0, h1, _⟩ := bytes_read b g rest
  unfold rsize
  rw [if_pos h0, h1, bytes_len]
end Rc
end Go.Proofs.YtfdppggdgdnnaaaGreatDoor

namespace Go.Proofs.YtfdppggdgdnnaaaGreatDoor
open Go.RowKit

def Rc.maxT : List Rc.Rec → Int
  | [] => 0
  | r :: rs => rs.foldl (fun m x => max m x.t) r.t
theorem Rc.maxT_snoc (rs : List Rc.Rec) (r : Rc.Rec) (h : rs ≠ []) : Rc.maxT (rs ++ [r]) = max (Rc.maxT rs) r.t := by
  cases rs with
  | nil => exact absurd rfl h
  | cons a rs => simp [Rc.maxT, List.foldl_append]

set_option maxRecDepth 100000 in
set_option maxHeartbeats 1000000 in
theorem time_any (base epoch : Int) (rs : List Rc.Rec) (A : Option Addr) (cap n : Nat) (w : World) (hn : rs.length = n) (hm : n ≤ 9223372036854775807) (hr : Recs w A rs) :
    Calls Tryz.prog 17 #[batV base epoch A n cap] w fun e w' => e = .returned (.int .i64 (Rc.maxT rs)) ∧ Below w.heap.size w w' := by
  subst hn
  have hbb : Below w.heap.size w (w.alloc (.cells #[.int .i64 base, .int .i64 epoch, .slice A rs.length cap] 41)) := balloc (Below.refl _ _) _
  have HB0 := hide hbb
  cases hrs : rs with
  | nil =>
    subst hrs
    go_enter Tryz.func17, Tryz.ntmps17
    go_wp2_with fail
    go_ret
    exact ⟨rfl, HB0.out⟩
  | cons r0 rs0 =>
    rw [← hrs]
    have hpos : 0 < rs.length := by rw [hrs]; simp
    have hmax0 : Rc.maxT (rs.take 1) = (rs.getD 0 default).t := by rw [hrs]; rfl
    have HR := hide (hr.below hbb (Nat.le_refl _))
    have hr1 := hr.below hbb (Nat.le_refl _)
    rcases hr1 with h0 | ⟨bb, off, rfl, hb0, hcl⟩
    · rw [h0] at hpos; simp at hpos
    obtain ⟨Ak, ck, Av, cv, c0, -⟩ := (hcl 0 hpos).ex
    rw [Nat.zero_mul, Nat.add_zero] at c0
    have q1 : ((rs.length : Int) == 0) = false := by rw [beq_eq_false_iff_ne]; omega
    have HM0 := hide hmax0
    clear hcl hbb hr hmax0 hrs
    go_enter Tryz.func17, Tryz.ntmps17
    go_upto_block 0 with fail
    have HBL := hide hb0
    generalize hw1 : w.alloc (.cells #[.int .i64 base, .int .i64 epoch, .slice (some ⟨bb, off, none⟩) rs.length cap] 41) = w1 at *
    have HW1 := hide hw1
    clear hw1 hb0
    go_wp2_with fail
    go_loopw [3, 18] (fun m i wr => ∃ k : Nat, k ≤ rs.length ∧ i = .int .i64 k ∧ m = .int .i64 (Rc.maxT (rs.take (k - 1 + 1))) ∧ Below w1.heap.size w1 wr) (fun _ i _ => rs.length - (intOf i).toNat)
    case atStart =>
      have e : (rs.getD 0 default) = rs[0] := by simp [List.getD, hpos]
      exact ⟨0, Nat.zero_le _, rfl, by rw [show 0 - 1 + 1 = 1 from rfl, HM0.out, e], Below.refl _ _⟩
    case round =>
      obtain ⟨k, hk, rfl, rfl, hb⟩ := hrel
      have HBK := hide hb
      clear hb
      by_cases hlt : k < rs.length
      · rcases HR.out with h0 | ⟨b', off', e', hb0', hcl⟩
        · rw [h0] at hlt; simp at hlt
        injection e' with e'
        injection e' with e1 e2
        subst e1 e2
        obtain ⟨Ak', ck', Av', cv', d0, d1, d2, -⟩ := (hcl k hlt).ex
        have d0 := (HBK.out.cell (p := ⟨bb, off + k * 3, none⟩) hb0').trans d0
        have d1 := (HBK.out.cell (p := ⟨bb, off + k * 3 + 1, none⟩) hb0').trans d1
        have d2 := (HBK.out.cell (p := ⟨bb, off + k * 3 + 2, none⟩) hb0').trans d2
        have HN : Hid (Rc.maxT (rs.take (k + 1 - 1 + 1)) = max (Rc.maxT (rs.take (k - 1 + 1))) (rs.getD k default).t) := by
          show _ = _
          rw [show k + 1 - 1 + 1 = k + 1 by omega]
          have e2 : rs.take (k + 1) = rs.take k ++ [rs.getD k default] := by
            rw [List.take_succ_eq_append_getElem hlt]; simp [List.getD, hlt]
          rcases Nat.eq_zero_or_pos k with h0 | hp
          · subst h0
            have h := HM0.out
            simp only [Nat.zero_add, Nat.zero_sub] at h ⊢
            rw [h]; omega
          · rw [show k - 1 + 1 = k by omega, e2, Rc.maxT_snoc _ _ (by intro h; have := congrArg List.length h; rw [List.length_take, List.length_nil] at this; omega)]
        have HBN := hide (balloc HBK.out (.cells #[.int .i64 (rs.getD k default).t, .slice Ak' (rs.getD k default).k.length ck', .slice Av' (rs.getD k default).v.length cv'] 81))
        clear hcl
        generalize rs.getD k default = x at *
        obtain ⟨t, ky, vl⟩ := x
        simp only at d0 d1 d2 HN HBN
        generalize Rc.maxT (rs.take (k - 1 + 1)) = mk at *
        by_cases hx : mk < t
        · rw [show max mk t = t by omega] at HN
          have hx2 : ¬ t ≤ mk := by omega
          go_wp2_with fail
          refine ⟨⟨k + 1, by omega, by go_num, by rw [HN.out], HBN.out⟩, by simp [intOf]; omega⟩
        · rw [show max mk t = mk by omega] at HN
          by_cases hx3 : t = mk
          · subst hx3
            go_wp2_with fail
            refine ⟨⟨k + 1, by omega, by go_num, by rw [HN.out], HBN.out⟩, by simp [intOf]; omega⟩
          · have hx2 : t < mk := by omega
            go_wp2_with fail
            refine ⟨⟨k + 1, by omega, by go_num, by rw [HN.out], HBN.out⟩, by simp [intOf]; omega⟩
      · obtain rfl : k = rs.length := by omega
        have HE : Hid (rs.take (rs.length - 1 + 1) = rs) := by
          show _ = _
          rw [show rs.length - 1 + 1 = rs.length by omega, List.take_length]
        go_wp2_with fail
        go_ret
        exact ⟨by rw [HE.out]; rfl, HB0.out.trans (HBK.out.mono HB0.out.size)⟩

theorem long_any (n b : Int) (w : World) (hb : 0 < b) (hb1 : b ≤ 9223372036854775807) (h1 : -9223372036854775808 ≤ n) (h2 : n ≤ 9223372036854775807) :
    Calls Tryz.prog 10 #[.int .i64 n, .int .i64 b] w fun e w' => e = .returned (.int .i64 (n % b)) ∧ w = w' := by
  have m1 := Int.emod_nonneg n (show b ≠ 0 by omega)
  have m2 := Int.emod_lt_of_pos n hb
  by_cases h0 : 0 ≤ n
  · go_enter Tryz.func10, Tryz.ntmps10
    go_wp2
    go_ret
    exact ⟨rfl, rfl⟩
  · by_cases hm : n % b = 0
    · have t := tmod_nil n b hm
      rw [hm]
      clear hm m1 m2
      go_enter Tryz.func10, Tryz.ntmps10
      go_wp2
      go_ret
      exact ⟨rfl, rfl⟩
    · have t := tmod_up n b hb (by omega) hm
      have e : n % b - b + b = n % b := by omega
      generalize n % b = r at *
      go_enter Tryz.func10, Tryz.ntmps10
      go_wp2
      go_ret
      exact ⟨rfl, rfl⟩

/-- A batch in a block of its own, whose row of records grows. -/
structure Bld (w0 w : World) (B lo : Nat) (base ep : Int) (v : Value) (qs : List PRec) : Prop where
  c0 : w.cell? ⟨B, 0, none⟩ = some (.int .i64 base)
  c1 : w.cell? ⟨B, 1, none⟩ = some (.int .i64 ep)
  c2 : w.cell? ⟨B, 2, none⟩ = some v
  f : ∀ k, w.frozen? ⟨B, k, none⟩ = false
  ob : w0.heap.size ≤ B
  ol : B < lo
  os : lo ≤ w.heap.size
  row : Row w lo v qs
  below : Below w0.heap.size w0 w
theorem Bld.new {w0 w : World} (h : Below w0.heap.size w0 w) (base ep : Int) (t : TypeId) : Bld w0 (w.alloc (.cells #[.int .i64 base, .int .i64 ep, .slice none 0 0] t)) w.heap.size (w.heap.size + 1) base ep (.slice none 0 0) [] := by
  obtain ⟨m0, m1, m2⟩ := made3 w (.int .i64 base) (.int .i64 ep) (.slice none 0 0) t
  exact ⟨m0, m1, m2, fun k => by simp [go_sem], h.size, by omega, by simp, Row.nil _ _, h.trans ((balloc (Below.refl _ _) _).mono h.size)⟩
theorem Bld.quiet {w0 w w' : World} {B lo : Nat} {base ep : Int} {v : Value} {qs : List PRec} (h : Bld w0 w B lo base ep v qs) (hb : Below w.heap.size w w') : Bld w0 w' B lo base ep v qs := by
  have hB : B < w.heap.size := Nat.lt_of_lt_of_le h.ol h.os
  exact ⟨(hb.cell (p := ⟨B, 0, none⟩) hB).trans h.c0, (hb.cell (p := ⟨B, 1, none⟩) hB).trans h.c1, (hb.cell (p := ⟨B, 2, none⟩) hB).trans h.c2, fun k => (hb.frozen (p := ⟨B, k, none⟩) hB).trans (h.f k), h.ob, h.ol, Nat.le_trans h.os hb.size, h.row.below hb, h.below.trans (hb.mono h.below.size)⟩
theorem Bld.mid {w0 w w1 w2 : World} {B lo : Nat} {base ep : Int} {v : Value} {qs : List PRec} (h : Bld w0 w B lo base ep v qs) (hw1 : Below w.heap.size w w1) (hg : w1.grownBy w2 v.ownBlock) : w2.cell? ⟨B, 2, none⟩ = some v ∧ w2.frozen? ⟨B, 2, none⟩ = false := by
  have h1 := h.quiet hw1
  have hne : some B ≠ v.ownBlock := fun e => by have := (h.row.own.lt B e.symm).1; have := h.ol; omega
  exact ⟨hg.cell h1.c2 hne, (World.frozen?_of_block (a := ⟨B, 2, none⟩) (hg.block B (Nat.lt_of_lt_of_le h1.ol h1.os) hne)).trans (h1.f 2)⟩
theorem Bld.push {w0 w w1 w2 : World} {B lo : Nat} {base ep : Int} {v v' : Value} {qs : List PRec} {q : PRec} (h : Bld w0 w B lo base ep v qs) (hk : Txt w lo v q.Ak q.ck q.r.k) (hq : Txt w lo v q.Av q.cv q.r.v)
    (hw1 : Below w.heap.size w w1) (hg : w1.grownBy w2 v.ownBlock) (hv : v'.ownBlock = v.ownBlock ∨ v'.ownBlock = some w1.heap.size) (ho : w2.ownsRow lo 81 3 v' (qs.length + 1) (qs.flatMap PRec.cells ++ q.cells)) :
    Bld w0 (w2.setCell ⟨B, 2, none⟩ v') B lo base ep v' (qs ++ [q]) := by
  have h1 := h.quiet hw1
  have ob := h.ob
  have ol := h.ol
  have hB1 : B < w1.heap.size := Nat.lt_of_lt_of_le h1.ol h1.os
  have hvl : ∀ k, v.ownBlock = some k → lo ≤ k := fun k hk => (h.row.own.lt k hk).1
  have hne : some B ≠ v.ownBlock := fun e => by have := hvl B e.symm; omega
  have hrow := (h1.row).app (hk.below hw1) (hq.below hw1) hg (hv.imp id fun e => ⟨_, e, Nat.le_refl _⟩) ho
  have d2 := hg.cell h1.c2 hne
  have hb := grown_set w2 B 2 v'
  have h4 : ∀ k, k ≠ 2 → (w2.setCell ⟨B, 2, none⟩ v').cell? ⟨B, k, none⟩ = w2.cell? ⟨B, k, none⟩ := fun k hk => World.cell?_setCell_other _ _ _ _ (by simp)
  have hs := hg.size
  have hs1 := h1.os
  refine ⟨(h4 0 (by omega)).trans (hg.cell h1.c0 hne), (h4 1 (by omega)).trans (hg.cell h1.c1 hne), World.cell?_setCell_same _ _ _ d2, fun k => (World.frozen?_setCell _ _ _ _).trans ((World.frozen?_of_block (a := ⟨B, k, none⟩) (hg.block B hB1 hne)).trans (h1.f k)), ob, ol, ?_, hrow.keep hb (by omega),
    (h1.below.grown hg h1.below.size (fun k hk => by have := hvl k hk; omega)).grown hb (Nat.le_trans h1.below.size hs) (fun k hk => by injection hk with hk; omega)⟩
  have := hb.size
  omega
theorem Txt.nil (w : World) (lo : Nat) (v : Value) : Txt w lo v none 0 [] := ⟨⟨Nat.le_refl _, by omega, fun _ => rfl, .inl rfl⟩, fun h => absurd rfl h⟩
end Go.Proofs.YtfdppggdgdnnaaaGreatDoor
