/-
  Batches as bytes, plainly: which may be, their bytes, what is read. Nothing of any program is named here.
  A batch's bytes read, plainly.
-/
import Derived.Test.YtomnkgppldgpkaaDoorVRdr
import Derived.Test.YtomnkgppldgpkaaDoorVFixed
namespace Go.Proofs.YtomnkgppldgpkaaDoor

namespace Rc
/-- A record; a batch. -/
structure Rec where
  t : Int
  k : List UInt8
  v : List UInt8
instance : Inhabited Rec := ⟨⟨0, [], []⟩⟩
structure Bat where
  base : Int
  epoch : Int
  recs : List Rec

def recOk (r : Rec) : Bool := decide (-1099511627776 ≤ r.t ∧ r.t ≤ 1099511627776 ∧ r.k.length ≤ 64 ∧ r.v.length ≤ 512)
/-- Why a batch may not be: the error's number; 0: it may. -/
def bad (b : Bat) : Nat :=
  if b.recs.length = 0 ∨ 64 < b.recs.length then 104
  else if b.base < 0 ∨ 1099511627776 < b.base + b.recs.length ∨ b.epoch < 0 ∨ 1073741824 < b.epoch ∨ b.recs.all recOk = false then 105
  else 0
structure Good (b : Bat) : Prop where
  n0 : 0 < b.recs.length
  n1 : b.recs.length ≤ 64
  base0 : 0 ≤ b.base
  base1 : b.base + b.recs.length ≤ 1099511627776
  ep0 : 0 ≤ b.epoch
  ep1 : b.epoch ≤ 1073741824
  recs : ∀ r ∈ b.recs, -1099511627776 ≤ r.t ∧ r.t ≤ 1099511627776 ∧ r.k.length ≤ 64 ∧ r.v.length ≤ 512
theorem bad_good (b : Bat) : bad b = 0 ↔ Good b := by
  unfold bad
  constructor
  · intro h
    split at h
    · omega
    · rename_i h1
      split at h
      · omega
      · rename_i h2
        have h3 : b.recs.all recOk = true := by
          cases h4 : b.recs.all recOk
          · exact absurd (.inr (.inr (.inr (.inr h4)))) h2
          · rfl
        refine ⟨by omega, by omega, by omega, by omega, by omega, by omega, fun r hr => ?_⟩
        have := List.all_eq_true.1 h3 r hr
        simpa [recOk] using this
  · intro g
    have h3 : b.recs.all recOk = true := List.all_eq_true.2 fun r hr => by simpa [recOk] using g.recs r hr
    have := g.n0
    have := g.n1
    have := g.base0
    have := g.base1
    have := g.ep0
    have := g.ep1
    rw [if_neg (by omega), if_neg (by rw [h3]; simp; omega)]
theorem bad_cases (b : Bat) : bad b = 0 ∨ bad b = 104 ∨ bad b = 105 := by
  unfold bad
  split
  · exact .inr (.inl rfl)
  · split
    · exact .inr (.inr rfl)
    · exact .inl rfl

/-- So many bytes of a number, the lowest first. -/
def le : Nat → Nat → List UInt8
  | 0, _ => []
  | k + 1, n => UInt8.ofNat n :: le k (n / 256)
theorem le_len (k n : Nat) : (le k n).length = k := by
  induction k generalizing n with
  | zero => rfl
  | succ k ih => simp [le, ih]
theorem little_le (k n : Nat) (h : n < 256 ^ k) : Vi.little (le k n) = n := by
  induction k generalizing n with
  | zero => simp at h; subst h; rfl
  | succ k ih =>
    have h2 : n / 256 < 256 ^ k := by
      rw [Nat.pow_succ] at h
      exact Nat.div_lt_of_lt_mul (by omega)
    simp only [le, Vi.little, ih _ h2, UInt8.toNat_ofNat']
    omega
theorem le_snoc (k n : Nat) : le (k + 1) n = le k n ++ [UInt8.ofNat (n / 256 ^ k)] := by
  induction k generalizing n with
  | zero => simp [le]
  | succ k ih =>
    have e : n / 256 ^ (k + 1) = n / 256 / 256 ^ k := by rw [Nat.pow_succ, Nat.mul_comm, Nat.div_div_eq_div_mul]
    rw [show le (k + 1 + 1) n = UInt8.ofNat n :: le (k + 1) (n / 256) from rfl, ih, e]
    rfl

/-- A text behind its length. -/
def eT (l : List UInt8) : List UInt8 := Vi.put l.length ++ l
def recB (last : Int) (r : Rec) : List UInt8 := (Vi.put (Vi.zz (r.t - last)) ++ eT r.k) ++ eT r.v
def lastT (t : Int) : List Rec → Int
  | [] => t
  | r :: rs => lastT r.t rs
def recsB (t : Int) : List Rec → List UInt8
  | [] => []
  | r :: rs => recB t r ++ recsB r.t rs
theorem lastT_snoc (t : Int) (rs : List Rec) (r : Rec) : lastT t (rs ++ [r]) = r.t := by
  induction rs generalizing t with
  | nil => rfl
  | cons a rs ih => exact ih a.t
theorem recsB_snoc (t : Int) (rs : List Rec) (r : Rec) : recsB t (rs ++ [r]) = recsB t rs ++ recB (lastT t rs) r := by
  induction rs generalizing t with
  | nil => simp [recsB, lastT]
  | cons a rs ih => simp only [List.cons_append, recsB, lastT, ih, List.append_assoc]
theorem recsB_app (t : Int) (rs qs : List Rec) : recsB t (rs ++ qs) = recsB t rs ++ recsB (lastT t rs) qs := by
  induction rs generalizing t with
  | nil => simp [recsB, lastT]
  | cons a rs ih => simp only [List.cons_append, recsB, lastT, ih, List.append_assoc]
def t0 (b : Bat) : Int := (b.recs.getD 0 default).t
def hd (b : Bat) : List UInt8 := (le 8 b.base.toNat ++ le 4 b.epoch.toNat) ++ le 2 b.recs.length
def body (b : Bat) : List UInt8 := (hd b ++ Vi.put (Vi.zz (t0 b))) ++ recsB (t0 b) b.recs

theorem eT_len (l : List UInt8) (h : l.length ≤ 512) : (eT l).length ≤ l.length + 10 := by
  unfold eT
  rw [List.length_append]
  have : (Vi.put l.length).length ≤ 10 := Vi.size_le10 (by omega)
  omega
theorem recB_len (last : Int) (r : Rec) (h : -1099511627776 ≤ r.t ∧ r.t ≤ 1099511627776 ∧ r.k.length ≤ 64 ∧ r.v.length ≤ 512) (h2 : -1099511627776 ≤ last ∧ last ≤ 1099511627776) : (recB last r).length ≤ 606 := by
  unfold recB
  rw [List.length_append, List.length_append]
  have h1 : (Vi.put (Vi.zz (r.t - last))).length ≤ 10 := Vi.size_le10 (Vi.zz_lt _ (by omega) (by omega))
  have := eT_len r.k (by omega)
  have := eT_len r.v (by omega)
  omega
theorem recsB_len (last : Int) (rs : List Rec) (h : ∀ r ∈ rs, -1099511627776 ≤ r.t ∧ r.t ≤ 1099511627776 ∧ r.k.length ≤ 64 ∧ r.v.length ≤ 512) (h2 : -1099511627776 ≤ last ∧ last ≤ 1099511627776) : (recsB last rs).length ≤ 606 * rs.length := by
  induction rs generalizing last with
  | nil => simp [recsB]
  | cons a rs ih =>
    have ha := h a List.mem_cons_self
    have := recB_len last a ha h2
    have := ih a.t (fun r hr => h r (List.mem_cons_of_mem _ hr)) ⟨ha.1, ha.2.1⟩
    simp only [recsB, List.length_append, List.length_cons]
    omega
theorem lastT_ok (t : Int) (rs : List Rec) (h : ∀ r ∈ rs, -1099511627776 ≤ r.t ∧ r.t ≤ 1099511627776 ∧ r.k.length ≤ 64 ∧ r.v.length ≤ 512) (h2 : -1099511627776 ≤ t ∧ t ≤ 1099511627776) : -1099511627776 ≤ lastT t rs ∧ lastT t rs ≤ 1099511627776 := by
  induction rs generalizing t with
  | nil => exact h2
  | cons a rs ih =>
    have ha := h a List.mem_cons_self
    exact ih a.t (fun r hr => h r (List.mem_cons_of_mem _ hr)) ⟨ha.1, ha.2.1⟩
theorem Good.t0 {b : Bat} (g : Good b) : -1099511627776 ≤ t0 b ∧ t0 b ≤ 1099511627776 := by
  have h := g.n0
  have e : b.recs.getD 0 default = b.recs[0] := by simp [List.getD, h]
  unfold Rc.t0
  rw [e]
  have := g.recs _ (List.getElem_mem h)
  exact ⟨this.1, this.2.1⟩
theorem hd_len (b : Bat) : (hd b).length = 14 := by simp [hd, le_len]
theorem body_len (b : Bat) (g : Good b) : 14 ≤ (body b).length ∧ (body b).length ≤ 24 + 606 * b.recs.length := by
  have h1 := recsB_len (Rc.t0 b) b.recs g.recs g.t0
  have h2 := g.t0
  have h3 : (Vi.put (Vi.zz (Rc.t0 b))).length ≤ 10 := Vi.size_le10 (Vi.zz_lt _ (by omega) (by omega))
  unfold body
  rw [List.length_append, List.length_append, hd_len]
  omega
end Rc
end Go.Proofs.YtomnkgppldgpkaaDoor

namespace Go.Proofs.YtomnkgppldgpkaaDoor
namespace Rc

def toI (n : Nat) : Int := if n < 9223372036854775808 then (n : Int) else (n : Int) - 18446744073709551616
theorem toI_bd (n : Nat) (h : n < 18446744073709551616) : -9223372036854775808 ≤ toI n ∧ toI n ≤ 9223372036854775807 := by
  unfold toI; split <;> omega
theorem toI_wrap (n : Nat) (h : n < 18446744073709551616) : IntKind.i64.wrap (n : Int) = toI n := by
  rw [IntKind.wrap_i64]; unfold toI; split <;> omega
/-- One record read. -/
def step1 (l : List UInt8) (s : Vi.Rs) (t st : Int) : Rec × Vi.Rs :=
  let i := Vi.int l s (-st) st
  let k := Vi.text l i.2 64
  let v := Vi.text l k.2 512
  (⟨t + i.1, k.1, v.1⟩, v.2)
def loop (l : List UInt8) (many : Nat) : Nat → Vi.Rs → Int → Int → List Rec → List Rec × Vi.Rs
  | 0, s, _, _, acc => (acc, s)
  | f + 1, s, t, st, acc =>
    if acc.length < many ∧ s.code = 0 then loop l many f (step1 l s t st).2 (step1 l s t st).1.t 2199023255552 (acc ++ [(step1 l s t st).1]) else (acc, s)
theorem loop_on (l : List UInt8) (many : Nat) (s : Vi.Rs) (t st : Int) (acc : List Rec) (h : acc.length < many) (hc : s.code = 0) :
    loop l many (many - acc.length) s t st acc = loop l many (many - (acc ++ [(step1 l s t st).1]).length) (step1 l s t st).2 (step1 l s t st).1.t 2199023255552 (acc ++ [(step1 l s t st).1]) := by
  rw [show many - acc.length = (many - acc.length - 1) + 1 by omega, loop, if_pos ⟨h, hc⟩]
  congr 1
  rw [List.length_append]; simp; omega
theorem loop_end (l : List UInt8) (many : Nat) (s : Vi.Rs) (t st : Int) (acc : List Rec) (h : ¬ (acc.length < many ∧ s.code = 0)) : loop l many (many - acc.length) s t st acc = (acc, s) := by
  cases hk : many - acc.length with
  | zero => rfl
  | succ k => rw [loop, if_neg h]
def head1 (l : List UInt8) : Nat × Vi.Rs := Vi.fixed l start 8
def head2 (l : List UInt8) : Nat × Vi.Rs := Vi.fixed l (head1 l).2 4
def head3 (l : List UInt8) : Nat × Vi.Rs := Vi.fixed l (head2 l).2 2
def head4 (l : List UInt8) : Int × Vi.Rs := Vi.int l (head3 l).2 (-1099511627776) 1099511627776
def tail (l : List UInt8) : List Rec × Vi.Rs := loop l (head3 l).1 (head3 l).1 (head4 l).2 (head4 l).1 0 []
def parse (l : List UInt8) : Bat := ⟨toI (head1 l).1, (head2 l).1, (tail l).1⟩
def okay (l : List UInt8) : Bool := decide ((tail l).2.code = 0 ∧ l.length ≤ (tail l).2.at_ ∧ bad (parse l) = 0)

theorem int_bd (l : List UInt8) (s : Vi.Rs) (st : Int) (h : 0 ≤ st) : -st ≤ (Vi.int l s (-st) st).1 ∧ (Vi.int l s (-st) st).1 ≤ st := by
  unfold Vi.int Vi.peekI
  split
  · exact ⟨by show -st ≤ 0; omega, h⟩
  · simp only
    split
    · exact ⟨by show -st ≤ 0; omega, h⟩
    · split
      · exact ⟨by show -st ≤ 0; omega, h⟩
      · rename_i h3
        exact ⟨by omega, by omega⟩
theorem fixed_lt (l : List UInt8) (s : Vi.Rs) (n : Nat) : (Vi.fixed l s n).1 < 2 ^ (8 * n) := by
  unfold Vi.fixed
  split
  · exact Nat.two_pow_pos _
  · split
    · exact Nat.two_pow_pos _
    · rename_i h
      have h1 := little_lt ((l.drop s.at_).take (n : Int).toNat)
      refine Nat.lt_of_lt_of_le h1 (Nat.pow_le_pow_right (by omega) ?_)
      rw [List.length_take]
      omega
end Rc
end Go.Proofs.YtomnkgppldgpkaaDoor
