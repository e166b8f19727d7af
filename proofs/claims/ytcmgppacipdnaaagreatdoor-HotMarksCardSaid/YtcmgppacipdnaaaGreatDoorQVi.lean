/-
  Numbers as bytes, plainly: what a number's bytes are, how many there are, what bytes say, and numbers below nothing. Nothing of any program is named here.
  A reader of numbers, plainly: where it is, and what was amiss. Nothing of any program is named here.
  Numbers below nothing as those that aren't, in the walks' own words: shifts, a turn by all ones, and back. Nothing of any program is named here.
  The walk through package vint's Get.
  The walk through package vint's GetInt.
  Get and GetInt as the walks ask them; what they answer of what Put laid.
  A reader in memory: its three cells, its bytes, its error. The walk through its fail.
  What a plain reader reads of a number or a text laid there; its error at the end.
  Numbers and texts laid one behind the other, plainly; what a plain reader reads there.
  What a reader reads of bytes is what is written as just these bytes: numbers, plainly. Nothing of any program is named here.
  The walks through a reader's next number.
  The walks through a reader's next number that may be below nothing.
  The walks through a reader's own small calls: Num, Int, At, Left, Err.
  The walks through bytes.Clone, NewReader, and a reader's Bytes and Fixed.
  The walk through a reader's Fixed.
  Batches as bytes, plainly: which may be, their bytes, what is read. Nothing of any program is named here.
  A batch's bytes read, plainly.
-/
import Derived.Test.YtcmgppacipdnaaaGreatDoorQTable
import Derived.IntWalk
import Derived.Deep.CutBlock
import Derived.Deep.DeepCutAuto
import Derived.BigQuiet
import Derived.Deep.QuietTactic
import Derived.Lib.SliceRun
namespace Go.Proofs.YtcmgppacipdnaaaGreatDoor.Vi

/-- A number's bytes: sevens of bits, the lowest first, each but the last with bit 7 set. -/
def put (n : Nat) : List UInt8 := if n < 128 then [UInt8.ofNat n] else UInt8.ofNat (n % 128 + 128) :: put (n / 128)
termination_by n
decreasing_by omega

theorem put_lt {n : Nat} (h : n < 128) : put n = [UInt8.ofNat n] := by rw [put, if_pos h]
theorem put_ge {n : Nat} (h : 128 ≤ n) : put n = UInt8.ofNat (n % 128 + 128) :: put (n / 128) := by rw [put, if_neg (by omega)]
def size (n : Nat) : Nat := (put n).length
theorem size_lt {n : Nat} (h : n < 128) : size n = 1 := by unfold size; rw [put_lt h]; rfl
theorem size_ge {n : Nat} (h : 128 ≤ n) : size n = size (n / 128) + 1 := by unfold size; rw [put_ge h]; rfl
theorem size_pos (n : Nat) : 0 < size n := by
  by_cases h : n < 128
  · rw [size_lt h]; omega
  · rw [size_ge (by omega)]; omega
theorem size_le : ∀ (k n : Nat), n < 128 ^ (k + 1) → size n ≤ k + 1 := by
  intro k
  induction k with
  | zero => intro n h; rw [size_lt (by simpa using h)]; omega
  | succ k ih =>
    intro n h
    by_cases hn : n < 128
    · rw [size_lt hn]; omega
    · rw [size_ge (by omega)]
      have := ih (n / 128) (by rw [Nat.pow_succ] at h; omega)
      omega
theorem size_le10 {n : Nat} (h : n < 18446744073709551616) : size n ≤ 10 := size_le 9 n (Nat.lt_of_lt_of_le h (by decide))
theorem byte_toNat {n : Nat} (h : n < 256) : (UInt8.ofNat n).toNat = n := by rw [UInt8.toNat_ofNat']; omega

/-- What bytes say from the i-th on, with n read so far: the number, how many bytes, the error's number (0: none). -/
def get (i n : Nat) : List UInt8 → Nat × Nat × Nat
  | [] => (0, 0, if i < 10 then 101 else 103)
  | c :: l =>
    if 10 ≤ i then (0, 0, 103)
    else if 128 ≤ c.toNat then get (i + 1) (n + c.toNat % 128 * 2 ^ (7 * i)) l
    else if (c.toNat = 0 ∧ 0 < i) ∨ (1 < c.toNat ∧ i = 9) then (0, 0, 103)
    else (n + c.toNat * 2 ^ (7 * i), i + 1, 0)

theorem pow7 (i : Nat) : 2 ^ (7 * (i + 1)) = 128 * 2 ^ (7 * i) := by rw [Nat.mul_add, Nat.pow_add, Nat.mul_comm]
theorem pow_big {i m : Nat} (hm : 0 < m) (h : m * 2 ^ (7 * i) < 18446744073709551616) : i ≤ 9 := by
  rcases Nat.lt_or_ge i 10 with h1 | h1
  · omega
  · exfalso
    have h2 : 2 ^ 70 ≤ 2 ^ (7 * i) := Nat.pow_le_pow_right (by omega) (by omega)
    have h3 : 2 ^ (7 * i) ≤ m * 2 ^ (7 * i) := Nat.le_mul_of_pos_left _ hm
    have : (18446744073709551616 : Nat) ≤ 2 ^ 70 := by decide
    omega

theorem get_put : ∀ (m i a : Nat) (r : List UInt8), (0 < i → 0 < m) → a + m * 2 ^ (7 * i) < 18446744073709551616 → get i a (put m ++ r) = (a + m * 2 ^ (7 * i), i + size m, 0) := by
  intro m
  induction m using Nat.strongRecOn with
  | _ m ih =>
    intro i a r h0 hlt
    have hi : i ≤ 9 := by
      by_cases hz : i = 0
      · omega
      · exact pow_big (h0 (by omega)) (by omega)
    by_cases hm : m < 128
    · rw [put_lt hm, size_lt hm, List.singleton_append, get, byte_toNat (by omega), if_neg (by omega), if_neg (by omega), if_neg]
      rintro (⟨h1, h2⟩ | ⟨h1, h2⟩)
      · have := h0 h2; omega
      · subst h2
        have : (2 : Nat) ^ (7 * 9) = 9223372036854775808 := by decide
        rw [this] at hlt; omega
    · have e : m * 2 ^ (7 * i) = m % 128 * 2 ^ (7 * i) + m / 128 * 2 ^ (7 * (i + 1)) := by
        rw [pow7, ← Nat.mul_assoc, ← Nat.add_mul]; congr 1; omega
      rw [put_ge (by omega), size_ge (by omega), List.cons_append, get, byte_toNat (by omega), if_neg (by omega), if_pos (by omega)]
      have e2 : (m % 128 + 128) % 128 = m % 128 := by omega
      rw [e2, ih (m / 128) (by omega) (i + 1) _ r (fun _ => by omega) (by omega), e]
      refine Prod.ext ?_ (Prod.ext ?_ rfl) <;> simp <;> omega

theorem put_ne (m : Nat) : put m ≠ [] := by
  intro h; have := size_pos m; unfold size at this; rw [h] at this; simp at this
/-- A number that may be below nothing, as one that isn't. -/
def zz (n : Int) : Nat := if 0 ≤ n then (2 * n).toNat else (-2 * n - 1).toNat
def unzz (u : Nat) : Int := if u % 2 = 0 then ((u / 2 : Nat) : Int) else -((u / 2 : Nat) : Int) - 1
theorem unzz_zz (n : Int) : unzz (zz n) = n := by
  unfold unzz zz
  split <;> split <;> omega
theorem zz_lt (n : Int) (h1 : -9223372036854775808 ≤ n) (h2 : n ≤ 9223372036854775807) : zz n < 18446744073709551616 := by
  unfold zz; split <;> omega
end Go.Proofs.YtcmgppacipdnaaaGreatDoor.Vi

namespace Go.Proofs.YtcmgppacipdnaaaGreatDoor.Vi

/-- Where a reader is; the error's number (0: none), the place around it, if there is one. -/
structure Rs where
  at_ : Nat
  code : Nat
  pos : Option Nat

def Rs.fail (s : Rs) (c : Nat) : Rs := if c = 101 then ⟨s.at_, 101, none⟩ else ⟨s.at_, c, some s.at_⟩
/-- The number that comes next, at most so great, and how many bytes it has: the reader stays ahead of them. -/
def peek (l : List UInt8) (s : Rs) (most : Nat) : Nat × Nat × Rs :=
  if s.code ≠ 0 then (0, 0, s)
  else
    let g := get 0 0 (l.drop s.at_)
    if g.2.2 ≠ 0 then (0, 0, s.fail g.2.2) else if most < g.1 then (0, 0, s.fail 105) else (g.1, g.2.1, s)
def peekI (l : List UInt8) (s : Rs) (lo hi : Int) : Int × Nat × Rs :=
  if s.code ≠ 0 then (0, 0, s)
  else
    let g := get 0 0 (l.drop s.at_)
    if g.2.2 ≠ 0 then (0, 0, s.fail g.2.2) else if unzz g.1 < lo ∨ hi < unzz g.1 then (0, 0, s.fail 105) else (unzz g.1, g.2.1, s)
def Rs.on (s : Rs) (k : Nat) : Rs := ⟨s.at_ + k, s.code, s.pos⟩
def num (l : List UInt8) (s : Rs) (most : Nat) : Nat × Rs := ((peek l s most).1, (peek l s most).2.2.on (peek l s most).2.1)
def int (l : List UInt8) (s : Rs) (lo hi : Int) : Int × Rs := ((peekI l s lo hi).1, (peekI l s lo hi).2.2.on (peekI l s lo hi).2.1)
/-- A text of at most so many bytes. -/
def text (l : List UInt8) (s : Rs) (most : Nat) : List UInt8 × Rs :=
  let q := peek l s most
  if q.2.2.code ≠ 0 then ([], q.2.2)
  else if l.length < s.at_ + q.2.1 + q.1 then ([], s.fail 101)
  else ((l.drop (s.at_ + q.2.1)).take q.1, s.on (q.2.1 + q.1))
/-- Bytes, the lowest first, as a number. -/
def little : List UInt8 → Nat
  | [] => 0
  | c :: l => c.toNat + 256 * little l
def fixed (l : List UInt8) (s : Rs) (n : Int) : Nat × Rs :=
  if s.code ≠ 0 ∨ n < 0 ∨ 8 < n then (0, s)
  else if l.length < s.at_ + n.toNat then (0, s.fail 101)
  else (little ((l.drop s.at_).take n.toNat), s.on n.toNat)

/-- What a reader is in. -/
structure Ok (l : List UInt8) (s : Rs) : Prop where
  le : s.at_ ≤ l.length
  code : (s.code = 0 ∧ s.pos = none) ∨ (s.code = 101 ∧ s.pos = none) ∨ ((s.code = 103 ∨ s.code = 105) ∧ s.pos = some s.at_)

theorem Ok.fail {l : List UInt8} {s : Rs} (h : Ok l s) {c : Nat} (hc : c = 101 ∨ c = 103 ∨ c = 105) : Ok l (s.fail c) := by
  unfold Rs.fail
  refine ⟨by split <;> exact h.le, ?_⟩
  rcases hc with rfl | rfl | rfl <;> simp
end Go.Proofs.YtcmgppacipdnaaaGreatDoor.Vi

namespace Go.Proofs.YtcmgppacipdnaaaGreatDoor
open Go.RowKit

theorem ofInt_all (a : Nat) (ha : a < 18446744073709551616) : bits .xor .u64 (a : Int) 18446744073709551615 = ((18446744073709551615 - a : Nat) : Int) := by
  rw [show (18446744073709551615 : Int) = ((18446744073709551615 : Nat) : Int) from rfl, u64_xor_nat _ _ ha (by omega)]
  congr 1
  apply Nat.eq_of_testBit_eq
  intro i
  rw [Nat.testBit_xor, show 18446744073709551615 - a = 2 ^ 64 - (a + 1) from by omega, Nat.testBit_two_pow_sub_succ (by simpa using ha), show (18446744073709551615 : Nat) = 2 ^ 64 - 1 from rfl, Nat.testBit_two_pow_sub_one]
  by_cases hi : i < 64
  · simp [hi]
  · simp [hi]
    exact Nat.testBit_lt_two_pow (Nat.lt_of_lt_of_le ha (Nat.pow_le_pow_right (n := 2) (by omega) (show 64 ≤ i by omega)))
theorem xor_nil (a : Nat) (ha : a < 18446744073709551616) : bits .xor .u64 (a : Int) 0 = (a : Int) := by
  rw [show (0 : Int) = ((0 : Nat) : Int) from rfl, u64_xor_nat _ _ ha (by omega)]; simp
end Go.Proofs.YtcmgppacipdnaaaGreatDoor

namespace Go.Proofs.YtcmgppacipdnaaaGreatDoor
open Go.RowKit

/-- The error of a number. -/
def errOf (p : Nat → Addr) (c : Nat) : Value := if c = 0 then .nilIface else errV (p (c - 101))

end Go.Proofs.YtcmgppacipdnaaaGreatDoor

namespace Go.Proofs.YtcmgppacipdnaaaGreatDoor
open Go.RowKit

end Go.Proofs.YtcmgppacipdnaaaGreatDoor

namespace Go.Proofs.YtcmgppacipdnaaaGreatDoor
open Go.RowKit

theorem get_of_put (u : Nat) (r : List UInt8) (hu : u < 18446744073709551616) : Vi.get 0 0 (Vi.put u ++ r) = (u, Vi.size u, 0) := by
  have h := Vi.get_put u 0 0 r (fun h => absurd h (Nat.lt_irrefl 0)) (by simpa using hu)
  simpa using h
end Go.Proofs.YtcmgppacipdnaaaGreatDoor

namespace Go.Proofs.YtcmgppacipdnaaaGreatDoor
open Go.RowKit

/-- An error with its place. -/
def atV (h : Nat) : Value := .iface 192 (.pointer (some ⟨h, 0, none⟩))
/-- What a reader's error is, by the plain reader's word. -/
def ErrIs (w : World) (p : Nat → Addr) (g : Nat) (E : Value) (s : Vi.Rs) : Prop :=
  (s.code = 0 ∧ s.pos = none ∧ E = .nilIface) ∨ (s.code = 101 ∧ s.pos = none ∧ E = errV (p 0)) ∨
  ∃ h q, (s.code = 103 ∨ s.code = 105) ∧ s.pos = some q ∧ E = atV h ∧ h ≠ g ∧ h < w.heap.size ∧ w.cell? ⟨h, 0, none⟩ = some (.int .i64 q) ∧ w.cell? ⟨h, 1, none⟩ = some (errV (p (s.code - 101)))

/-- The reader of l at block g, in the state s. -/
structure Rdr (w : World) (p : Nat → Addr) (g : Nat) (l : List UInt8) (s : Vi.Rs) : Prop where
  lt : g < w.heap.size
  free : ∀ k, w.frozen? ⟨g, k, none⟩ = false
  ok : Vi.Ok l s
  ex : ∃ A cap E, w.cell? ⟨g, 0, none⟩ = some (.slice A l.length cap) ∧ w.cell? ⟨g, 1, none⟩ = some (.int .i64 s.at_) ∧ w.cell? ⟨g, 2, none⟩ = some E ∧ Arg w A cap l ∧ (∀ b off, A = some ⟨b, off, none⟩ → b ≠ g) ∧ ErrIs w p g E s

/-- Only block g has been turned, beside new ones; not its first cell. -/
structure But (g : Nat) (w w' : World) : Prop where
  grown : w.grownBy w' (some g)
  first : g < w.heap.size → w'.cell? ⟨g, 0, none⟩ = w.cell? ⟨g, 0, none⟩
theorem But.size {g : Nat} {w w' : World} (h : But g w w') : w.heap.size ≤ w'.heap.size := h.grown.size
theorem But.block {g : Nat} {w w' : World} (h : But g w w') : ∀ k, k < w.heap.size → some k ≠ some g → w'.heap[k]? = w.heap[k]? := h.grown.block
theorem But.refl (g : Nat) (w : World) : But g w w := ⟨World.grownBy.refl w _, fun _ => rfl⟩
theorem But.trans {g : Nat} {a b c : World} (h : But g a b) (k : But g b c) : But g a c := ⟨World.grownBy.trans h.grown k.grown, fun hg => (k.first (Nat.lt_of_lt_of_le hg h.size)).trans (h.first hg)⟩
theorem But.of_below {g : Nat} {w w' : World} (h : Below w.heap.size w w') : But g w w' := ⟨⟨h.os, h.tape, h.output, h.size, fun k hk _ => h.block k hk⟩, fun hg => h.cell (p := ⟨g, 0, none⟩) hg⟩
theorem But.drewN (g : Nat) (w : World) (n : Nat) : But g w (w.drewN n) := But.of_below (below_drewN (Below.refl _ _) n)
theorem But.setCell (g k : Nat) (w : World) (v : Value) (hk : k ≠ 0 := by omega) : But g w (w.setCell ⟨g, k, none⟩ v) :=
  ⟨⟨rfl, rfl, rfl, by simp [World.setCell], fun i hi hne => Below.heap_setCell _ _ _ _ (by intro e; exact hne (by rw [e]))⟩, fun _ => World.cell?_setCell_other _ _ _ _ (by simp)⟩
theorem But.cell {g : Nat} {w w' : World} (h : But g w w') {b o : Nat} (hb : b < w.heap.size) (hne : b ≠ g) : w'.cell? ⟨b, o, none⟩ = w.cell? ⟨b, o, none⟩ := by
  have := h.block b hb (by simp [hne])
  simp [World.cell?, this]
theorem But.frozen {g : Nat} {w w' : World} (h : But g w w') {b o : Nat} (hb : b < w.heap.size) (hne : b ≠ g) : w'.frozen? ⟨b, o, none⟩ = w.frozen? ⟨b, o, none⟩ := by
  have := h.block b hb (by simp [hne])
  simp [World.frozen?, this]
theorem Reads.but {g : Nat} {w w' : World} {A : Option Addr} {l : List UInt8} (h : Reads w A l) (hb : But g w w') (hne : ∀ b off, A = some ⟨b, off, none⟩ → b ≠ g) : Reads w' A l := by
  rcases h with h | ⟨b, off, e, hlt, hc⟩
  · exact .inl h
  · exact .inr ⟨b, off, e, Nat.lt_of_lt_of_le hlt hb.size, fun k hk => (hb.cell hlt (hne b off e)).trans (hc k hk)⟩
theorem Arg.but {g : Nat} {w w' : World} {A : Option Addr} {cap : Nat} {l : List UInt8} (h : Arg w A cap l) (hb : But g w w') (hne : ∀ b off, A = some ⟨b, off, none⟩ → b ≠ g) : Arg w' A cap l := ⟨h.le, h.max, h.nil, h.reads.but hb hne⟩
theorem SentsOn.but {S : Nat → Prop} {g : Nat} {w w' : World} {p : Nat → Addr} (h : SentsOn S w p) (hb : But g w w') (hg : ∀ j, S j → gs.getD j 0 ≠ g) (hp : ∀ j, S j → (p j).block ≠ g) : SentsOn S w' p :=
  ⟨fun j hj => (hb.cell (h.size j hj) (hg j hj)).trans (h.cell j hj), fun j hj => by
    obtain ⟨h1, c, t, h2⟩ := h.blk j hj
    exact ⟨Nat.lt_of_lt_of_le h1 hb.size, c, t, (hb.block _ h1 (by simp; exact hp j hj)).trans h2⟩, h.ne⟩
theorem ErrIs.but {g : Nat} {w w' : World} {p : Nat → Addr} {E : Value} {s : Vi.Rs} (h : ErrIs w p g E s) (hb : But g w w') : ErrIs w' p g E s := by
  rcases h with h | h | ⟨a, q, h1, h2, h3, h4, h5, h6, h7⟩
  · exact .inl h
  · exact .inr (.inl h)
  · exact .inr (.inr ⟨a, q, h1, h2, h3, h4, Nat.lt_of_lt_of_le h5 hb.size, (hb.cell h5 h4).trans h6, (hb.cell h5 h4).trans h7⟩)
/-- A reader stays where its own block stays. -/
theorem Rdr.below {w w' : World} {p : Nat → Addr} {g : Nat} {l : List UInt8} {s : Vi.Rs} (h : Rdr w p g l s) (hb : Below w.heap.size w w') : Rdr w' p g l s := by
  obtain ⟨A, cap, E, h0, h1, h2, ha, hne, he⟩ := h.ex
  refine ⟨Nat.lt_of_lt_of_le h.lt hb.size, fun k => (hb.frozen (p := ⟨g, k, none⟩) h.lt).trans (h.free k), h.ok, A, cap, E, (hb.cell (p := ⟨g, 0, none⟩) h.lt).trans h0, (hb.cell (p := ⟨g, 1, none⟩) h.lt).trans h1, (hb.cell (p := ⟨g, 2, none⟩) h.lt).trans h2, ha.below hb (Nat.le_refl _), hne, ?_⟩
  exact he.but (But.of_below hb)
theorem iface_nil (u : TypeId) (x : Value) (w : World) (d : Nat) : (Op.equalIn (d + 1) 46 (.iface u x) .nilIface).run Tryz.prog w = .ok false w := by
  obtain ⟨ms, i, j, h1, h2, h3, h4, h5⟩ := es_facts
  simp [Op.equalIn, run_underlying h1]
theorem neq_nil (u : TypeId) (x : Value) (w : World) : (binOp .neq 46 (.iface u x) .nilIface).run Tryz.prog w = .ok (.bool true) w := by
  simp only [binOp]
  simp [Op.equal, Op.maxDepth, iface_nil u x w 9999]
end Go.Proofs.YtcmgppacipdnaaaGreatDoor

namespace Go.Proofs.YtcmgppacipdnaaaGreatDoor
open Go.RowKit

/-- A reader that has met nothing amiss. -/
def fine (k : Nat) : Vi.Rs := ⟨k, 0, none⟩
def bad (k c : Nat) : Vi.Rs := ⟨k, c, some k⟩
theorem drop_pad (a b : List UInt8) (n : Nat) (h : a.length = n) : (a ++ b).drop n = b := by subst h; simp
theorem peek_at (l r : List UInt8) (k u most : Nat) (hu : u < 18446744073709551616) (h : l.drop k = Vi.put u ++ r) : Vi.peek l (fine k) most = if most < u then (0, 0, bad k 105) else (u, Vi.size u, fine k) := by
  unfold Vi.peek
  rw [if_neg (by simp [fine])]
  simp only [fine, h, get_of_put u r hu]
  rw [if_neg (by simp)]
  rfl
theorem int_at (l r : List UInt8) (k : Nat) (n lo hi : Int) (h1 : -9223372036854775808 ≤ n) (h2 : n ≤ 9223372036854775807) (h : l.drop k = Vi.put (Vi.zz n) ++ r) : Vi.int l (fine k) lo hi = if n < lo ∨ hi < n then (0, bad k 105) else (n, fine (k + Vi.size (Vi.zz n))) := by
  unfold Vi.int Vi.peekI
  rw [if_neg (by simp [fine])]
  simp only [fine, h, get_of_put (Vi.zz n) r (Vi.zz_lt n h1 h2), Vi.unzz_zz]
  rw [if_neg (by simp)]
  by_cases hc : n < lo ∨ hi < n
  · rw [if_pos hc, if_pos hc]; rfl
  · rw [if_neg hc, if_neg hc]; rfl
theorem ErrIs.ends {w : World} {p : Nat → Addr} {g : Nat} {E : Value} {s : Vi.Rs} (h : ErrIs w p g E s) (hc : s.code = 101) : E = errV (p 0) := by
  rcases h with ⟨h, _⟩ | ⟨_, _, h⟩ | ⟨a, q, h, _⟩
  · omega
  · exact h
  · omega
end Go.Proofs.YtcmgppacipdnaaaGreatDoor

namespace Go.Proofs.YtcmgppacipdnaaaGreatDoor
open Go.RowKit

def eT (q : Part) : List UInt8 := Vi.put q.l.length ++ q.l

theorem text_at (l b r : List UInt8) (k most : Nat) (hu : b.length < 18446744073709551616) (h : l.drop k = Vi.put b.length ++ (b ++ r)) (hm : b.length ≤ most) : Vi.text l (fine k) most = (b, fine (k + (Vi.size b.length + b.length))) := by
  have hl : l.length - k = Vi.size b.length + (b.length + r.length) := by
    have := congrArg List.length h
    rw [List.length_drop, List.length_append, List.length_append] at this
    exact this
  have hs := Vi.size_pos b.length
  unfold Vi.text
  simp only [peek_at l (b ++ r) k b.length most hu h, if_neg (show ¬ most < b.length by omega)]
  rw [if_neg (by simp [fine]), if_neg (by simp only [fine]; omega)]
  have hd : l.drop (k + Vi.size b.length) = b ++ r := by rw [← List.drop_drop, h]; exact drop_pad _ _ _ rfl
  simp only [fine] at hd ⊢
  rw [hd]
  simp [Vi.Rs.on]
end Go.Proofs.YtcmgppacipdnaaaGreatDoor

namespace Go.Proofs.YtcmgppacipdnaaaGreatDoor
namespace Vi
end Vi
end Go.Proofs.YtcmgppacipdnaaaGreatDoor

namespace Go.Proofs.YtcmgppacipdnaaaGreatDoor
open Go.RowKit

theorem ErrIs.bad {w : World} {p : Nat → Addr} {g : Nat} {E : Value} {s : Vi.Rs} (h : ErrIs w p g E s) (hc : s.code ≠ 0) : ∃ u x, E = .iface u x := by
  rcases h with ⟨h, _⟩ | ⟨_, _, h⟩ | ⟨a, q, _, _, h, _⟩
  · exact absurd h hc
  · exact ⟨_, _, h⟩
  · exact ⟨_, _, h⟩
theorem ErrIs.good {w : World} {p : Nat → Addr} {g : Nat} {E : Value} {s : Vi.Rs} (h : ErrIs w p g E s) (hc : s.code = 0) : E = .nilIface := by
  rcases h with ⟨_, _, h⟩ | ⟨h, _⟩ | ⟨a, q, h, _⟩
  · exact h
  · omega
  · omega
end Go.Proofs.YtcmgppacipdnaaaGreatDoor

namespace Go.Proofs.YtcmgppacipdnaaaGreatDoor
open Go.RowKit

end Go.Proofs.YtcmgppacipdnaaaGreatDoor

namespace Go.Proofs.YtcmgppacipdnaaaGreatDoor
open Go.RowKit

/-- What the walks load. -/
theorem Rdr.cells {w : World} {p : Nat → Addr} {g : Nat} {l : List UInt8} {s : Vi.Rs} (h : Rdr w p g l s) : w.cell? ⟨g, 1, none⟩ = some (.int .i64 s.at_) ∧ w.frozen? ⟨g, 1, none⟩ = false ∧ g < w.heap.size := by
  obtain ⟨A, cap, E, h0, h1, h2, ha, hne, he⟩ := h.ex
  exact ⟨h1, h.free 1, h.lt⟩

end Go.Proofs.YtcmgppacipdnaaaGreatDoor

namespace Go.Proofs.YtcmgppacipdnaaaGreatDoor
open Go.RowKit

theorem Own.empty (w : World) (base : Nat) (hb : base ≤ w.heap.size) : Own (w.alloc (.cells #[] 5)) base (.slice (some ⟨w.heap.size, 0, none⟩) 0 0) [] := by
  refine ⟨by simp [cells], .inr ⟨w.heap.size, 0, #[], rfl, hb, heap_alloc_new _ _, by simp, by simp [maxLen], by simp, by simp [cells]⟩⟩

/-- A reader at its beginning. -/
def start : Vi.Rs := ⟨0, 0, none⟩
/-- A slice of its own that reads as these bytes. -/
def Own2 (lo g : Nat) (l : List UInt8) (v : Value) (w : World) : Prop := ∃ A c, v = .slice A l.length c ∧ Arg w A c l ∧ ∀ b off, A = some ⟨b, off, none⟩ → lo ≤ b ∧ b ≠ g
def Known.bytes (lo g : Nat) (l : List UInt8) : Known := ⟨fun v w => g < w.heap.size ∧ Own2 lo g l v w, fun _ _ _ ⟨h0, A, c, h1, h2, h3⟩ hb => ⟨Nat.lt_of_lt_of_le h0 hb.size, A, c, h1, h2.below hb (Nat.le_refl _), h3⟩⟩

end Go.Proofs.YtcmgppacipdnaaaGreatDoor

namespace Go.Proofs.YtcmgppacipdnaaaGreatDoor
open Go.RowKit

end Go.Proofs.YtcmgppacipdnaaaGreatDoor

namespace Go.Proofs.YtcmgppacipdnaaaGreatDoor

namespace Rc
/-- A record; a batch. -/
structure Rec where
  t : Int
  k : List UInt8
  v : List UInt8
instance : Inhabited Rec := ⟨⟨0, [], []⟩⟩
structure Bat where
  base : Int
  epoch : Int
  recs : List Rec

def recOk (r : Rec) : Bool := decide (-1099511627776 ≤ r.t ∧ r.t ≤ 1099511627776 ∧ r.k.length ≤ 64 ∧ r.v.length ≤ 512)
/-- Why a batch may not be: the error's number; 0: it may. -/
def bad (b : Bat) : Nat :=
  if b.recs.length = 0 ∨ 64 < b.recs.length then 104
  else if b.base < 0 ∨ 1099511627776 < b.base + b.recs.length ∨ b.epoch < 0 ∨ 1073741824 < b.epoch ∨ b.recs.all recOk = false then 105
  else 0
structure Good (b : Bat) : Prop where
  n0 : 0 < b.recs.length
  n1 : b.recs.length ≤ 64
  base0 : 0 ≤ b.base
  base1 : b.base + b.recs.length ≤ 1099511627776
  ep0 : 0 ≤ b.epoch
  ep1 : b.epoch ≤ 1073741824
  recs : ∀ r ∈ b.recs, -1099511627776 ≤ r.t ∧ r.t ≤ 1099511627776 ∧ r.k.length ≤ 64 ∧ r.v.length ≤ 512
theorem bad_good (b : Bat) : bad b = 0 ↔ Good b := by
  unfold bad
  constructor
  · intro h
    split at h
    · omega
    · rename_i h1
      split at h
      · omega
      · rename_i h2
        have h3 : b.recs.all recOk = true := by
          cases h4 : b.recs.all recOk
          · exact absurd (.inr (.inr (.inr (.inr h4)))) h2
          · rfl
        refine ⟨by omega, by omega, by omega, by omega, by omega, by omega, fun r hr => ?_⟩
        have := List.all_eq_true.1 h3 r hr
        simpa [recOk] using this
  · intro g
    have h3 : b.recs.all recOk = true := List.all_eq_true.2 fun r hr => by simpa [recOk] using g.recs r hr
    have := g.n0
    have := g.n1
    have := g.base0
    have := g.base1
    have := g.ep0
    have := g.ep1
    rw [if_neg (by omega), if_neg (by rw [h3]; simp; omega)]
/-- So many bytes of a number, the lowest first. -/
def le : Nat → Nat → List UInt8
  | 0, _ => []
  | k + 1, n => UInt8.ofNat n :: le k (n / 256)
theorem le_len (k n : Nat) : (le k n).length = k := by
  induction k generalizing n with
  | zero => rfl
  | succ k ih => simp [le, ih]
theorem little_le (k n : Nat) (h : n < 256 ^ k) : Vi.little (le k n) = n := by
  induction k generalizing n with
  | zero => simp at h; subst h; rfl
  | succ k ih =>
    have h2 : n / 256 < 256 ^ k := by
      rw [Nat.pow_succ] at h
      exact Nat.div_lt_of_lt_mul (by omega)
    simp only [le, Vi.little, ih _ h2, UInt8.toNat_ofNat']
    omega
theorem le_snoc (k n : Nat) : le (k + 1) n = le k n ++ [UInt8.ofNat (n / 256 ^ k)] := by
  induction k generalizing n with
  | zero => simp [le]
  | succ k ih =>
    have e : n / 256 ^ (k + 1) = n / 256 / 256 ^ k := by rw [Nat.pow_succ, Nat.mul_comm, Nat.div_div_eq_div_mul]
    rw [show le (k + 1 + 1) n = UInt8.ofNat n :: le (k + 1) (n / 256) from rfl, ih, e]
    rfl

/-- A text behind its length. -/
def eT (l : List UInt8) : List UInt8 := Vi.put l.length ++ l
def recB (last : Int) (r : Rec) : List UInt8 := (Vi.put (Vi.zz (r.t - last)) ++ eT r.k) ++ eT r.v
def lastT (t : Int) : List Rec → Int
  | [] => t
  | r :: rs => lastT r.t rs
def recsB (t : Int) : List Rec → List UInt8
  | [] => []
  | r :: rs => recB t r ++ recsB r.t rs
theorem lastT_snoc (t : Int) (rs : List Rec) (r : Rec) : lastT t (rs ++ [r]) = r.t := by
  induction rs generalizing t with
  | nil => rfl
  | cons a rs ih => exact ih a.t
theorem recsB_snoc (t : Int) (rs : List Rec) (r : Rec) : recsB t (rs ++ [r]) = recsB t rs ++ recB (lastT t rs) r := by
  induction rs generalizing t with
  | nil => simp [recsB, lastT]
  | cons a rs ih => simp only [List.cons_append, recsB, lastT, ih, List.append_assoc]
def t0 (b : Bat) : Int := (b.recs.getD 0 default).t
def hd (b : Bat) : List UInt8 := (le 8 b.base.toNat ++ le 4 b.epoch.toNat) ++ le 2 b.recs.length
def body (b : Bat) : List UInt8 := (hd b ++ Vi.put (Vi.zz (t0 b))) ++ recsB (t0 b) b.recs

theorem eT_len (l : List UInt8) (h : l.length ≤ 512) : (eT l).length ≤ l.length + 10 := by
  unfold eT
  rw [List.length_append]
  have : (Vi.put l.length).length ≤ 10 := Vi.size_le10 (by omega)
  omega
theorem recB_len (last : Int) (r : Rec) (h : -1099511627776 ≤ r.t ∧ r.t ≤ 1099511627776 ∧ r.k.length ≤ 64 ∧ r.v.length ≤ 512) (h2 : -1099511627776 ≤ last ∧ last ≤ 1099511627776) : (recB last r).length ≤ 606 := by
  unfold recB
  rw [List.length_append, List.length_append]
  have h1 : (Vi.put (Vi.zz (r.t - last))).length ≤ 10 := Vi.size_le10 (Vi.zz_lt _ (by omega) (by omega))
  have := eT_len r.k (by omega)
  have := eT_len r.v (by omega)
  omega
theorem recsB_len (last : Int) (rs : List Rec) (h : ∀ r ∈ rs, -1099511627776 ≤ r.t ∧ r.t ≤ 1099511627776 ∧ r.k.length ≤ 64 ∧ r.v.length ≤ 512) (h2 : -1099511627776 ≤ last ∧ last ≤ 1099511627776) : (recsB last rs).length ≤ 606 * rs.length := by
  induction rs generalizing last with
  | nil => simp [recsB]
  | cons a rs ih =>
    have ha := h a List.mem_cons_self
    have := recB_len last a ha h2
    have := ih a.t (fun r hr => h r (List.mem_cons_of_mem _ hr)) ⟨ha.1, ha.2.1⟩
    simp only [recsB, List.length_append, List.length_cons]
    omega
theorem lastT_ok (t : Int) (rs : List Rec) (h : ∀ r ∈ rs, -1099511627776 ≤ r.t ∧ r.t ≤ 1099511627776 ∧ r.k.length ≤ 64 ∧ r.v.length ≤ 512) (h2 : -1099511627776 ≤ t ∧ t ≤ 1099511627776) : -1099511627776 ≤ lastT t rs ∧ lastT t rs ≤ 1099511627776 := by
  induction rs generalizing t with
  | nil => exact h2
  | cons a rs ih =>
    have ha := h a List.mem_cons_self
    exact ih a.t (fun r hr => h r (List.mem_cons_of_mem _ hr)) ⟨ha.1, ha.2.1⟩
theorem Good.t0 {b : Bat} (g : Good b) : -1099511627776 ≤ t0 b ∧ t0 b ≤ 1099511627776 := by
  have h := g.n0
  have e : b.recs.getD 0 default = b.recs[0] := by simp [List.getD, h]
  unfold Rc.t0
  rw [e]
  have := g.recs _ (List.getElem_mem h)
  exact ⟨this.1, this.2.1⟩
theorem hd_len (b : Bat) : (hd b).length = 14 := by simp [hd, le_len]
theorem body_len (b : Bat) (g : Good b) : 14 ≤ (body b).length ∧ (body b).length ≤ 24 + 606 * b.recs.length := by
  have h1 := recsB_len (Rc.t0 b) b.recs g.recs g.t0
  have h2 := g.t0
  have h3 : (Vi.put (Vi.zz (Rc.t0 b))).length ≤ 10 := Vi.size_le10 (Vi.zz_lt _ (by omega) (by omega))
  unfold body
  rw [List.length_append, List.length_append, hd_len]
  omega
end Rc
end Go.Proofs.YtcmgppacipdnaaaGreatDoor

namespace Go.Proofs.YtcmgppacipdnaaaGreatDoor
namespace Rc

def toI (n : Nat) : Int := if n < 9223372036854775808 then (n : Int) else (n : Int) - 18446744073709551616
/-- One record read. -/
def step1 (l : List UInt8) (s : Vi.Rs) (t st : Int) : Rec × Vi.Rs :=
  let i := Vi.int l s (-st) st
  let k := Vi.text l i.2 64
  let v := Vi.text l k.2 512
  (⟨t + i.1, k.1, v.1⟩, v.2)
def loop (l : List UInt8) (many : Nat) : Nat → Vi.Rs → Int → Int → List Rec → List Rec × Vi.Rs
  | 0, s, _, _, acc => (acc, s)
  | f + 1, s, t, st, acc =>
    if acc.length < many ∧ s.code = 0 then loop l many f (step1 l s t st).2 (step1 l s t st).1.t 2199023255552 (acc ++ [(step1 l s t st).1]) else (acc, s)
def head1 (l : List UInt8) : Nat × Vi.Rs := Vi.fixed l start 8
def head2 (l : List UInt8) : Nat × Vi.Rs := Vi.fixed l (head1 l).2 4
def head3 (l : List UInt8) : Nat × Vi.Rs := Vi.fixed l (head2 l).2 2
def head4 (l : List UInt8) : Int × Vi.Rs := Vi.int l (head3 l).2 (-1099511627776) 1099511627776
def tail (l : List UInt8) : List Rec × Vi.Rs := loop l (head3 l).1 (head3 l).1 (head4 l).2 (head4 l).1 0 []
def parse (l : List UInt8) : Bat := ⟨toI (head1 l).1, (head2 l).1, (tail l).1⟩
def okay (l : List UInt8) : Bool := decide ((tail l).2.code = 0 ∧ l.length ≤ (tail l).2.at_ ∧ bad (parse l) = 0)

end Rc
end Go.Proofs.YtcmgppacipdnaaaGreatDoor
