/-
  Numbers as bytes, plainly: what a number's bytes are, how many there are, what bytes say, and numbers below nothing. Nothing of any program is named here.
  A reader of numbers, plainly: where it is, and what was amiss. Nothing of any program is named here.
  Numbers below nothing as those that aren't, in the walks' own words: shifts, a turn by all ones, and back. Nothing of any program is named here.
  The walk through package vint's Get.
  The walk through package vint's GetInt.
  Get and GetInt as the walks ask them; what they answer of what Put laid.
  A reader in memory: its three cells, its bytes, its error. The walk through its fail.
  What a plain reader reads of a number or a text laid there; its error at the end.
  Numbers and texts laid one behind the other, plainly; what a plain reader reads there.
  What a reader reads of bytes is what is written as just these bytes: numbers, plainly. Nothing of any program is named here.
  The walks through a reader's next number.
  The walks through a reader's next number that may be below nothing.
  The walks through a reader's own small calls: Num, Int, At, Left, Err.
  The walks through bytes.Clone, NewReader, and a reader's Bytes and Fixed.
  The walk through a reader's Fixed.
  The walks through package vint's Size, Put and PutInt, and through the statements' own small helpers.
  The walk through package vint's PutInt.
  The walk through the chapter's example: Put of 300.
-/
import Derived.Test.YtfdppggdgdnnaaaGreatDoorZ1
import Derived.IntWalk
import Derived.Deep.CutBlock
import Derived.Deep.DeepCutAuto
import Derived.BigQuiet
import Derived.Deep.QuietTactic
import Derived.Lib.SliceRun
import Derived.WalkKit
import Derived.ProofKit
import Derived.Below
import Derived.Outline
import Derived.LoopTactic
namespace Go.Proofs.YtfdppggdgdnnaaaGreatDoor.Vi

/-- A number's bytes: sevens of bits, the lowest first, each but the last with bit 7 set. -/
def put (n : Nat) : List UInt8 := if n < 128 then [UInt8.ofNat n] else UInt8.ofNat (n % 128 + 128) :: put (n / 128)
termination_by n
decreasing_by omega

theorem put_lt {n : Nat} (h : n < 128) : put n = [UInt8.ofNat n] := by rw [put, if_pos h]
theorem put_ge {n : Nat} (h : 128 ≤ n) : put n = UInt8.ofNat (n % 128 + 128) :: put (n / 128) := by rw [put, if_neg (by omega)]
def size (n : Nat) : Nat := (put n).length
theorem size_lt {n : Nat} (h : n < 128) : size n = 1 := by unfold size; rw [put_lt h]; rfl
theorem size_ge {n : Nat} (h : 128 ≤ n) : size n = size (n / 128) + 1 := by unfold size; rw [put_ge h]; rfl
theorem size_pos (n : Nat) : 0 < size n := by
  by_cases h : n < 128
  · rw [size_lt h]; omega
  · rw [size_ge (by omega)]; omega
theorem size_le : ∀ (k n : Nat), n < 128 ^ (k + 1) → size n ≤ k + 1 := by
  intro k
  induction k with
  | zero => intro n h; rw [size_lt (by simpa using h)]; omega
  | succ k ih =>
    intro n h
    by_cases hn : n < 128
    · rw [size_lt hn]; omega
    · rw [size_ge (by omega)]
      have := ih (n / 128) (by rw [Nat.pow_succ] at h; omega)
      omega
theorem size_le10 {n : Nat} (h : n < 18446744073709551616) : size n ≤ 10 := size_le 9 n (Nat.lt_of_lt_of_le h (by decide))
theorem size_mono : ∀ (m n : Nat), n ≤ m → size n ≤ size m := by
  intro m
  induction m using Nat.strongRecOn with
  | _ m ih =>
    intro n h
    by_cases hn : n < 128
    · rw [size_lt hn]; exact size_pos m
    · rw [size_ge (show 128 ≤ n by omega), size_ge (show 128 ≤ m by omega)]
      have := ih (m / 128) (by omega) (n / 128) (by omega)
      omega
theorem byte_toNat {n : Nat} (h : n < 256) : (UInt8.ofNat n).toNat = n := by rw [UInt8.toNat_ofNat']; omega

/-- What bytes say from the i-th on, with n read so far: the number, how many bytes, the error's number (0: none). -/
def get (i n : Nat) : List UInt8 → Nat × Nat × Nat
  | [] => (0, 0, if i < 10 then 101 else 103)
  | c :: l =>
    if 10 ≤ i then (0, 0, 103)
    else if 128 ≤ c.toNat then get (i + 1) (n + c.toNat % 128 * 2 ^ (7 * i)) l
    else if (c.toNat = 0 ∧ 0 < i) ∨ (1 < c.toNat ∧ i = 9) then (0, 0, 103)
    else (n + c.toNat * 2 ^ (7 * i), i + 1, 0)

theorem pow7 (i : Nat) : 2 ^ (7 * (i + 1)) = 128 * 2 ^ (7 * i) := by rw [Nat.mul_add, Nat.pow_add, Nat.mul_comm]
theorem pow_big {i m : Nat} (hm : 0 < m) (h : m * 2 ^ (7 * i) < 18446744073709551616) : i ≤ 9 := by
  rcases Nat.lt_or_ge i 10 with h1 | h1
  · omega
  · exfalso
    have h2 : 2 ^ 70 ≤ 2 ^ (7 * i) := Nat.pow_le_pow_right (by omega) (by omega)
    have h3 : 2 ^ (7 * i) ≤ m * 2 ^ (7 * i) := Nat.le_mul_of_pos_left _ hm
    have : (18446744073709551616 : Nat) ≤ 2 ^ 70 := by decide
    omega

theorem get_put : ∀ (m i a : Nat) (r : List UInt8), (0 < i → 0 < m) → a + m * 2 ^ (7 * i) < 18446744073709551616 → get i a (put m ++ r) = (a + m * 2 ^ (7 * i), i + size m, 0) := by
  intro m
  induction m using Nat.strongRecOn with
  | _ m ih =>
    intro i a r h0 hlt
    have hi : i ≤ 9 := by
      by_cases hz : i = 0
      · omega
      · exact pow_big (h0 (by omega)) (by omega)
    by_cases hm : m < 128
    · rw [put_lt hm, size_lt hm, List.singleton_append, get, byte_toNat (by omega), if_neg (by omega), if_neg (by omega), if_neg]
      rintro (⟨h1, h2⟩ | ⟨h1, h2⟩)
      · have := h0 h2; omega
      · subst h2
        have : (2 : Nat) ^ (7 * 9) = 9223372036854775808 := by decide
        rw [this] at hlt; omega
    · have e : m * 2 ^ (7 * i) = m % 128 * 2 ^ (7 * i) + m / 128 * 2 ^ (7 * (i + 1)) := by
        rw [pow7, ← Nat.mul_assoc, ← Nat.add_mul]; congr 1; omega
      rw [put_ge (by omega), size_ge (by omega), List.cons_append, get, byte_toNat (by omega), if_neg (by omega), if_pos (by omega)]
      have e2 : (m % 128 + 128) % 128 = m % 128 := by omega
      rw [e2, ih (m / 128) (by omega) (i + 1) _ r (fun _ => by omega) (by omega), e]
      refine Prod.ext ?_ (Prod.ext ?_ rfl) <;> simp <;> omega

theorem put_ne (m : Nat) : put m ≠ [] := by
  intro h; have := size_pos m; unfold size at this; rw [h] at this; simp at this
theorem get_cut : ∀ (m i a : Nat), i + size m ≤ 10 → get i a (put m).dropLast = (0, 0, 101) := by
  intro m
  induction m using Nat.strongRecOn with
  | _ m ih =>
    intro i a h
    have := size_pos m
    by_cases hm : m < 128
    · rw [put_lt hm]
      show get i a [] = _
      rw [get, if_pos (by omega)]
    · rw [size_ge (by omega)] at h
      have hp := size_pos (m / 128)
      rw [put_ge (by omega), List.dropLast_cons_of_ne_nil (put_ne _), get, byte_toNat (by omega), if_neg (by omega), if_pos (by omega)]
      exact ih (m / 128) (by omega) (i + 1) _ (by omega)

theorem get_lt : ∀ (l : List UInt8) (i a : Nat), a < 2 ^ (7 * i) → i ≤ 10 → (get i a l).1 < 18446744073709551616 ∧ (get i a l).2.1 ≤ i + l.length ∧ (get i a l).2.1 ≤ 10 ∧ ((get i a l).2.2 = 0 ∨ (get i a l).2.2 = 101 ∨ (get i a l).2.2 = 103) ∧ ((get i a l).2.2 ≠ 0 → (get i a l).1 = 0 ∧ (get i a l).2.1 = 0) ∧ ((get i a l).2.2 = 0 → i < (get i a l).2.1) := by
  intro l
  induction l with
  | nil =>
    intro i a h1 h2
    by_cases h : i < 10 <;> simp [get, h]
  | cons c l ih =>
    intro i a h1 h2
    have hc := c.toNat_lt
    rw [get]
    by_cases h10 : 10 ≤ i
    · rw [if_pos h10]; simp
    · rw [if_neg h10]
      by_cases h128 : 128 ≤ c.toNat
      · rw [if_pos h128]
        have hb : a + c.toNat % 128 * 2 ^ (7 * i) < 2 ^ (7 * (i + 1)) := by
          rw [pow7]
          have : c.toNat % 128 * 2 ^ (7 * i) ≤ 127 * 2 ^ (7 * i) := Nat.mul_le_mul_right _ (by omega)
          omega
        obtain ⟨g1, g2, g3, g4, g5, g6⟩ := ih (i + 1) _ hb (by omega)
        refine ⟨g1, by simp; omega, g3, g4, g5, fun h => by have := g6 h; omega⟩
      · rw [if_neg h128]
        by_cases hs : (c.toNat = 0 ∧ 0 < i) ∨ (1 < c.toNat ∧ i = 9)
        · rw [if_pos hs]; simp
        · rw [if_neg hs]
          refine ⟨?_, by simp, by simp; omega, by simp, by simp, by simp⟩
          show a + c.toNat * 2 ^ (7 * i) < _
          by_cases h9 : i = 9
          · subst h9
            have : (2 : Nat) ^ (7 * 9) = 9223372036854775808 := by decide
            rw [this] at h1 ⊢
            have : c.toNat ≤ 1 := by omega
            have : c.toNat * 9223372036854775808 ≤ 1 * 9223372036854775808 := Nat.mul_le_mul_right _ this
            omega
          · have h3 : 2 ^ (7 * i) ≤ 2 ^ 56 := Nat.pow_le_pow_right (by omega) (by omega)
            have h4 : c.toNat * 2 ^ (7 * i) ≤ 128 * 2 ^ 56 := Nat.mul_le_mul (by omega) h3
            have : (2 : Nat) ^ 56 = 72057594037927936 := by decide
            rw [this] at h3 h4
            omega

/-- A number that may be below nothing, as one that isn't. -/
def zz (n : Int) : Nat := if 0 ≤ n then (2 * n).toNat else (-2 * n - 1).toNat
def unzz (u : Nat) : Int := if u % 2 = 0 then ((u / 2 : Nat) : Int) else -((u / 2 : Nat) : Int) - 1
theorem unzz_zz (n : Int) : unzz (zz n) = n := by
  unfold unzz zz
  split <;> split <;> omega
theorem zz_lt (n : Int) (h1 : -9223372036854775808 ≤ n) (h2 : n ≤ 9223372036854775807) : zz n < 18446744073709551616 := by
  unfold zz; split <;> omega
theorem size_zz (n : Int) : size (zz n) = size (zz (-1 - n)) := by
  have key : ∀ k : Nat, size (2 * k) = size (2 * k + 1) := by
    intro k
    by_cases h : 2 * k < 128
    · rw [size_lt h, size_lt (by omega)]
    · rw [size_ge (by omega), size_ge (show 128 ≤ 2 * k + 1 by omega)]
      congr 2; omega
  by_cases h : 0 ≤ n
  · have e1 : zz n = 2 * n.toNat := by unfold zz; rw [if_pos h]; omega
    have e2 : zz (-1 - n) = 2 * n.toNat + 1 := by unfold zz; rw [if_neg (by omega)]; omega
    rw [e1, e2]; exact key _
  · have e1 : zz n = 2 * (-1 - n).toNat + 1 := by unfold zz; rw [if_neg h]; omega
    have e2 : zz (-1 - n) = 2 * (-1 - n).toNat := by unfold zz; rw [if_pos (by omega)]; omega
    rw [e1, e2]; exact (key _).symm
theorem unzz_bd (u : Nat) (h : u < 18446744073709551616) : -9223372036854775808 ≤ unzz u ∧ unzz u ≤ 9223372036854775807 := by
  unfold unzz; split <;> omega
end Go.Proofs.YtfdppggdgdnnaaaGreatDoor.Vi

namespace Go.Proofs.YtfdppggdgdnnaaaGreatDoor.Vi

/-- Where a reader is; the error's number (0: none), the place around it, if there is one. -/
structure Rs where
  at_ : Nat
  code : Nat
  pos : Option Nat

def Rs.fail (s : Rs) (c : Nat) : Rs := if c = 101 then ⟨s.at_, 101, none⟩ else ⟨s.at_, c, some s.at_⟩
/-- The number that comes next, at most so great, and how many bytes it has: the reader stays ahead of them. -/
def peek (l : List UInt8) (s : Rs) (most : Nat) : Nat × Nat × Rs :=
  if s.code ≠ 0 then (0, 0, s)
  else
    let g := get 0 0 (l.drop s.at_)
    if g.2.2 ≠ 0 then (0, 0, s.fail g.2.2) else if most < g.1 then (0, 0, s.fail 105) else (g.1, g.2.1, s)
def peekI (l : List UInt8) (s : Rs) (lo hi : Int) : Int × Nat × Rs :=
  if s.code ≠ 0 then (0, 0, s)
  else
    let g := get 0 0 (l.drop s.at_)
    if g.2.2 ≠ 0 then (0, 0, s.fail g.2.2) else if unzz g.1 < lo ∨ hi < unzz g.1 then (0, 0, s.fail 105) else (unzz g.1, g.2.1, s)
def Rs.on (s : Rs) (k : Nat) : Rs := ⟨s.at_ + k, s.code, s.pos⟩
def num (l : List UInt8) (s : Rs) (most : Nat) : Nat × Rs := ((peek l s most).1, (peek l s most).2.2.on (peek l s most).2.1)
def int (l : List UInt8) (s : Rs) (lo hi : Int) : Int × Rs := ((peekI l s lo hi).1, (peekI l s lo hi).2.2.on (peekI l s lo hi).2.1)
/-- A text of at most so many bytes. -/
def text (l : List UInt8) (s : Rs) (most : Nat) : List UInt8 × Rs :=
  let q := peek l s most
  if q.2.2.code ≠ 0 then ([], q.2.2)
  else if l.length < s.at_ + q.2.1 + q.1 then ([], s.fail 101)
  else ((l.drop (s.at_ + q.2.1)).take q.1, s.on (q.2.1 + q.1))
/-- Bytes, the lowest first, as a number. -/
def little : List UInt8 → Nat
  | [] => 0
  | c :: l => c.toNat + 256 * little l
def fixed (l : List UInt8) (s : Rs) (n : Int) : Nat × Rs :=
  if s.code ≠ 0 ∨ n < 0 ∨ 8 < n then (0, s)
  else if l.length < s.at_ + n.toNat then (0, s.fail 101)
  else (little ((l.drop s.at_).take n.toNat), s.on n.toNat)

/-- What a reader is in. -/
structure Ok (l : List UInt8) (s : Rs) : Prop where
  le : s.at_ ≤ l.length
  code : (s.code = 0 ∧ s.pos = none) ∨ (s.code = 101 ∧ s.pos = none) ∨ ((s.code = 103 ∨ s.code = 105) ∧ s.pos = some s.at_)

theorem Ok.fail {l : List UInt8} {s : Rs} (h : Ok l s) {c : Nat} (hc : c = 101 ∨ c = 103 ∨ c = 105) : Ok l (s.fail c) := by
  unfold Rs.fail
  refine ⟨by split <;> exact h.le, ?_⟩
  rcases hc with rfl | rfl | rfl <;> simp
theorem getD_bd (l : List UInt8) (s : Rs) : (get 0 0 (l.drop s.at_)).1 < 18446744073709551616 ∧ (get 0 0 (l.drop s.at_)).2.1 ≤ l.length - s.at_ ∧ (get 0 0 (l.drop s.at_)).2.1 ≤ 10 ∧ ((get 0 0 (l.drop s.at_)).2.2 = 0 ∨ (get 0 0 (l.drop s.at_)).2.2 = 101 ∨ (get 0 0 (l.drop s.at_)).2.2 = 103) := by
  obtain ⟨h1, h2, h3, h4, _⟩ := get_lt (l.drop s.at_) 0 0 (by omega) (by omega)
  rw [List.length_drop] at h2
  exact ⟨h1, by omega, h3, h4⟩
theorem peek_ok {l : List UInt8} {s : Rs} (h : Ok l s) (most : Nat) : Ok l (peek l s most).2.2 ∧ (peek l s most).2.2.at_ = s.at_ ∧ s.at_ + (peek l s most).2.1 ≤ l.length ∧ (peek l s most).1 < 18446744073709551616 := by
  obtain ⟨h1, h2, h3, h4⟩ := getD_bd l s
  have hle := h.le
  unfold peek
  by_cases hc : s.code ≠ 0
  · rw [if_pos hc]; exact ⟨h, rfl, by simp; omega, by simp⟩
  · rw [if_neg hc]
    simp only
    by_cases hg : (get 0 0 (l.drop s.at_)).2.2 ≠ 0
    · rw [if_pos hg]
      refine ⟨h.fail (by omega), ?_, by simp; omega, by simp⟩
      unfold Rs.fail; split <;> rfl
    · rw [if_neg hg]
      by_cases hm : most < (get 0 0 (l.drop s.at_)).1
      · rw [if_pos hm]
        exact ⟨h.fail (.inr (.inr rfl)), rfl, by simp; omega, by simp⟩
      · rw [if_neg hm]
        exact ⟨h, rfl, by simp; omega, h1⟩
theorem peekI_ok {l : List UInt8} {s : Rs} (h : Ok l s) (lo hi : Int) : Ok l (peekI l s lo hi).2.2 ∧ (peekI l s lo hi).2.2.at_ = s.at_ ∧ s.at_ + (peekI l s lo hi).2.1 ≤ l.length := by
  obtain ⟨h1, h2, h3, h4⟩ := getD_bd l s
  have hle := h.le
  unfold peekI
  by_cases hc : s.code ≠ 0
  · rw [if_pos hc]; exact ⟨h, rfl, by simp; omega⟩
  · rw [if_neg hc]
    simp only
    by_cases hg : (get 0 0 (l.drop s.at_)).2.2 ≠ 0
    · rw [if_pos hg]
      refine ⟨h.fail (by omega), ?_, by simp; omega⟩
      unfold Rs.fail; split <;> rfl
    · rw [if_neg hg]
      by_cases hm : unzz (get 0 0 (l.drop s.at_)).1 < lo ∨ hi < unzz (get 0 0 (l.drop s.at_)).1
      · rw [if_pos hm]
        exact ⟨h.fail (.inr (.inr rfl)), rfl, by simp; omega⟩
      · rw [if_neg hm]
        exact ⟨h, rfl, by simp; omega⟩
theorem peek_bad {l : List UInt8} {s : Rs} {most : Nat} (h : (peek l s most).2.2.code ≠ 0) : (peek l s most).1 = 0 ∧ (peek l s most).2.1 = 0 := by
  unfold peek at h ⊢
  by_cases hc : s.code ≠ 0
  · rw [if_pos hc]; exact ⟨rfl, rfl⟩
  · rw [if_neg hc] at h ⊢
    simp only at h ⊢
    by_cases hg : (get 0 0 (l.drop s.at_)).2.2 ≠ 0
    · rw [if_pos hg]; exact ⟨rfl, rfl⟩
    · rw [if_neg hg] at h ⊢
      by_cases hm : most < (get 0 0 (l.drop s.at_)).1
      · rw [if_pos hm]; exact ⟨rfl, rfl⟩
      · rw [if_neg hm] at h; exact absurd h hc
end Go.Proofs.YtfdppggdgdnnaaaGreatDoor.Vi

namespace Go.Proofs.YtfdppggdgdnnaaaGreatDoor
open Go.RowKit

theorem ofInt_all (a : Nat) (ha : a < 18446744073709551616) : bits .xor .u64 (a : Int) 18446744073709551615 = ((18446744073709551615 - a : Nat) : Int) := by
  rw [show (18446744073709551615 : Int) = ((18446744073709551615 : Nat) : Int) from rfl, u64_xor_nat _ _ ha (by omega)]
  congr 1
  apply Nat.eq_of_testBit_eq
  intro i
  rw [Nat.testBit_xor, show 18446744073709551615 - a = 2 ^ 64 - (a + 1) from by omega, Nat.testBit_two_pow_sub_succ (by simpa using ha), show (18446744073709551615 : Nat) = 2 ^ 64 - 1 from rfl, Nat.testBit_two_pow_sub_one]
  by_cases hi : i < 64
  · simp [hi]
  · simp [hi]
    exact Nat.testBit_lt_two_pow (Nat.lt_of_lt_of_le ha (Nat.pow_le_pow_right (n := 2) (by omega) (show 64 ≤ i by omega)))
theorem xor_nil (a : Nat) (ha : a < 18446744073709551616) : bits .xor .u64 (a : Int) 0 = (a : Int) := by
  rw [show (0 : Int) = ((0 : Nat) : Int) from rfl, u64_xor_nat _ _ ha (by omega)]; simp
end Go.Proofs.YtfdppggdgdnnaaaGreatDoor

namespace Go.Proofs.YtfdppggdgdnnaaaGreatDoor
open Go.RowKit

theorem ret3 {a b c a' b' c' : Value} (h1 : a = a') (h2 : b = b') (h3 : c = c') : Ending.returned (.tuple #[a, b, c]) = Ending.returned (.tuple #[a', b', c']) := by rw [h1, h2, h3]
theorem drewN_two (w : World) (a b : Nat) : ∃ n, (w.drewN a).drewN b = w.drewN n := ⟨a + b, by rw [World.drewN_drewN]⟩
/-- The error of a number. -/
def errOf (p : Nat → Addr) (c : Nat) : Value := if c = 0 then .nilIface else errV (p (c - 101))

theorem andNot128 (x : UInt8) : bits .andNot .u8 (B x) 128 = ((x.toNat % 128 : Nat) : Int) := by
  unfold B
  rw [show (128 : Int) = ((128 : Nat) : Int) from rfl, u8_andNot_nat _ _ x.toNat_lt (by omega)]
  congr 1
  exact Nat.and_two_pow_sub_one_eq_mod x.toNat 7
theorem or64 (n x i : Nat) (hn : n < 2 ^ (7 * i)) (hn2 : n < 18446744073709551616) (h : x * 2 ^ (7 * i) < 18446744073709551616) : bits .or .u64 (n : Int) (IntKind.u64.wrap ((x : Int) * 2 ^ (7 * i))) = ((n + x * 2 ^ (7 * i) : Nat) : Int) := by
  have e : IntKind.u64.wrap ((x : Int) * 2 ^ (7 * i)) = ((x * 2 ^ (7 * i) : Nat) : Int) := by
    have : ((x : Int) * 2 ^ (7 * i)) = ((x * 2 ^ (7 * i) : Nat) : Int) := by simp
    rw [IntKind.wrap_u64, this]; omega
  rw [e, u64_or_nat _ _ hn2 h, Nat.or_comm, nat_join (7 * i) _ _ (Nat.mul_mod_left _ _) hn, Nat.add_comm]
theorem pow63 (k : Nat) (h : k ≤ 9) : 2 ^ (7 * k) ≤ 9223372036854775808 := Nat.le_trans (Nat.pow_le_pow_right (by omega) (show 7 * k ≤ 63 by omega)) (by decide)
theorem pow56 (k : Nat) (h : k ≤ 8) : 2 ^ (7 * k) ≤ 72057594037927936 := Nat.le_trans (Nat.pow_le_pow_right (by omega) (show 7 * k ≤ 56 by omega)) (by decide)
theorem or_at (acc x k : Nat) (hk : k ≤ 9) (hacc : acc < 2 ^ (7 * k)) (hx : x < 128) (h : k ≤ 8 ∨ x ≤ 1) : bits .or .u64 (acc : Int) (IntKind.u64.wrap ((x : Int) * 2 ^ (7 * k))) = ((acc + x * 2 ^ (7 * k) : Nat) : Int) := by
  have h9 := pow63 k hk
  refine or64 acc x k hacc (by omega) ?_
  rcases h with h | h
  · have h1 := pow56 k h
    have : x * 2 ^ (7 * k) ≤ 127 * 72057594037927936 := Nat.mul_le_mul (by omega) h1
    omega
  · have : x * 2 ^ (7 * k) ≤ 1 * 9223372036854775808 := Nat.mul_le_mul h h9
    omega
theorem acc_next (acc x k : Nat) (hacc : acc < 2 ^ (7 * k)) (hx : x < 128) : acc + x * 2 ^ (7 * k) < 2 ^ (7 * (k + 1)) := by
  rw [Vi.pow7]
  have : x * 2 ^ (7 * k) ≤ 127 * 2 ^ (7 * k) := Nat.mul_le_mul_right _ (by omega)
  omega

set_option maxRecDepth 100000 in
set_option maxHeartbeats 1000000 in
theorem get_any (A : Option Addr) (cap : Nat) (l : List UInt8) (w : World) (p : Nat → Addr) (hl : l.length ≤ 1000000) (hc : l.length ≤ cap) (hr : Reads w A l) (hs : SentsV w p) :
    Calls Tryz.prog 178 #[.slice A l.length cap] w fun e w' => e = .returned (.tuple #[.int .u64 (Vi.get 0 0 l).1, .int .i64 (Vi.get 0 0 l).2.1, errOf p (Vi.get 0 0 l).2.2]) ∧ ∃ n, w' = w.drewN n := by
  have HR := hide hr
  have k1 := fun W q h => run_cut_h W A l.length cap q h
  have K1 := hide k1
  have c1 : w.cell? ⟨9, 0, none⟩ = some (.iface 258 (.pointer (some (p 0)))) := hs.cell 0 (by omega)
  have c2 : w.cell? ⟨2, 0, none⟩ = some (.iface 258 (.pointer (some (p 2)))) := hs.cell 2 (by omega)
  have C1 := hide c1
  have C2 := hide c2
  clear hr hs k1 c1 c2
  go_enter Tryz.func178, Tryz.ntmps178
  go_upto_region 2 with fail
  obtain ⟨m, hm⟩ : ∃ m, m = min l.length 10 := ⟨_, rfl⟩
  have k2 := fun W => K1.out W m (by omega)
  go_cut [12, 13, 14] (fun s n i wx => s = .slice A m cap ∧ n = .int .i64 m ∧ i = .int .i64 0 ∧ w = wx)
  case first =>
    go_wp2_with fail
    · go_meet
      obtain rfl : m = 10 := by omega
      exact ⟨rfl, rfl, rfl, rfl⟩
    · go_meet
      obtain rfl : m = l.length := by omega
      exact ⟨rfl, rfl, rfl, rfl⟩
  case rest =>
    obtain ⟨rfl, rfl, rfl, rfl⟩ := hcut
    have hm1 : m ≤ 10 := by omega
    have hm2 : m ≤ l.length := by omega
    have HM := hide hm
    clear hm k2
    go_wp2_with fail
    go_loopw [5, 14] (fun n i wr => ∃ (k : Nat) (v : Int) (acc : Nat), k ≤ m ∧ i = .int .i64 k ∧ n = .int .u64 v ∧ (k ≤ 9 → v = acc) ∧ acc < 2 ^ (7 * k) ∧ Vi.get k acc (l.drop k) = Vi.get 0 0 l ∧ ∃ q, wr = w.drewN q) (fun _ i _ => m - (intOf i).toNat)
    case atStart => exact ⟨0, 0, 0, Nat.zero_le _, rfl, rfl, fun _ => rfl, by omega, rfl, 0, rfl⟩
    case round =>
      obtain ⟨k, v, acc, hk, rfl, rfl, hv, hacc, hg, q, rfl⟩ := hrel
      by_cases hlt : k < m
      · have hv9 := hv (by omega)
        subst hv9
        have hkl : k < l.length := by omega
        rcases HR.out with rfl | ⟨b, off, rfl, hb, hcl⟩
        · simp at hkl
        have hcell := hcl k hkl
        have hd : l.drop k = l.getD k 0 :: l.drop (k + 1) := by
          rw [List.drop_eq_getElem_cons hkl]; simp [List.getD, hkl]
        rw [hd, Vi.get, if_neg (by omega)] at hg
        clear hcl hd hv
        generalize l.getD k 0 = c at *
        have ha := andNot128 c
        have hb1 := B_lo c
        have hb2 := B_hi c
        have hcB : B c = (c.toNat : Int) := rfl
        have HCB := hide hcB
        have hx : c.toNat % 128 < 128 := by omega
        by_cases h128 : 128 ≤ c.toNat
        · rw [if_pos h128] at hg
          have hB : 128 ≤ B c := by rw [hcB]; omega
          have HG := hide hg
          have HACC := hide (acc_next acc (c.toNat % 128) k hacc hx)
          have HOR := hide (fun h8 : k ≤ 8 => or_at acc (c.toNat % 128) k (by omega) hacc hx (.inl h8))
          clear hg hcB hacc
          generalize c.toNat % 128 = x at *
          go_wp2_with fail
          exact ⟨⟨k + 1, _, acc + x * 2 ^ (7 * k), by omega, by go_num, rfl, fun h9 => HOR.out (by omega), HACC.out, HG.out, _, rfl⟩, by simp [intOf]; omega⟩
        · rw [if_neg h128] at hg
          have hB : B c < 128 := by rw [hcB]; omega
          have hxc : c.toNat % 128 = c.toNat := by omega
          have HX := hide hxc
          have HOR := hide (fun h8 => or_at acc (c.toNat % 128) k (by omega) hacc hx h8)
          clear hacc hxc
          generalize c.toNat % 128 = x at *
          by_cases hs : (c.toNat = 0 ∧ 0 < k) ∨ (1 < c.toNat ∧ k = 9)
          · rw [if_pos hs] at hg
            have HG := hide hg
            have c2 := C2.out
            rcases hs with ⟨h1, h2⟩ | ⟨h1, h2⟩
            · have hz : (B c == 0) = true := by rw [hcB, h1]; rfl
              clear hg hcB h1 h128
              go_wp2_with fail
              go_quiet (fail)
              go_wp2_with fail
              go_ret3
              exact ⟨by rw [← HG.out]; rfl, drewN_two _ _ _⟩
            · have hz : (B c == 0) = false := by rw [beq_eq_false_iff_ne, hcB]; omega
              have h19 : 1 < B c := by rw [hcB]; omega
              have hk9 : ((k : Int) == 9) = true := by rw [h2]; rfl
              clear hg hcB h1 h2 h128
              go_wp2_with fail
              go_quiet (fail)
              go_wp2_with fail
              go_ret3
              exact ⟨by rw [← HG.out]; rfl, drewN_two _ _ _⟩
          · rw [if_neg hs] at hg
            have HG := hide hg
            have HOR8 := hide ((HOR.out (by have := HX.out; omega)).trans (show _ = ((acc + c.toNat * 2 ^ (7 * k) : Nat) : Int) by rw [HX.out]))
            by_cases h0 : c.toNat = 0
            · have hz : (B c == 0) = true := by rw [hcB, h0]; rfl
              have hk0 : k ≤ 0 := by omega
              have hcB0 : B c ≤ 1 := by rw [hcB]; omega
              clear hg hcB h0 h128 hs
              go_wp2_with fail
              go_ret3
              exact ⟨by rw [← HG.out]; exact ret3 (congrArg (Value.int .u64) HOR8.out) rfl rfl, q, rfl⟩
            · have hz : (B c == 0) = false := by rw [beq_eq_false_iff_ne, hcB]; omega
              by_cases h1 : 1 < c.toNat
              · have h19 : 1 < B c := by rw [hcB]; omega
                have hk9 : ((k : Int) == 9) = false := by rw [beq_eq_false_iff_ne]; omega
                clear hg hcB h0 h1 h128 hs
                go_wp2_with fail
                go_ret3
                exact ⟨by rw [← HG.out]; exact ret3 (congrArg (Value.int .u64) HOR8.out) rfl rfl, q, rfl⟩
              · have h19 : B c ≤ 1 := by rw [hcB]; omega
                clear hg hcB h0 h1 h128 hs
                go_wp2_with fail
                go_ret3
                exact ⟨by rw [← HG.out]; exact ret3 (congrArg (Value.int .u64) HOR8.out) rfl rfl, q, rfl⟩
      · obtain rfl : k = m := by omega
        have HG := hide hg
        have HMM := hide (HM.out)
        have c1 := C1.out
        have c2 := C2.out
        by_cases h10 : l.length < 10
        · obtain rfl : k = l.length := by have := HM.out; omega
          clear hg hv hacc
          go_wp2_with fail
          go_quiet (fail)
          go_wp2_with fail
          go_ret3
          exact ⟨by rw [← HG.out, List.drop_of_length_le (Nat.le_refl _), Vi.get, if_pos h10]; rfl, drewN_two _ _ _⟩
        · obtain rfl : k = 10 := by have := HM.out; omega
          clear hg hv hacc
          go_wp2_with fail
          go_quiet (fail)
          go_wp2_with fail
          go_ret3
          have hsh : Vi.get 10 acc (l.drop 10) = (0, 0, 103) := by
            cases l.drop 10 with
            | nil => rfl
            | cons c r => rw [Vi.get, if_pos (by omega)]
          exact ⟨by rw [← HG.out, hsh]; rfl, drewN_two _ _ _⟩
end Go.Proofs.YtfdppggdgdnnaaaGreatDoor

namespace Go.Proofs.YtfdppggdgdnnaaaGreatDoor
open Go.RowKit

theorem xor_i64_nil (a : Nat) (ha : a < 9223372036854775808) : bits .xor .i64 (a : Int) 0 = (a : Int) := by
  show IntKind.i64.wrap ((BitVec.ofInt 64 (a : Int) ^^^ BitVec.ofInt 64 (0 : Int)).toNat : Int) = _
  rw [BitVec.toNat_xor, ofInt_i64 a ha, show (BitVec.ofInt 64 (0 : Int)).toNat = 0 from by decide, Nat.xor_zero, IntKind.wrap_i64]
  omega
theorem xor_i64_all (a : Nat) (ha : a < 9223372036854775808) : bits .xor .i64 (a : Int) (-1) = -(a : Int) - 1 := by
  show IntKind.i64.wrap ((BitVec.ofInt 64 (a : Int) ^^^ BitVec.ofInt 64 (-1 : Int)).toNat : Int) = _
  rw [BitVec.toNat_xor, ofInt_i64 a ha, show (BitVec.ofInt 64 (-1 : Int)).toNat = 18446744073709551615 from by decide]
  have h := ofInt_all a (by omega)
  rw [show (18446744073709551615 : Int) = ((18446744073709551615 : Nat) : Int) from rfl, u64_xor_nat _ _ (by omega) (by omega)] at h
  rw [h, IntKind.wrap_i64]
  omega
theorem and1_u64 (a : Nat) (ha : a < 18446744073709551616) : bits .and .u64 (a : Int) 1 = ((a % 2 : Nat) : Int) := by
  rw [show (1 : Int) = ((1 : Nat) : Int) from rfl, u64_and_nat _ _ ha (by omega), nat_mask1]

set_option maxRecDepth 100000 in
set_option maxHeartbeats 400000 in
theorem getInt_any (A : Option Addr) (cap : Nat) (l : List UInt8) (w : World) (p : Nat → Addr) (hl : l.length ≤ 1000000) (hc : l.length ≤ cap) (hr : Reads w A l) (hs : SentsV w p) :
    Calls Tryz.prog 176 #[.slice A l.length cap] w fun e w' => e = .returned (.tuple #[.int .i64 (Vi.unzz (Vi.get 0 0 l).1), .int .i64 (Vi.get 0 0 l).2.1, errOf p (Vi.get 0 0 l).2.2]) ∧ ∃ n, w' = w.drewN n := by
  have HG := hide (get_any A cap l w p hl hc hr hs)
  obtain ⟨hb, -⟩ := Vi.get_lt l 0 0 (by omega) (by omega)
  clear hr hs hl hc
  generalize Vi.get 0 0 l = g at *
  have ha := and1_u64 g.1 hb
  have hdv : g.1 / 2 < 9223372036854775808 := by omega
  have hb2 : (g.1 : Int) / 2 ≤ 9223372036854775807 := by omega
  have hcast : (g.1 : Int) / 2 = ((g.1 / 2 : Nat) : Int) := by omega
  rcases Nat.mod_two_eq_zero_or_one g.1 with h2 | h2
  · have HU : Hid (Vi.unzz g.1 = ((g.1 / 2 : Nat) : Int)) := by show _ = _; unfold Vi.unzz; rw [if_pos h2]
    rw [h2] at ha
    have hx := xor_i64_nil _ hdv
    rw [← hcast] at hx HU
    clear hb hdv h2 hcast
    go_enter Tryz.func176, Tryz.ntmps176
    go_wp2_with fail
    refine HG.out.mono ?_
    rintro e w' ⟨rfl, n, rfl⟩
    generalize hE : errOf p g.2.2 = E at *
    have HE := hide hE
    clear hE
    go_wp2_with fail
    go_ret3
    exact ⟨ret3 (congrArg (Value.int .i64) HU.out.symm) rfl HE.out.symm, n, rfl⟩
  · have HU : Hid (Vi.unzz g.1 = -((g.1 / 2 : Nat) : Int) - 1) := by show _ = _; unfold Vi.unzz; rw [if_neg (by omega)]
    rw [h2] at ha
    have hx := xor_i64_all _ hdv
    rw [← hcast] at hx HU
    clear hb hdv h2 hcast
    go_enter Tryz.func176, Tryz.ntmps176
    go_wp2_with fail
    refine HG.out.mono ?_
    rintro e w' ⟨rfl, n, rfl⟩
    generalize hE : errOf p g.2.2 = E at *
    have HE := hide hE
    clear hE
    go_wp2_with fail
    go_ret3
    exact ⟨ret3 (congrArg (Value.int .i64) HU.out.symm) rfl HE.out.symm, n, rfl⟩
end Go.Proofs.YtfdppggdgdnnaaaGreatDoor

namespace Go.Proofs.YtfdppggdgdnnaaaGreatDoor
open Go.RowKit

theorem get_at (A : Option Addr) (cap n : Nat) (l : List UInt8) (w : World) (p : Nat → Addr) (a k c : Nat) (hn : l.length = n) (hg : Vi.get 0 0 l = (a, k, c)) (hl : n ≤ 1000000) (ha : Arg w A cap l) (hs : SentsV w p) :
    Calls Tryz.prog 178 #[.slice A n cap] w fun e w' => e = .returned (.tuple #[.int .u64 a, .int .i64 k, errOf p c]) ∧ ∃ n, w' = w.drewN n := by
  subst hn
  have h := get_any A cap l w p hl ha.le ha.reads hs
  rw [hg] at h; exact h
theorem getInt_at (A : Option Addr) (cap n : Nat) (l : List UInt8) (w : World) (p : Nat → Addr) (a : Int) (k c : Nat) (hn : l.length = n) (hg : (Vi.unzz (Vi.get 0 0 l).1, (Vi.get 0 0 l).2) = (a, k, c)) (hl : n ≤ 1000000) (ha : Arg w A cap l) (hs : SentsV w p) :
    Calls Tryz.prog 176 #[.slice A n cap] w fun e w' => e = .returned (.tuple #[.int .i64 a, .int .i64 k, errOf p c]) ∧ ∃ n, w' = w.drewN n := by
  subst hn
  have h := getInt_any A cap l w p hl ha.le ha.reads hs
  have e1 := congrArg Prod.fst hg
  have e2 := congrArg Prod.snd hg
  simp only at e1 e2
  rw [e1, e2] at h; exact h
theorem get_of_put (u : Nat) (r : List UInt8) (hu : u < 18446744073709551616) : Vi.get 0 0 (Vi.put u ++ r) = (u, Vi.size u, 0) := by
  have h := Vi.get_put u 0 0 r (fun h => absurd h (Nat.lt_irrefl 0)) (by simpa using hu)
  simpa using h
theorem get_of_cut (u : Nat) (hu : u < 18446744073709551616) : Vi.get 0 0 ((Vi.put u).take (Vi.size u - 1)) = (0, 0, 101) := by
  have h := Vi.get_cut u 0 0 (by have := Vi.size_le10 hu; omega)
  rwa [List.dropLast_eq_take] at h
end Go.Proofs.YtfdppggdgdnnaaaGreatDoor

namespace Go.Proofs.YtfdppggdgdnnaaaGreatDoor
open Go.RowKit

/-- An error with its place. -/
def atV (h : Nat) : Value := .iface 173 (.pointer (some ⟨h, 0, none⟩))
/-- What a reader's error is, by the plain reader's word. -/
def ErrIs (w : World) (p : Nat → Addr) (g : Nat) (E : Value) (s : Vi.Rs) : Prop :=
  (s.code = 0 ∧ s.pos = none ∧ E = .nilIface) ∨ (s.code = 101 ∧ s.pos = none ∧ E = errV (p 0)) ∨
  ∃ h q, (s.code = 103 ∨ s.code = 105) ∧ s.pos = some q ∧ E = atV h ∧ h ≠ g ∧ h < w.heap.size ∧ w.cell? ⟨h, 0, none⟩ = some (.int .i64 q) ∧ w.cell? ⟨h, 1, none⟩ = some (errV (p (s.code - 101)))

/-- The reader of l at block g, in the state s. -/
structure Rdr (w : World) (p : Nat → Addr) (g : Nat) (l : List UInt8) (s : Vi.Rs) : Prop where
  lt : g < w.heap.size
  free : ∀ k, w.frozen? ⟨g, k, none⟩ = false
  ok : Vi.Ok l s
  ex : ∃ A cap E, w.cell? ⟨g, 0, none⟩ = some (.slice A l.length cap) ∧ w.cell? ⟨g, 1, none⟩ = some (.int .i64 s.at_) ∧ w.cell? ⟨g, 2, none⟩ = some E ∧ Arg w A cap l ∧ (∀ b off, A = some ⟨b, off, none⟩ → b ≠ g) ∧ ErrIs w p g E s

/-- Only block g has been turned, beside new ones; not its first cell. -/
structure But (g : Nat) (w w' : World) : Prop where
  grown : w.grownBy w' (some g)
  first : g < w.heap.size → w'.cell? ⟨g, 0, none⟩ = w.cell? ⟨g, 0, none⟩
theorem But.size {g : Nat} {w w' : World} (h : But g w w') : w.heap.size ≤ w'.heap.size := h.grown.size
theorem But.block {g : Nat} {w w' : World} (h : But g w w') : ∀ k, k < w.heap.size → some k ≠ some g → w'.heap[k]? = w.heap[k]? := h.grown.block
theorem But.refl (g : Nat) (w : World) : But g w w := ⟨World.grownBy.refl w _, fun _ => rfl⟩
theorem But.trans {g : Nat} {a b c : World} (h : But g a b) (k : But g b c) : But g a c := ⟨World.grownBy.trans h.grown k.grown, fun hg => (k.first (Nat.lt_of_lt_of_le hg h.size)).trans (h.first hg)⟩
theorem But.of_below {g : Nat} {w w' : World} (h : Below w.heap.size w w') : But g w w' := ⟨⟨h.os, h.tape, h.output, h.size, fun k hk _ => h.block k hk⟩, fun hg => h.cell (p := ⟨g, 0, none⟩) hg⟩
theorem But.drewN (g : Nat) (w : World) (n : Nat) : But g w (w.drewN n) := But.of_below (below_drewN (Below.refl _ _) n)
theorem But.setCell (g k : Nat) (w : World) (v : Value) (hk : k ≠ 0 := by omega) : But g w (w.setCell ⟨g, k, none⟩ v) :=
  ⟨⟨rfl, rfl, rfl, by simp [World.setCell], fun i hi hne => Below.heap_setCell _ _ _ _ (by intro e; exact hne (by rw [e]))⟩, fun _ => World.cell?_setCell_other _ _ _ _ (by simp)⟩
theorem But.cell {g : Nat} {w w' : World} (h : But g w w') {b o : Nat} (hb : b < w.heap.size) (hne : b ≠ g) : w'.cell? ⟨b, o, none⟩ = w.cell? ⟨b, o, none⟩ := by
  have := h.block b hb (by simp [hne])
  simp [World.cell?, this]
theorem But.frozen {g : Nat} {w w' : World} (h : But g w w') {b o : Nat} (hb : b < w.heap.size) (hne : b ≠ g) : w'.frozen? ⟨b, o, none⟩ = w.frozen? ⟨b, o, none⟩ := by
  have := h.block b hb (by simp [hne])
  simp [World.frozen?, this]
theorem Reads.but {g : Nat} {w w' : World} {A : Option Addr} {l : List UInt8} (h : Reads w A l) (hb : But g w w') (hne : ∀ b off, A = some ⟨b, off, none⟩ → b ≠ g) : Reads w' A l := by
  rcases h with h | ⟨b, off, e, hlt, hc⟩
  · exact .inl h
  · exact .inr ⟨b, off, e, Nat.lt_of_lt_of_le hlt hb.size, fun k hk => (hb.cell hlt (hne b off e)).trans (hc k hk)⟩
theorem Arg.but {g : Nat} {w w' : World} {A : Option Addr} {cap : Nat} {l : List UInt8} (h : Arg w A cap l) (hb : But g w w') (hne : ∀ b off, A = some ⟨b, off, none⟩ → b ≠ g) : Arg w' A cap l := ⟨h.le, h.max, h.nil, h.reads.but hb hne⟩
theorem SentsOn.but {S : Nat → Prop} {g : Nat} {w w' : World} {p : Nat → Addr} (h : SentsOn S w p) (hb : But g w w') (hg : ∀ j, S j → gs.getD j 0 ≠ g) (hp : ∀ j, S j → (p j).block ≠ g) : SentsOn S w' p :=
  ⟨fun j hj => (hb.cell (h.size j hj) (hg j hj)).trans (h.cell j hj), fun j hj => by
    obtain ⟨h1, c, t, h2⟩ := h.blk j hj
    exact ⟨Nat.lt_of_lt_of_le h1 hb.size, c, t, (hb.block _ h1 (by simp; exact hp j hj)).trans h2⟩, h.ne⟩
theorem ErrIs.but {g : Nat} {w w' : World} {p : Nat → Addr} {E : Value} {s : Vi.Rs} (h : ErrIs w p g E s) (hb : But g w w') : ErrIs w' p g E s := by
  rcases h with h | h | ⟨a, q, h1, h2, h3, h4, h5, h6, h7⟩
  · exact .inl h
  · exact .inr (.inl h)
  · exact .inr (.inr ⟨a, q, h1, h2, h3, h4, Nat.lt_of_lt_of_le h5 hb.size, (hb.cell h5 h4).trans h6, (hb.cell h5 h4).trans h7⟩)
/-- A reader stays where its own block stays. -/
theorem Rdr.below {w w' : World} {p : Nat → Addr} {g : Nat} {l : List UInt8} {s : Vi.Rs} (h : Rdr w p g l s) (hb : Below w.heap.size w w') : Rdr w' p g l s := by
  obtain ⟨A, cap, E, h0, h1, h2, ha, hne, he⟩ := h.ex
  refine ⟨Nat.lt_of_lt_of_le h.lt hb.size, fun k => (hb.frozen (p := ⟨g, k, none⟩) h.lt).trans (h.free k), h.ok, A, cap, E, (hb.cell (p := ⟨g, 0, none⟩) h.lt).trans h0, (hb.cell (p := ⟨g, 1, none⟩) h.lt).trans h1, (hb.cell (p := ⟨g, 2, none⟩) h.lt).trans h2, ha.below hb (Nat.le_refl _), hne, ?_⟩
  exact he.but (But.of_below hb)
theorem Rdr.at_set {w : World} {p : Nat → Addr} {g : Nat} {l : List UInt8} {s : Vi.Rs} (h : Rdr w p g l s) (k : Nat) (hk : s.at_ + k ≤ l.length) (hz : s.code ≠ 0 → k = 0) : Rdr (w.setCell ⟨g, 1, none⟩ (.int .i64 ((s.at_ + k : Nat) : Int))) p g l (s.on k) := by
  obtain ⟨A, cap, E, h0, h1, h2, ha, hne, he⟩ := h.ex
  have hb : But g w (w.setCell ⟨g, 1, none⟩ (.int .i64 ((s.at_ + k : Nat) : Int))) := But.setCell _ _ _ _
  refine ⟨Nat.lt_of_lt_of_le h.lt hb.size, fun j => (World.frozen?_setCell _ _ _ _).trans (h.free j), ⟨hk, ?_⟩, A, cap, E, ?_, World.cell?_setCell_same _ _ _ h1, ?_, ha.but hb hne, hne, ?_⟩
  · rcases h.ok.code with h | h | ⟨h, h'⟩
    · exact .inl h
    · exact .inr (.inl h)
    · refine .inr (.inr ⟨h, ?_⟩)
      have : k = 0 := hz (by omega)
      subst this; exact h'
  · rw [World.cell?_setCell_other _ _ _ _ (by simp)]; exact h0
  · rw [World.cell?_setCell_other _ _ _ _ (by simp)]; exact h2
  · exact he.but hb
theorem Rdr.err_set {w : World} {p : Nat → Addr} {g : Nat} {l : List UInt8} {s s' : Vi.Rs} {E : Value} (h : Rdr w p g l s) (hok : Vi.Ok l s') (hat : s'.at_ = s.at_) (he : ErrIs w p g E s') : Rdr (w.setCell ⟨g, 2, none⟩ E) p g l s' := by
  obtain ⟨A, cap, E', h0, h1, h2, ha, hne, _⟩ := h.ex
  have hb : But g w (w.setCell ⟨g, 2, none⟩ E) := But.setCell _ _ _ _
  refine ⟨Nat.lt_of_lt_of_le h.lt hb.size, fun j => (World.frozen?_setCell _ _ _ _).trans (h.free j), hok, A, cap, E, ?_, ?_, World.cell?_setCell_same _ _ _ h2, ha.but hb hne, hne, he.but hb⟩
  · rw [World.cell?_setCell_other _ _ _ _ (by simp)]; exact h0
  · rw [World.cell?_setCell_other _ _ _ _ (by simp), hat]; exact h1

theorem neq_same (a : Addr) (w : World) : (binOp .neq 35 (errV a) (errV a)).run Tryz.prog w = .ok (.bool false) w := by
  obtain ⟨ms, i, j, h1, h2, h3, h4, h5⟩ := es_facts
  unfold errV
  simp only [binOp]
  simp [Op.equal, Op.maxDepth, run_equalIn_iface_ptr_same w 9998 a h1 es_pointee h2 h3 h4]
theorem neq_other (a b : Addr) (w : World) (hne : a ≠ b) (ha : ∃ c t, w.heap[a.block]? = some (.cells c t (0, 0))) (hb : ∃ c t, w.heap[b.block]? = some (.cells c t (0, 0))) : (binOp .neq 35 (errV a) (errV b)).run Tryz.prog w = .ok (.bool true) w := by
  obtain ⟨ms, i, j, h1, h2, h3, h4, h5⟩ := es_facts
  obtain ⟨c, t, hc⟩ := ha
  obtain ⟨c', t', hc'⟩ := hb
  unfold errV
  simp only [binOp]
  simp [Op.equal, Op.maxDepth, run_equalIn_iface_ptr_other w 9998 h1 es_pointee h2 h3 h4 h5 hne hc hc']
theorem iface_nil (u : TypeId) (x : Value) (w : World) (d : Nat) : (Op.equalIn (d + 1) 35 (.iface u x) .nilIface).run Tryz.prog w = .ok false w := by
  obtain ⟨ms, i, j, h1, h2, h3, h4, h5⟩ := es_facts
  simp [Op.equalIn, run_underlying h1]
theorem neq_nil (u : TypeId) (x : Value) (w : World) : (binOp .neq 35 (.iface u x) .nilIface).run Tryz.prog w = .ok (.bool true) w := by
  simp only [binOp]
  simp [Op.equal, Op.maxDepth, iface_nil u x w 9999]
theorem eqn_nil (u : TypeId) (x : Value) (w : World) : (binOp .eql 35 (.iface u x) .nilIface).run Tryz.prog w = .ok (.bool false) w := by
  simp only [binOp]
  simp [Op.equal, Op.maxDepth, iface_nil u x w 9999]

set_option maxRecDepth 100000 in
/-- fail by the end of the bytes. -/
theorem fail_end (w : World) (p : Nat → Addr) (g : Nat) (l : List UInt8) (s : Vi.Rs) (h : Rdr w p g l s) (hs : SentsV w p) :
    Calls Tryz.prog 150 #[.pointer (some ⟨g, 0, none⟩), errV (p 0)] w fun e w' => e = .returned (.tuple #[]) ∧ Rdr w' p g l (s.fail 101) ∧ But g w w' := by
  have hset := h.err_set (h.ok.fail (c := 101) (.inl rfl)) rfl (E := errV (p 0)) (.inr (.inl ⟨rfl, rfl, rfl⟩))
  have HSET := hide hset
  obtain ⟨A, cap, E, h0, h1, h2, _⟩ := h.ex
  have hfr := h.free 2
  have hlt := h.lt
  have c0 := hs.cell 0 (by omega)
  have k1 := neq_same (p 0)
  clear h hs hset
  change w.cell? ⟨9, 0, none⟩ = some (errV (p 0)) at c0
  unfold errV at *
  go_enter Tryz.func150, Tryz.ntmps150
  go_wp2_with fail
  go_end0
  exact ⟨rfl, HSET.out, But.setCell _ _ _ _⟩

set_option maxRecDepth 100000 in
/-- fail by another error: with its place. -/
theorem fail_at (w : World) (p : Nat → Addr) (g : Nat) (l : List UInt8) (s : Vi.Rs) (k : Nat) (hk : k = 2 ∨ k = 4) (h : Rdr w p g l s) (hs : SentsV w p) :
    Calls Tryz.prog 150 #[.pointer (some ⟨g, 0, none⟩), errV (p k)] w fun e w' => e = .returned (.tuple #[]) ∧ Rdr w' p g l (s.fail (101 + k)) ∧ But g w w' := by
  have hk19 : k = 0 ∨ k = 2 ∨ k = 4 := by omega
  have hb0 : Below w.heap.size w (w.alloc (.cells #[.int .i64 s.at_, errV (p k)] 177)) := balloc (Below.refl _ _) _
  have hset := (h.below hb0).err_set (s' := s.fail (101 + k)) (h.ok.fail (c := 101 + k) (by omega)) (by unfold Vi.Rs.fail; split <;> rfl) (E := atV w.heap.size) (.inr (.inr ⟨w.heap.size, s.at_, by unfold Vi.Rs.fail; rw [if_neg (by omega)]; show 101 + k = 103 ∨ 101 + k = 105; omega, by unfold Vi.Rs.fail; rw [if_neg (by omega)], rfl, by have := h.lt; omega, by simp, by simp, by
    unfold Vi.Rs.fail; rw [if_neg (by omega)]
    simp [Nat.add_sub_cancel_left]⟩))
  have hbut := (But.of_below (g := g) hb0).trans (But.setCell g 2 _ (atV w.heap.size))
  have HSET := hide hset
  have HBUT := hide hbut
  obtain ⟨A, cap, E, h0, h1, h2, _⟩ := h.ex
  have hfr := h.free 2
  have hlt := h.lt
  have c0 := hs.cell 0 (by omega)
  have k1 := neq_other (p k) (p 0) w (hs.ne k 0 hk19 (by omega) (by omega)) (hs.blk k hk19).2 (hs.blk 0 (by omega)).2
  clear h hs hset hbut hb0
  change w.cell? ⟨9, 0, none⟩ = some (errV (p 0)) at c0
  unfold errV at *
  unfold atV at *
  go_enter Tryz.func150, Tryz.ntmps150
  go_wp2_with fail
  go_end0
  have e := World.setCell_alloc_past (w := w) (.cells #[.int .i64 s.at_, .iface 258 (.pointer (some (p k)))] 177) g 2 (.iface 173 (.pointer (some ⟨w.heap.size, 0, none⟩))) hlt
  rw [← e]
  exact ⟨rfl, HSET.out, HBUT.out⟩
end Go.Proofs.YtfdppggdgdnnaaaGreatDoor

namespace Go.Proofs.YtfdppggdgdnnaaaGreatDoor
open Go.RowKit

/-- A reader that has met nothing amiss. -/
def fine (k : Nat) : Vi.Rs := ⟨k, 0, none⟩
def bad (k c : Nat) : Vi.Rs := ⟨k, c, some k⟩
theorem drop_pad (a b : List UInt8) (n : Nat) (h : a.length = n) : (a ++ b).drop n = b := by subst h; simp
theorem peek_at (l r : List UInt8) (k u most : Nat) (hu : u < 18446744073709551616) (h : l.drop k = Vi.put u ++ r) : Vi.peek l (fine k) most = if most < u then (0, 0, bad k 105) else (u, Vi.size u, fine k) := by
  unfold Vi.peek
  rw [if_neg (by simp [fine])]
  simp only [fine, h, get_of_put u r hu]
  rw [if_neg (by simp)]
  rfl
theorem num_at_hi (l r : List UInt8) (k u most : Nat) (hu : u < 18446744073709551616) (h : l.drop k = Vi.put u ++ r) (hm : most < u) : Vi.num l (fine k) most = (0, bad k 105) := by
  unfold Vi.num; rw [peek_at l r k u most hu h, if_pos hm]; rfl
theorem num_at_lo (l r : List UInt8) (k u most : Nat) (hu : u < 18446744073709551616) (h : l.drop k = Vi.put u ++ r) (hm : u ≤ most) : Vi.num l (fine k) most = (u, fine (k + Vi.size u)) := by
  unfold Vi.num; rw [peek_at l r k u most hu h, if_neg (by omega)]; rfl
theorem int_at (l r : List UInt8) (k : Nat) (n lo hi : Int) (h1 : -9223372036854775808 ≤ n) (h2 : n ≤ 9223372036854775807) (h : l.drop k = Vi.put (Vi.zz n) ++ r) : Vi.int l (fine k) lo hi = if n < lo ∨ hi < n then (0, bad k 105) else (n, fine (k + Vi.size (Vi.zz n))) := by
  unfold Vi.int Vi.peekI
  rw [if_neg (by simp [fine])]
  simp only [fine, h, get_of_put (Vi.zz n) r (Vi.zz_lt n h1 h2), Vi.unzz_zz]
  rw [if_neg (by simp)]
  by_cases hc : n < lo ∨ hi < n
  · rw [if_pos hc, if_pos hc]; rfl
  · rw [if_neg hc, if_neg hc]; rfl
theorem int_bad (l : List UInt8) (k c : Nat) (hc : c ≠ 0) (lo hi : Int) : Vi.int l (bad k c) lo hi = (0, bad k c) := by
  unfold Vi.int Vi.peekI
  rw [if_pos (by simpa [bad] using hc)]; rfl
theorem fixed_one (l : List UInt8) (k : Nat) (h : k < l.length) : (Vi.fixed l (fine k) 1).2 = fine (k + 1) := by
  unfold Vi.fixed
  rw [if_neg (by simp [fine]), if_neg (by simp only [fine]; omega)]; rfl
theorem text_hi (l r : List UInt8) (u most : Nat) (hu : u < 18446744073709551616) (h : l = Vi.put u ++ r) (hm : most < u) : Vi.text l (fine 0) most = ([], bad 0 105) := by
  unfold Vi.text
  simp only [peek_at l r 0 u most hu (by simpa using h), if_pos hm]
  rw [if_pos (by simp [bad])]
theorem text_lo (l b r : List UInt8) (most : Nat) (hu : b.length < 18446744073709551616) (h : l = Vi.put b.length ++ (b ++ r)) (hm : b.length ≤ most) : Vi.text l (fine 0) most = (b, fine (Vi.size b.length + b.length)) := by
  unfold Vi.text
  simp only [peek_at l (b ++ r) 0 b.length most hu (by simpa using h), if_neg (show ¬ most < b.length by omega)]
  have hl : l.length = Vi.size b.length + (b.length + r.length) := by rw [h, List.length_append, List.length_append]; rfl
  rw [if_neg (by simp [fine]), if_neg (by simp only [fine]; omega)]
  have hd : l.drop (0 + Vi.size b.length) = b ++ r := by rw [h, Nat.zero_add]; exact drop_pad _ _ _ rfl
  simp only [fine] at hd ⊢
  rw [hd]
  simp [Vi.Rs.on]
theorem text_cut (l b : List UInt8) (k most : Nat) (hu : b.length < 18446744073709551616) (hl : l = (Vi.put b.length ++ b).take k) (hk : k < Vi.size b.length + b.length) (hm : b.length ≤ most) : Vi.text l (fine 0) most = ([], ⟨0, 101, none⟩) := by
  have hpl : (Vi.put b.length).length = Vi.size b.length := rfl
  by_cases h : Vi.size b.length ≤ k
  · have hl2 : l = Vi.put b.length ++ b.take (k - Vi.size b.length) := by
      rw [hl, List.take_append, hpl, List.take_of_length_le (by rw [hpl]; exact h)]
    unfold Vi.text
    simp only [peek_at l (b.take (k - Vi.size b.length)) 0 b.length most hu (by simpa using hl2), if_neg (show ¬ most < b.length by omega)]
    have hll : l.length = k := by rw [hl, List.length_take, List.length_append, hpl]; omega
    rw [if_neg (by simp [fine]), if_pos (by simp only [fine]; omega)]
    rfl
  · have hl2 : l = (Vi.put b.length).take k := by rw [hl, List.take_append_of_le_length (by rw [hpl]; omega)]
    have hg : ∀ (j m i a : Nat), j < Vi.size m → i + Vi.size m ≤ 10 → Vi.get i a ((Vi.put m).take j) = (0, 0, 101) := by
      intro j
      induction j with
      | zero => intro m i a h1 h2; rw [List.take_zero, Vi.get, if_pos (by omega)]
      | succ j ih =>
        intro m i a h1 h2
        by_cases hm : m < 128
        · rw [Vi.size_lt hm] at h1; omega
        · rw [Vi.size_ge (by omega)] at h1 h2
          rw [Vi.put_ge (by omega), List.take_succ_cons, Vi.get, Vi.byte_toNat (by omega), if_neg (by have := Vi.size_pos (m / 128); omega), if_pos (by omega)]
          exact ih (m / 128) (i + 1) _ (by omega) (by omega)
    have hp : Vi.peek l (fine 0) most = (0, 0, ⟨0, 101, none⟩) := by
      unfold Vi.peek
      rw [if_neg (by simp [fine])]
      simp only [fine, List.drop_zero, hl2, hg k b.length 0 0 (by omega) (by have := Vi.size_le10 hu; omega)]
      rw [if_pos (by simp)]
      rfl
    unfold Vi.text
    simp only [hp]
    rw [if_pos (by simp)]

theorem ErrIs.ends {w : World} {p : Nat → Addr} {g : Nat} {E : Value} {s : Vi.Rs} (h : ErrIs w p g E s) (hc : s.code = 101) : E = errV (p 0) := by
  rcases h with ⟨h, _⟩ | ⟨_, _, h⟩ | ⟨a, q, h, _⟩
  · omega
  · exact h
  · omega
end Go.Proofs.YtfdppggdgdnnaaaGreatDoor

namespace Go.Proofs.YtfdppggdgdnnaaaGreatDoor
open Go.RowKit

theorem flat_at {α : Type} (f : α → List UInt8) (pre rest : List UInt8) (xs : List α) (k : Nat) (hk : k < xs.length) : (pre ++ (xs.flatMap f ++ rest)).drop (pre.length + ((xs.take k).flatMap f).length) = f xs[k] ++ ((xs.drop (k + 1)).flatMap f ++ rest) := by
  have e : xs.flatMap f = (xs.take k).flatMap f ++ (f xs[k] ++ (xs.drop (k + 1)).flatMap f) := by
    conv => lhs; rw [← List.take_append_drop k xs, List.drop_eq_getElem_cons hk]
    rw [List.flatMap_append, List.flatMap_cons]
  rw [e, show pre ++ ((xs.take k).flatMap f ++ (f xs[k] ++ (xs.drop (k + 1)).flatMap f) ++ rest) = (pre ++ (xs.take k).flatMap f) ++ (f xs[k] ++ ((xs.drop (k + 1)).flatMap f ++ rest)) from by simp only [List.append_assoc]]
  exact drop_pad _ _ _ (by rw [List.length_append])
theorem flat_succ {α : Type} (f : α → List UInt8) (xs : List α) (k : Nat) (hk : k < xs.length) : (xs.take (k + 1)).flatMap f = (xs.take k).flatMap f ++ f xs[k] := by
  rw [List.take_succ_eq_append_getElem hk, List.flatMap_append, List.flatMap_cons, List.flatMap_nil, List.append_nil]
theorem flat_le {α : Type} (f : α → List UInt8) (c : Nat) : ∀ (xs : List α), (∀ x ∈ xs, (f x).length ≤ c) → (xs.flatMap f).length ≤ xs.length * c
  | [], _ => by simp
  | x :: xs, h => by
    rw [List.flatMap_cons, List.length_append, List.length_cons, Nat.succ_mul]
    have h1 := h x List.mem_cons_self
    have h2 := flat_le f c xs fun y hy => h y (List.mem_cons_of_mem _ hy)
    omega
def eU (u : Nat) : List UInt8 := Vi.put u
def eI (n : Int) : List UInt8 := Vi.put (Vi.zz n)
def eT (q : Part) : List UInt8 := Vi.put q.l.length ++ q.l

theorem text_at (l b r : List UInt8) (k most : Nat) (hu : b.length < 18446744073709551616) (h : l.drop k = Vi.put b.length ++ (b ++ r)) (hm : b.length ≤ most) : Vi.text l (fine k) most = (b, fine (k + (Vi.size b.length + b.length))) := by
  have hl : l.length - k = Vi.size b.length + (b.length + r.length) := by
    have := congrArg List.length h
    rw [List.length_drop, List.length_append, List.length_append] at this
    exact this
  have hs := Vi.size_pos b.length
  unfold Vi.text
  simp only [peek_at l (b ++ r) k b.length most hu h, if_neg (show ¬ most < b.length by omega)]
  rw [if_neg (by simp [fine]), if_neg (by simp only [fine]; omega)]
  have hd : l.drop (k + Vi.size b.length) = b ++ r := by rw [← List.drop_drop, h]; exact drop_pad _ _ _ rfl
  simp only [fine] at hd ⊢
  rw [hd]
  simp [Vi.Rs.on]
theorem peek_big (l r : List UInt8) (k u : Nat) (hu : u < 18446744073709551616) (h : l.drop k = Vi.put u ++ r) : Vi.num l (fine k) 18446744073709551615 = (u, fine (k + Vi.size u)) :=
  num_at_lo l r k u _ hu h (by omega)
theorem int_big (l r : List UInt8) (k : Nat) (n : Int) (h1 : -9223372036854775808 ≤ n) (h2 : n ≤ 9223372036854775807) (h : l.drop k = Vi.put (Vi.zz n) ++ r) : Vi.int l (fine k) (-9223372036854775808) 9223372036854775807 = (n, fine (k + Vi.size (Vi.zz n))) := by
  rw [int_at l r k n _ _ h1 h2 h, if_neg (by omega)]
theorem fixed_three (l : List UInt8) (k : Nat) (h : l.drop k = [1, 2, 3]) : Vi.fixed l (fine k) 3 = (197121, fine (k + 3)) := by
  have hl : l.length - k = 3 := by
    have := congrArg List.length h
    rwa [List.length_drop] at this
  unfold Vi.fixed
  rw [if_neg (by simp [fine]), if_neg (by simp only [fine]; omega)]
  simp only [fine, h]
  rfl
theorem fixed_end (l : List UInt8) : Vi.fixed l (fine l.length) 1 = (0, ⟨l.length, 101, none⟩) := by
  unfold Vi.fixed
  rw [if_neg (by simp [fine]), if_pos (by simp only [fine]; omega)]
  rfl
theorem num_end (l : List UInt8) (k most : Nat) : Vi.num l ⟨k, 101, none⟩ most = (0, ⟨k, 101, none⟩) := by
  unfold Vi.num Vi.peek
  rw [if_pos (by simp)]
  rfl

/-- What a reader reads of all that was laid: where it is ahead of each. -/
theorem layout (us : List Nat) (ns : List Int) (ps : List Part) (L : List UInt8) (hL : L = ((us.flatMap eU ++ ns.flatMap eI) ++ ps.flatMap eT) ++ [1, 2, 3])
    (bu : ∀ k, k < us.length → us.getD k 0 < 18446744073709551616) (bn : ∀ k, k < ns.length → -9223372036854775808 ≤ ns.getD k 0 ∧ ns.getD k 0 ≤ 9223372036854775807) (bp : ∀ q ∈ ps, q.l.length ≤ 40) :
    ∃ PU PI PT : Nat → Nat, PU 0 = 0 ∧ (∀ k, k < us.length → Vi.num L (fine (PU k)) 18446744073709551615 = (us.getD k 0, fine (PU (k + 1)))) ∧ PI 0 = PU us.length ∧
      (∀ k, k < ns.length → Vi.int L (fine (PI k)) (-9223372036854775808) 9223372036854775807 = (ns.getD k 0, fine (PI (k + 1)))) ∧ PT 0 = PI ns.length ∧
      (∀ k (h : k < ps.length), Vi.text L (fine (PT k)) 40 = (ps[k].l, fine (PT (k + 1)))) ∧ PT ps.length + 3 = L.length ∧ Vi.fixed L (fine (PT ps.length)) 3 = (197121, fine (PT ps.length + 3)) := by
  have e1 : L = [] ++ (us.flatMap eU ++ (ns.flatMap eI ++ (ps.flatMap eT ++ [1, 2, 3]))) := by rw [hL]; simp only [List.append_assoc, List.nil_append]
  have e2 : L = us.flatMap eU ++ (ns.flatMap eI ++ (ps.flatMap eT ++ [1, 2, 3])) := by rw [hL]; simp only [List.append_assoc]
  have e3 : L = (us.flatMap eU ++ ns.flatMap eI) ++ (ps.flatMap eT ++ [1, 2, 3]) := by rw [hL]; simp only [List.append_assoc]
  refine ⟨fun k => (([] : List UInt8)).length + ((us.take k).flatMap eU).length, fun k => (us.flatMap eU).length + ((ns.take k).flatMap eI).length, fun k => (us.flatMap eU ++ ns.flatMap eI).length + ((ps.take k).flatMap eT).length, by simp, fun k hk => ?_, by simp, fun k hk => ?_, by simp, fun k hk => ?_, ?_, ?_⟩
  · have hd := flat_at eU [] (ns.flatMap eI ++ (ps.flatMap eT ++ [1, 2, 3])) us k hk
    rw [← e1] at hd
    have hg : us[k] = us.getD k 0 := by simp [List.getD, hk]
    rw [hg] at hd
    rw [peek_big L _ _ _ (bu k hk) hd]
    dsimp only
    rw [flat_succ eU us k hk, List.length_append, hg, ← Nat.add_assoc]
    rfl
  · have hd := flat_at eI (us.flatMap eU) (ps.flatMap eT ++ [1, 2, 3]) ns k hk
    rw [← e2] at hd
    have hg : ns[k] = ns.getD k 0 := by simp [List.getD, hk]
    rw [hg] at hd
    rw [int_big L _ _ _ (bn k hk).1 (bn k hk).2 hd]
    dsimp only
    rw [flat_succ eI ns k hk, List.length_append, hg, ← Nat.add_assoc]
    rfl
  · have hd := flat_at eT (us.flatMap eU ++ ns.flatMap eI) [1, 2, 3] ps k hk
    rw [← e3] at hd
    have hb := bp _ (List.getElem_mem hk)
    rw [text_at L ps[k].l ((ps.drop (k + 1)).flatMap eT ++ [1, 2, 3]) _ 40 (by omega) (by rw [hd]; unfold eT; rw [List.append_assoc]) hb]
    dsimp only
    rw [flat_succ eT ps k hk]
    refine Prod.ext rfl (congrArg fine ?_)
    have hh : (eT ps[k]).length = Vi.size ps[k].l.length + ps[k].l.length := by unfold eT; rw [List.length_append]; rfl
    simp only [List.length_append, hh]; omega
  · dsimp only
    rw [List.take_length, hL]
    simp only [List.length_append, List.length_cons, List.length_nil]
  · refine fixed_three L _ ?_
    dsimp only
    rw [List.take_length, ← List.length_append, hL]
    exact drop_pad _ _ _ rfl
end Go.Proofs.YtfdppggdgdnnaaaGreatDoor

namespace Go.Proofs.YtfdppggdgdnnaaaGreatDoor
namespace Vi
theorem get_canon : ∀ (l : List UInt8) (i a n k : Nat), get i a l = (n, k, 0) → ∃ m r, l = put m ++ r ∧ n = a + m * 2 ^ (7 * i) ∧ k = i + size m ∧ (0 < i → 0 < m) := by
  intro l
  induction l with
  | nil => intro i a n k h; rw [get] at h; split at h <;> simp at h
  | cons c l ih =>
    intro i a n k h
    have hc := c.toNat_lt
    rw [get] at h
    split at h
    · simp at h
    · split at h
      · rename_i h128
        obtain ⟨m, r, e, hn, hk, hp⟩ := ih _ _ _ _ h
        have hp := hp (by omega)
        refine ⟨c.toNat % 128 + 128 * m, r, ?_, ?_, ?_, fun _ => by omega⟩
        · rw [put_ge (by omega), show (c.toNat % 128 + 128 * m) % 128 + 128 = c.toNat by omega, show (c.toNat % 128 + 128 * m) / 128 = m by omega, e, List.cons_append]
          congr 1
          apply UInt8.toNat_inj.1
          rw [byte_toNat hc]
        · rw [hn, pow7, Nat.add_mul, Nat.mul_assoc 128 m, Nat.mul_left_comm 128 m, Nat.add_assoc]
        · rw [hk, size_ge (n := c.toNat % 128 + 128 * m) (by omega), show (c.toNat % 128 + 128 * m) / 128 = m by omega]; omega
      · split at h
        · simp at h
        · rename_i h1 h2
          simp at h
          refine ⟨c.toNat, l, ?_, h.1.symm, ?_, fun h0 => ?_⟩
          · rw [put_lt (by omega)]
            have : UInt8.ofNat c.toNat = c := UInt8.toNat_inj.1 (byte_toNat hc)
            rw [this]; rfl
          · rw [size_lt (by omega)]; omega
          · omega
theorem zz_unzz (u : Nat) : zz (unzz u) = u := by
  unfold unzz zz
  split
  · rw [if_pos (by omega)]; omega
  · rw [if_neg (by omega)]; omega
theorem peek_stays {l : List UInt8} {s : Rs} {most : Nat} (h : (peek l s most).2.2.code = 0) : s.code = 0 := by
  unfold peek at h
  by_cases hc : s.code ≠ 0
  · rw [if_pos hc] at h; exact h
  · omega
theorem fail_code (s : Rs) (c : Nat) : (s.fail c).code = c := by unfold Rs.fail; split <;> simp_all
theorem peek_fine (l : List UInt8) (k most : Nat) : peek l (fine k) most = if (get 0 0 (l.drop k)).2.2 ≠ 0 then (0, 0, (fine k).fail (get 0 0 (l.drop k)).2.2) else if most < (get 0 0 (l.drop k)).1 then (0, 0, (fine k).fail 105) else ((get 0 0 (l.drop k)).1, (get 0 0 (l.drop k)).2.1, fine k) := by
  unfold peek
  rw [if_neg (by simp [fine])]
  rfl
theorem peekI_fine (l : List UInt8) (k : Nat) (lo hi : Int) : peekI l (fine k) lo hi = if (get 0 0 (l.drop k)).2.2 ≠ 0 then (0, 0, (fine k).fail (get 0 0 (l.drop k)).2.2) else if unzz (get 0 0 (l.drop k)).1 < lo ∨ hi < unzz (get 0 0 (l.drop k)).1 then (0, 0, (fine k).fail 105) else (unzz (get 0 0 (l.drop k)).1, (get 0 0 (l.drop k)).2.1, fine k) := by
  unfold peekI
  rw [if_neg (by simp [fine])]
  rfl
theorem num_canon {l : List UInt8} {k most : Nat} (h : (peek l (fine k) most).2.2.code = 0) : ∃ u r, l.drop k = put u ++ r ∧ u ≤ most ∧ u < 18446744073709551616 ∧ peek l (fine k) most = (u, size u, fine k) := by
  have hlt := (get_lt (l.drop k) 0 0 (by omega) (by omega)).1
  have hcn := get_canon (l.drop k) 0 0
  rw [peek_fine] at h ⊢
  generalize get 0 0 (l.drop k) = G at *
  obtain ⟨n, j, c⟩ := G
  simp only at h hlt hcn ⊢
  by_cases hc : c ≠ 0
  · rw [if_pos hc] at h; simp only [fail_code] at h; exact absurd h hc
  · rw [if_neg hc] at h ⊢
    by_cases hm : most < n
    · rw [if_pos hm] at h; simp only [fail_code] at h; omega
    · rw [if_neg hm]
      obtain rfl : c = 0 := by omega
      obtain ⟨m, r, e, hn, hk, _⟩ := hcn _ _ rfl
      simp at hn hk
      subst hn hk
      exact ⟨n, r, e, by omega, hlt, rfl⟩
theorem int_canon {l : List UInt8} {k : Nat} {lo hi : Int} (h : (Vi.int l (fine k) lo hi).2.code = 0) : ∃ n r, l.drop k = put (zz n) ++ r ∧ lo ≤ n ∧ n ≤ hi ∧ Vi.int l (fine k) lo hi = (n, fine (k + size (zz n))) := by
  have hcn := get_canon (l.drop k) 0 0
  unfold Vi.int at h ⊢
  rw [peekI_fine] at h ⊢
  generalize get 0 0 (l.drop k) = G at *
  obtain ⟨n, j, c⟩ := G
  simp only at h hcn ⊢
  by_cases hc : c ≠ 0
  · rw [if_pos hc] at h; simp only [Rs.on, fail_code] at h; exact absurd h hc
  · rw [if_neg hc] at h ⊢
    by_cases hm : unzz n < lo ∨ hi < unzz n
    · rw [if_pos hm] at h; simp only [Rs.on, fail_code] at h; omega
    · rw [if_neg hm]
      obtain rfl : c = 0 := by omega
      obtain ⟨m, r, e, hn, hk, _⟩ := hcn _ _ rfl
      simp at hn hk
      subst hn hk
      exact ⟨unzz n, r, by rw [zz_unzz]; exact e, by omega, by omega, by rw [zz_unzz]; rfl⟩
theorem int_stays {l : List UInt8} {s : Rs} {lo hi : Int} (h : (Vi.int l s lo hi).2.code = 0) : s.code = 0 := by
  unfold Vi.int peekI at h
  by_cases hc : s.code ≠ 0
  · rw [if_pos hc] at h; exact h
  · omega
end Vi
end Go.Proofs.YtfdppggdgdnnaaaGreatDoor

namespace Go.Proofs.YtfdppggdgdnnaaaGreatDoor
open Go.RowKit

theorem ErrIs.bad {w : World} {p : Nat → Addr} {g : Nat} {E : Value} {s : Vi.Rs} (h : ErrIs w p g E s) (hc : s.code ≠ 0) : ∃ u x, E = .iface u x := by
  rcases h with ⟨h, _⟩ | ⟨_, _, h⟩ | ⟨a, q, _, _, h, _⟩
  · exact absurd h hc
  · exact ⟨_, _, h⟩
  · exact ⟨_, _, h⟩
theorem ErrIs.good {w : World} {p : Nat → Addr} {g : Nat} {E : Value} {s : Vi.Rs} (h : ErrIs w p g E s) (hc : s.code = 0) : E = .nilIface := by
  rcases h with ⟨_, _, h⟩ | ⟨h, _⟩ | ⟨a, q, h, _⟩
  · exact h
  · omega
  · omega
theorem ret2 {a b a' b' : Value} (h1 : a = a') (h2 : b = b') : Ending.returned (.tuple #[a, b]) = Ending.returned (.tuple #[a', b']) := by rw [h1, h2]
theorem fail_code (w : World) (p : Nat → Addr) (g : Nat) (l : List UInt8) (s : Vi.Rs) (c : Nat) (hc : c = 101 ∨ c = 103 ∨ c = 105) (h : Rdr w p g l s) (hs : SentsV w p) :
    Calls Tryz.prog 150 #[.pointer (some ⟨g, 0, none⟩), errV (p (c - 101))] w fun e w' => e = .returned (.tuple #[]) ∧ Rdr w' p g l (s.fail c) ∧ But g w w' := by
  rcases hc with rfl | rfl | rfl
  · exact fail_end w p g l s h hs
  · exact fail_at w p g l s 2 (.inl rfl) h hs
  · exact fail_at w p g l s 4 (.inr rfl) h hs

set_option maxRecDepth 100000 in
set_option maxHeartbeats 1000000 in
theorem next_bad (w : World) (p : Nat → Addr) (g : Nat) (l : List UInt8) (s : Vi.Rs) (most : Nat) (h : Rdr w p g l s) (hc : s.code ≠ 0) (F : Value) :
    Calls Tryz.prog 177 #[.pointer (some ⟨g, 0, none⟩), F, .int .u64 0, .int .u64 most] w fun e w' => e = .returned (.tuple #[.int .u64 0, .int .i64 0]) ∧ w = w' := by
  obtain ⟨A, cap, E, h0, h1, h2, ha, hne, he⟩ := h.ex
  obtain ⟨u, x, rfl⟩ := he.bad hc
  have k1 := neq_nil u x
  clear h hc ha hne he
  go_enter Tryz.func177, Tryz.ntmps177
  go_wp2_with fail
  go_ret2
  exact ⟨rfl, rfl⟩

set_option maxRecDepth 100000 in
set_option maxHeartbeats 1000000 in
theorem next_good (w : World) (p : Nat → Addr) (g : Nat) (l : List UInt8) (s : Vi.Rs) (most : Nat) (h : Rdr w p g l s) (hs : SentsV w p) (hl : l.length ≤ 1000000) (hc : s.code = 0) (a k c : Nat) (hg : Vi.get 0 0 (l.drop s.at_) = (a, k, c)) (h3 : c = 0 ∨ c = 101 ∨ c = 103) :
    Calls Tryz.prog 177 #[.pointer (some ⟨g, 0, none⟩), .func (.func 178) #[] #[], .int .u64 0, .int .u64 most] w fun e w' =>
      if c ≠ 0 then e = .returned (.tuple #[.int .u64 0, .int .i64 0]) ∧ Rdr w' p g l (s.fail c) ∧ But g w w'
      else if most < a then e = .returned (.tuple #[.int .u64 0, .int .i64 0]) ∧ Rdr w' p g l (s.fail 105) ∧ But g w w'
      else e = .returned (.tuple #[.int .u64 a, .int .i64 k]) ∧ Rdr w' p g l s ∧ But g w w' := by
  obtain ⟨A, cap, E, h0, h1, h2, ha, hne, he⟩ := h.ex
  obtain rfl := he.good hc
  have hle := h.ok.le
  have HR := hide h
  have HS := hide hs
  have HG := hide (fun W hW hS => get_at (cutA A cap s.at_) (cap - s.at_) (l.length - s.at_) (l.drop s.at_) W p a k c (by rw [List.length_drop]) hg (by omega) ((ha.below (w' := W) hW (Nat.le_refl _)).cut s.at_ hle) hS)
  have k1 := fun W => run_cut_l W A l.length cap s.at_ hle
  have hcap := ha.le
  clear ha hne he hs h hc hg
  go_enter Tryz.func177, Tryz.ntmps177
  go_wp2_with fail
  go_quiet (first | (go_at_call 178; exact Calls.quiet_of (HG.out _ (below_drewN (Below.refl _ _) _) (HS.out.below (below_drewN (Below.refl _ _) _)))))
  have HRQ := hide (HR.out.below (below_drewN (Below.refl w.heap.size w) nq))
  have HSQ := hide (HS.out.below (below_drewN (Below.refl w.heap.size w) nq))
  have HBQ := hide (But.drewN g w nq)
  clear k1
  by_cases hc0 : c = 0
  · subst hc0
    rw [show errOf p 0 = .nilIface from rfl]
    by_cases hm : most < a
    · have hm' : (most : Int) < (a : Int) := by omega
      have HM := hide hm
      have c4 : w.cell? ⟨0, 0, none⟩ = some (.iface 258 (.pointer (some (p 4)))) := HS.out.cell 4 (by omega)
      have k2 := neq_nil 258 (.pointer (some (p 4)))
      have HF := hide (fail_code (w.drewN nq) p g l s 105 (by omega) HRQ.out HSQ.out)
      rw [show 105 - 101 = 4 from rfl] at HF
      unfold errV at HF
      clear hm HG
      go_wp2_with fail
      refine HF.out.mono ?_
      rintro e w1 ⟨rfl, hr1, hb1⟩
      go_wp2_with fail
      go_ret2
      exact ⟨rfl, hr1, HBQ.out.trans hb1⟩
    · have HM := hide hm
      have hm' : ¬ (most : Int) < (a : Int) := by omega
      clear hm HG
      go_wp2_with fail
      go_ret2
      exact ⟨rfl, HRQ.out, HBQ.out⟩
  · have hE : errOf p c = .iface 258 (.pointer (some (p (c - 101)))) := by unfold errOf; rw [if_neg hc0]; rfl
    rw [hE]
    have k2 := neq_nil 258 (.pointer (some (p (c - 101))))
    have k3 := eqn_nil 258 (.pointer (some (p (c - 101))))
    have HF := hide (fail_code (w.drewN nq) p g l s c (by omega) HRQ.out HSQ.out)
    unfold errV at HF
    have HC := hide hc0
    clear hc0 hE HG
    go_wp2_with fail
    refine HF.out.mono ?_
    rintro e w1 ⟨rfl, hr1, hb1⟩
    go_wp2_with fail
    go_ret2
    exact ⟨rfl, hr1, HBQ.out.trans hb1⟩

theorem next_any (w : World) (p : Nat → Addr) (g : Nat) (l : List UInt8) (s : Vi.Rs) (most : Nat) (h : Rdr w p g l s) (hs : SentsV w p) (hl : l.length ≤ 1000000) :
    Calls Tryz.prog 177 #[.pointer (some ⟨g, 0, none⟩), .func (.func 178) #[] #[], .int .u64 0, .int .u64 most] w fun e w' => e = .returned (.tuple #[.int .u64 (Vi.peek l s most).1, .int .i64 (Vi.peek l s most).2.1]) ∧ Rdr w' p g l (Vi.peek l s most).2.2 ∧ But g w w' := by
  by_cases hc : s.code ≠ 0
  · have e : Vi.peek l s most = (0, 0, s) := by unfold Vi.peek; rw [if_pos hc]
    rw [e]
    exact (next_bad w p g l s most h hc _).mono fun e w' ⟨h1, h2⟩ => ⟨h1, h2 ▸ h, h2 ▸ But.refl g w⟩
  · have hc0 : s.code = 0 := by omega
    obtain ⟨_, _, _, h4⟩ := Vi.getD_bd l s
    refine (next_good w p g l s most h hs hl hc0 _ _ _ rfl h4).mono fun e w' hp => ?_
    unfold Vi.peek
    rw [if_neg hc]
    simp only
    by_cases h5 : (Vi.get 0 0 (l.drop s.at_)).2.2 ≠ 0
    · rw [if_pos h5] at hp ⊢; exact hp
    · rw [if_neg h5] at hp ⊢
      by_cases h6 : most < (Vi.get 0 0 (l.drop s.at_)).1
      · rw [if_pos h6] at hp ⊢; exact hp
      · rw [if_neg h6] at hp ⊢; exact hp
end Go.Proofs.YtfdppggdgdnnaaaGreatDoor

namespace Go.Proofs.YtfdppggdgdnnaaaGreatDoor
open Go.RowKit

set_option maxRecDepth 100000 in
set_option maxHeartbeats 1000000 in
theorem nextI_bad (w : World) (p : Nat → Addr) (g : Nat) (l : List UInt8) (s : Vi.Rs) (lo hi : Int) (h : Rdr w p g l s) (hc : s.code ≠ 0) (F : Value) :
    Calls Tryz.prog 175 #[.pointer (some ⟨g, 0, none⟩), F, .int .i64 lo, .int .i64 hi] w fun e w' => e = .returned (.tuple #[.int .i64 0, .int .i64 0]) ∧ w = w' := by
  obtain ⟨A, cap, E, h0, h1, h2, ha, hne, he⟩ := h.ex
  obtain ⟨u, x, rfl⟩ := he.bad hc
  have k1 := neq_nil u x
  clear h hc ha hne he
  go_enter Tryz.func175, Tryz.ntmps175
  go_wp2_with fail
  go_ret2
  exact ⟨rfl, rfl⟩

set_option maxRecDepth 100000 in
set_option maxHeartbeats 1000000 in
theorem nextI_good (w : World) (p : Nat → Addr) (g : Nat) (l : List UInt8) (s : Vi.Rs) (lo hi : Int) (h : Rdr w p g l s) (hs : SentsV w p) (hl : l.length ≤ 1000000) (hc : s.code = 0) (z : Int) (k c : Nat) (hg : (Vi.unzz (Vi.get 0 0 (l.drop s.at_)).1, (Vi.get 0 0 (l.drop s.at_)).2) = (z, k, c)) (h3 : c = 0 ∨ c = 101 ∨ c = 103) :
    Calls Tryz.prog 175 #[.pointer (some ⟨g, 0, none⟩), .func (.func 176) #[] #[], .int .i64 lo, .int .i64 hi] w fun e w' =>
      if c ≠ 0 then e = .returned (.tuple #[.int .i64 0, .int .i64 0]) ∧ Rdr w' p g l (s.fail c) ∧ But g w w'
      else if z < lo ∨ hi < z then e = .returned (.tuple #[.int .i64 0, .int .i64 0]) ∧ Rdr w' p g l (s.fail 105) ∧ But g w w'
      else e = .returned (.tuple #[.int .i64 z, .int .i64 k]) ∧ Rdr w' p g l s ∧ But g w w' := by
  obtain ⟨A, cap, E, h0, h1, h2, ha, hne, he⟩ := h.ex
  obtain rfl := he.good hc
  have hle := h.ok.le
  have HR := hide h
  have HS := hide hs
  have HG := hide (fun W hW hS => getInt_at (cutA A cap s.at_) (cap - s.at_) (l.length - s.at_) (l.drop s.at_) W p z k c (by rw [List.length_drop]) hg (by omega) ((ha.below (w' := W) hW (Nat.le_refl _)).cut s.at_ hle) hS)
  have k1 := fun W => run_cut_l W A l.length cap s.at_ hle
  have hcap := ha.le
  clear ha hne he hs h hc hg
  go_enter Tryz.func175, Tryz.ntmps175
  go_wp2_with fail
  go_quiet (first | (go_at_call 176; exact Calls.quiet_of (HG.out _ (below_drewN (Below.refl _ _) _) (HS.out.below (below_drewN (Below.refl _ _) _)))))
  have HRQ := hide (HR.out.below (below_drewN (Below.refl w.heap.size w) nq))
  have HSQ := hide (HS.out.below (below_drewN (Below.refl w.heap.size w) nq))
  have HBQ := hide (But.drewN g w nq)
  clear k1
  by_cases hc0 : c = 0
  · subst hc0
    rw [show errOf p 0 = .nilIface from rfl]
    have c4 : w.cell? ⟨0, 0, none⟩ = some (.iface 258 (.pointer (some (p 4)))) := HS.out.cell 4 (by omega)
    have k2 := neq_nil 258 (.pointer (some (p 4)))
    have HF := hide (fail_code (w.drewN nq) p g l s 105 (by omega) HRQ.out HSQ.out)
    rw [show 105 - 101 = 4 from rfl] at HF
    unfold errV at HF
    clear HG
    by_cases hm : z < lo
    · have hm' : decide (z < lo) = true := by simp [hm]
      have HM := hide (Or.inl hm : z < lo ∨ hi < z)
      go_wp2_with fail
      refine HF.out.mono ?_
      rintro e w1 ⟨rfl, hr1, hb1⟩
      go_wp2_with fail
      go_ret2
      exact ⟨rfl, hr1, HBQ.out.trans hb1⟩
    · have hm' : decide (z < lo) = false := by simp [hm]
      by_cases hn : hi < z
      · have hn' : decide (hi < z) = true := by simp [hn]
        have HM := hide (Or.inr hn : z < lo ∨ hi < z)
        go_wp2_with fail
        refine HF.out.mono ?_
        rintro e w1 ⟨rfl, hr1, hb1⟩
        go_wp2_with fail
        go_ret2
        exact ⟨rfl, hr1, HBQ.out.trans hb1⟩
      · have hn' : decide (hi < z) = false := by simp [hn]
        clear c4 k2
        go_wp2_with fail
        go_ret2
        exact ⟨rfl, HRQ.out, HBQ.out⟩
  · have hE : errOf p c = .iface 258 (.pointer (some (p (c - 101)))) := by unfold errOf; rw [if_neg hc0]; rfl
    rw [hE]
    have k2 := neq_nil 258 (.pointer (some (p (c - 101))))
    have k3 := eqn_nil 258 (.pointer (some (p (c - 101))))
    have HF := hide (fail_code (w.drewN nq) p g l s c (by omega) HRQ.out HSQ.out)
    unfold errV at HF
    have HC := hide hc0
    clear hc0 hE HG
    go_wp2_with fail
    refine HF.out.mono ?_
    rintro e w1 ⟨rfl, hr1, hb1⟩
    go_wp2_with fail
    go_ret2
    exact ⟨rfl, hr1, HBQ.out.trans hb1⟩

theorem nextI_any (w : World) (p : Nat → Addr) (g : Nat) (l : List UInt8) (s : Vi.Rs) (lo hi : Int) (h : Rdr w p g l s) (hs : SentsV w p) (hl : l.length ≤ 1000000) :
    Calls Tryz.prog 175 #[.pointer (some ⟨g, 0, none⟩), .func (.func 176) #[] #[], .int .i64 lo, .int .i64 hi] w fun e w' => e = .returned (.tuple #[.int .i64 (Vi.peekI l s lo hi).1, .int .i64 (Vi.peekI l s lo hi).2.1]) ∧ Rdr w' p g l (Vi.peekI l s lo hi).2.2 ∧ But g w w' := by
  by_cases hc : s.code ≠ 0
  · have e : Vi.peekI l s lo hi = (0, 0, s) := by unfold Vi.peekI; rw [if_pos hc]
    rw [e]
    exact (nextI_bad w p g l s lo hi h hc _).mono fun e w' ⟨h1, h2⟩ => ⟨h1, h2 ▸ h, h2 ▸ But.refl g w⟩
  · have hc0 : s.code = 0 := by omega
    obtain ⟨_, _, _, h4⟩ := Vi.getD_bd l s
    refine (nextI_good w p g l s lo hi h hs hl hc0 _ _ _ rfl h4).mono fun e w' hp => ?_
    unfold Vi.peekI
    rw [if_neg hc]
    simp only
    by_cases h5 : (Vi.get 0 0 (l.drop s.at_)).2.2 ≠ 0
    · rw [if_pos h5] at hp ⊢; exact hp
    · rw [if_neg h5] at hp ⊢
      by_cases h6 : Vi.unzz (Vi.get 0 0 (l.drop s.at_)).1 < lo ∨ hi < Vi.unzz (Vi.get 0 0 (l.drop s.at_)).1
      · rw [if_pos h6] at hp ⊢; exact hp
      · rw [if_neg h6] at hp ⊢; exact hp
end Go.Proofs.YtfdppggdgdnnaaaGreatDoor

namespace Go.Proofs.YtfdppggdgdnnaaaGreatDoor
open Go.RowKit

theorem Rdr.at_add {w : World} {p : Nat → Addr} {g : Nat} {l : List UInt8} {s : Vi.Rs} (h : Rdr w p g l s) (k : Nat) (hk : s.at_ + k ≤ l.length) (hz : s.code ≠ 0 → k = 0) : Rdr (w.setCell ⟨g, 1, none⟩ (.int .i64 ((s.at_ : Int) + (k : Int)))) p g l (s.on k) := h.at_set k hk hz
/-- What the walks load. -/
theorem Rdr.cells {w : World} {p : Nat → Addr} {g : Nat} {l : List UInt8} {s : Vi.Rs} (h : Rdr w p g l s) : w.cell? ⟨g, 1, none⟩ = some (.int .i64 s.at_) ∧ w.frozen? ⟨g, 1, none⟩ = false ∧ g < w.heap.size := by
  obtain ⟨A, cap, E, h0, h1, h2, ha, hne, he⟩ := h.ex
  exact ⟨h1, h.free 1, h.lt⟩

theorem peekI_bad {l : List UInt8} {s : Vi.Rs} {lo hi : Int} (h : (Vi.peekI l s lo hi).2.2.code ≠ 0) : (Vi.peekI l s lo hi).2.1 = 0 := by
  unfold Vi.peekI at h ⊢
  by_cases hc : s.code ≠ 0
  · rw [if_pos hc]
  · rw [if_neg hc] at h ⊢
    simp only at h ⊢
    by_cases hg : (Vi.get 0 0 (l.drop s.at_)).2.2 ≠ 0
    · rw [if_pos hg]
    · rw [if_neg hg] at h ⊢
      by_cases hm : Vi.unzz (Vi.get 0 0 (l.drop s.at_)).1 < lo ∨ hi < Vi.unzz (Vi.get 0 0 (l.drop s.at_)).1
      · rw [if_pos hm]
      · rw [if_neg hm] at h; exact absurd h hc

set_option maxRecDepth 100000 in
set_option maxHeartbeats 400000 in
theorem int_any (w : World) (p : Nat → Addr) (g : Nat) (l : List UInt8) (s : Vi.Rs) (lo hi : Int) (h : Rdr w p g l s) (hs : SentsV w p) (hl : l.length ≤ 1000000) :
    Calls Tryz.prog 151 #[.pointer (some ⟨g, 0, none⟩), .int .i64 lo, .int .i64 hi] w fun e w' => e = .returned (.int .i64 (Vi.int l s lo hi).1) ∧ Rdr w' p g l (Vi.int l s lo hi).2 ∧ But g w w' := by
  have HN := hide (nextI_any w p g l s lo hi h hs hl)
  obtain ⟨-, o2, o3⟩ := Vi.peekI_ok h.ok lo hi
  have HB := hide (peekI_bad (l := l) (s := s) (lo := lo) (hi := hi))
  have HE : Hid (Vi.int l s lo hi = ((Vi.peekI l s lo hi).1, (Vi.peekI l s lo hi).2.2.on (Vi.peekI l s lo hi).2.1)) := hide rfl
  rw [← o2] at o3
  clear h hs o2
  generalize Vi.peekI l s lo hi = q at *
  go_enter Tryz.func151, Tryz.ntmps151
  go_wp2_with fail
  refine HN.out.mono ?_
  rintro e w1 ⟨rfl, hr1, hb1⟩
  obtain ⟨c1, f1, t1⟩ := hr1.cells
  have HS := hide (hr1.at_add q.2.1 o3 (fun h => HB.out h))
  have HBB := hide (hb1.trans (But.setCell g 1 w1 (.int .i64 ((q.2.2.at_ : Int) + (q.2.1 : Int)))))
  clear hr1 hb1 HN
  go_wp2_with fail
  go_ret
  rw [HE.out]
  exact ⟨rfl, HS.out, HBB.out⟩

theorem rleft_any (w : World) (p : Nat → Addr) (g : Nat) (l : List UInt8) (s : Vi.Rs) (h : Rdr w p g l s) (hl : l.length ≤ 1000000) :
    Calls Tryz.prog 149 #[.pointer (some ⟨g, 0, none⟩)] w fun e w' => e = .returned (.int .i64 ((l.length - s.at_ : Nat) : Int)) ∧ ∃ n, w' = w.drewN n := by
  obtain ⟨A, cap, E, h0, h1, h2, ha, hne, he⟩ := h.ex
  have hle := h.ok.le
  have HE : Hid (((l.length - s.at_ : Nat) : Int) = (l.length : Int) - s.at_) := by show _ = _; omega
  clear h ha hne he h2
  go_enter Tryz.func149, Tryz.ntmps149
  go_wp2_with fail
  go_quiet (fail)
  go_wp2_with fail
  go_ret
  exact ⟨by rw [HE.out]; rfl, _, rfl⟩
theorem rerr_any (w : World) (p : Nat → Addr) (g : Nat) (l : List UInt8) (s : Vi.Rs) (h : Rdr w p g l s) :
    Calls Tryz.prog 152 #[.pointer (some ⟨g, 0, none⟩)] w fun e w' => (∃ E, e = .returned E ∧ ErrIs w p g E s) ∧ w = w' := by
  obtain ⟨A, cap, E, h0, h1, h2, ha, hne, he⟩ := h.ex
  have hlt := h.lt
  have HE := hide he
  clear h ha hne he h0 h1
  go_enter Tryz.func152, Tryz.ntmps152
  go_wp2_with fail
  go_ret
  exact ⟨⟨E, rfl, HE.out⟩, rfl⟩
end Go.Proofs.YtfdppggdgdnnaaaGreatDoor

namespace Go.Proofs.YtfdppggdgdnnaaaGreatDoor
open Go.RowKit

theorem Own.empty (w : World) (base : Nat) (hb : base ≤ w.heap.size) : Own (w.alloc (.cells #[] 5)) base (.slice (some ⟨w.heap.size, 0, none⟩) 0 0) [] := by
  refine ⟨by simp [cells], .inr ⟨w.heap.size, 0, #[], rfl, hb, heap_alloc_new _ _, by simp, by simp [maxLen], by simp, by simp [cells]⟩⟩

set_option maxRecDepth 100000 in
theorem clone_any (A : Option Addr) (cap n : Nat) (l : List UInt8) (w : World) (hn : l.length = n) (hl : n ≤ 1000000) (ha : Arg w A cap l) :
    Calls Tryz.prog 118 #[.slice A n cap] w fun e w' => ∃ A' c', e = .returned (.slice A' n c') ∧ Arg w' A' c' l ∧ (∀ b off, A' = some ⟨b, off, none⟩ → w.heap.size ≤ b ∧ b < w'.heap.size) ∧ Below w.heap.size w w' := by
  have ks := fun W => Lib.run_eql_slice_nil (P := Tryz.prog) W 32 5 A n cap 0 0 Tryz.underlying32
  cases A with
  | none =>
    have h0 : l = [] := by
      have := ha.nil rfl
      have := ha.le
      exact List.eq_nil_of_length_eq_zero (by omega)
    subst h0
    obtain rfl : n = 0 := hn.symm
    have hc := ha.nil rfl
    subst hc
    have HA := hide ha
    clear ha hn
    go_enter Tryz.func118, Tryz.ntmps118
    go_wp2_with fail
    go_ret
    exact ⟨none, 0, rfl, HA.out, (fun b off h => by cases h), Below.refl _ _⟩
  | some a =>
    have HA := hide ha
    have HN := hide hn
    have HO := hide (Own.empty w w.heap.size (Nat.le_refl _))
    clear ha hn
    go_enter Tryz.func118, Tryz.ntmps118
    go_wp2_with (at_builtin; refine wpList_app (w := w.alloc _) rfl (.tmp 5) (.tmp 6) rfl w.heap.size _ [] l rfl HO.out (some a) n cap rfl HN.out (HA.out.reads.alloc _) (by simp; omega) (by simp) ?_; intro v w3 hown3 hg3 hv3)
    have hb : Below w.heap.size w w3 := (balloc (Below.refl _ _) _).grown hg3 (by simp) (fun g hg => (HO.out.lt g hg).1)
    rw [List.nil_append] at hown3
    obtain ⟨A', c', rfl, ha'⟩ := hown3.arg
    rw [HN.out]
    go_ret
    refine ⟨A', c', rfl, ha', fun b off h => ?_, hb⟩
    subst h
    exact hown3.lt b rfl

/-- A reader at its beginning. -/
def start : Vi.Rs := ⟨0, 0, none⟩
set_option maxRecDepth 100000 in
theorem newReader_any (A : Option Addr) (cap n : Nat) (l : List UInt8) (w : World) (p : Nat → Addr) (hn : l.length = n) (hl : n ≤ 1000000) (ha : Arg w A cap l) :
    Calls Tryz.prog 135 #[.slice A n cap] w fun e w' => ∃ g, e = .returned (.pointer (some ⟨g, 0, none⟩)) ∧ w.heap.size ≤ g ∧ Rdr w' p g l start ∧ Below w.heap.size w w' := by
  have HC := hide (clone_any A cap n l w hn hl ha)
  have HN := hide hn
  clear ha hn
  go_enter Tryz.func135, Tryz.ntmps135
  go_wp2_with fail
  refine HC.out.mono ?_
  rintro e w1 ⟨A', c', rfl, ha', hlo, hb⟩
  have HA := hide ha'
  have HL := hide hlo
  have HB := hide hb
  clear ha' hlo hb HC
  go_wp2_with fail
  go_ret
  have hb1 : Below w1.heap.size w1 (w1.alloc (.cells #[.slice A' n c', .int .i64 0, .nilIface] 200)) := balloc (Below.refl _ _) _
  refine ⟨w1.heap.size, rfl, HB.out.size, ⟨by simp, fun k => by simp [go_sem], ⟨Nat.zero_le _, .inl ⟨rfl, rfl⟩⟩, A', c', .nilIface, ?_, ?_, ?_, HA.out.below hb1 (Nat.le_refl _), fun b off h => ?_, .inl ⟨rfl, rfl, rfl⟩⟩, HB.out.trans (hb1.mono HB.out.size)⟩
  · rw [World.cell?_alloc_mark, HN.out]; rfl
  · rw [World.cell?_alloc_mark]; rfl
  · rw [World.cell?_alloc_mark]; rfl
  · have := (HL.out b off h).2; omega

theorem peek_good {l : List UInt8} {s : Vi.Rs} {most : Nat} (h : (Vi.peek l s most).2.2.code = 0) : (Vi.peek l s most).2.2 = s := by
  unfold Vi.peek at h ⊢
  by_cases hc : s.code ≠ 0
  · rw [if_pos hc]
  · rw [if_neg hc] at h ⊢
    simp only at h ⊢
    by_cases hg : (Vi.get 0 0 (l.drop s.at_)).2.2 ≠ 0
    · rw [if_pos hg] at h
      exfalso
      unfold Vi.Rs.fail at h
      split at h
      · simp at h
      · exact hg h
    · rw [if_neg hg] at h ⊢
      by_cases hm : most < (Vi.get 0 0 (l.drop s.at_)).1
      · rw [if_pos hm] at h; exact absurd h (by simp [Vi.Rs.fail])
      · rw [if_neg hm]
/-- A slice of its own that reads as these bytes. -/
def Own2 (lo g : Nat) (l : List UInt8) (v : Value) (w : World) : Prop := ∃ A c, v = .slice A l.length c ∧ Arg w A c l ∧ ∀ b off, A = some ⟨b, off, none⟩ → lo ≤ b ∧ b ≠ g
def Known.bytes (lo g : Nat) (l : List UInt8) : Known := ⟨fun v w => g < w.heap.size ∧ Own2 lo g l v w, fun _ _ _ ⟨h0, A, c, h1, h2, h3⟩ hb => ⟨Nat.lt_of_lt_of_le h0 hb.size, A, c, h1, h2.below hb (Nat.le_refl _), h3⟩⟩

set_option maxRecDepth 100000 in
set_option maxHeartbeats 1000000 in
theorem rbytes_any (w : World) (p : Nat → Addr) (g : Nat) (l : List UInt8) (s : Vi.Rs) (most : Int) (h1 : -9223372036854775808 ≤ most) (h2 : most ≤ 9223372036854775807) (h : Rdr w p g l s) (hs : SentsV w p) (hsb : ∀ W, But g w W → SentsV W p) (hl : l.length ≤ 1000000) :
    Calls Tryz.prog 153 #[.pointer (some ⟨g, 0, none⟩), .int .i64 most] w fun e w' => ∃ v, e = .returned v ∧ Own2 w.heap.size g (Vi.text l s most.toNat).1 v w' ∧ Rdr w' p g l (Vi.text l s most.toNat).2 ∧ But g w w' := by
  have HN := hide (next_any w p g l s most.toNat h hs hl)
  obtain ⟨o1, o2, o3, o4⟩ := Vi.peek_ok h.ok most.toNat
  have HB := hide (Vi.peek_bad (l := l) (s := s) (most := most.toNat))
  have HGD := hide (peek_good (l := l) (s := s) (most := most.toNat))
  have HE : Hid (Vi.text l s most.toNat = let q := Vi.peek l s most.toNat; if q.2.2.code ≠ 0 then ([], q.2.2) else if l.length < s.at_ + q.2.1 + q.1 then ([], s.fail 101) else ((l.drop (s.at_ + q.2.1)).take q.1, s.on (q.2.1 + q.1))) := hide rfl
  have HM : Hid ((0 ≤ most → (most.toNat : Int) = most) ∧ (most ≤ 0 → (most.toNat : Int) = 0)) := by show _ ∧ _; omega
  have HOK := hide h.ok
  have HSB := hide hsb
  clear h hs hsb
  generalize Vi.text l s most.toNat = T at *
  generalize hmt : most.toNat = mt at *
  generalize Vi.peek l s mt = q at *
  obtain ⟨n, k, s1⟩ := q
  simp only at *
  go_enter Tryz.func153, Tryz.ntmps153
  go_upto_region 1 with fail
  go_cut [5, 6] (fun n' k' wx => n' = .int .u64 n ∧ k' = .int .i64 k ∧ Rdr wx p g l s1 ∧ But g w wx)
  case first =>
    clear hmt
    by_cases h0 : 0 < most
    · have e := HM.out.1 (by omega)
      have HN' := HN.out
      rw [e] at HN'
      have HNN := hide HN'
      clear e HN' HN
      go_wp2_with fail
      refine HNN.out.mono ?_
      rintro e w1 ⟨rfl, hr1, hb1⟩
      go_wp2_with fail
      go_meet
      exact ⟨rfl, rfl, hr1, hb1⟩
    · have e := HM.out.2 (by omega)
      by_cases h9 : most < 0
      · skip
        have HN' := HN.out
        rw [e] at HN'
        have HNN := hide HN'
        clear e HN' HN
        go_wp2_with fail
        refine HNN.out.mono ?_
        rintro e w1 ⟨rfl, hr1, hb1⟩
        go_wp2_with fail
        go_meet
        exact ⟨rfl, rfl, hr1, hb1⟩

      · obtain rfl : most = 0 := by omega
        have HN' := HN.out
        rw [e] at HN'
        have HNN := hide HN'
        clear e HN' HN
        go_wp2_with fail
        refine HNN.out.mono ?_
        rintro e w1 ⟨rfl, hr1, hb1⟩
        go_wp2_with fail
        go_meet
        exact ⟨rfl, rfl, hr1, hb1⟩
  case rest =>
    obtain ⟨rfl, rfl, hr1, hb1⟩ := hcut
    clear HN HM hmt
    have HR1 := hide hr1
    have HB1 := hide hb1
    by_cases hc : s1.code ≠ 0
    · obtain ⟨A, cap, E, c0, c1, c2, ha, hne, he⟩ := hr1.ex
      obtain ⟨u, x, rfl⟩ := he.bad hc
      have hlt := hr1.lt
      have k1 := neq_nil u x
      have HT : Hid (T = ([], s1)) := by show _ = _; rw [HE.out]; rw [if_pos hc]
      clear hr1 hb1 ha hne he hc c0 c1
      go_wp2_with fail
      go_ret
      refine ⟨_, rfl, ?_, ?_, HB1.out⟩
      · rw [HT.out]; exact ⟨none, 0, rfl, ⟨by simp, by omega, fun _ => rfl, .inl rfl⟩, fun b off h => by cases h⟩
      · rw [HT.out]; exact HR1.out
    · have hc0 : s1.code = 0 := by omega
      obtain rfl : s1 = s := HGD.out hc0
      have HLEFT := hide (rleft_any wc p g l _ hr1 hl)
      obtain ⟨A, cap, E, c0, c1, c2, ha, hne, he⟩ := hr1.ex
      obtain rfl := he.good hc0
      have hlt := hr1.lt
      have hfr := hr1.free 1
      have hat := o1.le
      by_cases hn : l.length < s1.at_ + k + n
      · have hn' : ((l.length - s1.at_ : Nat) : Int) - (k : Int) < (n : Int) := by omega
        have HT : Hid (T = ([], s1.fail 101)) := by show _ = _; rw [HE.out, if_neg hc, if_pos hn]
        have HSQ := hide (fun m => (HSB.out _ HB1.out).below (below_drewN (Below.refl wc.heap.size wc) m))
        have HRQ := hide (fun m => HR1.out.below (below_drewN (Below.refl wc.heap.size wc) m))
        have c4 : wc.cell? ⟨9, 0, none⟩ = some (.iface 258 (.pointer (some (p 0)))) := (HSB.out _ HB1.out).cell 0 (by omega)
        have HF := hide (fun m => fail_end (wc.drewN m) p g l s1 (HRQ.out m) (HSQ.out m))
        unfold errV at HF
        clear hr1 hb1 ha hne he hc hc0 hn o1 o2 c0 c1 hfr HE HOK
        go_wp2_with fail
        refine HLEFT.out.mono ?_
        rintro e w2 ⟨rfl, m, rfl⟩
        go_wp2_with fail
        refine (HF.out m).mono ?_
        rintro e w3 ⟨rfl, hr3, hb3⟩
        go_wp2_with fail
        go_ret
        refine ⟨_, rfl, ?_, ?_, HB1.out.trans ((But.drewN g wc m).trans hb3)⟩
        · rw [HT.out]; exact ⟨none, 0, rfl, ⟨by simp, by omega, fun _ => rfl, .inl rfl⟩, fun b off h => by cases h⟩
        · rw [HT.out]; exact hr3
      · have hn' : ¬ ((l.length - s1.at_ : Nat) : Int) - (k : Int) < (n : Int) := by omega
        have hnl : n ≤ 1000000 := by omega
        have HT : Hid (T = ((l.drop (s1.at_ + k)).take n, s1.on (k + n))) := by show _ = _; rw [HE.out, if_neg hc, if_neg hn]
        have HCC := hide (fun m => (HR1.out.below (below_drewN (Below.refl wc.heap.size wc) m)).at_add (k + n) (by omega) (fun h => absurd hc0 h))
        have e1 : (s1.at_ : Int) + ((k + n : Nat) : Int) = (s1.at_ : Int) + (k : Int) + (n : Int) := by omega
        rw [e1] at HCC
        clear hr1 hb1 ha hne he hc hc0 o1 o2 HE HOK e1
        go_upto_region 7 with fail
        refine HLEFT.out.mono ?_
        rintro e w2 ⟨rfl, m, rfl⟩
        go_upto_region 9 with fail
        have hrd := HCC.out m
        have hbt := HB1.out.trans ((But.drewN g wc m).trans (But.setCell g 1 _ (.int .i64 ((s1.at_ : Int) + (k : Int) + (n : Int)))))
        have hw0 : w.heap.size ≤ ((wc.drewN m).setCell ⟨g, 1, none⟩ (.int .i64 ((s1.at_ : Int) + (k : Int) + (n : Int)))).heap.size := hbt.size
        have HRD := hide hrd
        have HBT := hide hbt
        generalize (wc.drewN m).setCell ⟨g, 1, none⟩ (.int .i64 ((s1.at_ : Int) + (k : Int) + (n : Int))) = W at *
        obtain ⟨A2, cap2, E2, d0, d1, d2, da, dne, de⟩ := hrd.ex
        have hgl := hrd.lt
        have HDA := hide da
        have hcap := da.le
        have hd1' : W.cell? ⟨g, 1, none⟩ = some (.int .i64 ((s1.at_ + (k + n) : Nat) : Int)) := d1
        obtain ⟨lo, hlo⟩ : ∃ lo, lo = s1.at_ + k := ⟨_, rfl⟩
        obtain ⟨hi, hhi⟩ : ∃ hi, hi = s1.at_ + (k + n) := ⟨_, rfl⟩
        have HLO : Hid (((s1.at_ : Int) + (k : Int)) = (lo : Int)) := by show _ = _; omega
        have HLON := hide hlo
        rw [← hhi] at hd1'
        rw [← hlo] at HT
        have b1 : lo ≤ l.length := by omega
        have b2 : lo ≤ hi := by omega
        have b3 : hi ≤ l.length := by omega
        have b4 : hi - lo = n := by omega
        have hk1 := fun W => run_cut_lh W A2 l.length cap2 lo hi b2 (by omega)
        rw [b4] at hk1
        have hlen : ((l.drop lo).take n).length = n := by rw [List.length_take, List.length_drop]; omega
        have HLEN := hide hlen
        have HCL := hide (fun W' (hb : Below W.heap.size W W') => clone_any (cutA A2 cap2 lo) (cap2 - lo) n ((l.drop lo).take n) W' hlen (by omega) (((da.below hb (Nat.le_refl _)).cut lo b1).first n))
        clear hrd hbt HCC HLEFT HB1 HR1 d2 da dne de hlen hcap d1 hlo hhi b4 c2 hlt
        refine wp_region_made [44, 45, 46, 47, 48, 49, 50, 51, 52, 53, 54] (fun d => match d with
          | 44 => .is (.pointer (some ⟨g, 0, none⟩)) | 45 => .is (.pointer (some ⟨g, 0, none⟩)) | 46 => .is (.pointer (some ⟨g, 0, none⟩)) | 47 => .is (.slice A2 l.length cap2) | 48 => .is (.int .i64 lo)
          | 49 => .is (.pointer (some ⟨g, 0, none⟩)) | 50 => .is (.pointer (some ⟨g, 0, none⟩)) | 51 => .is (.pointer (some ⟨g, 1, none⟩)) | 52 => .is (.int .i64 hi)
          | 53 => .is (.slice (cutA A2 cap2 lo) n (cap2 - lo)) | 54 => .bytes W.heap.size g ((l.drop lo).take n)
          | _ => .any) _ (by kernel_rfl) (by kernel_rfl) rfl (by kernel_rfl) ?_ ?_
        · simp only [List.size_toArray, List.length_cons, List.length_nil, List.take_succ_cons, List.take_zero, StepsOk]
          refine ⟨?_, ?_, ?_, ?_, ?_, ?_, ?_, ?_, ?_, ?_, ?_, trivial⟩
          all_goals
            intro ev w1 hb hev hd
            have ev0 : ev (.tmp 0) = .pointer (some ⟨g, 0, none⟩) := hev _ (by simp)
            have ev7 : ev (.tmp 7) = .int .i64 lo := (hev _ (by simp)).trans (congrArg (Value.int .i64) HLO.out)
            have evf : ∀ f, ev (.func f) = .func (.func f) #[] #[] := fun f => hev _ (by simp)
            have hd0 := (hb.cell (p := ⟨g, 0, none⟩) hgl).trans d0
            have hd1 := (hb.cell (p := ⟨g, 1, none⟩) hgl).trans hd1'
            have HB := hide hb
            clear hev hb
            simp [DepsOk, Known.is] at hd
            try simp [OpRuns, execOp, go_sem, Known.is, Below.refl, *]
          refine (HCL.out w1 HB.out).mono ?_
          rintro e w2 ⟨A', c', rfl, ha', hlo', hb'⟩
          refine ⟨_, rfl, hb', ?_, A', c', by rw [HLEN.out], ha', fun b off h => ?_⟩
          · have := HB.out.size; have := hb'.size; omega
          · have := (hlo' b off h).1; have := HB.out.size; omega
        · intro f w1 hb hf
          have hk54 : g < w1.heap.size ∧ Own2 W.heap.size g ((l.drop lo).take n) (f 54) w1 := hf 54 (by simp)
          obtain ⟨-, A', c', e54, ha', hne'⟩ := hk54
          rw [HLEN.out] at e54
          have HA' := hide ha'
          have HNE := hide hne'
          have HBB := hide hb
          clear hf hb ha' hne'
          simp only [puts]
          go_wp2_with fail
          go_ret
          refine ⟨_, rfl, ?_, ?_, HBT.out.trans (But.of_below HBB.out)⟩
          · rw [HT.out]; exact ⟨A', c', by rw [HLEN.out]; rfl, HA'.out, fun b off h => ⟨Nat.le_trans hw0 (HNE.out b off h).1, (HNE.out b off h).2⟩⟩
          · rw [HT.out]; exact HRD.out.below HBB.out
end Go.Proofs.YtfdppggdgdnnaaaGreatDoor

namespace Go.Proofs.YtfdppggdgdnnaaaGreatDoor
open Go.RowKit

theorem or64g (n x e : Nat) (hn : n < 2 ^ e) (hn2 : n < 18446744073709551616) (h : x * 2 ^ e < 18446744073709551616) : bits .or .u64 (n : Int) (IntKind.u64.wrap ((x : Int) * 2 ^ e)) = ((n + x * 2 ^ e : Nat) : Int) := by
  have e1 : IntKind.u64.wrap ((x : Int) * 2 ^ e) = ((x * 2 ^ e : Nat) : Int) := by
    have : ((x : Int) * 2 ^ e) = ((x * 2 ^ e : Nat) : Int) := by simp
    rw [IntKind.wrap_u64, this]; omega
  rw [e1, u64_or_nat _ _ hn2 h, Nat.or_comm, nat_join e _ _ (Nat.mul_mod_left _ _) hn, Nat.add_comm]
theorem little_snoc (l : List UInt8) (c : UInt8) : Vi.little (l ++ [c]) = Vi.little l + c.toNat * 2 ^ (8 * l.length) := by
  induction l with
  | nil => simp [Vi.little]
  | cons a l ih =>
    simp only [List.cons_append, Vi.little, ih, List.length_cons]
    rw [show 8 * (l.length + 1) = 8 * l.length + 8 by omega, Nat.pow_add, Nat.mul_add, show (2 : Nat) ^ 8 = 256 from rfl]
    have : c.toNat * (2 ^ (8 * l.length) * 256) = 256 * (c.toNat * 2 ^ (8 * l.length)) := by
      rw [← Nat.mul_assoc, Nat.mul_comm]
    omega
theorem little_lt (l : List UInt8) : Vi.little l < 2 ^ (8 * l.length) := by
  induction l with
  | nil => simp [Vi.little]
  | cons a l ih =>
    simp only [Vi.little, List.length_cons]
    rw [show 8 * (l.length + 1) = 8 * l.length + 8 by omega, Nat.pow_add, show (2 : Nat) ^ 8 = 256 from rfl]
    have := a.toNat_lt
    omega
theorem pow_le64 (k : Nat) (h : k ≤ 7) : 2 ^ (8 * k) ≤ 72057594037927936 := Nat.le_trans (Nat.pow_le_pow_right (by omega) (show 8 * k ≤ 56 by omega)) (by decide)
theorem little_or (l : List UInt8) (c : UInt8) (h : l.length ≤ 7) : bits .or .u64 (Vi.little l : Int) (IntKind.u64.wrap (B c * 2 ^ (8 * l.length))) = (Vi.little (l ++ [c]) : Int) := by
  rw [little_snoc]
  have h1 := little_lt l
  have h2 := pow_le64 l.length h
  have hc := c.toNat_lt
  refine or64g (Vi.little l) c.toNat (8 * l.length) h1 (by omega) ?_
  have : c.toNat * 2 ^ (8 * l.length) ≤ 255 * 72057594037927936 := Nat.mul_le_mul (by omega) h2
  omega

set_option maxRecDepth 100000 in
set_option maxHeartbeats 1000000 in
theorem fixed_any (w : World) (p : Nat → Addr) (g : Nat) (l : List UInt8) (s : Vi.Rs) (n : Int) (h1 : -9223372036854775808 ≤ n) (h2 : n ≤ 9223372036854775807) (h : Rdr w p g l s) (hs : SentsV w p) (hl : l.length ≤ 1000000) :
    Calls Tryz.prog 136 #[.pointer (some ⟨g, 0, none⟩), .int .i64 n] w fun e w' => e = .returned (.int .u64 (Vi.fixed l s n).1) ∧ Rdr w' p g l (Vi.fixed l s n).2 ∧ But g w w' := by
  have HR := hide h
  have HE : Hid (Vi.fixed l s n = if s.code ≠ 0 ∨ n < 0 ∨ 8 < n then (0, s) else if l.length < s.at_ + n.toNat then (0, s.fail 101) else (Vi.little ((l.drop s.at_).take n.toNat), s.on n.toNat)) := hide rfl
  generalize Vi.fixed l s n = T at *
  obtain ⟨A, cap, E, c0, c1, c2, ha, hne, he⟩ := h.ex
  have hlt := h.lt
  have hfr := h.free 1
  have hat := h.ok.le
  by_cases hc : s.code ≠ 0
  · obtain ⟨u, x, rfl⟩ := he.bad hc
    have k1 := neq_nil u x
    have HT : Hid (T = (0, s)) := by show _ = _; rw [HE.out, if_pos (.inl hc)]
    clear h ha hne he hc c0 c1 hs
    go_enter Tryz.func136, Tryz.ntmps136
    go_wp2_with fail
    go_ret
    rw [HT.out]
    exact ⟨rfl, HR.out, But.refl _ _⟩
  · obtain rfl := he.good (by omega)
    by_cases hn : n < 0 ∨ 8 < n
    · have HT : Hid (T = (0, s)) := by show _ = _; rw [HE.out, if_pos (.inr hn)]
      clear h ha hne he hc c0 c1 hs HE
      rcases hn with hn | hn
      · have hd : decide (n < 0) = true := by simp [hn]
        go_enter Tryz.func136, Tryz.ntmps136
        go_wp2_with fail
        go_ret
        rw [HT.out]
        exact ⟨rfl, HR.out, But.refl _ _⟩
      · have hd : decide (n < 0) = false := by simp; omega
        have hd2 : decide (8 < n) = true := by simp [hn]
        go_enter Tryz.func136, Tryz.ntmps136
        go_wp2_with fail
        go_ret
        rw [HT.out]
        exact ⟨rfl, HR.out, But.refl _ _⟩
    · obtain ⟨m, rfl⟩ := Int.eq_ofNat_of_zero_le (show 0 ≤ n by omega)
      have hm8 : m ≤ 8 := by omega
      have hno : ¬ (s.code ≠ 0 ∨ (m : Int) < 0 ∨ 8 < (m : Int)) := by omega
      rw [if_neg hno, Int.toNat_natCast] at HE
      have HLEFT := hide (rleft_any w p g l s h hl)
      by_cases hlen : l.length < s.at_ + m
      · have HT : Hid (T = (0, s.fail 101)) := by show _ = _; rw [HE.out, if_pos hlen]
        have hn' : ((l.length - s.at_ : Nat) : Int) < (m : Int) := by omega
        have HRQ := hide (fun q => HR.out.below (below_drewN (Below.refl w.heap.size w) q))
        have c4 : w.cell? ⟨9, 0, none⟩ = some (.iface 258 (.pointer (some (p 0)))) := hs.cell 0 (by omega)
        have HF := hide (fun q => fail_end (w.drewN q) p g l s (HRQ.out q) (hs.below (below_drewN (Below.refl w.heap.size w) q)))
        unfold errV at HF
        clear h ha hne he hc hno hn hlen HE hs c0 c1 h1 h2
        go_enter Tryz.func136, Tryz.ntmps136
        go_wp2_with fail
        refine HLEFT.out.mono ?_
        rintro e w2 ⟨rfl, q, rfl⟩
        go_wp2_with fail
        refine (HF.out q).mono ?_
        rintro e w3 ⟨rfl, hr3, hb3⟩
        go_wp2_with fail
        go_ret
        rw [HT.out]
        exact ⟨rfl, hr3, (But.drewN g w q).trans hb3⟩
      · have HT : Hid (T = (Vi.little ((l.drop s.at_).take m), s.on m)) := by show _ = _; rw [HE.out, if_neg hlen]
        have hn' : ¬ ((l.length - s.at_ : Nat) : Int) < (m : Int) := by omega
        have hk1 : ∀ W, (Instr.sliceAt 32 (.slice A l.length cap) (some (.int .i64 (s.at_ : Int))) (some (.int .i64 ((s.at_ : Int) + (m : Int)))) none).run Tryz.prog W = .ok (.slice (cutA A cap s.at_) m (cap - s.at_)) W := fun W => by
          have h := run_cut_lh W A l.length cap s.at_ (s.at_ + m) (by omega) (by have := ha.le; omega)
          rw [show s.at_ + m - s.at_ = m by omega, Int.natCast_add] at h
          exact h
        have hml : ((l.drop s.at_).take m).length = m := by rw [List.length_take, List.length_drop]; omega
        have HML := hide hml
        have HRD := hide (((ha.cut s.at_ hat).first m).reads)
        have HCC := hide (fun q => (HR.out.below (below_drewN (Below.refl w.heap.size w) q)).at_add m (by omega) (fun h => absurd h hc))
        clear h ha hne he hc hno hn HE hs h1 h2 hml
        generalize (l.drop s.at_).take m = u at *
        generalize cutA A cap s.at_ = A' at *
        go_enter Tryz.func136, Tryz.ntmps136
        go_wp2_with fail
        refine HLEFT.out.mono ?_
        rintro e w2 ⟨rfl, q, rfl⟩
        go_wp2_with fail
        go_quiet (fail)
        have HC1 := hide (fun q => (HCC.out q))
        go_wp2_with fail
        go_loop [5, 44] (fun v i => ∃ k : Nat, k ≤ m ∧ i = .int .i64 k ∧ v = .int .u64 (Vi.little (u.take k))) (fun _ i => m - (intOf i).toNat)
        case atStart => exact ⟨0, Nat.zero_le _, rfl, rfl⟩
        case round =>
          obtain ⟨k, hk, rfl, rfl⟩ := hrel
          by_cases hkm : k < m
          · have hku : k < u.length := by rw [HML.out]; exact hkm
            rcases HRD.out with rfl | ⟨b, off, rfl, hb, hcl⟩
            · simp at hku
            have hcell := hcl k hku
            have hlk : (u.take k).length = k := by rw [List.length_take]; omega
            have hsn : u.take (k + 1) = u.take k ++ [u.getD k 0] := by
              rw [List.take_succ_eq_append_getElem hku]; simp [List.getD, hku]
            have hor := little_or (u.take k) (u.getD k 0) (by omega)
            rw [hlk, ← hsn] at hor
            have HSN := hide hsn
            have hb1 := B_lo (u.getD k 0)
            have hb2 := B_hi (u.getD k 0)
            clear hcl hsn hlk hku
            generalize u.getD k 0 = c at *
            generalize Vi.little (u.take k) = v0 at *
            generalize hv1 : Vi.little (u.take (k + 1)) = v1 at *
            have HV1 := hide hv1
            clear hv1
            go_wp2_with fail
            exact ⟨⟨_, _, _, _, ⟨k + 1, by omega, rfl, by rw [HV1.out]⟩, rfl, rfl, rfl, rfl⟩, by simp [intOf]; omega⟩
          · obtain rfl : k = m := by omega
            have HU : Hid (u.take k = u) := by show _ = _; rw [← HML.out, List.take_length]
            go_wp2_with fail
            go_ret
            rw [HT.out]
            exact ⟨by rw [HU.out]; rfl, HC1.out _, (But.drewN g w _).trans (But.setCell g 1 _ _)⟩
end Go.Proofs.YtfdppggdgdnnaaaGreatDoor

namespace Go.Proofs.YtfdppggdgdnnaaaGreatDoor
open Go.RowKit

set_option maxRecDepth 100000 in
set_option maxHeartbeats 400000 in
theorem size_any (n : Nat) (w : World) (hn : n < 18446744073709551616) :
    Calls Tryz.prog 98 #[.int .u64 n] w fun e w' => e = .returned (.int .i64 (Vi.size n)) ∧ w = w' := by
  have HS := hide (Vi.size_le10 hn)
  clear hn
  go_enter Tryz.func98, Tryz.ntmps98
  go_wp2
  go_loop [0, 3] (fun a s => ∃ m k : Nat, a = .int .u64 m ∧ s = .int .i64 k ∧ k ≤ 10 ∧ k + Vi.size m = Vi.size n + 1) (fun a _ => (intOf a).toNat)
  case atStart => exact ⟨n, 1, rfl, rfl, by omega, by omega⟩
  case round =>
    obtain ⟨m, k, rfl, rfl, hk, hs⟩ := hrel
    have HR := hide hs
    clear hs
    by_cases h : 128 ≤ m
    · have HG := hide (Vi.size_ge h)
      go_wp2
      go_round
      case rel => exact ⟨m / 128, k + 1, by go_num, by go_num, by have := HR.out; have := HG.out; have := HS.out; have := Vi.size_pos (m / 128); omega, by have := HR.out; have := HG.out; omega⟩
      case measure => simp [intOf]; omega
    · have HL := hide (Vi.size_lt (show m < 128 by omega))
      go_wp2
      go_ret
      exact ⟨by have h1 := HR.out; have h2 := HL.out; rw [show Vi.size n = k by omega]; rfl, rfl⟩

theorem or128 (n : Nat) : bits .or .u8 ((n : Int) % (256 : Int)) 128 = B (UInt8.ofNat (n % 128 + 128)) := by
  unfold B
  rw [UInt8.toNat_ofNat', show (n : Int) % 256 = ((n % 256 : Nat) : Int) from by omega, show (128 : Int) = ((128 : Nat) : Int) from rfl, u8_or_nat _ _ (by omega) (by omega)]
  have h : ∀ x, x < 256 → x ||| 128 = x % 128 + 128 := by decide +kernel
  rw [h _ (by omega)]
  congr 1; omega
theorem mod256n (n : Nat) : (n : Int) % (256 : Int) = B (UInt8.ofNat n) := by
  unfold B
  rw [UInt8.toNat_ofNat']; omega

set_option maxRecDepth 100000 in
set_option maxHeartbeats 400000 in
theorem put_any (A : Option Addr) (cap : Nat) (l : List UInt8) (n : Nat) (w : World) (hn : n < 18446744073709551616) (hl : l.length ≤ 1000000) (hr : Reads w A l) :
    Calls Tryz.prog 60 #[.slice A l.length cap, .int .u64 n] w fun e w' => ∃ v, e = .returned v ∧ Own w' w.heap.size v (l ++ Vi.put n) ∧ Below w.heap.size w w' := by
  have HR := hide hr
  have HS := hide (Vi.size_le10 hn)
  have HSZ := hide (fun W => size_any n W hn)
  have hsz := Vi.size_le10 hn
  have hsp := Vi.size_pos n
  clear hr hn
  go_enter Tryz.func60, Tryz.ntmps60
  go_wp2_with (first
    | (go_at_call 98; refine (HSZ.out _).mono ?_; rintro e w' ⟨rfl, rfl⟩)
    | (at_make; refine wpList_mk rfl (.tmp 7) (.tmp 12) rfl l.length (l.length + Vi.size n) _ _ rfl rfl rfl (by omega) (by omega) (by omega) ?_; intro w1 hown1 hb1 hs1)
    | (refine wpList_cp (o := ⟨some 16, _, _, _, _, _⟩) rfl (.tmp 14) (.tmp 15) rfl w.heap.size _ l _ _ _ rfl hown1 A l.length cap rfl rfl (HR.out.below hb1 (Nat.le_refl _)) ?_; intro w2 hown2 hg2 hs2))
  have hb2 : Below w.heap.size w w2 := hb1.grown hg2 (by omega) (by intro k hk; simp [Value.ownBlock] at hk; omega)
  have hown2' : Own w2 w.heap.size (.slice (some ⟨w.heap.size, 0, none⟩) l.length (l.length + Vi.size n)) l := by
    have e1 : l.take (List.replicate l.length (0 : UInt8)).length = l := by rw [List.length_replicate, List.take_length]
    have e2 : (List.replicate l.length (0 : UInt8)).drop l.length = [] := by simp
    have := hown2
    rwa [e1, e2, List.append_nil] at this
  have HB2 := hide hb2
  have HO2 := hide hown2'
  clear hown1 hown2 hown2' hs1 hs2 hg2 hb2 hb1
  simp only [Act.put, List.setIfInBounds_toArray, List.set_cons_succ, List.set_cons_zero, goInt, List.length_replicate, show Nat.min l.length l.length = l.length from Nat.min_self _]
  go_loopw [1, 5] (fun a v wr => ∃ (m : Nat) (pre : List UInt8), a = .int .u64 m ∧ Own wr w.heap.size v (l ++ pre) ∧ pre ++ Vi.put m = Vi.put n ∧ Below w.heap.size w wr) (fun a _ _ => (intOf a).toNat)
  case atStart => exact ⟨n, [], rfl, by rw [List.append_nil]; exact HO2.out, rfl, HB2.out⟩
  case round =>
    obtain ⟨m, pre, rfl, hown, hpre, hb⟩ := hrel
    have hpl : pre.length < 10 := by
      have h1 := congrArg List.length hpre
      rw [List.length_append] at h1
      have h2 := Vi.size_pos m
      unfold Vi.size at h2 hsz
      omega
    have HO := hide hown
    have HP := hide hpre
    have HB := hide hb
    have HZ : Hid (w.heap.size ≤ wr.heap.size) := hb.size
    clear hown hpre hb
    by_cases h : 128 ≤ m
    · have ho := or128 m
      have HPG := hide (Vi.put_ge h)
      generalize UInt8.ofNat (m % 128 + 128) = c at *
      go_wp2_with (at_builtin; refine wpList_app (w := wr.alloc _) rfl (.tmp 21) (.tmp 25) rfl w.heap.size _ (l ++ pre) [c] rfl (HO.out.alloc _) _ 1 1 rfl rfl (Reads.made _ _ _ _ _ _ rfl rfl) (by simp; omega) (by have := HZ.out; simp; omega) ?_; intro v w3 hown3 hg3 hv3)
      go_roundw
      case rel =>
        refine ⟨m / 128, pre ++ [c], by go_num, ?_, ?_, ?_⟩
        · rw [← List.append_assoc]; exact hown3
        · rw [List.append_assoc, List.singleton_append, ← HPG.out]; exact HP.out
        · exact (HB.out.alloc HZ.out _).grown hg3 (by have := HZ.out; simp; omega) (fun g hg => (HO.out.lt g hg).1)
      case measure => simp [intOf]; omega
    · have HC : Hid ((cells [UInt8.ofNat m]).toArray = #[.int .u8 m]) := by
        show (cells [UInt8.ofNat m]).toArray = #[.int .u8 m]
        simp only [cells, List.map_cons, List.map_nil, byteV, ← mod256n]
        rw [show (m : Int) % 256 = m by omega]
      have HPL := hide (Vi.put_lt (show m < 128 by omega))
      generalize UInt8.ofNat m = c at *
      go_wp2_with (at_builtin; refine wpList_app (w := wr.alloc _) rfl (.tmp 27) (.tmp 30) rfl w.heap.size _ (l ++ pre) [c] rfl (HO.out.alloc _) _ 1 1 rfl rfl (Reads.made _ _ _ _ _ _ rfl HC.out) (by simp; omega) (by have := HZ.out; simp; omega) ?_; intro v w3 hown3 hg3 hv3)
      go_ret
      refine ⟨v, rfl, ?_, ?_⟩
      · rw [← HP.out, HPL.out, ← List.append_assoc]; exact hown3
      · exact (HB.out.alloc HZ.out _).grown hg3 (by have := HZ.out; simp; omega) (fun g hg => (HO.out.lt g hg).1)
end Go.Proofs.YtfdppggdgdnnaaaGreatDoor

namespace Go.Proofs.YtfdppggdgdnnaaaGreatDoor
open Go.RowKit

theorem zig_pos (n : Int) (h0 : 0 ≤ n) (h2 : n ≤ 9223372036854775807) : bits .xor .u64 (n * 2) (n / 9223372036854775808) = (Vi.zz n : Nat) := by
  rw [show n / 9223372036854775808 = 0 by omega, show n * 2 = ((2 * n.toNat : Nat) : Int) by omega, xor_nil _ (by omega)]
  unfold Vi.zz; rw [if_pos h0]; omega
theorem zig_neg (n : Int) (h1 : -9223372036854775808 ≤ n) (h0 : ¬ 0 ≤ n) : bits .xor .u64 (IntKind.u64.wrap (IntKind.u64.wrap n * 2)) (IntKind.u64.wrap (n / 9223372036854775808)) = (Vi.zz n : Nat) := by
  rw [IntKind.wrap_u64, IntKind.wrap_u64, IntKind.wrap_u64, show n / 9223372036854775808 % 18446744073709551616 = 18446744073709551615 by omega,
    show n % 18446744073709551616 * 2 % 18446744073709551616 = ((18446744073709551616 - 2 * (-n).toNat : Nat) : Int) by omega, ofInt_all _ (by omega)]
  unfold Vi.zz; rw [if_neg h0]; omega

set_option maxRecDepth 100000 in
set_option maxHeartbeats 400000 in
theorem putInt_any (A : Option Addr) (cap : Nat) (l : List UInt8) (n : Int) (w : World) (h1 : -9223372036854775808 ≤ n) (h2 : n ≤ 9223372036854775807) (hl : l.length ≤ 1000000) (hr : Reads w A l) :
    Calls Tryz.prog 61 #[.slice A l.length cap, .int .i64 n] w fun e w' => ∃ v, e = .returned v ∧ Own w' w.heap.size v (l ++ Vi.put (Vi.zz n)) ∧ Below w.heap.size w w' := by
  have HP := hide (put_any A cap l (Vi.zz n) w (Vi.zz_lt n h1 h2) hl hr)
  clear hr
  by_cases h0 : 0 ≤ n
  · have HZ := hide (zig_pos n h0 h2)
    go_enter Tryz.func61, Tryz.ntmps61
    go_wp2_with fail
    rw [HZ.out]
    refine HP.out.mono ?_
    rintro e w1 ⟨v, rfl, ho, hb⟩
    go_wp2_with fail
    go_ret
    exact ⟨v, rfl, ho, hb⟩
  · have HZ := hide (zig_neg n h1 h0)
    go_enter Tryz.func61, Tryz.ntmps61
    go_wp2_with fail
    rw [HZ.out]
    refine HP.out.mono ?_
    rintro e w1 ⟨v, rfl, ho, hb⟩
    go_wp2_with fail
    go_ret
    exact ⟨v, rfl, ho, hb⟩
end Go.Proofs.YtfdppggdgdnnaaaGreatDoor

namespace Go.Proofs.YtfdppggdgdnnaaaGreatDoor
open Go.RowKit

theorem put_at (A : Option Addr) (cap k : Nat) (l : List UInt8) (n : Nat) (w : World) (hk : l.length = k) (hn : n < 18446744073709551616) (hl : k ≤ 1000000) (hr : Reads w A l) :
    Calls Tryz.prog 60 #[.slice A k cap, .int .u64 n] w fun e w' => ∃ v, e = .returned v ∧ Own w' w.heap.size v (l ++ Vi.put n) ∧ Below w.heap.size w w' := by
  subst hk; exact put_any A cap l n w hn hl hr
theorem putInt_at (A : Option Addr) (cap k : Nat) (l : List UInt8) (n : Int) (w : World) (hk : l.length = k) (h1 : -9223372036854775808 ≤ n) (h2 : n ≤ 9223372036854775807) (hl : k ≤ 1000000) (hr : Reads w A l) :
    Calls Tryz.prog 61 #[.slice A k cap, .int .i64 n] w fun e w' => ∃ v, e = .returned v ∧ Own w' w.heap.size v (l ++ Vi.put (Vi.zz n)) ∧ Below w.heap.size w w' := by
  subst hk; exact putInt_any A cap l n w h1 h2 hl hr
/-- Put of nothing ahead. -/
theorem put_nil (n : Nat) (w : World) (hn : n < 18446744073709551616) :
    Calls Tryz.prog 60 #[.slice none 0 0, .int .u64 n] w fun e w' => ∃ A c, e = .returned (.slice A (Vi.size n) c) ∧ Own w' w.heap.size (.slice A (Vi.size n) c) (Vi.put n) ∧ Arg w' A c (Vi.put n) ∧ Below w.heap.size w w' :=
  (put_at none 0 0 [] n w rfl hn (by omega) (.inl rfl)).mono fun e w' ⟨v, he, ho, hb⟩ => by
    obtain ⟨A, c, hv, hr⟩ := ho.arg
    subst hv
    exact ⟨A, c, he, ho, hr, hb⟩
theorem putInt_nil (n : Int) (w : World) (h1 : -9223372036854775808 ≤ n) (h2 : n ≤ 9223372036854775807) :
    Calls Tryz.prog 61 #[.slice none 0 0, .int .i64 n] w fun e w' => ∃ A c, e = .returned (.slice A (Vi.size (Vi.zz n)) c) ∧ Own w' w.heap.size (.slice A (Vi.size (Vi.zz n)) c) (Vi.put (Vi.zz n)) ∧ Arg w' A c (Vi.put (Vi.zz n)) ∧ Below w.heap.size w w' :=
  (putInt_at none 0 0 [] n w rfl h1 h2 (by omega) (.inl rfl)).mono fun e w' ⟨v, he, ho, hb⟩ => by
    obtain ⟨A, c, hv, hr⟩ := ho.arg
    subst hv
    exact ⟨A, c, he, ho, hr, hb⟩

theorem put_300 : Vi.put 300 = [172, 2] := by
  rw [Vi.put_ge (by omega), Vi.put_lt (by omega)]; decide
theorem size_300 : Vi.size 300 = 2 := by unfold Vi.size; rw [put_300]; rfl
end Go.Proofs.YtfdppggdgdnnaaaGreatDoor
