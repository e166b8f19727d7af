/-
  Numbers as bytes, plainly: what a number's bytes are, how many there are, what bytes say, and numbers below nothing. Nothing of any program is named here.
  A reader of numbers, plainly: where it is, and what was amiss. Nothing of any program is named here.
  Numbers below nothing as those that aren't, in the walks' own words: shifts, a turn by all ones, and back. Nothing of any program is named here.
  The walks through package vint's Size, Put and PutInt, and through the statements' own small helpers.
  The walk through package vint's PutInt.
  The walk through the chapter's example: Put of 300.
  Package point: numbers as bytes; what every statement of point begins with.
-/
import Derived.Test.YtplpakdbahlgaaaDoorE1
import Derived.IntWalk
import Derived.WalkKit
import Derived.ProofKit
import Derived.Below
import Derived.BigQuiet
import Derived.Deep.QuietTactic
import Derived.Outline
import Derived.LoopTactic
import Derived.Test.YtplpakdbahlgaaaDoorE6
namespace Go.Proofs.YtplpakdbahlgaaaDoor.Vi

/-- A number's bytes: sevens of bits, the lowest first, each but the last with bit 7 set. -/
def put (n : Nat) : List UInt8 := if n < 128 then [UInt8.ofNat n] else UInt8.ofNat (n % 128 + 128) :: put (n / 128)
termination_by n
decreasing_by omega

theorem put_lt {n : Nat} (h : n < 128) : put n = [UInt8.ofNat n] := by rw [put, if_pos h]
theorem put_ge {n : Nat} (h : 128 ≤ n) : put n = UInt8.ofNat (n % 128 + 128) :: put (n / 128) := by rw [put, if_neg (by omega)]
def size (n : Nat) : Nat := (put n).length
theorem size_lt {n : Nat} (h : n < 128) : size n = 1 := by unfold size; rw [put_lt h]; rfl
theorem size_ge {n : Nat} (h : 128 ≤ n) : size n = size (n / 128) + 1 := by unfold size; rw [put_ge h]; rfl
theorem size_pos (n : Nat) : 0 < size n := by
  by_cases h : n < 128
  · rw [size_lt h]; omega
  · rw [size_ge (by omega)]; omega
theorem size_le : ∀ (k n : Nat), n < 128 ^ (k + 1) → size n ≤ k + 1 := by
  intro k
  induction k with
  | zero => intro n h; rw [size_lt (by simpa using h)]; omega
  | succ k ih =>
    intro n h
    by_cases hn : n < 128
    · rw [size_lt hn]; omega
    · rw [size_ge (by omega)]
      have := ih (n / 128) (by rw [Nat.pow_succ] at h; omega)
      omega
theorem size_le10 {n : Nat} (h : n < 18446744073709551616) : size n ≤ 10 := size_le 9 n (Nat.lt_of_lt_of_le h (by decide))
theorem size_mono : ∀ (m n : Nat), n ≤ m → size n ≤ size m := by
  intro m
  induction m using Nat.strongRecOn with
  | _ m ih =>
    intro n h
    by_cases hn : n < 128
    · rw [size_lt hn]; exact size_pos m
    · rw [size_ge (show 128 ≤ n by omega), size_ge (show 128 ≤ m by omega)]
      have := ih (m / 128) (by omega) (n / 128) (by omega)
      omega
theorem byte_toNat {n : Nat} (h : n < 256) : (UInt8.ofNat n).toNat = n := by rw [UInt8.toNat_ofNat']; omega

/-- What bytes say from the i-th on, with n read so far: the number, how many bytes, the error's number (0: none). -/
def get (i n : Nat) : List UInt8 → Nat × Nat × Nat
  | [] => (0, 0, if i < 10 then 101 else 103)
  | c :: l =>
    if 10 ≤ i then (0, 0, 103)
    else if 128 ≤ c.toNat then get (i + 1) (n + c.toNat % 128 * 2 ^ (7 * i)) l
    else if (c.toNat = 0 ∧ 0 < i) ∨ (1 < c.toNat ∧ i = 9) then (0, 0, 103)
    else (n + c.toNat * 2 ^ (7 * i), i + 1, 0)

theorem pow7 (i : Nat) : 2 ^ (7 * (i + 1)) = 128 * 2 ^ (7 * i) := by rw [Nat.mul_add, Nat.pow_add, Nat.mul_comm]
theorem pow_big {i m : Nat} (hm : 0 < m) (h : m * 2 ^ (7 * i) < 18446744073709551616) : i ≤ 9 := by
  rcases Nat.lt_or_ge i 10 with h1 | h1
  · omega
  · exfalso
    have h2 : 2 ^ 70 ≤ 2 ^ (7 * i) := Nat.pow_le_pow_right (by omega) (by omega)
    have h3 : 2 ^ (7 * i) ≤ m * 2 ^ (7 * i) := Nat.le_mul_of_pos_left _ hm
    have : (18446744073709551616 : Nat) ≤ 2 ^ 70 := by decide
    omega

theorem get_put : ∀ (m i a : Nat) (r : List UInt8), (0 < i → 0 < m) → a + m * 2 ^ (7 * i) < 18446744073709551616 → get i a (put m ++ r) = (a + m * 2 ^ (7 * i), i + size m, 0) := by
  intro m
  induction m using Nat.strongRecOn with
  | _ m ih =>
    intro i a r h0 hlt
    have hi : i ≤ 9 := by
      by_cases hz : i = 0
      · omega
      · exact pow_big (h0 (by omega)) (by omega)
    by_cases hm : m < 128
    · rw [put_lt hm, size_lt hm, List.singleton_append, get, byte_toNat (by omega), if_neg (by omega), if_neg (by omega), if_neg]
      rintro (⟨h1, h2⟩ | ⟨h1, h2⟩)
      · have := h0 h2; omega
      · subst h2
        have : (2 : Nat) ^ (7 * 9) = 9223372036854775808 := by decide
        rw [this] at hlt; omega
    · have e : m * 2 ^ (7 * i) = m % 128 * 2 ^ (7 * i) + m / 128 * 2 ^ (7 * (i + 1)) := by
        rw [pow7, ← Nat.mul_assoc, ← Nat.add_mul]; congr 1; omega
      rw [put_ge (by omega), size_ge (by omega), List.cons_append, get, byte_toNat (by omega), if_neg (by omega), if_pos (by omega)]
      have e2 : (m % 128 + 128) % 128 = m % 128 := by omega
      rw [e2, ih (m / 128) (by omega) (i + 1) _ r (fun _ => by omega) (by omega), e]
      refine Prod.ext ?_ (Prod.ext ?_ rfl) <;> simp <;> omega

theorem put_ne (m : Nat) : put m ≠ [] := by
  intro h; have := size_pos m; unfold size at this; rw [h] at this; simp at this
theorem get_cut : ∀ (m i a : Nat), i + size m ≤ 10 → get i a (put m).dropLast = (0, 0, 101) := by
  intro m
  induction m using Nat.strongRecOn with
  | _ m ih =>
    intro i a h
    have := size_pos m
    by_cases hm : m < 128
    · rw [put_lt hm]
      show get i a [] = _
      rw [get, if_pos (by omega)]
    · rw [size_ge (by omega)] at h
      have hp := size_pos (m / 128)
      rw [put_ge (by omega), List.dropLast_cons_of_ne_nil (put_ne _), get, byte_toNat (by omega), if_neg (by omega), if_pos (by omega)]
      exact ih (m / 128) (by omega) (i + 1) _ (by omega)

theorem get_lt : ∀ (l : List UInt8) (i a : Nat), a < 2 ^ (7 * i) → i ≤ 10 → (get i a l).1 < 18446744073709551616 ∧ (get i a l).2.1 ≤ i + l.length ∧ (get i a l).2.1 ≤ 10 ∧ ((get i a l).2.2 = 0 ∨ (get i a l).2.2 = 101 ∨ (get i a l).2.2 = 103) ∧ ((get i a l).2.2 ≠ 0 → (get i a l).1 = 0 ∧ (get i a l).2.1 = 0) ∧ ((get i a l).2.2 = 0 → i < (get i a l).2.1) := by
  intro l
  induction l with
  | nil =>
    intro i a h1 h2
    by_cases h : i < 10 <;> simp [get, h]
  | cons c l ih =>
    intro i a h1 h2
    have hc := c.toNat_lt
    rw [get]
    by_cases h10 : 10 ≤ i
    · rw [if_pos h10]; simp
    · rw [if_neg h10]
      by_cases h128 : 128 ≤ c.toNat
      · rw [if_pos h128]
        have hb : a + c.toNat % 128 * 2 ^ (7 * i) < 2 ^ (7 * (i + 1)) := by
          rw [pow7]
          have : c.toNat % 128 * 2 ^ (7 * i) ≤ 127 * 2 ^ (7 * i) := Nat.mul_le_mul_right _ (by omega)
          omega
        obtain ⟨g1, g2, g3, g4, g5, g6⟩ := ih (i + 1) _ hb (by omega)
        refine ⟨g1, by simp; omega, g3, g4, g5, fun h => by have := g6 h; omega⟩
      · rw [if_neg h128]
        by_cases hs : (c.toNat = 0 ∧ 0 < i) ∨ (1 < c.toNat ∧ i = 9)
        · rw [if_pos hs]; simp
        · rw [if_neg hs]
          refine ⟨?_, by simp, by simp; omega, by simp, by simp, by simp⟩
          show a + c.toNat * 2 ^ (7 * i) < _
          by_cases h9 : i = 9
          · subst h9
            have : (2 : Nat) ^ (7 * 9) = 9223372036854775808 := by decide
            rw [this] at h1 ⊢
            have : c.toNat ≤ 1 := by omega
            have : c.toNat * 9223372036854775808 ≤ 1 * 9223372036854775808 := Nat.mul_le_mul_right _ this
            omega
          · have h3 : 2 ^ (7 * i) ≤ 2 ^ 56 := Nat.pow_le_pow_right (by omega) (by omega)
            have h4 : c.toNat * 2 ^ (7 * i) ≤ 128 * 2 ^ 56 := Nat.mul_le_mul (by omega) h3
            have : (2 : Nat) ^ 56 = 72057594037927936 := by decide
            rw [this] at h3 h4
            omega

/-- A number that may be below nothing, as one that isn't. -/
def zz (n : Int) : Nat := if 0 ≤ n then (2 * n).toNat else (-2 * n - 1).toNat
def unzz (u : Nat) : Int := if u % 2 = 0 then ((u / 2 : Nat) : Int) else -((u / 2 : Nat) : Int) - 1
theorem unzz_zz (n : Int) : unzz (zz n) = n := by
  unfold unzz zz
  split <;> split <;> omega
theorem zz_lt (n : Int) (h1 : -9223372036854775808 ≤ n) (h2 : n ≤ 9223372036854775807) : zz n < 18446744073709551616 := by
  unfold zz; split <;> omega
theorem size_zz (n : Int) : size (zz n) = size (zz (-1 - n)) := by
  have key : ∀ k : Nat, size (2 * k) = size (2 * k + 1) := by
    intro k
    by_cases h : 2 * k < 128
    · rw [size_lt h, size_lt (by omega)]
    · rw [size_ge (by omega), size_ge (show 128 ≤ 2 * k + 1 by omega)]
      congr 2; omega
  by_cases h : 0 ≤ n
  · have e1 : zz n = 2 * n.toNat := by unfold zz; rw [if_pos h]; omega
    have e2 : zz (-1 - n) = 2 * n.toNat + 1 := by unfold zz; rw [if_neg (by omega)]; omega
    rw [e1, e2]; exact key _
  · have e1 : zz n = 2 * (-1 - n).toNat + 1 := by unfold zz; rw [if_neg h]; omega
    have e2 : zz (-1 - n) = 2 * (-1 - n).toNat := by unfold zz; rw [if_pos (by omega)]; omega
    rw [e1, e2]; exact (key _).symm
theorem unzz_bd (u : Nat) (h : u < 18446744073709551616) : -9223372036854775808 ≤ unzz u ∧ unzz u ≤ 9223372036854775807 := by
  unfold unzz; split <;> omega
end Go.Proofs.YtplpakdbahlgaaaDoor.Vi

namespace Go.Proofs.YtplpakdbahlgaaaDoor.Vi

/-- Where a reader is; the error's number (0: none), the place around it, if there is one. -/
structure Rs where
  at_ : Nat
  code : Nat
  pos : Option Nat

def Rs.fail (s : Rs) (c : Nat) : Rs := if c = 101 then ⟨s.at_, 101, none⟩ else ⟨s.at_, c, some s.at_⟩
/-- The number that comes next, at most so great, and how many bytes it has: the reader stays ahead of them. -/
def peek (l : List UInt8) (s : Rs) (most : Nat) : Nat × Nat × Rs :=
  if s.code ≠ 0 then (0, 0, s)
  else
    let g := get 0 0 (l.drop s.at_)
    if g.2.2 ≠ 0 then (0, 0, s.fail g.2.2) else if most < g.1 then (0, 0, s.fail 105) else (g.1, g.2.1, s)
def peekI (l : List UInt8) (s : Rs) (lo hi : Int) : Int × Nat × Rs :=
  if s.code ≠ 0 then (0, 0, s)
  else
    let g := get 0 0 (l.drop s.at_)
    if g.2.2 ≠ 0 then (0, 0, s.fail g.2.2) else if unzz g.1 < lo ∨ hi < unzz g.1 then (0, 0, s.fail 105) else (unzz g.1, g.2.1, s)
def Rs.on (s : Rs) (k : Nat) : Rs := ⟨s.at_ + k, s.code, s.pos⟩
def num (l : List UInt8) (s : Rs) (most : Nat) : Nat × Rs := ((peek l s most).1, (peek l s most).2.2.on (peek l s most).2.1)
def int (l : List UInt8) (s : Rs) (lo hi : Int) : Int × Rs := ((peekI l s lo hi).1, (peekI l s lo hi).2.2.on (peekI l s lo hi).2.1)
/-- A text of at most so many bytes. -/
def text (l : List UInt8) (s : Rs) (most : Nat) : List UInt8 × Rs :=
  let q := peek l s most
  if q.2.2.code ≠ 0 then ([], q.2.2)
  else if l.length < s.at_ + q.2.1 + q.1 then ([], s.fail 101)
  else ((l.drop (s.at_ + q.2.1)).take q.1, s.on (q.2.1 + q.1))
/-- Bytes, the lowest first, as a number. -/
def little : List UInt8 → Nat
  | [] => 0
  | c :: l => c.toNat + 256 * little l
def fixed (l : List UInt8) (s : Rs) (n : Int) : Nat × Rs :=
  if s.code ≠ 0 ∨ n < 0 ∨ 8 < n then (0, s)
  else if l.length < s.at_ + n.toNat then (0, s.fail 101)
  else (little ((l.drop s.at_).take n.toNat), s.on n.toNat)

/-- What a reader is in. -/
structure Ok (l : List UInt8) (s : Rs) : Prop where
  le : s.at_ ≤ l.length
  code : (s.code = 0 ∧ s.pos = none) ∨ (s.code = 101 ∧ s.pos = none) ∨ ((s.code = 103 ∨ s.code = 105) ∧ s.pos = some s.at_)

theorem Ok.fail {l : List UInt8} {s : Rs} (h : Ok l s) {c : Nat} (hc : c = 101 ∨ c = 103 ∨ c = 105) : Ok l (s.fail c) := by
  unfold Rs.fail
  refine ⟨by split <;> exact h.le, ?_⟩
  rcases hc with rfl | rfl | rfl <;> simp
theorem getD_bd (l : List UInt8) (s : Rs) : (get 0 0 (l.drop s.at_)).1 < 18446744073709551616 ∧ (get 0 0 (l.drop s.at_)).2.1 ≤ l.length - s.at_ ∧ (get 0 0 (l.drop s.at_)).2.1 ≤ 10 ∧ ((get 0 0 (l.drop s.at_)).2.2 = 0 ∨ (get 0 0 (l.drop s.at_)).2.2 = 101 ∨ (get 0 0 (l.drop s.at_)).2.2 = 103) := by
  obtain ⟨h1, h2, h3, h4, _⟩ := get_lt (l.drop s.at_) 0 0 (by omega) (by omega)
  rw [List.length_drop] at h2
  exact ⟨h1, by omega, h3, h4⟩
theorem peek_ok {l : List UInt8} {s : Rs} (h : Ok l s) (most : Nat) : Ok l (peek l s most).2.2 ∧ (peek l s most).2.2.at_ = s.at_ ∧ s.at_ + (peek l s most).2.1 ≤ l.length ∧ (peek l s most).1 < 18446744073709551616 := by
  obtain ⟨h1, h2, h3, h4⟩ := getD_bd l s
  have hle := h.le
  unfold peek
  by_cases hc : s.code ≠ 0
  · rw [if_pos hc]; exact ⟨h, rfl, by simp; omega, by simp⟩
  · rw [if_neg hc]
    simp only
    by_cases hg : (get 0 0 (l.drop s.at_)).2.2 ≠ 0
    · rw [if_pos hg]
      refine ⟨h.fail (by omega), ?_, by simp; omega, by simp⟩
      unfold Rs.fail; split <;> rfl
    · rw [if_neg hg]
      by_cases hm : most < (get 0 0 (l.drop s.at_)).1
      · rw [if_pos hm]
        exact ⟨h.fail (.inr (.inr rfl)), rfl, by simp; omega, by simp⟩
      · rw [if_neg hm]
        exact ⟨h, rfl, by simp; omega, h1⟩
theorem peekI_ok {l : List UInt8} {s : Rs} (h : Ok l s) (lo hi : Int) : Ok l (peekI l s lo hi).2.2 ∧ (peekI l s lo hi).2.2.at_ = s.at_ ∧ s.at_ + (peekI l s lo hi).2.1 ≤ l.length := by
  obtain ⟨h1, h2, h3, h4⟩ := getD_bd l s
  have hle := h.le
  unfold peekI
  by_cases hc : s.code ≠ 0
  · rw [if_pos hc]; exact ⟨h, rfl, by simp; omega⟩
  · rw [if_neg hc]
    simp only
    by_cases hg : (get 0 0 (l.drop s.at_)).2.2 ≠ 0
    · rw [if_pos hg]
      refine ⟨h.fail (by omega), ?_, by simp; omega⟩
      unfold Rs.fail; split <;> rfl
    · rw [if_neg hg]
      by_cases hm : unzz (get 0 0 (l.drop s.at_)).1 < lo ∨ hi < unzz (get 0 0 (l.drop s.at_)).1
      · rw [if_pos hm]
        exact ⟨h.fail (.inr (.inr rfl)), rfl, by simp; omega⟩
      · rw [if_neg hm]
        exact ⟨h, rfl, by simp; omega⟩
theorem peek_bad {l : List UInt8} {s : Rs} {most : Nat} (h : (peek l s most).2.2.code ≠ 0) : (peek l s most).1 = 0 ∧ (peek l s most).2.1 = 0 := by
  unfold peek at h ⊢
  by_cases hc : s.code ≠ 0
  · rw [if_pos hc]; exact ⟨rfl, rfl⟩
  · rw [if_neg hc] at h ⊢
    simp only at h ⊢
    by_cases hg : (get 0 0 (l.drop s.at_)).2.2 ≠ 0
    · rw [if_pos hg]; exact ⟨rfl, rfl⟩
    · rw [if_neg hg] at h ⊢
      by_cases hm : most < (get 0 0 (l.drop s.at_)).1
      · rw [if_pos hm]; exact ⟨rfl, rfl⟩
      · rw [if_neg hm] at h; exact absurd h hc
end Go.Proofs.YtplpakdbahlgaaaDoor.Vi

namespace Go.Proofs.YtplpakdbahlgaaaDoor
open Go.RowKit

theorem ofInt_all (a : Nat) (ha : a < 18446744073709551616) : bits .xor .u64 (a : Int) 18446744073709551615 = ((18446744073709551615 - a : Nat) : Int) := by
  rw [show (18446744073709551615 : Int) = ((18446744073709551615 : Nat) : Int) from rfl, u64_xor_nat _ _ ha (by omega)]
  congr 1
  apply Nat.eq_of_testBit_eq
  intro i
  rw [Nat.testBit_xor, show 18446744073709551615 - a = 2 ^ 64 - (a + 1) from by omega, Nat.testBit_two_pow_sub_succ (by simpa using ha), show (18446744073709551615 : Nat) = 2 ^ 64 - 1 from rfl, Nat.testBit_two_pow_sub_one]
  by_cases hi : i < 64
  · simp [hi]
  · simp [hi]
    exact Nat.testBit_lt_two_pow (Nat.lt_of_lt_of_le ha (Nat.pow_le_pow_right (n := 2) (by omega) (show 64 ≤ i by omega)))
theorem xor_nil (a : Nat) (ha : a < 18446744073709551616) : bits .xor .u64 (a : Int) 0 = (a : Int) := by
  rw [show (0 : Int) = ((0 : Nat) : Int) from rfl, u64_xor_nat _ _ ha (by omega)]; simp
end Go.Proofs.YtplpakdbahlgaaaDoor

namespace Go.Proofs.YtplpakdbahlgaaaDoor
open Go.RowKit

set_option maxRecDepth 100000 in
set_option maxHeartbeats 400000 in
theorem size_any (n : Nat) (w : World) (hn : n < 18446744073709551616) :
    Calls Tryd.prog 77 #[.int .u64 n] w fun e w' => e = .returned (.int .i64 (Vi.size n)) ∧ w = w' := by
  have HS := hide (Vi.size_le10 hn)
  clear hn
  go_enter Tryd.func77, Tryd.ntmps77
  go_wp2
  go_loop [0, 3] (fun a s => ∃ m k : Nat, a = .int .u64 m ∧ s = .int .i64 k ∧ k ≤ 10 ∧ k + Vi.size m = Vi.size n + 1) (fun a _ => (intOf a).toNat)
  case atStart => exact ⟨n, 1, rfl, rfl, by omega, by omega⟩
  case round =>
    obtain ⟨m, k, rfl, rfl, hk, hs⟩ := hrel
    have HR := hide hs
    clear hs
    by_cases h : 128 ≤ m
    · have HG := hide (Vi.size_ge h)
      go_wp2
      go_round
      case rel => exact ⟨m / 128, k + 1, by go_num, by go_num, by have := HR.out; have := HG.out; have := HS.out; have := Vi.size_pos (m / 128); omega, by have := HR.out; have := HG.out; omega⟩
      case measure => simp [intOf]; omega
    · have HL := hide (Vi.size_lt (show m < 128 by omega))
      go_wp2
      go_ret
      exact ⟨by have h1 := HR.out; have h2 := HL.out; rw [show Vi.size n = k by omega]; rfl, rfl⟩

theorem or128 (n : Nat) : bits .or .u8 ((n : Int) % (256 : Int)) 128 = B (UInt8.ofNat (n % 128 + 128)) := by
  unfold B
  rw [UInt8.toNat_ofNat', show (n : Int) % 256 = ((n % 256 : Nat) : Int) from by omega, show (128 : Int) = ((128 : Nat) : Int) from rfl, u8_or_nat _ _ (by omega) (by omega)]
  have h : ∀ x, x < 256 → x ||| 128 = x % 128 + 128 := by decide +kernel
  rw [h _ (by omega)]
  congr 1; omega
theorem mod256n (n : Nat) : (n : Int) % (256 : Int) = B (UInt8.ofNat n) := by
  unfold B
  rw [UInt8.toNat_ofNat']; omega

set_option maxRecDepth 100000 in
set_option maxHeartbeats 400000 in
theorem put_any (A : Option Addr) (cap : Nat) (l : List UInt8) (n : Nat) (w : World) (hn : n < 18446744073709551616) (hl : l.length ≤ 1000000) (hr : Reads w A l) :
    Calls Tryd.prog 63 #[.slice A l.length cap, .int .u64 n] w fun e w' => ∃ v, e = .returned v ∧ Own w' w.heap.size v (l ++ Vi.put n) ∧ Below w.heap.size w w' := by
  have HR := hide hr
  have HS := hide (Vi.size_le10 hn)
  have HSZ := hide (fun W => size_any n W hn)
  have hsz := Vi.size_le10 hn
  have hsp := Vi.size_pos n
  clear hr hn
  go_enter Tryd.func63, Tryd.ntmps63
  go_wp2_with (first
    | (go_at_call 77; refine (HSZ.out _).mono ?_; rintro e w' ⟨rfl, rfl⟩)
    | (at_make; refine wpList_mk rfl (.tmp 7) (.tmp 12) rfl l.length (l.length + Vi.size n) _ _ rfl rfl rfl (by omega) (by omega) (by omega) ?_; intro w1 hown1 hb1 hs1)
    | (refine wpList_cp (o := ⟨some 16, _, _, _, _, _⟩) rfl (.tmp 14) (.tmp 15) rfl w.heap.size _ l _ _ _ rfl hown1 A l.length cap rfl rfl (HR.out.below hb1 (Nat.le_refl _)) ?_; intro w2 hown2 hg2 hs2))
  have hb2 : Below w.heap.size w w2 := hb1.grown hg2 (by omega) (by intro k hk; simp [Value.ownBlock] at hk; omega)
  have hown2' : Own w2 w.heap.size (.slice (some ⟨w.heap.size, 0, none⟩) l.length (l.length + Vi.size n)) l := by
    have e1 : l.take (List.replicate l.length (0 : UInt8)).length = l := by rw [List.length_replicate, List.take_length]
    have e2 : (List.replicate l.length (0 : UInt8)).drop l.length = [] := by simp
    have := hown2
    rwa [e1, e2, List.append_nil] at this
  have HB2 := hide hb2
  have HO2 := hide hown2'
  clear hown1 hown2 hown2' hs1 hs2 hg2 hb2 hb1
  simp only [Act.put, List.setIfInBounds_toArray, List.set_cons_succ, List.set_cons_zero, goInt, List.length_replicate, show Nat.min l.length l.length = l.length from Nat.min_self _]
  go_loopw [1, 5] (fun a v wr => ∃ (m : Nat) (pre : List UInt8), a = .int .u64 m ∧ Own wr w.heap.size v (l ++ pre) ∧ pre ++ Vi.put m = Vi.put n ∧ Below w.heap.size w wr) (fun a _ _ => (intOf a).toNat)
  case atStart => exact ⟨n, [], rfl, by rw [List.append_nil]; exact HO2.out, rfl, HB2.out⟩
  case round =>
    obtain ⟨m, pre, rfl, hown, hpre, hb⟩ := hrel
    have hpl : pre.length < 10 := by
      have h1 := congrArg List.length hpre
      rw [List.length_append] at h1
      have h2 := Vi.size_pos m
      unfold Vi.size at h2 hsz
      omega
    have HO := hide hown
    have HP := hide hpre
    have HB := hide hb
    have HZ : Hid (w.heap.size ≤ wr.heap.size) := hb.size
    clear hown hpre hb
    by_cases h : 128 ≤ m
    · have ho := or128 m
      have HPG := hide (Vi.put_ge h)
      generalize UInt8.ofNat (m % 128 + 128) = c at *
      go_wp2_with (at_builtin; refine wpList_app (w := wr.alloc _) rfl (.tmp 21) (.tmp 25) rfl w.heap.size _ (l ++ pre) [c] rfl (HO.out.alloc _) _ 1 1 rfl rfl (Reads.made _ _ _ _ _ _ rfl rfl) (by simp; omega) (by have := HZ.out; simp; omega) ?_; intro v w3 hown3 hg3 hv3)
      go_roundw
      case rel =>
        refine ⟨m / 128, pre ++ [c], by go_num, ?_, ?_, ?_⟩
        · rw [← List.append_assoc]; exact hown3
        · rw [List.append_assoc, List.singleton_append, ← HPG.out]; exact HP.out
        · exact (HB.out.alloc HZ.out _).grown hg3 (by have := HZ.out; simp; omega) (fun g hg => (HO.out.lt g hg).1)
      case measure => simp [intOf]; omega
    · have HC : Hid ((cells [UInt8.ofNat m]).toArray = #[.int .u8 m]) := by
        show (cells [UInt8.ofNat m]).toArray = #[.int .u8 m]
        simp only [cells, List.map_cons, List.map_nil, byteV, ← mod256n]
        rw [show (m : Int) % 256 = m by omega]
      have HPL := hide (Vi.put_lt (show m < 128 by omega))
      generalize UInt8.ofNat m = c at *
      go_wp2_with (at_builtin; refine wpList_app (w := wr.alloc _) rfl (.tmp 27) (.tmp 30) rfl w.heap.size _ (l ++ pre) [c] rfl (HO.out.alloc _) _ 1 1 rfl rfl (Reads.made _ _ _ _ _ _ rfl HC.out) (by simp; omega) (by have := HZ.out; simp; omega) ?_; intro v w3 hown3 hg3 hv3)
      go_ret
      refine ⟨v, rfl, ?_, ?_⟩
      · rw [← HP.out, HPL.out, ← List.append_assoc]; exact hown3
      · exact (HB.out.alloc HZ.out _).grown hg3 (by have := HZ.out; simp; omega) (fun g hg => (HO.out.lt g hg).1)
end Go.Proofs.YtplpakdbahlgaaaDoor

namespace Go.Proofs.YtplpakdbahlgaaaDoor
open Go.RowKit

theorem zig_pos (n : Int) (h0 : 0 ≤ n) (h2 : n ≤ 9223372036854775807) : bits .xor .u64 (n * 2) (n / 9223372036854775808) = (Vi.zz n : Nat) := by
  rw [show n / 9223372036854775808 = 0 by omega, show n * 2 = ((2 * n.toNat : Nat) : Int) by omega, xor_nil _ (by omega)]
  unfold Vi.zz; rw [if_pos h0]; omega
theorem zig_neg (n : Int) (h1 : -9223372036854775808 ≤ n) (h0 : ¬ 0 ≤ n) : bits .xor .u64 (IntKind.u64.wrap (IntKind.u64.wrap n * 2)) (IntKind.u64.wrap (n / 9223372036854775808)) = (Vi.zz n : Nat) := by
  rw [IntKind.wrap_u64, IntKind.wrap_u64, IntKind.wrap_u64, show n / 9223372036854775808 % 18446744073709551616 = 18446744073709551615 by omega,
    show n % 18446744073709551616 * 2 % 18446744073709551616 = ((18446744073709551616 - 2 * (-n).toNat : Nat) : Int) by omega, ofInt_all _ (by omega)]
  unfold Vi.zz; rw [if_neg h0]; omega

end Go.Proofs.YtplpakdbahlgaaaDoor

namespace Go.Proofs.YtplpakdbahlgaaaDoor
open Go.RowKit

theorem put_at (A : Option Addr) (cap k : Nat) (l : List UInt8) (n : Nat) (w : World) (hk : l.length = k) (hn : n < 18446744073709551616) (hl : k ≤ 1000000) (hr : Reads w A l) :
    Calls Tryd.prog 63 #[.slice A k cap, .int .u64 n] w fun e w' => ∃ v, e = .returned v ∧ Own w' w.heap.size v (l ++ Vi.put n) ∧ Below w.heap.size w w' := by
  subst hk; exact put_any A cap l n w hn hl hr
/-- Put of nothing ahead. -/
theorem put_nil (n : Nat) (w : World) (hn : n < 18446744073709551616) :
    Calls Tryd.prog 63 #[.slice none 0 0, .int .u64 n] w fun e w' => ∃ A c, e = .returned (.slice A (Vi.size n) c) ∧ Own w' w.heap.size (.slice A (Vi.size n) c) (Vi.put n) ∧ Arg w' A c (Vi.put n) ∧ Below w.heap.size w w' :=
  (put_at none 0 0 [] n w rfl hn (by omega) (.inl rfl)).mono fun e w' ⟨v, he, ho, hb⟩ => by
    obtain ⟨A, c, hv, hr⟩ := ho.arg
    subst hv
    exact ⟨A, c, he, ho, hr, hb⟩
theorem put_300 : Vi.put 300 = [172, 2] := by
  rw [Vi.put_ge (by omega), Vi.put_lt (by omega)]; decide
theorem size_300 : Vi.size 300 = 2 := by unfold Vi.size; rw [put_300]; rfl
end Go.Proofs.YtplpakdbahlgaaaDoor

namespace Go.Proofs.YtplpakdbahlgaaaDoor
open Go.RowKit

/-- Numbers as bytes. -/
def numsB (zs : List Int) : List UInt8 := Vi.put zs.length ++ zs.flatMap fun z => Vi.put (Vi.zz z)
theorem numsB_snoc (L : List UInt8) (zs : List Int) (k : Nat) (h : k < zs.length) : (L ++ (zs.take k).flatMap fun z => Vi.put (Vi.zz z)) ++ Vi.put (Vi.zz (zs.getD k 0)) = L ++ (zs.take (k + 1)).flatMap fun z => Vi.put (Vi.zz z) := by
  rw [List.take_succ_eq_append_getElem h, List.flatMap_append, List.flatMap_cons, List.flatMap_nil, List.append_nil, List.append_assoc]
  congr 2
  simp [List.getD, h]
theorem numsB_len : ∀ (zs : List Int), (∀ z ∈ zs, -9223372036854775808 ≤ z ∧ z ≤ 9223372036854775807) → (zs.flatMap fun z => Vi.put (Vi.zz z)).length ≤ 10 * zs.length
  | [], _ => by simp
  | z :: zs, h => by
    rw [List.flatMap_cons, List.length_append, List.length_cons]
    have h1 := Vi.size_le10 (Vi.zz_lt z (h z List.mem_cons_self).1 (h z List.mem_cons_self).2)
    unfold Vi.size at h1
    have h2 := numsB_len zs fun x hx => h x (List.mem_cons_of_mem _ hx)
    omega

theorem own_len {w : World} {base n : Nat} {v : Value} {l : List UInt8} (h : Own w base v l) (hl : l.length = n) : ∃ A c, v = .slice A n c ∧ Arg w A c l := by
  obtain ⟨A, c, hv, ha⟩ := h.arg
  exact ⟨A, c, by rw [hv, hl], ha⟩
end Go.Proofs.YtplpakdbahlgaaaDoor
