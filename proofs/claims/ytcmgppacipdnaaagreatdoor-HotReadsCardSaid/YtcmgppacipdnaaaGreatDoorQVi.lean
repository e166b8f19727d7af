/-
  Numbers as bytes, plainly: what a number's bytes are, how many there are, what bytes say, and numbers below nothing. Nothing of any program is named here.
  A reader of numbers, plainly: where it is, and what was amiss. Nothing of any program is named here.
  Numbers below nothing as those that aren't, in the walks' own words: shifts, a turn by all ones, and back. Nothing of any program is named here.
  The walk through package vint's Get.
  The walk through package vint's GetInt.
  Get and GetInt as the walks ask them; what they answer of what Put laid.
-/
import Derived.Test.YtcmgppacipdnaaaGreatDoorQTable
import Derived.IntWalk
import Derived.Deep.CutBlock
import Derived.Deep.DeepCutAuto
import Derived.BigQuiet
import Derived.Deep.QuietTactic
namespace Go.Proofs.YtcmgppacipdnaaaGreatDoor.Vi

/-- A number's bytes: sevens of bits, the lowest first, each but the last with bit 7 set. -/
def put (n : Nat) : List UInt8 := if n < 128 then [UInt8.ofNat n] else UInt8.ofNat (n % 128 + 128) :: put (n / 128)
termination_by n
decreasing_by omega

theorem put_lt {n : Nat} (h : n < 128) : put n = [UInt8.ofNat n] := by rw [put, if_pos h]
theorem put_ge {n : Nat} (h : 128 ≤ n) : put n = UInt8.ofNat (n % 128 + 128) :: put (n / 128) := by rw [put, if_neg (by omega)]
def size (n : Nat) : Nat := (put n).length
theorem size_lt {n : Nat} (h : n < 128) : size n = 1 := by unfold size; rw [put_lt h]; rfl
theorem size_ge {n : Nat} (h : 128 ≤ n) : size n = size (n / 128) + 1 := by unfold size; rw [put_ge h]; rfl
theorem size_pos (n : Nat) : 0 < size n := by
  by_cases h : n < 128
  · rw [size_lt h]; omega
  · rw [size_ge (by omega)]; omega
theorem size_le : ∀ (k n : Nat), n < 128 ^ (k + 1) → size n ≤ k + 1 := by
  intro k
  induction k with
  | zero => intro n h; rw [size_lt (by simpa using h)]; omega
  | succ k ih =>
    intro n h
    by_cases hn : n < 128
    · rw [size_lt hn]; omega
    · rw [size_ge (by omega)]
      have := ih (n / 128) (by rw [Nat.pow_succ] at h; omega)
      omega
theorem size_le10 {n : Nat} (h : n < 18446744073709551616) : size n ≤ 10 := size_le 9 n (Nat.lt_of_lt_of_le h (by decide))
theorem byte_toNat {n : Nat} (h : n < 256) : (UInt8.ofNat n).toNat = n := by rw [UInt8.toNat_ofNat']; omega

/-- What bytes say from the i-th on, with n read so far: the number, how many bytes, the error's number (0: none). -/
def get (i n : Nat) : List UInt8 → Nat × Nat × Nat
  | [] => (0, 0, if i < 10 then 101 else 103)
  | c :: l =>
    if 10 ≤ i then (0, 0, 103)
    else if 128 ≤ c.toNat then get (i + 1) (n + c.toNat % 128 * 2 ^ (7 * i)) l
    else if (c.toNat = 0 ∧ 0 < i) ∨ (1 < c.toNat ∧ i = 9) then (0, 0, 103)
    else (n + c.toNat * 2 ^ (7 * i), i + 1, 0)

theorem pow7 (i : Nat) : 2 ^ (7 * (i + 1)) = 128 * 2 ^ (7 * i) := by rw [Nat.mul_add, Nat.pow_add, Nat.mul_comm]
theorem pow_big {i m : Nat} (hm : 0 < m) (h : m * 2 ^ (7 * i) < 18446744073709551616) : i ≤ 9 := by
  rcases Nat.lt_or_ge i 10 with h1 | h1
  · omega
  · exfalso
    have h2 : 2 ^ 70 ≤ 2 ^ (7 * i) := Nat.pow_le_pow_right (by omega) (by omega)
    have h3 : 2 ^ (7 * i) ≤ m * 2 ^ (7 * i) := Nat.le_mul_of_pos_left _ hm
    have : (18446744073709551616 : Nat) ≤ 2 ^ 70 := by decide
    omega

theorem get_put : ∀ (m i a : Nat) (r : List UInt8), (0 < i → 0 < m) → a + m * 2 ^ (7 * i) < 18446744073709551616 → get i a (put m ++ r) = (a + m * 2 ^ (7 * i), i + size m, 0) := by
  intro m
  induction m using Nat.strongRecOn with
  | _ m ih =>
    intro i a r h0 hlt
    have hi : i ≤ 9 := by
      by_cases hz : i = 0
      · omega
      · exact pow_big (h0 (by omega)) (by omega)
    by_cases hm : m < 128
    · rw [put_lt hm, size_lt hm, List.singleton_append, get, byte_toNat (by omega), if_neg (by omega), if_neg (by omega), if_neg]
      rintro (⟨h1, h2⟩ | ⟨h1, h2⟩)
      · have := h0 h2; omega
      · subst h2
        have : (2 : Nat) ^ (7 * 9) = 9223372036854775808 := by decide
        rw [this] at hlt; omega
    · have e : m * 2 ^ (7 * i) = m % 128 * 2 ^ (7 * i) + m / 128 * 2 ^ (7 * (i + 1)) := by
        rw [pow7, ← Nat.mul_assoc, ← Nat.add_mul]; congr 1; omega
      rw [put_ge (by omega), size_ge (by omega), List.cons_append, get, byte_toNat (by omega), if_neg (by omega), if_pos (by omega)]
      have e2 : (m % 128 + 128) % 128 = m % 128 := by omega
      rw [e2, ih (m / 128) (by omega) (i + 1) _ r (fun _ => by omega) (by omega), e]
      refine Prod.ext ?_ (Prod.ext ?_ rfl) <;> simp <;> omega

theorem get_lt : ∀ (l : List UInt8) (i a : Nat), a < 2 ^ (7 * i) → i ≤ 10 → (get i a l).1 < 18446744073709551616 ∧ (get i a l).2.1 ≤ i + l.length ∧ (get i a l).2.1 ≤ 10 ∧ ((get i a l).2.2 = 0 ∨ (get i a l).2.2 = 101 ∨ (get i a l).2.2 = 103) ∧ ((get i a l).2.2 ≠ 0 → (get i a l).1 = 0 ∧ (get i a l).2.1 = 0) ∧ ((get i a l).2.2 = 0 → i < (get i a l).2.1) := by
  intro l
  induction l with
  | nil =>
    intro i a h1 h2
    by_cases h : i < 10 <;> simp [get, h]
  | cons c l ih =>
    intro i a h1 h2
    have hc := c.toNat_lt
    rw [get]
    by_cases h10 : 10 ≤ i
    · rw [if_pos h10]; simp
    · rw [if_neg h10]
      by_cases h128 : 128 ≤ c.toNat
      · rw [if_pos h128]
        have hb : a + c.toNat % 128 * 2 ^ (7 * i) < 2 ^ (7 * (i + 1)) := by
          rw [pow7]
          have : c.toNat % 128 * 2 ^ (7 * i) ≤ 127 * 2 ^ (7 * i) := Nat.mul_le_mul_right _ (by omega)
          omega
        obtain ⟨g1, g2, g3, g4, g5, g6⟩ := ih (i + 1) _ hb (by omega)
        refine ⟨g1, by simp; omega, g3, g4, g5, fun h => by have := g6 h; omega⟩
      · rw [if_neg h128]
        by_cases hs : (c.toNat = 0 ∧ 0 < i) ∨ (1 < c.toNat ∧ i = 9)
        · rw [if_pos hs]; simp
        · rw [if_neg hs]
          refine ⟨?_, by simp, by simp; omega, by simp, by simp, by simp⟩
          show a + c.toNat * 2 ^ (7 * i) < _
          by_cases h9 : i = 9
          · subst h9
            have : (2 : Nat) ^ (7 * 9) = 9223372036854775808 := by decide
            rw [this] at h1 ⊢
            have : c.toNat ≤ 1 := by omega
            have : c.toNat * 9223372036854775808 ≤ 1 * 9223372036854775808 := Nat.mul_le_mul_right _ this
            omega
          · have h3 : 2 ^ (7 * i) ≤ 2 ^ 56 := Nat.pow_le_pow_right (by omega) (by omega)
            have h4 : c.toNat * 2 ^ (7 * i) ≤ 128 * 2 ^ 56 := Nat.mul_le_mul (by omega) h3
            have : (2 : Nat) ^ 56 = 72057594037927936 := by decide
            rw [this] at h3 h4
            omega

/-- A number that may be below nothing, as one that isn't. -/
def zz (n : Int) : Nat := if 0 ≤ n then (2 * n).toNat else (-2 * n - 1).toNat
def unzz (u : Nat) : Int := if u % 2 = 0 then ((u / 2 : Nat) : Int) else -((u / 2 : Nat) : Int) - 1
theorem unzz_zz (n : Int) : unzz (zz n) = n := by
  unfold unzz zz
  split <;> split <;> omega
theorem zz_lt (n : Int) (h1 : -9223372036854775808 ≤ n) (h2 : n ≤ 9223372036854775807) : zz n < 18446744073709551616 := by
  unfold zz; split <;> omega
end Go.Proofs.YtcmgppacipdnaaaGreatDoor.Vi

namespace Go.Proofs.YtcmgppacipdnaaaGreatDoor.Vi

/-- Where a reader is; the error's number (0: none), the place around it, if there is one. -/
structure Rs where
  at_ : Nat
  code : Nat
  pos : Option Nat

def Rs.fail (s : Rs) (c : Nat) : Rs := if c = 101 then ⟨s.at_, 101, none⟩ else ⟨s.at_, c, some s.at_⟩
/-- The number that comes next, at most so great, and how many bytes it has: the reader stays ahead of them. -/
def peek (l : List UInt8) (s : Rs) (most : Nat) : Nat × Nat × Rs :=
  if s.code ≠ 0 then (0, 0, s)
  else
    let g := get 0 0 (l.drop s.at_)
    if g.2.2 ≠ 0 then (0, 0, s.fail g.2.2) else if most < g.1 then (0, 0, s.fail 105) else (g.1, g.2.1, s)
def peekI (l : List UInt8) (s : Rs) (lo hi : Int) : Int × Nat × Rs :=
  if s.code ≠ 0 then (0, 0, s)
  else
    let g := get 0 0 (l.drop s.at_)
    if g.2.2 ≠ 0 then (0, 0, s.fail g.2.2) else if unzz g.1 < lo ∨ hi < unzz g.1 then (0, 0, s.fail 105) else (unzz g.1, g.2.1, s)
def Rs.on (s : Rs) (k : Nat) : Rs := ⟨s.at_ + k, s.code, s.pos⟩
def num (l : List UInt8) (s : Rs) (most : Nat) : Nat × Rs := ((peek l s most).1, (peek l s most).2.2.on (peek l s most).2.1)
def int (l : List UInt8) (s : Rs) (lo hi : Int) : Int × Rs := ((peekI l s lo hi).1, (peekI l s lo hi).2.2.on (peekI l s lo hi).2.1)
/-- A text of at most so many bytes. -/
def text (l : List UInt8) (s : Rs) (most : Nat) : List UInt8 × Rs :=
  let q := peek l s most
  if q.2.2.code ≠ 0 then ([], q.2.2)
  else if l.length < s.at_ + q.2.1 + q.1 then ([], s.fail 101)
  else ((l.drop (s.at_ + q.2.1)).take q.1, s.on (q.2.1 + q.1))
/-- Bytes, the lowest first, as a number. -/
def little : List UInt8 → Nat
  | [] => 0
  | c :: l => c.toNat + 256 * little l
def fixed (l : List UInt8) (s : Rs) (n : Int) : Nat × Rs :=
  if s.code ≠ 0 ∨ n < 0 ∨ 8 < n then (0, s)
  else if l.length < s.at_ + n.toNat then (0, s.fail 101)
  else (little ((l.drop s.at_).take n.toNat), s.on n.toNat)

/-- What a reader is in. -/
structure Ok (l : List UInt8) (s : Rs) : Prop where
  le : s.at_ ≤ l.length
  code : (s.code = 0 ∧ s.pos = none) ∨ (s.code = 101 ∧ s.pos = none) ∨ ((s.code = 103 ∨ s.code = 105) ∧ s.pos = some s.at_)

theorem Ok.fail {l : List UInt8} {s : Rs} (h : Ok l s) {c : Nat} (hc : c = 101 ∨ c = 103 ∨ c = 105) : Ok l (s.fail c) := by
  unfold Rs.fail
  refine ⟨by split <;> exact h.le, ?_⟩
  rcases hc with rfl | rfl | rfl <;> simp
theorem getD_bd (l : List UInt8) (s : Rs) : (get 0 0 (l.drop s.at_)).1 < 18446744073709551616 ∧ (get 0 0 (l.drop s.at_)).2.1 ≤ l.length - s.at_ ∧ (get 0 0 (l.drop s.at_)).2.1 ≤ 10 ∧ ((get 0 0 (l.drop s.at_)).2.2 = 0 ∨ (get 0 0 (l.drop s.at_)).2.2 = 101 ∨ (get 0 0 (l.drop s.at_)).2.2 = 103) := by
  obtain ⟨h1, h2, h3, h4, _⟩ := get_lt (l.drop s.at_) 0 0 (by omega) (by omega)
  rw [List.length_drop] at h2
  exact ⟨h1, by omega, h3, h4⟩
theorem peek_ok {l : List UInt8} {s : Rs} (h : Ok l s) (most : Nat) : Ok l (peek l s most).2.2 ∧ (peek l s most).2.2.at_ = s.at_ ∧ s.at_ + (peek l s most).2.1 ≤ l.length ∧ (peek l s most).1 < 18446744073709551616 := by
  obtain ⟨h1, h2, h3, h4⟩ := getD_bd l s
  have hle := h.le
  unfold peek
  by_cases hc : s.code ≠ 0
  · rw [if_pos hc]; exact ⟨h, rfl, by simp; omega, by simp⟩
  · rw [if_neg hc]
    simp only
    by_cases hg : (get 0 0 (l.drop s.at_)).2.2 ≠ 0
    · rw [if_pos hg]
      refine ⟨h.fail (by omega), ?_, by simp; omega, by simp⟩
      unfold Rs.fail; split <;> rfl
    · rw [if_neg hg]
      by_cases hm : most < (get 0 0 (l.drop s.at_)).1
      · rw [if_pos hm]
        exact ⟨h.fail (.inr (.inr rfl)), rfl, by simp; omega, by simp⟩
      · rw [if_neg hm]
        exact ⟨h, rfl, by simp; omega, h1⟩
theorem peekI_ok {l : List UInt8} {s : Rs} (h : Ok l s) (lo hi : Int) : Ok l (peekI l s lo hi).2.2 ∧ (peekI l s lo hi).2.2.at_ = s.at_ ∧ s.at_ + (peekI l s lo hi).2.1 ≤ l.length := by
  obtain ⟨h1, h2, h3, h4⟩ := getD_bd l s
  have hle := h.le
  unfold peekI
  by_cases hc : s.code ≠ 0
  · rw [if_pos hc]; exact ⟨h, rfl, by simp; omega⟩
  · rw [if_neg hc]
    simp only
    by_cases hg : (get 0 0 (l.drop s.at_)).2.2 ≠ 0
    · rw [if_pos hg]
      refine ⟨h.fail (by omega), ?_, by simp; omega⟩
      unfold Rs.fail; split <;> rfl
    · rw [if_neg hg]
      by_cases hm : unzz (get 0 0 (l.drop s.at_)).1 < lo ∨ hi < unzz (get 0 0 (l.drop s.at_)).1
      · rw [if_pos hm]
        exact ⟨h.fail (.inr (.inr rfl)), rfl, by simp; omega⟩
      · rw [if_neg hm]
        exact ⟨h, rfl, by simp; omega⟩
theorem peek_bad {l : List UInt8} {s : Rs} {most : Nat} (h : (peek l s most).2.2.code ≠ 0) : (peek l s most).1 = 0 ∧ (peek l s most).2.1 = 0 := by
  unfold peek at h ⊢
  by_cases hc : s.code ≠ 0
  · rw [if_pos hc]; exact ⟨rfl, rfl⟩
  · rw [if_neg hc] at h ⊢
    simp only at h ⊢
    by_cases hg : (get 0 0 (l.drop s.at_)).2.2 ≠ 0
    · rw [if_pos hg]; exact ⟨rfl, rfl⟩
    · rw [if_neg hg] at h ⊢
      by_cases hm : most < (get 0 0 (l.drop s.at_)).1
      · rw [if_pos hm]; exact ⟨rfl, rfl⟩
      · rw [if_neg hm] at h; exact absurd h hc
end Go.Proofs.YtcmgppacipdnaaaGreatDoor.Vi

namespace Go.Proofs.YtcmgppacipdnaaaGreatDoor
open Go.RowKit

theorem ofInt_all (a : Nat) (ha : a < 18446744073709551616) : bits .xor .u64 (a : Int) 18446744073709551615 = ((18446744073709551615 - a : Nat) : Int) := by
  rw [show (18446744073709551615 : Int) = ((18446744073709551615 : Nat) : Int) from rfl, u64_xor_nat _ _ ha (by omega)]
  congr 1
  apply Nat.eq_of_testBit_eq
  intro i
  rw [Nat.testBit_xor, show 18446744073709551615 - a = 2 ^ 64 - (a + 1) from by omega, Nat.testBit_two_pow_sub_succ (by simpa using ha), show (18446744073709551615 : Nat) = 2 ^ 64 - 1 from rfl, Nat.testBit_two_pow_sub_one]
  by_cases hi : i < 64
  · simp [hi]
  · simp [hi]
    exact Nat.testBit_lt_two_pow (Nat.lt_of_lt_of_le ha (Nat.pow_le_pow_right (n := 2) (by omega) (show 64 ≤ i by omega)))
theorem xor_nil (a : Nat) (ha : a < 18446744073709551616) : bits .xor .u64 (a : Int) 0 = (a : Int) := by
  rw [show (0 : Int) = ((0 : Nat) : Int) from rfl, u64_xor_nat _ _ ha (by omega)]; simp
end Go.Proofs.YtcmgppacipdnaaaGreatDoor

namespace Go.Proofs.YtcmgppacipdnaaaGreatDoor
open Go.RowKit

theorem ret3 {a b c a' b' c' : Value} (h1 : a = a') (h2 : b = b') (h3 : c = c') : Ending.returned (.tuple #[a, b, c]) = Ending.returned (.tuple #[a', b', c']) := by rw [h1, h2, h3]
theorem drewN_two (w : World) (a b : Nat) : ∃ n, (w.drewN a).drewN b = w.drewN n := ⟨a + b, by rw [World.drewN_drewN]⟩
/-- The error of a number. -/
def errOf (p : Nat → Addr) (c : Nat) : Value := if c = 0 then .nilIface else errV (p (c - 101))

theorem andNot128 (x : UInt8) : bits .andNot .u8 (B x) 128 = ((x.toNat % 128 : Nat) : Int) := by
  unfold B
  rw [show (128 : Int) = ((128 : Nat) : Int) from rfl, u8_andNot_nat _ _ x.toNat_lt (by omega)]
  congr 1
  exact Nat.and_two_pow_sub_one_eq_mod x.toNat 7
theorem or64 (n x i : Nat) (hn : n < 2 ^ (7 * i)) (hn2 : n < 18446744073709551616) (h : x * 2 ^ (7 * i) < 18446744073709551616) : bits .or .u64 (n : Int) (IntKind.u64.wrap ((x : Int) * 2 ^ (7 * i))) = ((n + x * 2 ^ (7 * i) : Nat) : Int) := by
  have e : IntKind.u64.wrap ((x : Int) * 2 ^ (7 * i)) = ((x * 2 ^ (7 * i) : Nat) : Int) := by
    have : ((x : Int) * 2 ^ (7 * i)) = ((x * 2 ^ (7 * i) : Nat) : Int) := by simp
    rw [IntKind.wrap_u64, this]; omega
  rw [e, u64_or_nat _ _ hn2 h, Nat.or_comm, nat_join (7 * i) _ _ (Nat.mul_mod_left _ _) hn, Nat.add_comm]
theorem pow63 (k : Nat) (h : k ≤ 9) : 2 ^ (7 * k) ≤ 9223372036854775808 := Nat.le_trans (Nat.pow_le_pow_right (by omega) (show 7 * k ≤ 63 by omega)) (by decide)
theorem pow56 (k : Nat) (h : k ≤ 8) : 2 ^ (7 * k) ≤ 72057594037927936 := Nat.le_trans (Nat.pow_le_pow_right (by omega) (show 7 * k ≤ 56 by omega)) (by decide)
theorem or_at (acc x k : Nat) (hk : k ≤ 9) (hacc : acc < 2 ^ (7 * k)) (hx : x < 128) (h : k ≤ 8 ∨ x ≤ 1) : bits .or .u64 (acc : Int) (IntKind.u64.wrap ((x : Int) * 2 ^ (7 * k))) = ((acc + x * 2 ^ (7 * k) : Nat) : Int) := by
  have h9 := pow63 k hk
  refine or64 acc x k hacc (by omega) ?_
  rcases h with h | h
  · have h1 := pow56 k h
    have : x * 2 ^ (7 * k) ≤ 127 * 72057594037927936 := Nat.mul_le_mul (by omega) h1
    omega
  · have : x * 2 ^ (7 * k) ≤ 1 * 9223372036854775808 := Nat.mul_le_mul h h9
    omega
theorem acc_next (acc x k : Nat) (hacc : acc < 2 ^ (7 * k)) (hx : x < 128) : acc + x * 2 ^ (7 * k) < 2 ^ (7 * (k + 1)) := by
  rw [Vi.pow7]
  have : x * 2 ^ (7 * k) ≤ 127 * 2 ^ (7 * k) := Nat.mul_le_mul_right _ (by omega)
  omega

set_option maxRecDepth 100000 in
set_option maxHeartbeats 1000000 in
theorem get_any (A : Option Addr) (cap : Nat) (l : List UInt8) (w : World) (p : Nat → Addr) (hl : l.length ≤ 1000000) (hc : l.length ≤ cap) (hr : Reads w A l) (hs : SentsV w p) :
    Calls Tryz.prog 247 #[.slice A l.length cap] w fun e w' => e = .returned (.tuple #[.int .u64 (Vi.get 0 0 l).1, .int .i64 (Vi.get 0 0 l).2.1, errOf p (Vi.get 0 0 l).2.2]) ∧ ∃ n, w' = w.drewN n := by
  have HR := hide hr
  have k1 := fun W q h => run_cut_h W A l.length cap q h
  have K1 := hide k1
  have c1 : w.cell? ⟨8, 0, none⟩ = some (.iface 297 (.pointer (some (p 0)))) := hs.cell 0 (by omega)
  have c2 : w.cell? ⟨2, 0, none⟩ = some (.iface 297 (.pointer (some (p 2)))) := hs.cell 2 (by omega)
  have C1 := hide c1
  have C2 := hide c2
  clear hr hs k1 c1 c2
  go_enter Tryz.func247, Tryz.ntmps247
  go_upto_region 2 with fail
  obtain ⟨m, hm⟩ : ∃ m, m = min l.length 10 := ⟨_, rfl⟩
  have k2 := fun W => K1.out W m (by omega)
  go_cut [12, 13, 14] (fun s n i wx => s = .slice A m cap ∧ n = .int .i64 m ∧ i = .int .i64 0 ∧ w = wx)
  case first =>
    go_wp2_with fail
    · go_meet
      obtain rfl : m = 10 := by omega
      exact ⟨rfl, rfl, rfl, rfl⟩
    · go_meet
      obtain rfl : m = l.length := by omega
      exact ⟨rfl, rfl, rfl, rfl⟩
  case rest =>
    obtain ⟨rfl, rfl, rfl, rfl⟩ := hcut
    have hm1 : m ≤ 10 := by omega
    have hm2 : m ≤ l.length := by omega
    have HM := hide hm
    clear hm k2
    go_wp2_with fail
    go_loopw [5, 14] (fun n i wr => ∃ (k : Nat) (v : Int) (acc : Nat), k ≤ m ∧ i = .int .i64 k ∧ n = .int .u64 v ∧ (k ≤ 9 → v = acc) ∧ acc < 2 ^ (7 * k) ∧ Vi.get k acc (l.drop k) = Vi.get 0 0 l ∧ ∃ q, wr = w.drewN q) (fun _ i _ => m - (intOf i).toNat)
    case atStart => exact ⟨0, 0, 0, Nat.zero_le _, rfl, rfl, fun _ => rfl, by omega, rfl, 0, rfl⟩
    case round =>
      obtain ⟨k, v, acc, hk, rfl, rfl, hv, hacc, hg, q, rfl⟩ := hrel
      by_cases hlt : k < m
      · have hv9 := hv (by omega)
        subst hv9
        have hkl : k < l.length := by omega
        rcases HR.out with rfl | ⟨b, off, rfl, hb, hcl⟩
        · simp at hkl
        have hcell := hcl k hkl
        have hd : l.drop k = l.getD k 0 :: l.drop (k + 1) := by
          rw [List.drop_eq_getElem_cons hkl]; simp [List.getD, hkl]
        rw [hd, Vi.get, if_neg (by omega)] at hg
        clear hcl hd hv
        generalize l.getD k 0 = c at *
        have ha := andNot128 c
        have hb1 := B_lo c
        have hb2 := B_hi c
        have hcB : B c = (c.toNat : Int) := rfl
        have HCB := hide hcB
        have hx : c.toNat % 128 < 128 := by omega
        by_cases h128 : 128 ≤ c.toNat
        · rw [if_pos h128] at hg
          have hB : 128 ≤ B c := by rw [hcB]; omega
          have HG := hide hg
          have HACC := hide (acc_next acc (c.toNat % 128) k hacc hx)
          have HOR := hide (fun h8 : k ≤ 8 => or_at acc (c.toNat % 128) k (by omega) hacc hx (.inl h8))
          clear hg hcB hacc
          generalize c.toNat % 128 = x at *
          go_wp2_with fail
          exact ⟨⟨k + 1, _, acc + x * 2 ^ (7 * k), by omega, by go_num, rfl, fun h9 => HOR.out (by omega), HACC.out, HG.out, _, rfl⟩, by simp [intOf]; omega⟩
        · rw [if_neg h128] at hg
          have hB : B c < 128 := by rw [hcB]; omega
          have hxc : c.toNat % 128 = c.toNat := by omega
          have HX := hide hxc
          have HOR := hide (fun h8 => or_at acc (c.toNat % 128) k (by omega) hacc hx h8)
          clear hacc hxc
          generalize c.toNat % 128 = x at *
          by_cases hs : (c.toNat = 0 ∧ 0 < k) ∨ (1 < c.toNat ∧ k = 9)
          · rw [if_pos hs] at hg
            have HG := hide hg
            have c2 := C2.out
            rcases hs with ⟨h1, h2⟩ | ⟨h1, h2⟩
            · have hz : (B c == 0) = true := by rw [hcB, h1]; rfl
              clear hg hcB h1 h128
              go_wp2_with fail
              go_quiet (fail)
              go_wp2_with fail
              go_ret3
              exact ⟨by rw [← HG.out]; rfl, drewN_two _ _ _⟩
            · have hz : (B c == 0) = false := by rw [beq_eq_false_iff_ne, hcB]; omega
              have h19 : 1 < B c := by rw [hcB]; omega
              have hk9 : ((k : Int) == 9) = true := by rw [h2]; rfl
              clear hg hcB h1 h2 h128
              go_wp2_with fail
              go_quiet (fail)
              go_wp2_with fail
              go_ret3
              exact ⟨by rw [← HG.out]; rfl, drewN_two _ _ _⟩
          · rw [if_neg hs] at hg
            have HG := hide hg
            have HOR8 := hide ((HOR.out (by have := HX.out; omega)).trans (show _ = ((acc + c.toNat * 2 ^ (7 * k) : Nat) : Int) by rw [HX.out]))
            by_cases h0 : c.toNat = 0
            · have hz : (B c == 0) = true := by rw [hcB, h0]; rfl
              have hk0 : k ≤ 0 := by omega
              have hcB0 : B c ≤ 1 := by rw [hcB]; omega
              clear hg hcB h0 h128 hs
              go_wp2_with fail
              go_ret3
              exact ⟨by rw [← HG.out]; exact ret3 (congrArg (Value.int .u64) HOR8.out) rfl rfl, q, rfl⟩
            · have hz : (B c == 0) = false := by rw [beq_eq_false_iff_ne, hcB]; omega
              by_cases h1 : 1 < c.toNat
              · have h19 : 1 < B c := by rw [hcB]; omega
                have hk9 : ((k : Int) == 9) = false := by rw [beq_eq_false_iff_ne]; omega
                clear hg hcB h0 h1 h128 hs
                go_wp2_with fail
                go_ret3
                exact ⟨by rw [← HG.out]; exact ret3 (congrArg (Value.int .u64) HOR8.out) rfl rfl, q, rfl⟩
              · have h19 : B c ≤ 1 := by rw [hcB]; omega
                clear hg hcB h0 h1 h128 hs
                go_wp2_with fail
                go_ret3
                exact ⟨by rw [← HG.out]; exact ret3 (congrArg (Value.int .u64) HOR8.out) rfl rfl, q, rfl⟩
      · obtain rfl : k = m := by omega
        have HG := hide hg
        have HMM := hide (HM.out)
        have c1 := C1.out
        have c2 := C2.out
        by_cases h10 : l.length < 10
        · obtain rfl : k = l.length := by have := HM.out; omega
          clear hg hv hacc
          go_wp2_with fail
          go_quiet (fail)
          go_wp2_with fail
          go_ret3
          exact ⟨by rw [← HG.out, List.drop_of_length_le (Nat.le_refl _), Vi.get, if_pos h10]; rfl, drewN_two _ _ _⟩
        · obtain rfl : k = 10 := by have := HM.out; omega
          clear hg hv hacc
          go_wp2_with fail
          go_quiet (fail)
          go_wp2_with fail
          go_ret3
          have hsh : Vi.get 10 acc (l.drop 10) = (0, 0, 103) := by
            cases l.drop 10 with
            | nil => rfl
            | cons c r => rw [Vi.get, if_pos (by omega)]
          exact ⟨by rw [← HG.out, hsh]; rfl, drewN_two _ _ _⟩
end Go.Proofs.YtcmgppacipdnaaaGreatDoor

namespace Go.Proofs.YtcmgppacipdnaaaGreatDoor
open Go.RowKit

theorem xor_i64_nil (a : Nat) (ha : a < 9223372036854775808) : bits .xor .i64 (a : Int) 0 = (a : Int) := by
  show IntKind.i64.wrap ((BitVec.ofInt 64 (a : Int) ^^^ BitVec.ofInt 64 (0 : Int)).toNat : Int) = _
  rw [BitVec.toNat_xor, ofInt_i64 a ha, show (BitVec.ofInt 64 (0 : Int)).toNat = 0 from by decide, Nat.xor_zero, IntKind.wrap_i64]
  omega
theorem xor_i64_all (a : Nat) (ha : a < 9223372036854775808) : bits .xor .i64 (a : Int) (-1) = -(a : Int) - 1 := by
  show IntKind.i64.wrap ((BitVec.ofInt 64 (a : Int) ^^^ BitVec.ofInt 64 (-1 : Int)).toNat : Int) = _
  rw [BitVec.toNat_xor, ofInt_i64 a ha, show (BitVec.ofInt 64 (-1 : Int)).toNat = 18446744073709551615 from by decide]
  have h := ofInt_all a (by omega)
  rw [show (18446744073709551615 : Int) = ((18446744073709551615 : Nat) : Int) from rfl, u64_xor_nat _ _ (by omega) (by omega)] at h
  rw [h, IntKind.wrap_i64]
  omega
theorem and1_u64 (a : Nat) (ha : a < 18446744073709551616) : bits .and .u64 (a : Int) 1 = ((a % 2 : Nat) : Int) := by
  rw [show (1 : Int) = ((1 : Nat) : Int) from rfl, u64_and_nat _ _ ha (by omega), nat_mask1]

set_option maxRecDepth 100000 in
set_option maxHeartbeats 400000 in
theorem getInt_any (A : Option Addr) (cap : Nat) (l : List UInt8) (w : World) (p : Nat → Addr) (hl : l.length ≤ 1000000) (hc : l.length ≤ cap) (hr : Reads w A l) (hs : SentsV w p) :
    Calls Tryz.prog 245 #[.slice A l.length cap] w fun e w' => e = .returned (.tuple #[.int .i64 (Vi.unzz (Vi.get 0 0 l).1), .int .i64 (Vi.get 0 0 l).2.1, errOf p (Vi.get 0 0 l).2.2]) ∧ ∃ n, w' = w.drewN n := by
  have HG := hide (get_any A cap l w p hl hc hr hs)
  obtain ⟨hb, -⟩ := Vi.get_lt l 0 0 (by omega) (by omega)
  clear hr hs hl hc
  generalize Vi.get 0 0 l = g at *
  have ha := and1_u64 g.1 hb
  have hdv : g.1 / 2 < 9223372036854775808 := by omega
  have hb2 : (g.1 : Int) / 2 ≤ 9223372036854775807 := by omega
  have hcast : (g.1 : Int) / 2 = ((g.1 / 2 : Nat) : Int) := by omega
  rcases Nat.mod_two_eq_zero_or_one g.1 with h2 | h2
  · have HU : Hid (Vi.unzz g.1 = ((g.1 / 2 : Nat) : Int)) := by show _ = _; unfold Vi.unzz; rw [if_pos h2]
    rw [h2] at ha
    have hx := xor_i64_nil _ hdv
    rw [← hcast] at hx HU
    clear hb hdv h2 hcast
    go_enter Tryz.func245, Tryz.ntmps245
    go_wp2_with fail
    refine HG.out.mono ?_
    rintro e w' ⟨rfl, n, rfl⟩
    generalize hE : errOf p g.2.2 = E at *
    have HE := hide hE
    clear hE
    go_wp2_with fail
    go_ret3
    exact ⟨ret3 (congrArg (Value.int .i64) HU.out.symm) rfl HE.out.symm, n, rfl⟩
  · have HU : Hid (Vi.unzz g.1 = -((g.1 / 2 : Nat) : Int) - 1) := by show _ = _; unfold Vi.unzz; rw [if_neg (by omega)]
    rw [h2] at ha
    have hx := xor_i64_all _ hdv
    rw [← hcast] at hx HU
    clear hb hdv h2 hcast
    go_enter Tryz.func245, Tryz.ntmps245
    go_wp2_with fail
    refine HG.out.mono ?_
    rintro e w' ⟨rfl, n, rfl⟩
    generalize hE : errOf p g.2.2 = E at *
    have HE := hide hE
    clear hE
    go_wp2_with fail
    go_ret3
    exact ⟨ret3 (congrArg (Value.int .i64) HU.out.symm) rfl HE.out.symm, n, rfl⟩
end Go.Proofs.YtcmgppacipdnaaaGreatDoor

namespace Go.Proofs.YtcmgppacipdnaaaGreatDoor
open Go.RowKit

theorem get_at (A : Option Addr) (cap n : Nat) (l : List UInt8) (w : World) (p : Nat → Addr) (a k c : Nat) (hn : l.length = n) (hg : Vi.get 0 0 l = (a, k, c)) (hl : n ≤ 1000000) (ha : Arg w A cap l) (hs : SentsV w p) :
    Calls Tryz.prog 247 #[.slice A n cap] w fun e w' => e = .returned (.tuple #[.int .u64 a, .int .i64 k, errOf p c]) ∧ ∃ n, w' = w.drewN n := by
  subst hn
  have h := get_any A cap l w p hl ha.le ha.reads hs
  rw [hg] at h; exact h
theorem getInt_at (A : Option Addr) (cap n : Nat) (l : List UInt8) (w : World) (p : Nat → Addr) (a : Int) (k c : Nat) (hn : l.length = n) (hg : (Vi.unzz (Vi.get 0 0 l).1, (Vi.get 0 0 l).2) = (a, k, c)) (hl : n ≤ 1000000) (ha : Arg w A cap l) (hs : SentsV w p) :
    Calls Tryz.prog 245 #[.slice A n cap] w fun e w' => e = .returned (.tuple #[.int .i64 a, .int .i64 k, errOf p c]) ∧ ∃ n, w' = w.drewN n := by
  subst hn
  have h := getInt_any A cap l w p hl ha.le ha.reads hs
  have e1 := congrArg Prod.fst hg
  have e2 := congrArg Prod.snd hg
  simp only at e1 e2
  rw [e1, e2] at h; exact h
theorem get_of_put (u : Nat) (r : List UInt8) (hu : u < 18446744073709551616) : Vi.get 0 0 (Vi.put u ++ r) = (u, Vi.size u, 0) := by
  have h := Vi.get_put u 0 0 r (fun h => absurd h (Nat.lt_irrefl 0)) (by simpa using hu)
  simpa using h
end Go.Proofs.YtcmgppacipdnaaaGreatDoor
