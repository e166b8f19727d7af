/-
  Numbers as bytes, plainly: what a number's bytes are, how many there are, what bytes say, and numbers below nothing. Nothing of any program is named here.
  A reader of numbers, plainly: where it is, and what was amiss. Nothing of any program is named here.
  Numbers below nothing as those that aren't, in the walks' own words: shifts, a turn by all ones, and back. Nothing of any program is named here.
  Pieces of slices of bytes.
  From a row's reading of a slice of bytes to what the walks are told of it.
  What is owned, as an argument; what stays of an argument; its pieces.
-/
import Derived.Test.YtcmgppacipdnaaaGreatDoorQ0
import Derived.IntWalk
import Derived.Test.YtcmgppacipdnaaaGreatDoorQ2
namespace Go.Proofs.YtcmgppacipdnaaaGreatDoor.Vi

/-- A number's bytes: sevens of bits, the lowest first, each but the last with bit 7 set. -/
def put (n : Nat) : List UInt8 := if n < 128 then [UInt8.ofNat n] else UInt8.ofNat (n % 128 + 128) :: put (n / 128)
termination_by n
decreasing_by omega

theorem put_lt {n : Nat} (h : n < 128) : put n = [UInt8.ofNat n] := by rw [put, if_pos h]
theorem put_ge {n : Nat} (h : 128 ≤ n) : put n = UInt8.ofNat (n % 128 + 128) :: put (n / 128) := by rw [put, if_neg (by omega)]
def size (n : Nat) : Nat := (put n).length
theorem size_lt {n : Nat} (h : n < 128) : size n = 1 := by unfold size; rw [put_lt h]; rfl
theorem size_ge {n : Nat} (h : 128 ≤ n) : size n = size (n / 128) + 1 := by unfold size; rw [put_ge h]; rfl
theorem size_pos (n : Nat) : 0 < size n := by
  by_cases h : n < 128
  · rw [size_lt h]; omega
  · rw [size_ge (by omega)]; omega
theorem size_le : ∀ (k n : Nat), n < 128 ^ (k + 1) → size n ≤ k + 1 := by
  intro k
  induction k with
  | zero => intro n h; rw [size_lt (by simpa using h)]; omega
  | succ k ih =>
    intro n h
    by_cases hn : n < 128
    · rw [size_lt hn]; omega
    · rw [size_ge (by omega)]
      have := ih (n / 128) (by rw [Nat.pow_succ] at h; omega)
      omega
theorem size_le10 {n : Nat} (h : n < 18446744073709551616) : size n ≤ 10 := size_le 9 n (Nat.lt_of_lt_of_le h (by decide))
theorem byte_toNat {n : Nat} (h : n < 256) : (UInt8.ofNat n).toNat = n := by rw [UInt8.toNat_ofNat']; omega

/-- What bytes say from the i-th on, with n read so far: the number, how many bytes, the error's number (0: none). -/
def get (i n : Nat) : List UInt8 → Nat × Nat × Nat
  | [] => (0, 0, if i < 10 then 101 else 103)
  | c :: l =>
    if 10 ≤ i then (0, 0, 103)
    else if 128 ≤ c.toNat then get (i + 1) (n + c.toNat % 128 * 2 ^ (7 * i)) l
    else if (c.toNat = 0 ∧ 0 < i) ∨ (1 < c.toNat ∧ i = 9) then (0, 0, 103)
    else (n + c.toNat * 2 ^ (7 * i), i + 1, 0)

theorem pow7 (i : Nat) : 2 ^ (7 * (i + 1)) = 128 * 2 ^ (7 * i) := by rw [Nat.mul_add, Nat.pow_add, Nat.mul_comm]
theorem pow_big {i m : Nat} (hm : 0 < m) (h : m * 2 ^ (7 * i) < 18446744073709551616) : i ≤ 9 := by
  rcases Nat.lt_or_ge i 10 with h1 | h1
  · omega
  · exfalso
    have h2 : 2 ^ 70 ≤ 2 ^ (7 * i) := Nat.pow_le_pow_right (by omega) (by omega)
    have h3 : 2 ^ (7 * i) ≤ m * 2 ^ (7 * i) := Nat.le_mul_of_pos_left _ hm
    have : (18446744073709551616 : Nat) ≤ 2 ^ 70 := by decide
    omega

theorem get_put : ∀ (m i a : Nat) (r : List UInt8), (0 < i → 0 < m) → a + m * 2 ^ (7 * i) < 18446744073709551616 → get i a (put m ++ r) = (a + m * 2 ^ (7 * i), i + size m, 0) := by
  intro m
  induction m using Nat.strongRecOn with
  | _ m ih =>
    intro i a r h0 hlt
    have hi : i ≤ 9 := by
      by_cases hz : i = 0
      · omega
      · exact pow_big (h0 (by omega)) (by omega)
    by_cases hm : m < 128
    · rw [put_lt hm, size_lt hm, List.singleton_append, get, byte_toNat (by omega), if_neg (by omega), if_neg (by omega), if_neg]
      rintro (⟨h1, h2⟩ | ⟨h1, h2⟩)
      · have := h0 h2; omega
      · subst h2
        have : (2 : Nat) ^ (7 * 9) = 9223372036854775808 := by decide
        rw [this] at hlt; omega
    · have e : m * 2 ^ (7 * i) = m % 128 * 2 ^ (7 * i) + m / 128 * 2 ^ (7 * (i + 1)) := by
        rw [pow7, ← Nat.mul_assoc, ← Nat.add_mul]; congr 1; omega
      rw [put_ge (by omega), size_ge (by omega), List.cons_append, get, byte_toNat (by omega), if_neg (by omega), if_pos (by omega)]
      have e2 : (m % 128 + 128) % 128 = m % 128 := by omega
      rw [e2, ih (m / 128) (by omega) (i + 1) _ r (fun _ => by omega) (by omega), e]
      refine Prod.ext ?_ (Prod.ext ?_ rfl) <;> simp <;> omega

theorem get_lt : ∀ (l : List UInt8) (i a : Nat), a < 2 ^ (7 * i) → i ≤ 10 → (get i a l).1 < 18446744073709551616 ∧ (get i a l).2.1 ≤ i + l.length ∧ (get i a l).2.1 ≤ 10 ∧ ((get i a l).2.2 = 0 ∨ (get i a l).2.2 = 101 ∨ (get i a l).2.2 = 103) ∧ ((get i a l).2.2 ≠ 0 → (get i a l).1 = 0 ∧ (get i a l).2.1 = 0) ∧ ((get i a l).2.2 = 0 → i < (get i a l).2.1) := by
  intro l
  induction l with
  | nil =>
    intro i a h1 h2
    by_cases h : i < 10 <;> simp [get, h]
  | cons c l ih =>
    intro i a h1 h2
    have hc := c.toNat_lt
    rw [get]
    by_cases h10 : 10 ≤ i
    · rw [if_pos h10]; simp
    · rw [if_neg h10]
      by_cases h128 : 128 ≤ c.toNat
      · rw [if_pos h128]
        have hb : a + c.toNat % 128 * 2 ^ (7 * i) < 2 ^ (7 * (i + 1)) := by
          rw [pow7]
          have : c.toNat % 128 * 2 ^ (7 * i) ≤ 127 * 2 ^ (7 * i) := Nat.mul_le_mul_right _ (by omega)
          omega
        obtain ⟨g1, g2, g3, g4, g5, g6⟩ := ih (i + 1) _ hb (by omega)
        refine ⟨g1, by simp; omega, g3, g4, g5, fun h => by have := g6 h; omega⟩
      · rw [if_neg h128]
        by_cases hs : (c.toNat = 0 ∧ 0 < i) ∨ (1 < c.toNat ∧ i = 9)
        · rw [if_pos hs]; simp
        · rw [if_neg hs]
          refine ⟨?_, by simp, by simp; omega, by simp, by simp, by simp⟩
          show a + c.toNat * 2 ^ (7 * i) < _
          by_cases h9 : i = 9
          · subst h9
            have : (2 : Nat) ^ (7 * 9) = 9223372036854775808 := by decide
            rw [this] at h1 ⊢
            have : c.toNat ≤ 1 := by omega
            have : c.toNat * 9223372036854775808 ≤ 1 * 9223372036854775808 := Nat.mul_le_mul_right _ this
            omega
          · have h3 : 2 ^ (7 * i) ≤ 2 ^ 56 := Nat.pow_le_pow_right (by omega) (by omega)
            have h4 : c.toNat * 2 ^ (7 * i) ≤ 128 * 2 ^ 56 := Nat.mul_le_mul (by omega) h3
            have : (2 : Nat) ^ 56 = 72057594037927936 := by decide
            rw [this] at h3 h4
            omega

/-- A number that may be below nothing, as one that isn't. -/
def zz (n : Int) : Nat := if 0 ≤ n then (2 * n).toNat else (-2 * n - 1).toNat
def unzz (u : Nat) : Int := if u % 2 = 0 then ((u / 2 : Nat) : Int) else -((u / 2 : Nat) : Int) - 1
theorem unzz_zz (n : Int) : unzz (zz n) = n := by
  unfold unzz zz
  split <;> split <;> omega
theorem zz_lt (n : Int) (h1 : -9223372036854775808 ≤ n) (h2 : n ≤ 9223372036854775807) : zz n < 18446744073709551616 := by
  unfold zz; split <;> omega
end Go.Proofs.YtcmgppacipdnaaaGreatDoor.Vi

namespace Go.Proofs.YtcmgppacipdnaaaGreatDoor.Vi

/-- Where a reader is; the error's number (0: none), the place around it, if there is one. -/
structure Rs where
  at_ : Nat
  code : Nat
  pos : Option Nat

def Rs.fail (s : Rs) (c : Nat) : Rs := if c = 101 then ⟨s.at_, 101, none⟩ else ⟨s.at_, c, some s.at_⟩
/-- The number that comes next, at most so great, and how many bytes it has: the reader stays ahead of them. -/
def peek (l : List UInt8) (s : Rs) (most : Nat) : Nat × Nat × Rs :=
  if s.code ≠ 0 then (0, 0, s)
  else
    let g := get 0 0 (l.drop s.at_)
    if g.2.2 ≠ 0 then (0, 0, s.fail g.2.2) else if most < g.1 then (0, 0, s.fail 105) else (g.1, g.2.1, s)
def peekI (l : List UInt8) (s : Rs) (lo hi : Int) : Int × Nat × Rs :=
  if s.code ≠ 0 then (0, 0, s)
  else
    let g := get 0 0 (l.drop s.at_)
    if g.2.2 ≠ 0 then (0, 0, s.fail g.2.2) else if unzz g.1 < lo ∨ hi < unzz g.1 then (0, 0, s.fail 105) else (unzz g.1, g.2.1, s)
def Rs.on (s : Rs) (k : Nat) : Rs := ⟨s.at_ + k, s.code, s.pos⟩
def num (l : List UInt8) (s : Rs) (most : Nat) : Nat × Rs := ((peek l s most).1, (peek l s most).2.2.on (peek l s most).2.1)
def int (l : List UInt8) (s : Rs) (lo hi : Int) : Int × Rs := ((peekI l s lo hi).1, (peekI l s lo hi).2.2.on (peekI l s lo hi).2.1)
/-- A text of at most so many bytes. -/
def text (l : List UInt8) (s : Rs) (most : Nat) : List UInt8 × Rs :=
  let q := peek l s most
  if q.2.2.code ≠ 0 then ([], q.2.2)
  else if l.length < s.at_ + q.2.1 + q.1 then ([], s.fail 101)
  else ((l.drop (s.at_ + q.2.1)).take q.1, s.on (q.2.1 + q.1))
/-- Bytes, the lowest first, as a number. -/
def little : List UInt8 → Nat
  | [] => 0
  | c :: l => c.toNat + 256 * little l
def fixed (l : List UInt8) (s : Rs) (n : Int) : Nat × Rs :=
  if s.code ≠ 0 ∨ n < 0 ∨ 8 < n then (0, s)
  else if l.length < s.at_ + n.toNat then (0, s.fail 101)
  else (little ((l.drop s.at_).take n.toNat), s.on n.toNat)

/-- What a reader is in. -/
structure Ok (l : List UInt8) (s : Rs) : Prop where
  le : s.at_ ≤ l.length
  code : (s.code = 0 ∧ s.pos = none) ∨ (s.code = 101 ∧ s.pos = none) ∨ ((s.code = 103 ∨ s.code = 105) ∧ s.pos = some s.at_)

theorem Ok.fail {l : List UInt8} {s : Rs} (h : Ok l s) {c : Nat} (hc : c = 101 ∨ c = 103 ∨ c = 105) : Ok l (s.fail c) := by
  unfold Rs.fail
  refine ⟨by split <;> exact h.le, ?_⟩
  rcases hc with rfl | rfl | rfl <;> simp
theorem getD_bd (l : List UInt8) (s : Rs) : (get 0 0 (l.drop s.at_)).1 < 18446744073709551616 ∧ (get 0 0 (l.drop s.at_)).2.1 ≤ l.length - s.at_ ∧ (get 0 0 (l.drop s.at_)).2.1 ≤ 10 ∧ ((get 0 0 (l.drop s.at_)).2.2 = 0 ∨ (get 0 0 (l.drop s.at_)).2.2 = 101 ∨ (get 0 0 (l.drop s.at_)).2.2 = 103) := by
  obtain ⟨h1, h2, h3, h4, _⟩ := get_lt (l.drop s.at_) 0 0 (by omega) (by omega)
  rw [List.length_drop] at h2
  exact ⟨h1, by omega, h3, h4⟩
theorem peek_ok {l : List UInt8} {s : Rs} (h : Ok l s) (most : Nat) : Ok l (peek l s most).2.2 ∧ (peek l s most).2.2.at_ = s.at_ ∧ s.at_ + (peek l s most).2.1 ≤ l.length ∧ (peek l s most).1 < 18446744073709551616 := by
  obtain ⟨h1, h2, h3, h4⟩ := getD_bd l s
  have hle := h.le
  unfold peek
  by_cases hc : s.code ≠ 0
  · rw [if_pos hc]; exact ⟨h, rfl, by simp; omega, by simp⟩
  · rw [if_neg hc]
    simp only
    by_cases hg : (get 0 0 (l.drop s.at_)).2.2 ≠ 0
    · rw [if_pos hg]
      refine ⟨h.fail (by omega), ?_, by simp; omega, by simp⟩
      unfold Rs.fail; split <;> rfl
    · rw [if_neg hg]
      by_cases hm : most < (get 0 0 (l.drop s.at_)).1
      · rw [if_pos hm]
        exact ⟨h.fail (.inr (.inr rfl)), rfl, by simp; omega, by simp⟩
      · rw [if_neg hm]
        exact ⟨h, rfl, by simp; omega, h1⟩
theorem peekI_ok {l : List UInt8} {s : Rs} (h : Ok l s) (lo hi : Int) : Ok l (peekI l s lo hi).2.2 ∧ (peekI l s lo hi).2.2.at_ = s.at_ ∧ s.at_ + (peekI l s lo hi).2.1 ≤ l.length := by
  obtain ⟨h1, h2, h3, h4⟩ := getD_bd l s
  have hle := h.le
  unfold peekI
  by_cases hc : s.code ≠ 0
  · rw [if_pos hc]; exact ⟨h, rfl, by simp; omega⟩
  · rw [if_neg hc]
    simp only
    by_cases hg : (get 0 0 (l.drop s.at_)).2.2 ≠ 0
    · rw [if_pos hg]
      refine ⟨h.fail (by omega), ?_, by simp; omega⟩
      unfold Rs.fail; split <;> rfl
    · rw [if_neg hg]
      by_cases hm : unzz (get 0 0 (l.drop s.at_)).1 < lo ∨ hi < unzz (get 0 0 (l.drop s.at_)).1
      · rw [if_pos hm]
        exact ⟨h.fail (.inr (.inr rfl)), rfl, by simp; omega⟩
      · rw [if_neg hm]
        exact ⟨h, rfl, by simp; omega⟩
theorem peek_bad {l : List UInt8} {s : Rs} {most : Nat} (h : (peek l s most).2.2.code ≠ 0) : (peek l s most).1 = 0 ∧ (peek l s most).2.1 = 0 := by
  unfold peek at h ⊢
  by_cases hc : s.code ≠ 0
  · rw [if_pos hc]; exact ⟨rfl, rfl⟩
  · rw [if_neg hc] at h ⊢
    simp only at h ⊢
    by_cases hg : (get 0 0 (l.drop s.at_)).2.2 ≠ 0
    · rw [if_pos hg]; exact ⟨rfl, rfl⟩
    · rw [if_neg hg] at h ⊢
      by_cases hm : most < (get 0 0 (l.drop s.at_)).1
      · rw [if_pos hm]; exact ⟨rfl, rfl⟩
      · rw [if_neg hm] at h; exact absurd h hc
end Go.Proofs.YtcmgppacipdnaaaGreatDoor.Vi

namespace Go.Proofs.YtcmgppacipdnaaaGreatDoor
open Go.RowKit

theorem ofInt_all (a : Nat) (ha : a < 18446744073709551616) : bits .xor .u64 (a : Int) 18446744073709551615 = ((18446744073709551615 - a : Nat) : Int) := by
  rw [show (18446744073709551615 : Int) = ((18446744073709551615 : Nat) : Int) from rfl, u64_xor_nat _ _ ha (by omega)]
  congr 1
  apply Nat.eq_of_testBit_eq
  intro i
  rw [Nat.testBit_xor, show 18446744073709551615 - a = 2 ^ 64 - (a + 1) from by omega, Nat.testBit_two_pow_sub_succ (by simpa using ha), show (18446744073709551615 : Nat) = 2 ^ 64 - 1 from rfl, Nat.testBit_two_pow_sub_one]
  by_cases hi : i < 64
  · simp [hi]
  · simp [hi]
    exact Nat.testBit_lt_two_pow (Nat.lt_of_lt_of_le ha (Nat.pow_le_pow_right (n := 2) (by omega) (show 64 ≤ i by omega)))
theorem xor_nil (a : Nat) (ha : a < 18446744073709551616) : bits .xor .u64 (a : Int) 0 = (a : Int) := by
  rw [show (0 : Int) = ((0 : Nat) : Int) from rfl, u64_xor_nat _ _ ha (by omega)]; simp
end Go.Proofs.YtcmgppacipdnaaaGreatDoor

namespace Go.Proofs.YtcmgppacipdnaaaGreatDoor
open Go.RowKit

theorem Reads.sub {w : World} {b off : Nat} {l : List UInt8} (h : Reads w (some ⟨b, off, none⟩) l) (i m : Nat) : Reads w (some ⟨b, off + i, none⟩) ((l.drop i).take m) := by
  rcases h with rfl | ⟨b', off', e, hb, hc⟩
  · exact .inl (by simp)
  · injection e with e
    injection e with e1 e2
    subst e1 e2
    refine .inr ⟨_, _, rfl, hb, fun k hk => ?_⟩
    have hk' : k < m ∧ i + k < l.length := by
      rw [List.length_take, List.length_drop] at hk; omega
    rw [Nat.add_assoc, hc (i + k) hk'.2]
    congr 2
    simp [List.getD, hk'.1]
/-- Where a slice cut ahead at q begins. -/
def cutA (A : Option Addr) (cap q : Nat) : Option Addr := if cap = q then A else A.map (·.add q)
theorem byte_elem : Tryz.prog.underlying 67 = some (.slice (Tryz.prog.elem 67)) := by kernel_rfl
theorem byte_sizeOf (W : World) : (sizeOf (Tryz.prog.elem 67)).run Tryz.prog W = .ok 1 W := by
  have h : Tryz.prog.elem 67 = 5 := by kernel_rfl
  obtain ⟨i, hi, hz, hs1, hby⟩ := info_parts byte_info
  rw [h]; simp [sizeOf, typeInfo, hi, hs1]
theorem run_cut_l (W : World) (A : Option Addr) (n cap q : Nat) (h : q ≤ n) :
    (Instr.sliceAt 67 (.slice A n cap) (some (.int .i64 (q : Int))) none none).run Tryz.prog W = .ok (.slice (cutA A cap q) (n - q) (cap - q)) W := by
  rw [run_sliceAt_slice W _ _ _ _ _ byte_elem, run_slice_l W _ A n cap byte_elem .i64 (q : Int) (by omega) (by omega), byte_sizeOf]
  simp [Result.andThen, sliced, cutA]
theorem run_cut_h (W : World) (A : Option Addr) (n cap q : Nat) (h : q ≤ cap) :
    (Instr.sliceAt 67 (.slice A n cap) none (some (.int .i64 (q : Int))) none).run Tryz.prog W = .ok (.slice A q cap) W := by
  rw [run_sliceAt_slice W _ _ _ _ _ byte_elem, run_slice_h W _ A n cap byte_elem .i64 (q : Int) (by omega) (by omega), byte_sizeOf]
  simp [Result.andThen, sliced]
  intro h0 
  cases A <;> simp [Addr.add]
theorem Reads.first {w : World} {A : Option Addr} {l : List UInt8} (h : Reads w A l) (q : Nat) : Reads w A (l.take q) := by
  rcases h with rfl | ⟨b, off, rfl, hb, hc⟩
  · exact .inl (by simp)
  · refine .inr ⟨_, _, rfl, hb, fun k hk => ?_⟩
    rw [List.length_take] at hk
    rw [hc k (by omega)]
    congr 2
    simp [List.getD, show k < q by omega]
theorem Reads.cut {w : World} {A : Option Addr} {l : List UInt8} (h : Reads w A l) (cap q : Nat) (hl : l.length ≤ cap) (hA : A = none → cap = 0) (hq : q ≤ l.length) : Reads w (cutA A cap q) (l.drop q) := by
  unfold cutA
  split
  · exact .inl (List.drop_eq_nil_of_le (by omega))
  · rcases A with _ | ⟨b, off, sp⟩
    · have := hA rfl; omega
    · rcases h with rfl | ⟨b', off', e, hb, hc⟩
      · exact .inl (by simp)
      · obtain ⟨rfl, rfl, rfl⟩ := by simpa using e
        have h2 := Reads.sub (w := w) (b := b) (off := off) (l := l) (.inr ⟨_, _, rfl, hb, hc⟩) q l.length
        rw [List.take_of_length_le (by simp)] at h2
        simpa [Addr.add_lit] using h2
theorem run_cut_lh (W : World) (A : Option Addr) (n cap lo hi : Nat) (h : lo ≤ hi) (h2 : hi ≤ cap) :
    (Instr.sliceAt 67 (.slice A n cap) (some (.int .i64 (lo : Int))) (some (.int .i64 (hi : Int))) none).run Tryz.prog W = .ok (.slice (cutA A cap lo) (hi - lo) (cap - lo)) W := by
  rw [run_sliceAt_slice W _ _ _ _ _ byte_elem, run_slice_lh W _ A n cap byte_elem .i64 .i64 (lo : Int) (hi : Int) (by omega) (by omega) (by omega), byte_sizeOf]
  simp [Result.andThen, sliced, cutA]
end Go.Proofs.YtcmgppacipdnaaaGreatDoor

namespace Go.Proofs.YtcmgppacipdnaaaGreatDoor
open Go.RowKit Go.ChangeShapes Go.WideShapes Go.ChangeAt

/-- What a walk is told of a slice of bytes that came in. -/
structure Arg (w : World) (A : Option Addr) (cap : Nat) (l : List UInt8) : Prop where
  le : l.length ≤ cap
  max : cap ≤ 9223372036854775807
  nil : A = none → cap = 0
  reads : Reads w A l

end Go.Proofs.YtcmgppacipdnaaaGreatDoor

namespace Go.Proofs.YtcmgppacipdnaaaGreatDoor
open Go.RowKit

theorem Own.arg {w : World} {base : Nat} {v : Value} {l : List UInt8} (h : Own w base v l) : ∃ A c, v = .slice A l.length c ∧ Arg w A c l := by
  obtain ⟨A, c, hv, hr, hn⟩ := h.reads
  refine ⟨A, c, hv, ?_⟩
  rcases h.2 with ⟨e, h0⟩ | ⟨g, cap, cur, e, hg, hh, hc, hm, hs, ht⟩
  · rw [hv] at e
    injection e with e1 e2 e3
    subst e3
    exact ⟨by omega, by omega, fun _ => rfl, hr⟩
  · rw [hv] at e
    injection e with e1 e2 e3
    subst e3
    exact ⟨hc, by simpa [maxLen] using hm, fun h => (hn h).2, hr⟩
theorem Arg.below {w w' : World} {C : Nat} {A : Option Addr} {cap : Nat} {l : List UInt8} (h : Arg w A cap l) (hb : Below C w w') (hC : w.heap.size ≤ C) : Arg w' A cap l := ⟨h.le, h.max, h.nil, h.reads.below hb hC⟩
theorem Arg.drewN {w : World} {A : Option Addr} {cap : Nat} {l : List UInt8} (h : Arg w A cap l) (n : Nat) : Arg (w.drewN n) A cap l := ⟨h.le, h.max, h.nil, h.reads⟩
theorem Arg.alloc {w : World} {A : Option Addr} {cap : Nat} {l : List UInt8} (h : Arg w A cap l) (o : Obj) : Arg (w.alloc o) A cap l := ⟨h.le, h.max, h.nil, h.reads.alloc o⟩
theorem Arg.first {w : World} {A : Option Addr} {cap : Nat} {l : List UInt8} (h : Arg w A cap l) (q : Nat) : Arg w A cap (l.take q) := ⟨by have := h.le; rw [List.length_take]; omega, h.max, h.nil, h.reads.first q⟩
theorem Arg.cut {w : World} {A : Option Addr} {cap : Nat} {l : List UInt8} (h : Arg w A cap l) (q : Nat) (hq : q ≤ l.length) : Arg w (cutA A cap q) (cap - q) (l.drop q) :=
  ⟨by have := h.le; rw [List.length_drop]; omega, by have := h.max; omega, fun e => by
    unfold cutA at e
    split at e
    · omega
    · cases A with
      | none => have := h.nil rfl; omega
      | some a => simp at e, h.reads.cut cap q h.le h.nil hq⟩
end Go.Proofs.YtcmgppacipdnaaaGreatDoor
