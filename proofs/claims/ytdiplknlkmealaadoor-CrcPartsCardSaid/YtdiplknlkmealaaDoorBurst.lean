/-
  Plain facts: what turned bits do to a sum: a burst of up to 32 bits, and one or three bits anywhere. Nothing of any program is named here.
-/
import Derived.Test.YtdiplknlkmealaaDoorDetect
namespace Go.Proofs.YtdiplknlkmealaaDoor.Crc

def bitB (m : Nat) : UInt8 := UInt8.ofNat (2 ^ m)
/-- One bit turned, the lowest of each byte first. -/
def flip (l : List UInt8) (j : Nat) : List UInt8 := l.set (j / 8) (l.getD (j / 8) 0 ^^^ bitB (j % 8))
theorem flip_len (l : List UInt8) (j : Nat) : (flip l j).length = l.length := by simp [flip]

theorem bitB_word : ∀ m : Fin 8, (bitB m.val).toBitVec.setWidth 32 = 1#32 <<< m.val := by decide
theorem sts_bit : ∀ m : Fin 32, sts m.val (1#32 <<< m.val) = 1#32 := by decide +kernel
theorem sts_at (N i : Nat) (hi : i < 32) (h : i ≤ N) : sts (N - i) 1#32 = sts N (1#32 <<< i) := by
  have h1 := sts_bit ⟨i, hi⟩
  simp only at h1
  rw [show N = i + (N - i) by omega, sts_add, h1]
  congr 1; omega

theorem feed_flip (c : BitVec 32) (l : List UInt8) (j : Nat) (h : j < 8 * l.length) : feed c (flip l j) = feed c l ^^^ sts (8 * l.length - j) 1#32 := by
  have hk : j / 8 < l.length := by omega
  unfold flip
  have hg : l.getD (j / 8) 0 = l[j / 8] := by simp [List.getD, hk]
  rw [hg, feed_set c l (j / 8) _ hk]
  congr 1
  have hb := bitB_word ⟨j % 8, by omega⟩
  simp only at hb
  rw [hb, ← sts_at (8 * (l.length - j / 8)) (j % 8) (by omega) (by omega)]
  congr 1; omega

/-- So many bits of a burst turned. -/
def burst (l : List UInt8) (k : Nat) (bits : BitVec 32) : Nat → List UInt8
  | 0 => l
  | i + 1 => if bits.getLsbD i then flip (burst l k bits i) (k + i) else burst l k bits i
theorem burst_len (l : List UInt8) (k : Nat) (bits : BitVec 32) (i : Nat) : (burst l k bits i).length = l.length := by
  induction i with
  | zero => rfl
  | succ i ih => simp only [burst]; split <;> simp [flip_len, ih]
def acc (bits : BitVec 32) : Nat → BitVec 32
  | 0 => 0#32
  | i + 1 => acc bits i ^^^ (if bits.getLsbD i then 1#32 <<< i else 0#32)
theorem acc_bit (bits : BitVec 32) (i j : Nat) (hj : j < 32) (hi : i ≤ 32) : (acc bits i).getLsbD j = (decide (j < i) && bits.getLsbD j) := by
  induction i with
  | zero => simp [acc]
  | succ i ih =>
    simp only [acc, BitVec.getLsbD_xor, ih (by omega)]
    by_cases h : j = i
    · subst h
      split
      · rename_i hb; simp [hb, hj]
      · rename_i hb; simp at hb; simp [hb]
    · have e1 : decide (j < i + 1) = decide (j < i) := by
        rw [decide_eq_decide]; omega
      rw [e1]
      split
      · have : (1#32 <<< i).getLsbD j = false := by
          rw [BitVec.getLsbD_shiftLeft]
          by_cases hji : j < i
          · simp [hji]
          · have : j - i ≠ 0 := by omega
            simp [BitVec.getLsbD_one, this]
        rw [this]; simp
      · simp
theorem burst_nil (l : List UInt8) (k : Nat) (bits : BitVec 32) (i : Nat) (hi : i ≤ 32) (h : acc bits i = 0#32) : burst l k bits i = l := by
  have hb : ∀ j, j < i → bits.getLsbD j = false := fun j hj => by
    have := acc_bit bits i j (by omega) hi
    rw [h] at this
    simpa [hj] using this.symm
  clear h
  induction i with
  | zero => rfl
  | succ i ih =>
    simp only [burst]
    rw [hb i (by omega)]
    simp only [Bool.false_eq_true, if_false]
    exact ih (by omega) fun j hj => hb j (by omega)
theorem feed_burst (c : BitVec 32) (l : List UInt8) (k : Nat) (bits : BitVec 32) (i : Nat) (hi : i ≤ 32) (hk : k + i ≤ 8 * l.length) : feed c (burst l k bits i) = feed c l ^^^ sts (8 * l.length - k) (acc bits i) := by
  induction i with
  | zero => simp [burst, acc, sts_zero]
  | succ i ih =>
    simp only [burst, acc]
    rw [sts_xor, ← BitVec.xor_assoc, ← ih (by omega) (by omega)]
    split
    · rw [feed_flip _ _ _ (by rw [burst_len]; omega), burst_len, ← sts_at _ i (by omega) (by omega)]
      congr 2; omega
    · rw [sts_zero]; simp
theorem not_opens_burst (t : List UInt8) (k : Nat) (bits : BitVec 32) (i : Nat) (hi : i ≤ 32) (hk : k + i ≤ 8 * t.length) (h4 : 4 ≤ t.length) (ho : opens t) (hne : burst t k bits i ≠ t) : ¬ opens (burst t k bits i) := by
  rw [opens_iff _ (by rw [burst_len]; exact h4), feed_burst _ _ _ _ _ hi hk]
  rw [opens_iff _ h4] at ho
  intro e
  rw [ho] at e
  have h2 : sts (8 * t.length - k) (acc bits i) = 0#32 := by
    have := congrArg (fun v => rest ^^^ v) e
    simpa [← BitVec.xor_assoc] using this
  exact hne (burst_nil t k bits i hi (sts_eq_zero h2))

/-! ### Whether the bits' number is odd -/
def parN : Nat → BitVec 32 → Bool
  | 0, _ => false
  | n + 1, c => parN n c ^^ c.getLsbD n
def par (c : BitVec 32) : Bool := parN 32 c
theorem parN_xor (n : Nat) (a b : BitVec 32) : parN n (a ^^^ b) = (parN n a ^^ parN n b) := by
  induction n with
  | zero => rfl
  | succ n ih =>
    simp only [parN, ih, BitVec.getLsbD_xor]
    cases parN n a <;> cases parN n b <;> cases a.getLsbD n <;> cases b.getLsbD n <;> rfl
theorem parN_shr (n : Nat) (c : BitVec 32) : parN n (c >>> 1) = (parN (n + 1) c ^^ c.getLsbD 0) := by
  induction n with
  | zero => simp [parN]
  | succ n ih =>
    have e : parN (n + 1) (c >>> 1) = (parN n (c >>> 1) ^^ (c >>> 1).getLsbD n) := rfl
    have e2 : parN (n + 1 + 1) c = (parN (n + 1) c ^^ c.getLsbD (n + 1)) := rfl
    rw [e, e2, ih, BitVec.getLsbD_ushiftRight, Nat.add_comm 1 n]
    cases parN (n + 1) c <;> cases c.getLsbD 0 <;> cases c.getLsbD (n + 1) <;> rfl
theorem par_st (c : BitVec 32) : par (st c) = par c := by
  unfold par st
  rw [parN_xor, parN_shr]
  have e2 : parN (32 + 1) c = (parN 32 c ^^ c.getLsbD 32) := rfl
  rw [e2, BitVec.getLsbD_of_ge c 32 (by omega)]
  cases h : c.getLsbD 0
  · simp [show parN 32 0#32 = false by decide]
  · simp only [if_true]
    rw [show parN 32 poly = true by decide]
    cases parN 32 c <;> rfl
theorem par_sts (n : Nat) (c : BitVec 32) : par (sts n c) = par c := by
  induction n generalizing c with
  | zero => rfl
  | succ n ih => simp only [sts]; rw [ih, par_st]
theorem not_opens_three (t : List UInt8) (p q r : Nat) (hp : p < 8 * t.length) (hq : q < 8 * t.length) (hr : r < 8 * t.length) (h4 : 4 ≤ t.length) (ho : opens t) :
    ¬ opens (flip (flip (flip t p) q) r) ∧ flip (flip (flip t p) q) r ≠ t := by
  have hf : ∀ c, feed c (flip (flip (flip t p) q) r) ≠ feed c t := by
    intro c e
    rw [feed_flip _ _ _ (by rw [flip_len, flip_len]; exact hr), feed_flip _ _ _ (by rw [flip_len]; exact hq), feed_flip _ _ _ hp] at e
    have h2 := congrArg par e
    unfold par at h2
    rw [parN_xor, parN_xor, parN_xor] at h2
    have o : ∀ n, parN 32 (sts n 1#32) = true := fun n => by
      have := par_sts n 1#32
      unfold par at this
      rw [this]; decide
    rw [o, o, o] at h2
    revert h2
    cases parN 32 (feed c t) <;> simp
  refine ⟨?_, fun e => hf 0#32 (by rw [e])⟩
  rw [opens_iff _ (by rw [flip_len, flip_len, flip_len]; exact h4)]
  rw [opens_iff _ h4] at ho
  intro e
  exact hf _ (e.trans ho.symm)
end Go.Proofs.YtdiplknlkmealaaDoor.Crc
