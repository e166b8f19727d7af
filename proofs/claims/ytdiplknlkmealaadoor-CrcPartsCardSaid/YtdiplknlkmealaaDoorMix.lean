/-
  Plain facts: three texts of one length upon one another have the sums' sum. Nothing of any program is named here.
-/
import Derived.Test.YtdiplknlkmealaaDoorDetect
namespace Go.Proofs.YtdiplknlkmealaaDoor.Crc

/-- The first k bytes of a with b's and c's upon them. -/
def mixed (a b c : List UInt8) : Nat → List UInt8
  | 0 => a
  | k + 1 => (mixed a b c k).set k (a.getD k 0 ^^^ b.getD k 0 ^^^ c.getD k 0)
theorem mixed_len (a b c : List UInt8) (k : Nat) : (mixed a b c k).length = a.length := by
  induction k with
  | zero => rfl
  | succ k ih => simp only [mixed, List.length_set, ih]
theorem mixed_get (a b c : List UInt8) (k i : Nat) (h : k ≤ i) : (mixed a b c k).getD i 0 = a.getD i 0 := by
  induction k with
  | zero => rfl
  | succ k ih =>
    simp only [mixed]
    rw [← ih (by omega)]
    simp [List.getD, List.getElem?_set, show k ≠ i by omega]

def wide (x : UInt8) : BitVec 32 := x.toBitVec.setWidth 32
theorem wide_xor (x y : UInt8) : wide (x ^^^ y) = wide x ^^^ wide y := by
  unfold wide
  rw [UInt8.toBitVec_xor]
  apply BitVec.eq_of_getLsbD_eq
  intro i hi
  simp [hi]
/-- What the first k bytes of b, of a text of n, add. -/
def adds (b : List UInt8) (n : Nat) : Nat → BitVec 32
  | 0 => 0#32
  | k + 1 => adds b n k ^^^ sts (8 * (n - k)) (wide (b.getD k 0))
theorem adds_feed (b : List UInt8) (n k : Nat) (hn : b.length = n) (hk : k ≤ n) : adds b n k = sts (8 * (n - k)) (feed 0#32 (b.take k)) := by
  induction k with
  | zero => simp [adds, feed, sts_zero]
  | succ k ih =>
    have hkb : k < b.length := by omega
    rw [List.take_succ_eq_append_getElem hkb, feed_snoc, one_eq, sts_xor]
    simp only [adds]
    rw [ih (by omega), ← sts_add, ← sts_add, show 8 + 8 * (n - (k + 1)) = 8 * (n - k) by omega]
    congr 2
    simp [wide, List.getD, hkb]
theorem feed_mixed (c0 : BitVec 32) (a b c : List UInt8) (n k : Nat) (ha : a.length = n) (hk : k ≤ n) : feed c0 (mixed a b c k) = feed c0 a ^^^ adds b n k ^^^ adds c n k := by
  induction k with
  | zero => simp [mixed, adds]
  | succ k ih =>
    have hkm : k < (mixed a b c k).length := by rw [mixed_len]; omega
    have hg : (mixed a b c k)[k] = a.getD k 0 := by
      rw [← mixed_get a b c k k (Nat.le_refl _)]
      simp [List.getD, hkm]
    have e := feed_set c0 (mixed a b c k) k (b.getD k 0 ^^^ c.getD k 0) hkm
    rw [hg, ← UInt8.xor_assoc] at e
    simp only [mixed, adds]
    rw [e, ih (by omega), mixed_len, ha]
    have e2 : sts (8 * (n - k)) ((b.getD k 0 ^^^ c.getD k 0).toBitVec.setWidth 32) = sts (8 * (n - k)) (wide (b.getD k 0)) ^^^ sts (8 * (n - k)) (wide (c.getD k 0)) := by
      rw [← sts_xor, ← wide_xor]; rfl
    rw [e2]
    ac_rfl
theorem sum_mixed (a b c : List UInt8) (hb : b.length = a.length) (hc : c.length = a.length) : sum (mixed a b c a.length) = sum a ^^^ sum b ^^^ sum c := by
  unfold sum
  rw [feed_mixed _ a b c a.length a.length rfl (Nat.le_refl _), adds_feed b _ _ hb (Nat.le_refl _), adds_feed c _ _ hc (Nat.le_refl _)]
  have fb := feed_lin 0#32 (~~~0#32) b
  have fc := feed_lin 0#32 (~~~0#32) c
  rw [BitVec.zero_xor] at fb fc
  rw [fb, fc, hb, hc, Nat.sub_self]
  rw [show b.take a.length = b by rw [← hb, List.take_length], show c.take a.length = c by rw [← hc, List.take_length]]
  simp only [Nat.mul_zero, sts]
  generalize sts (8 * a.length) (~~~0#32) = S
  generalize feed 0#32 b = X
  generalize feed 0#32 c = Y
  generalize feed (~~~0#32) a = Z
  apply BitVec.eq_of_getLsbD_eq
  intro i hi
  simp only [BitVec.getLsbD_not, BitVec.getLsbD_xor, hi, decide_true, Bool.true_and]
  cases S.getLsbD i <;> cases X.getLsbD i <;> cases Y.getLsbD i <;> cases Z.getLsbD i <;> rfl

/-- However it is cut. -/
def cutAt (n at_ : Nat) (d : Nat) : Nat := min n (at_ + d)
end Go.Proofs.YtdiplknlkmealaaDoor.Crc
