/-
  Plain facts on the sums of Castagnoli's polynomial, over bit vectors: nothing of any program is named here.
-/
import Derived.Laws.BitsAllLaws
namespace Go.Proofs.YthemdcdgiccjkaaDoor.Crc

/-- The polynomial, turned round. -/
def poly : BitVec 32 := 0x82f63b78#32
/-- One bit further on. -/
def st (c : BitVec 32) : BitVec 32 := (c >>> 1) ^^^ (if c.getLsbD 0 then poly else 0#32)
/-- So many bits further on. -/
def sts : Nat → BitVec 32 → BitVec 32
  | 0, c => c
  | n + 1, c => sts n (st c)
/-- One byte more. -/
def one (c : BitVec 32) (x : UInt8) : BitVec 32 := sts 8 (c ^^^ x.toBitVec.setWidth 32)
/-- Many bytes more. -/
def feed (c : BitVec 32) (l : List UInt8) : BitVec 32 := l.foldl one c
/-- The sum of a text. -/
def sum (l : List UInt8) : BitVec 32 := ~~~(feed (~~~0#32) l)
/-- The sum gone on with. -/
def more (s : BitVec 32) (l : List UInt8) : BitVec 32 := ~~~(feed (~~~s) l)

theorem sts_add (m n : Nat) (c : BitVec 32) : sts (m + n) c = sts n (sts m c) := by
  induction m generalizing c with
  | zero => simp [sts]
  | succ m ih => rw [Nat.succ_add]; simp only [sts]; exact ih (st c)

theorem st_xor (a b : BitVec 32) : st (a ^^^ b) = st a ^^^ st b := by
  have hs : (a ^^^ b) >>> 1 = (a >>> 1) ^^^ (b >>> 1) := BitVec.ushiftRight_xor_distrib a b 1
  unfold st
  rw [BitVec.getLsbD_xor, hs]
  rcases Bool.eq_false_or_eq_true (a.getLsbD 0) with ha | ha <;> rcases Bool.eq_false_or_eq_true (b.getLsbD 0) with hb | hb <;> simp only [ha, hb] <;> simp
  · rw [show a >>> 1 ^^^ poly ^^^ (b >>> 1 ^^^ poly) = a >>> 1 ^^^ b >>> 1 ^^^ (poly ^^^ poly) by ac_rfl]; simp
  · ac_rfl
  · ac_rfl

theorem st_zero : st 0#32 = 0#32 := by decide
theorem sts_zero (n : Nat) : sts n 0#32 = 0#32 := by
  induction n with
  | zero => rfl
  | succ n ih => simp only [sts, st_zero]; exact ih
theorem sts_xor (n : Nat) (a b : BitVec 32) : sts n (a ^^^ b) = sts n a ^^^ sts n b := by
  induction n generalizing a b with
  | zero => rfl
  | succ n ih => simp only [sts, st_xor]; exact ih _ _

theorem xor_eq_zero {a b : BitVec 32} (h : a ^^^ b = 0#32) : a = b := by
  have : a ^^^ b ^^^ b = 0#32 ^^^ b := by rw [h]
  simpa [BitVec.xor_assoc] using this

/-- Nothing but nothing becomes nothing. -/
theorem st_eq_zero {c : BitVec 32} (h : st c = 0#32) : c = 0#32 := by
  unfold st at h
  rcases Bool.eq_false_or_eq_true (c.getLsbD 0) with hc | hc
  · exfalso
    rw [hc] at h
    have h31 : ((c >>> 1) ^^^ poly).getLsbD 31 = false := by simp only [if_true] at h; rw [h]; decide
    rw [BitVec.getLsbD_xor, BitVec.getLsbD_ushiftRight] at h31
    have h32 : c.getLsbD (1 + 31) = false := BitVec.getLsbD_of_ge _ _ (by decide)
    rw [h32] at h31
    revert h31; decide
  · rw [hc] at h
    have h0 : c >>> 1 = 0#32 := by simpa using h
    apply BitVec.eq_of_getLsbD_eq
    intro i hi
    cases i with
    | zero => simpa using hc
    | succ i =>
      have := congrArg (fun v => v.getLsbD i) h0
      simp only [BitVec.getLsbD_ushiftRight] at this
      rw [Nat.add_comm] at this
      simpa using this
theorem sts_eq_zero {n : Nat} {c : BitVec 32} (h : sts n c = 0#32) : c = 0#32 := by
  induction n generalizing c with
  | zero => exact h
  | succ n ih => exact st_eq_zero (ih h)
theorem sts_inj {n : Nat} {a b : BitVec 32} (h : sts n a = sts n b) : a = b := by
  apply xor_eq_zero
  apply sts_eq_zero (n := n)
  rw [sts_xor, h]; simp

/-- A byte goes on from what was there and from the byte itself. -/
theorem one_eq (c : BitVec 32) (x : UInt8) : one c x = sts 8 c ^^^ sts 8 (x.toBitVec.setWidth 32) := by unfold one; exact sts_xor 8 _ _

theorem feed_nil (c : BitVec 32) : feed c [] = c := rfl
theorem feed_cons (c : BitVec 32) (x : UInt8) (l : List UInt8) : feed c (x :: l) = feed (one c x) l := rfl
theorem feed_append (c : BitVec 32) (l m : List UInt8) : feed c (l ++ m) = feed (feed c l) m := by simp [feed, List.foldl_append]
theorem feed_snoc (c : BitVec 32) (l : List UInt8) (x : UInt8) : feed c (l ++ [x]) = one (feed c l) x := by simp [feed, List.foldl_append]

theorem feed_lin (c d : BitVec 32) (l : List UInt8) : feed (c ^^^ d) l = feed c l ^^^ sts (8 * l.length) d := by
  induction l generalizing c d with
  | nil => simp [feed, sts]
  | cons x l ih =>
    rw [feed_cons, feed_cons, one_eq, one_eq, sts_xor]
    rw [show sts 8 c ^^^ sts 8 d ^^^ sts 8 (x.toBitVec.setWidth 32) = (sts 8 c ^^^ sts 8 (x.toBitVec.setWidth 32)) ^^^ sts 8 d by ac_rfl]
    rw [ih, ← sts_add]
    congr 2
    simp; omega

theorem more_sum (l m : List UInt8) : more (sum l) m = sum (l ++ m) := by
  unfold more sum
  rw [BitVec.not_not, feed_append]
theorem more_zero (l : List UInt8) : more 0#32 l = sum l := rfl
theorem more_nil (s : BitVec 32) : more s [] = s := by simp [more, feed]
theorem more_append (s : BitVec 32) (l m : List UInt8) : more (more s l) m = more s (l ++ m) := by
  unfold more
  rw [BitVec.not_not, feed_append]
theorem sum_nil : sum [] = 0#32 := by decide

end Go.Proofs.YthemdcdgiccjkaaDoor.Crc
