/-
  Plain facts on the sums of Castagnoli's polynomial, over bit vectors: nothing of any program is named here.
  Plain facts: a byte by the two short tables is a byte bit by bit; products; joins. Nothing of any program is named here.
-/
import Derived.Laws.BitsAllLaws
namespace Go.Proofs.YtegaahcelogmlaaGreatDoor.Crc

/-- The polynomial, turned round. -/
def poly : BitVec 32 := 0x82f63b78#32
/-- One bit further on. -/
def st (c : BitVec 32) : BitVec 32 := (c >>> 1) ^^^ (if c.getLsbD 0 then poly else 0#32)
/-- So many bits further on. -/
def sts : Nat → BitVec 32 → BitVec 32
  | 0, c => c
  | n + 1, c => sts n (st c)
/-- One byte more. -/
def one (c : BitVec 32) (x : UInt8) : BitVec 32 := sts 8 (c ^^^ x.toBitVec.setWidth 32)
/-- Many bytes more. -/
def feed (c : BitVec 32) (l : List UInt8) : BitVec 32 := l.foldl one c
/-- The sum of a text. -/
def sum (l : List UInt8) : BitVec 32 := ~~~(feed (~~~0#32) l)
/-- The sum gone on with. -/
def more (s : BitVec 32) (l : List UInt8) : BitVec 32 := ~~~(feed (~~~s) l)

theorem sts_add (m n : Nat) (c : BitVec 32) : sts (m + n) c = sts n (sts m c) := by
  induction m generalizing c with
  | zero => simp [sts]
  | succ m ih => rw [Nat.succ_add]; simp only [sts]; exact ih (st c)

theorem st_xor (a b : BitVec 32) : st (a ^^^ b) = st a ^^^ st b := by
  have hs : (a ^^^ b) >>> 1 = (a >>> 1) ^^^ (b >>> 1) := BitVec.ushiftRight_xor_distrib a b 1
  unfold st
  rw [BitVec.getLsbD_xor, hs]
  rcases Bool.eq_false_or_eq_true (a.getLsbD 0) with ha | ha <;> rcases Bool.eq_false_or_eq_true (b.getLsbD 0) with hb | hb <;> simp only [ha, hb] <;> simp
  · rw [show a >>> 1 ^^^ poly ^^^ (b >>> 1 ^^^ poly) = a >>> 1 ^^^ b >>> 1 ^^^ (poly ^^^ poly) by ac_rfl]; simp
  · ac_rfl
  · ac_rfl

theorem st_zero : st 0#32 = 0#32 := by decide
theorem sts_zero (n : Nat) : sts n 0#32 = 0#32 := by
  induction n with
  | zero => rfl
  | succ n ih => simp only [sts, st_zero]; exact ih
theorem sts_xor (n : Nat) (a b : BitVec 32) : sts n (a ^^^ b) = sts n a ^^^ sts n b := by
  induction n generalizing a b with
  | zero => rfl
  | succ n ih => simp only [sts, st_xor]; exact ih _ _

theorem xor_eq_zero {a b : BitVec 32} (h : a ^^^ b = 0#32) : a = b := by
  have : a ^^^ b ^^^ b = 0#32 ^^^ b := by rw [h]
  simpa [BitVec.xor_assoc] using this

/-- Nothing but nothing becomes nothing. -/
theorem st_eq_zero {c : BitVec 32} (h : st c = 0#32) : c = 0#32 := by
  unfold st at h
  rcases Bool.eq_false_or_eq_true (c.getLsbD 0) with hc | hc
  · exfalso
    rw [hc] at h
    have h31 : ((c >>> 1) ^^^ poly).getLsbD 31 = false := by simp only [if_true] at h; rw [h]; decide
    rw [BitVec.getLsbD_xor, BitVec.getLsbD_ushiftRight] at h31
    have h32 : c.getLsbD (1 + 31) = false := BitVec.getLsbD_of_ge _ _ (by decide)
    rw [h32] at h31
    revert h31; decide
  · rw [hc] at h
    have h0 : c >>> 1 = 0#32 := by simpa using h
    apply BitVec.eq_of_getLsbD_eq
    intro i hi
    cases i with
    | zero => simpa using hc
    | succ i =>
      have := congrArg (fun v => v.getLsbD i) h0
      simp only [BitVec.getLsbD_ushiftRight] at this
      rw [Nat.add_comm] at this
      simpa using this
theorem sts_eq_zero {n : Nat} {c : BitVec 32} (h : sts n c = 0#32) : c = 0#32 := by
  induction n generalizing c with
  | zero => exact h
  | succ n ih => exact st_eq_zero (ih h)
theorem sts_inj {n : Nat} {a b : BitVec 32} (h : sts n a = sts n b) : a = b := by
  apply xor_eq_zero
  apply sts_eq_zero (n := n)
  rw [sts_xor, h]; simp

/-- A byte goes on from what was there and from the byte itself. -/
theorem one_eq (c : BitVec 32) (x : UInt8) : one c x = sts 8 c ^^^ sts 8 (x.toBitVec.setWidth 32) := by unfold one; exact sts_xor 8 _ _

theorem feed_nil (c : BitVec 32) : feed c [] = c := rfl
theorem feed_cons (c : BitVec 32) (x : UInt8) (l : List UInt8) : feed c (x :: l) = feed (one c x) l := rfl
theorem feed_append (c : BitVec 32) (l m : List UInt8) : feed c (l ++ m) = feed (feed c l) m := by simp [feed, List.foldl_append]
theorem feed_snoc (c : BitVec 32) (l : List UInt8) (x : UInt8) : feed c (l ++ [x]) = one (feed c l) x := by simp [feed, List.foldl_append]

theorem feed_lin (c d : BitVec 32) (l : List UInt8) : feed (c ^^^ d) l = feed c l ^^^ sts (8 * l.length) d := by
  induction l generalizing c d with
  | nil => simp [feed, sts]
  | cons x l ih =>
    rw [feed_cons, feed_cons, one_eq, one_eq, sts_xor]
    rw [show sts 8 c ^^^ sts 8 d ^^^ sts 8 (x.toBitVec.setWidth 32) = (sts 8 c ^^^ sts 8 (x.toBitVec.setWidth 32)) ^^^ sts 8 d by ac_rfl]
    rw [ih, ← sts_add]
    congr 2
    simp; omega

theorem more_sum (l m : List UInt8) : more (sum l) m = sum (l ++ m) := by
  unfold more sum
  rw [BitVec.not_not, feed_append]
theorem more_zero (l : List UInt8) : more 0#32 l = sum l := rfl
theorem more_nil (s : BitVec 32) : more s [] = s := by simp [more, feed]
theorem more_append (s : BitVec 32) (l m : List UInt8) : more (more s l) m = more s (l ++ m) := by
  unfold more
  rw [BitVec.not_not, feed_append]
theorem sum_nil : sum [] = 0#32 := by decide

end Go.Proofs.YtegaahcelogmlaaGreatDoor.Crc

namespace Go.Proofs.YtegaahcelogmlaaGreatDoor.Crc

def lowT : List Nat := [0, 4067132163, 3778769143, 324072436, 3348797215, 904991772, 648144872, 3570033899, 2329499855, 2024987596, 1809983544, 2575936315, 1296289744, 3207089363, 2893594407, 1578318884]
def highT : List Nat := [0, 274646895, 549293790, 820201905, 1098587580, 1361435347, 1640403810, 1905808397, 2197175160, 2460548119, 2722870694, 2987750089, 3280807620, 3553878443, 3811616794, 4084100981]
def low (y : UInt8) : BitVec 32 := BitVec.ofNat 32 (lowT.getD (y &&& 15).toNat 0)
def high (y : UInt8) : BitVec 32 := BitVec.ofNat 32 (highT.getD (y >>> 4).toNat 0)
/-- The lowest byte. -/
def u8 (c : BitVec 32) : UInt8 := UInt8.ofBitVec (c.setWidth 8)

theorem sts_shift (n : Nat) (v : BitVec 32) (h : ∀ i, i < n → v.getLsbD i = false) : sts n v = v >>> n := by
  induction n generalizing v with
  | zero => simp [sts]
  | succ n ih =>
    have h0 := h 0 (by omega)
    have e : st v = v >>> 1 := by unfold st; rw [h0]; simp
    simp only [sts]
    rw [e, ih (v >>> 1) (fun i hi => by rw [BitVec.getLsbD_ushiftRight]; exact h _ (by omega)), ← BitVec.shiftRight_add, Nat.add_comm]

theorem byte_tab : ∀ n : Fin 256, sts 8 ((BitVec.ofNat 8 n.val).setWidth 32) = BitVec.ofNat 32 (lowT.getD (n.val % 16) 0) ^^^ BitVec.ofNat 32 (highT.getD (n.val / 16) 0) := by decide +kernel

theorem and15 (y : UInt8) : (y &&& 15).toNat = y.toNat % 16 := by
  rw [UInt8.toNat_and]; exact Nat.and_two_pow_sub_one_eq_mod y.toNat 4
theorem shr4 (y : UInt8) : (y >>> 4).toNat = y.toNat / 16 := by
  rw [UInt8.toNat_shiftRight]; simp [Nat.shiftRight_eq_div_pow]

theorem byte_tab' (y : UInt8) : sts 8 (y.toBitVec.setWidth 32) = low y ^^^ high y := by
  have h := byte_tab ⟨y.toNat, y.toNat_lt⟩
  unfold low high
  rw [and15, shr4]
  rw [← h]
  congr 2
  apply BitVec.eq_of_toNat_eq
  simp

/-- The step by the tables. -/
def tab (c : BitVec 32) (x : UInt8) : BitVec 32 := (c >>> 8 ^^^ low (x ^^^ u8 c)) ^^^ high (x ^^^ u8 c)

theorem tab_eq (c : BitVec 32) (x : UInt8) : tab c x = one c x := by
  unfold tab one
  have hs : c ^^^ x.toBitVec.setWidth 32 = ((c >>> 8) <<< 8) ^^^ ((x ^^^ u8 c).toBitVec.setWidth 32) := by
    apply BitVec.eq_of_getLsbD_eq
    intro i hi
    simp only [BitVec.getLsbD_xor, BitVec.getLsbD_shiftLeft, BitVec.getLsbD_ushiftRight, BitVec.getLsbD_setWidth, UInt8.toBitVec_xor, u8]
    by_cases h8 : i < 8
    · simp [h8, hi, Bool.xor_comm]
    · have : 8 + (i - 8) = i := by omega
      simp [h8, hi, this, BitVec.getLsbD_of_ge x.toBitVec i (by omega)]
  rw [hs, sts_xor, byte_tab']
  rw [sts_shift 8 _ (fun i hi => by rw [BitVec.getLsbD_shiftLeft]; simp [hi])]
  have hb : (c >>> 8) <<< 8 >>> 8 = c >>> 8 := by
    apply BitVec.eq_of_getLsbD_eq
    intro i hi
    simp only [BitVec.getLsbD_ushiftRight, BitVec.getLsbD_shiftLeft]
    by_cases h : 8 + i < 32
    · simp [h]
    · simp [h, BitVec.getLsbD_of_ge c (8 + i) (by omega)]
  rw [hb, BitVec.xor_assoc]

/-! ### Products: 'a' times 'b', the rest of it -/

/-- The sum of 'b' moved on, once for each bit of 'a', the highest first. -/
def prodL : Nat → BitVec 32 → BitVec 32 → BitVec 32 → BitVec 32
  | 0, _, _, p => p
  | n + 1, a, b, p => prodL n (a <<< 1) (st b) (if a.getLsbD 31 then p ^^^ b else p)
def prod (a b : BitVec 32) : BitVec 32 := prodL 32 a b 0#32

theorem prodL_zero (n : Nat) (b p : BitVec 32) : prodL n 0#32 b p = p := by
  induction n generalizing b p with
  | zero => rfl
  | succ n ih => simp only [prodL]; rw [show (0#32 : BitVec 32) <<< 1 = 0#32 by decide, ih]; simp
theorem prodL_p (n : Nat) (a b p : BitVec 32) : prodL n a b p = p ^^^ prodL n a b 0#32 := by
  induction n generalizing a b p with
  | zero => simp [prodL]
  | succ n ih =>
    simp only [prodL]
    rw [ih _ _ (if a.getLsbD 31 = true then p ^^^ b else p), ih _ _ (if a.getLsbD 31 = true then 0#32 ^^^ b else 0#32)]
    split
    · simp [BitVec.xor_assoc]
    · simp
theorem prodL_st (n : Nat) (a b p : BitVec 32) : prodL n a (st b) (st p) = st (prodL n a b p) := by
  induction n generalizing a b p with
  | zero => rfl
  | succ n ih =>
    simp only [prodL]
    split
    · rw [← st_xor, ih]
    · rw [ih]
theorem prod_st (a b : BitVec 32) : prod a (st b) = st (prod a b) := by
  have := prodL_st 32 a b 0#32
  rw [st_zero] at this
  exact this
theorem prod_sts (k : Nat) (a b : BitVec 32) : prod a (sts k b) = sts k (prod a b) := by
  induction k generalizing b with
  | zero => rfl
  | succ k ih => simp only [sts]; rw [ih, prod_st]

def unit : BitVec 32 := 0x80000000#32
theorem unit_bit : ∀ i : Fin 32, unit.getLsbD i.val = decide (i.val = 31) := by decide
theorem unit_bit' (i : Nat) (hi : i < 32) : unit.getLsbD i = decide (i = 31) := unit_bit ⟨i, hi⟩

theorem not_xor_r (a b : BitVec 32) : ~~~(a ^^^ b) = a ^^^ ~~~b := by
  apply BitVec.eq_of_getLsbD_eq
  intro i hi
  simp [hi]
theorem ushr32 (a : BitVec 32) : a >>> 32 = 0#32 := by
  apply BitVec.eq_of_getLsbD_eq
  intro i hi
  simp
theorem prodL_unit (n : Nat) (hn : n ≤ 32) (a p : BitVec 32) : prodL n a (unit >>> (32 - n)) p = p ^^^ a >>> (32 - n) := by
  induction n generalizing a p with
  | zero => simp [prodL, ushr32]
  | succ n ih =>
    have hi := ih (by omega)
    have key : (if a.getLsbD 31 then unit >>> (32 - (n + 1)) else 0#32) ^^^ (a <<< 1) >>> (32 - n) = a >>> (32 - (n + 1)) := by
      apply BitVec.eq_of_getLsbD_eq
      intro i hi
      rw [BitVec.getLsbD_xor, BitVec.getLsbD_ushiftRight, BitVec.getLsbD_ushiftRight, BitVec.getLsbD_shiftLeft]
      by_cases h1 : i < n
      · have hu : (if a.getLsbD 31 = true then unit >>> (32 - (n + 1)) else 0#32).getLsbD i = false := by
          split
          · rw [BitVec.getLsbD_ushiftRight, unit_bit' _ (by omega)]; simp; omega
          · simp
        rw [hu]
        have e : 32 - n + i - 1 = 32 - (n + 1) + i := by omega
        have e1 : decide (32 - n + i < 32) = true := by simp; omega
        have e2 : decide (32 - n + i < 1) = false := by simp; omega
        rw [e, e1, e2]; simp
      · by_cases h2 : i = n
        · subst h2
          have e1 : decide (32 - i + i < 32) = false := by simp; omega
          have e3 : 32 - (i + 1) + i = 31 := by omega
          rw [e1, e3]
          split
          · rename_i h; rw [BitVec.getLsbD_ushiftRight, e3, h, unit_bit' 31 (by omega)]; simp
          · rename_i h; simp; simpa using h
        · have e1 : decide (32 - n + i < 32) = false := by simp; omega
          rw [e1, BitVec.getLsbD_of_ge a (32 - (n + 1) + i) (by omega)]
          split
          · rw [BitVec.getLsbD_ushiftRight, BitVec.getLsbD_of_ge _ _ (by omega)]; simp
          · simp
    simp only [prodL]
    have hst : prodL n (a <<< 1) (st (unit >>> (32 - (n + 1)))) (if a.getLsbD 31 = true then p ^^^ unit >>> (32 - (n + 1)) else p) = prodL n (a <<< 1) (unit >>> (32 - n)) (if a.getLsbD 31 = true then p ^^^ unit >>> (32 - (n + 1)) else p) := by
      cases n with
      | zero => rfl
      | succ n =>
        congr 1
        unfold st
        rw [BitVec.getLsbD_ushiftRight, unit_bit' _ (by omega)]
        rw [if_neg (by simp; omega), BitVec.xor_zero, ← BitVec.shiftRight_add]
        congr 1; omega
    rw [hst, hi, ← key]
    split
    · rw [BitVec.xor_assoc]
    · simp
theorem prod_unit (a : BitVec 32) : prod a unit = a := by
  have h := prodL_unit 32 (by omega) a 0#32
  simpa [prod] using h
/-- The unit moved on, squared: what a join multiplies by. -/
theorem prod_moved (a : BitVec 32) (k : Nat) : prod a (sts k unit) = sts k a := by rw [prod_sts, prod_unit]

/-- A join: the first sum moved on over the second text, and the second sum. -/
theorem join_sum (l m : List UInt8) : prod (sum l) (sts (8 * m.length) unit) ^^^ sum m = sum (l ++ m) := by
  rw [prod_moved]
  unfold sum
  rw [feed_append]
  have h := feed_lin (~~~0#32) (~~~(feed (~~~0#32) l)) m
  have e : ~~~0#32 ^^^ ~~~(feed (~~~0#32) l) = feed (~~~0#32) l := by
    apply BitVec.eq_of_getLsbD_eq
    intro i hi
    simp only [BitVec.getLsbD_xor, BitVec.getLsbD_not, BitVec.getLsbD_zero, hi]; simp
  rw [e] at h
  rw [h, BitVec.xor_comm (feed _ m), not_xor_r]

/-- Whatever is sealed has one sum. -/
def little (c : BitVec 32) : List UInt8 := [u8 c, u8 (c >>> 8), u8 (c >>> 16), u8 (c >>> 24)]
theorem shr_xor (a b : BitVec 32) (n : Nat) : (a ^^^ b) >>> n = a >>> n ^^^ b >>> n := BitVec.ushiftRight_xor_distrib a b n
theorem u8_xor (a b : BitVec 32) : u8 (a ^^^ b) = u8 a ^^^ u8 b := by
  apply UInt8.toBitVec_inj.1
  simp [u8]
theorem little_len (c : BitVec 32) : (little c).length = 4 := rfl

/-- Bits one by one: n of them, the lowest first, are the number moved on. -/
theorem feed_little (c d : BitVec 32) : feed c (little d) = sts 32 (c ^^^ d) := by
  have hone : ∀ (c d : BitVec 32), one c (u8 d) = sts 8 (c ^^^ d) ^^^ (d >>> 8) := by
    intro c d
    unfold one
    have hd : d = (u8 d).toBitVec.setWidth 32 ^^^ (d >>> 8) <<< 8 := by
      apply BitVec.eq_of_getLsbD_eq
      intro i hi
      simp only [BitVec.getLsbD_xor, BitVec.getLsbD_shiftLeft, BitVec.getLsbD_ushiftRight, BitVec.getLsbD_setWidth, u8]
      by_cases h8 : i < 8
      · simp [h8, hi]
      · have : 8 + (i - 8) = i := by omega
        simp [h8, hi, this]
    have hx : c ^^^ d = (c ^^^ (u8 d).toBitVec.setWidth 32) ^^^ (d >>> 8) <<< 8 := by
      rw [BitVec.xor_assoc, ← hd]
    rw [hx, sts_xor 8 _ ((d >>> 8) <<< 8)]
    rw [sts_shift 8 ((d >>> 8) <<< 8) (fun i hi => by rw [BitVec.getLsbD_shiftLeft]; simp [hi])]
    have hb : (d >>> 8) <<< 8 >>> 8 = d >>> 8 := by
      apply BitVec.eq_of_getLsbD_eq
      intro i hi
      simp only [BitVec.getLsbD_ushiftRight, BitVec.getLsbD_shiftLeft]
      by_cases h : 8 + i < 32
      · simp [h]
      · simp [h, BitVec.getLsbD_of_ge d (8 + i) (by omega)]
    rw [hb, BitVec.xor_assoc, BitVec.xor_self, BitVec.xor_zero]
  unfold little
  rw [feed_cons, feed_cons, feed_cons, feed_cons, feed_nil]
  rw [hone, hone, hone, hone]
  have s2 : d >>> 8 >>> 8 = d >>> 16 := by rw [← BitVec.shiftRight_add]
  have s3 : d >>> 16 >>> 8 = d >>> 24 := by rw [← BitVec.shiftRight_add]
  have s4 : d >>> 24 >>> 8 = 0#32 := by rw [← BitVec.shiftRight_add]; exact ushr32 d
  rw [s2, s3, s4]
  have c1 : ∀ x y : BitVec 32, x ^^^ y ^^^ y = x := fun x y => by rw [BitVec.xor_assoc, BitVec.xor_self, BitVec.xor_zero]
  rw [c1, c1, c1, BitVec.xor_zero, ← sts_add, ← sts_add, ← sts_add]

theorem sum_sealed (l : List UInt8) : sum (l ++ little (sum l)) = ~~~(sts 32 (~~~0#32)) := by
  unfold sum
  rw [feed_append, feed_little]
  congr 2
  apply BitVec.eq_of_getLsbD_eq
  intro i hi
  simp only [BitVec.getLsbD_xor, BitVec.getLsbD_not, BitVec.getLsbD_zero, hi]; simp

end Go.Proofs.YtegaahcelogmlaaGreatDoor.Crc
