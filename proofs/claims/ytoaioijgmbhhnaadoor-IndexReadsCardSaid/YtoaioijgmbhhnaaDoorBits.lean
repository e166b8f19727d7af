/-
  Words for the walks: bytes and 32 bit words as the numbers that they are, and what the operations on them come to. Nothing of any program is named here.
-/
import Derived.Test.YtoaioijgmbhhnaaDoorTable
import Derived.Test.YtoaioijgmbhhnaaDoorWords
import Derived.WalkKit
import Derived.ProofKit
import Derived.Below
import Derived.Deep.Draws
namespace Go.Proofs.YtoaioijgmbhhnaaDoor
open Go.RowKit Crc

/-- A word of 32 bits as the number that it is. -/
def U (c : BitVec 32) : Int := (c.toNat : Int)
theorem U_lo (c : BitVec 32) : 0 ≤ U c := by unfold U; omega
theorem U_hi (c : BitVec 32) : U c < 4294967296 := by unfold U; have := c.isLt; omega
theorem U_inj {a b : BitVec 32} (h : U a = U b) : a = b := by unfold U at h; exact BitVec.eq_of_toNat_eq (by omega)
theorem U_of (n : Int) (h : 0 ≤ n) (h1 : n < 4294967296) : ∃ c, n = U c := ⟨BitVec.ofNat 32 n.toNat, by unfold U; rw [BitVec.toNat_ofNat]; omega⟩
theorem x32 (a b : BitVec 32) : bits .xor .u32 (U a) (U b) = U (a ^^^ b) := by
  unfold U
  rw [u32_xor_nat _ _ a.isLt b.isLt]; simp
theorem n32 (a : BitVec 32) : bits .xor .u32 IntKind.u32.max (U a) = U (~~~a) := by
  have := x32 (~~~0#32) a
  rw [show U (~~~0#32 : BitVec 32) = IntKind.u32.max from by decide] at this
  rw [this]; congr 1
theorem mod256 (c : BitVec 32) : U c % (256 : Int) = B (u8 c) := by
  unfold U B u8
  simp
theorem wrap8 (c : BitVec 32) : IntKind.u8.wrap (U c) = B (u8 c) := by
  rw [IntKind.wrap_u8, mod256]
theorem div256 (c : BitVec 32) : U c / (256 : Int) = U (c >>> 8) := by
  unfold U
  rw [BitVec.toNat_ushiftRight, Nat.shiftRight_eq_div_pow]; simp
theorem div16 (c : UInt8) : B c / (16 : Int) = B (c >>> 4) := by
  unfold B
  rw [shr4]; simp
theorem xs32 (a b : BitVec 32) : bits .xor .u32 (U a / (256 : Int)) (U b) = U (a >>> 8 ^^^ b) := by rw [div256, x32]
theorem Bd16toNat (c : UInt8) : (B c / (16 : Int)).toNat = idx (c >>> 4) := by rw [div16, BtoNat]
theorem Bd16_lo (c : UInt8) : 0 ≤ B c / 16 := by have := B_lo c; omega
theorem Bd16_hi (c : UInt8) : B c / 16 < 16 := by have := B_hi c; omega
theorem B15 (y : UInt8) : B (y &&& 15) < 16 := by unfold B; rw [and15]; omega
theorem B4 (y : UInt8) : B (y >>> 4) < 16 := by unfold B; rw [shr4]; have := y.toNat_lt; omega

theorem beqU (a : BitVec 32) (h : a ≠ 0#32) : (U a == 0) = false := by
  simp only [beq_eq_false_iff_ne]; intro e; exact h (U_inj (e.trans (by decide)))
theorem bneU (a : BitVec 32) (h : a ≠ 0#32) : (U a != 0) = true := by
  simp only [bne, beqU a h]; rfl
theorem U_zero : U 0#32 = 0 := by decide
theorem and_top (a : BitVec 32) : bits .and .u32 (U a) 2147483648 = if a.getLsbD 31 then 2147483648 else 0 := by
  unfold U
  rw [show (2147483648 : Int) = ((2147483648 : Nat) : Int) from rfl, u32_and_nat _ _ a.isLt (by omega)]
  have h := nat_bit 31 a.toNat
  rw [show (2 : Nat) ^ 31 = 2147483648 from rfl] at h
  rw [h, BitVec.getLsbD, Nat.testBit_eq_decide_div_mod_eq]
  rw [show (2 : Nat) ^ 31 = 2147483648 from rfl]
  rcases Nat.mod_two_eq_zero_or_one (a.toNat / 2147483648) with e | e <;> simp [e]
theorem and_low (a : BitVec 32) : bits .and .u32 (U a) 1 = if a.getLsbD 0 then 1 else 0 := by
  unfold U
  rw [show (1 : Int) = ((1 : Nat) : Int) from rfl, u32_and_nat _ _ a.isLt (by omega)]
  rw [nat_mask1, BitVec.getLsbD, Nat.testBit_eq_decide_div_mod_eq]
  rcases Nat.mod_two_eq_zero_or_one a.toNat with e | e <;> simp [e]
theorem div2 (c : BitVec 32) : U c / (2 : Int) = U (c >>> 1) := by
  unfold U
  rw [BitVec.toNat_ushiftRight, Nat.shiftRight_eq_div_pow]; simp
theorem mul2 (c : BitVec 32) : U c * (2 : Int) % (4294967296 : Int) = U (c <<< 1) := by
  unfold U
  rw [BitVec.toNat_shiftLeft, Nat.shiftLeft_eq]; simp
theorem st_one (c : BitVec 32) (h : c.getLsbD 0 = true) : bits .xor .u32 (U c / (2 : Int)) 2197175160 = U (st c) := by
  rw [div2, show (2197175160 : Int) = U poly from by decide, x32]
  unfold st; rw [h]; simp
theorem st_nil (c : BitVec 32) (h : c.getLsbD 0 = false) : bits .xor .u32 (U c / (2 : Int)) 0 = U (st c) := by
  rw [div2, show (0 : Int) = U 0#32 from by decide, x32]
  unfold st; rw [h]; simp
theorem st_nil' (c : BitVec 32) (h : c.getLsbD 0 = false) : U c / (2 : Int) = U (st c) := by
  rw [div2]
  unfold st; rw [h]; simp

/-- A byte as a word. -/
def w8 (x : UInt8) : BitVec 32 := x.toBitVec.setWidth 32
theorem cv8 (x : UInt8) : IntKind.u32.wrap (B x) = U (w8 x) := by
  have h1 := B_lo x
  have h2 := B_hi x
  rw [IntKind.wrap_u32, Int.emod_eq_of_lt h1 (by omega)]
  unfold B U w8
  simp
end Go.Proofs.YtoaioijgmbhhnaaDoor
