/-
  The walk through a reader's Fixed.
-/
import Derived.Test.YtoaioijgmbhhnaaDoorVMeth
namespace Go.Proofs.YtoaioijgmbhhnaaDoor
open Go.RowKit

theorem or64g (n x e : Nat) (hn : n < 2 ^ e) (hn2 : n < 18446744073709551616) (h : x * 2 ^ e < 18446744073709551616) : bits .or .u64 (n : Int) (IntKind.u64.wrap ((x : Int) * 2 ^ e)) = ((n + x * 2 ^ e : Nat) : Int) := by
  have e1 : IntKind.u64.wrap ((x : Int) * 2 ^ e) = ((x * 2 ^ e : Nat) : Int) := by
    have : ((x : Int) * 2 ^ e) = ((x * 2 ^ e : Nat) : Int) := by simp
    rw [IntKind.wrap_u64, this]; omega
  rw [e1, u64_or_nat _ _ hn2 h, Nat.or_comm, nat_join e _ _ (Nat.mul_mod_left _ _) hn, Nat.add_comm]
theorem little_snoc (l : List UInt8) (c : UInt8) : Vi.little (l ++ [c]) = Vi.little l + c.toNat * 2 ^ (8 * l.length) := by
  induction l with
  | nil => simp [Vi.little]
  | cons a l ih =>
    simp only [List.cons_append, Vi.little, ih, List.length_cons]
    rw [show 8 * (l.length + 1) = 8 * l.length + 8 by omega, Nat.pow_add, Nat.mul_add, show (2 : Nat) ^ 8 = 256 from rfl]
    have : c.toNat * (2 ^ (8 * l.length) * 256) = 256 * (c.toNat * 2 ^ (8 * l.length)) := by
      rw [← Nat.mul_assoc, Nat.mul_comm]
    omega
theorem little_lt (l : List UInt8) : Vi.little l < 2 ^ (8 * l.length) := by
  induction l with
  | nil => simp [Vi.little]
  | cons a l ih =>
    simp only [Vi.little, List.length_cons]
    rw [show 8 * (l.length + 1) = 8 * l.length + 8 by omega, Nat.pow_add, show (2 : Nat) ^ 8 = 256 from rfl]
    have := a.toNat_lt
    omega
theorem pow_le64 (k : Nat) (h : k ≤ 7) : 2 ^ (8 * k) ≤ 72057594037927936 := Nat.le_trans (Nat.pow_le_pow_right (by omega) (show 8 * k ≤ 56 by omega)) (by decide)
theorem little_or (l : List UInt8) (c : UInt8) (h : l.length ≤ 7) : bits .or .u64 (Vi.little l : Int) (IntKind.u64.wrap (B c * 2 ^ (8 * l.length))) = (Vi.little (l ++ [c]) : Int) := by
  rw [little_snoc]
  have h1 := little_lt l
  have h2 := pow_le64 l.length h
  have hc := c.toNat_lt
  refine or64g (Vi.little l) c.toNat (8 * l.length) h1 (by omega) ?_
  have : c.toNat * 2 ^ (8 * l.length) ≤ 255 * 72057594037927936 := Nat.mul_le_mul (by omega) h2
  omega

end Go.Proofs.YtoaioijgmbhhnaaDoor
