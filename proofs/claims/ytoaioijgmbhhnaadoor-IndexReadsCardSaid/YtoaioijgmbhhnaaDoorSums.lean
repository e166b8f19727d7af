/-
  The walks through package crc's sums: More, Of, the products and Join do what the plain words say. By contract, callees first.
-/
import Derived.Test.YtoaioijgmbhhnaaDoorMore
import Derived.WalkKit
import Derived.ProofKit
import Derived.Below
import Derived.BigQuiet
import Derived.Deep.QuietTactic
import Derived.Outline
import Derived.Deep.LoopGhost
import Derived.Outline
import Derived.LoopTactic
import Derived.Laws.BitsAllLaws
namespace Go.Proofs.YtoaioijgmbhhnaaDoor
open Go.RowKit Crc

attribute [local go_sem] BtoNat x32 n32 x8 and8_15 mod256 wrap8 xs32 Bd16toNat

theorem prod_step (g : Nat) (x : BitVec 32) (hx : x <<< g = 0#32) (h0 : ¬ x = 0#32) : ∃ g', g = g' + 1 ∧ (x <<< 1) <<< g' = 0#32 := by
  cases g with
  | zero => exact absurd (by simpa using hx) h0
  | succ g => exact ⟨g, rfl, by rw [← BitVec.shiftLeft_add, Nat.add_comm]; exact hx⟩

theorem on_step (m p s : Nat) (c : BitVec 32) (hc : sts (p + s * m) unit = c) : (m % 2 = 1 → sts (p + s + (s + s) * (m / 2)) unit = c) ∧ (m % 2 = 0 → sts (p + (s + s) * (m / 2)) unit = c) := by
  subst hc
  have hm := Nat.div_add_mod m 2
  constructor
  · intro h
    rw [h] at hm
    have : p + s + (s + s) * (m / 2) = p + s * m := by
      have e : s * m = s * (2 * (m / 2) + 1) := by rw [hm]
      rw [e, Nat.mul_add, Nat.mul_one, ← Nat.mul_assoc, Nat.add_mul, Nat.mul_two, Nat.add_mul]; omega
    rw [this]
  · intro h
    rw [h] at hm
    have : p + (s + s) * (m / 2) = p + s * m := by
      have e : s * m = s * (2 * (m / 2) + 0) := by rw [hm]
      rw [e, Nat.add_zero, ← Nat.mul_assoc, Nat.mul_two]
    rw [this]
theorem sq (p s : Nat) : prod (sts p unit) (sts s unit) = sts (p + s) unit := by rw [prod_moved, sts_add]

end Go.Proofs.YtoaioijgmbhhnaaDoor
