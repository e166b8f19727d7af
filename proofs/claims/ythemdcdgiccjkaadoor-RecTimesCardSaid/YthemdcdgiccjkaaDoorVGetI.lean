/-
  The walk through package vint's GetInt.
-/
import Derived.Test.YthemdcdgiccjkaaDoorVGet
namespace Go.Proofs.YthemdcdgiccjkaaDoor
open Go.RowKit

theorem xor_i64_nil (a : Nat) (ha : a < 9223372036854775808) : bits .xor .i64 (a : Int) 0 = (a : Int) := by
  show IntKind.i64.wrap ((BitVec.ofInt 64 (a : Int) ^^^ BitVec.ofInt 64 (0 : Int)).toNat : Int) = _
  rw [BitVec.toNat_xor, ofInt_i64 a ha, show (BitVec.ofInt 64 (0 : Int)).toNat = 0 from by decide, Nat.xor_zero, IntKind.wrap_i64]
  omega
theorem xor_i64_all (a : Nat) (ha : a < 9223372036854775808) : bits .xor .i64 (a : Int) (-1) = -(a : Int) - 1 := by
  show IntKind.i64.wrap ((BitVec.ofInt 64 (a : Int) ^^^ BitVec.ofInt 64 (-1 : Int)).toNat : Int) = _
  rw [BitVec.toNat_xor, ofInt_i64 a ha, show (BitVec.ofInt 64 (-1 : Int)).toNat = 18446744073709551615 from by decide]
  have h := ofInt_all a (by omega)
  rw [show (18446744073709551615 : Int) = ((18446744073709551615 : Nat) : Int) from rfl, u64_xor_nat _ _ (by omega) (by omega)] at h
  rw [h, IntKind.wrap_i64]
  omega
theorem and1_u64 (a : Nat) (ha : a < 18446744073709551616) : bits .and .u64 (a : Int) 1 = ((a % 2 : Nat) : Int) := by
  rw [show (1 : Int) = ((1 : Nat) : Int) from rfl, u64_and_nat _ _ ha (by omega), nat_mask1]

set_option maxRecDepth 100000 in
set_option maxHeartbeats 400000 in
theorem getInt_any (A : Option Addr) (cap : Nat) (l : List UInt8) (w : World) (p : Nat → Addr) (hl : l.length ≤ 1000000) (hc : l.length ≤ cap) (hr : Reads w A l) (hs : Sents5 w p) :
    Calls Tryd.prog 46 #[.slice A l.length cap] w fun e w' => e = .returned (.tuple #[.int .i64 (Vi.unzz (Vi.get 0 0 l).1), .int .i64 (Vi.get 0 0 l).2.1, errOf p (Vi.get 0 0 l).2.2]) ∧ ∃ n, w' = w.drewN n := by
  have HG := hide (get_any A cap l w p hl hc hr hs)
  obtain ⟨hb, -⟩ := Vi.get_lt l 0 0 (by omega) (by omega)
  clear hr hs hl hc
  generalize Vi.get 0 0 l = g at *
  have ha := and1_u64 g.1 hb
  have hdv : g.1 / 2 < 9223372036854775808 := by omega
  have hb2 : (g.1 : Int) / 2 ≤ 9223372036854775807 := by omega
  have hcast : (g.1 : Int) / 2 = ((g.1 / 2 : Nat) : Int) := by omega
  rcases Nat.mod_two_eq_zero_or_one g.1 with h2 | h2
  · have HU : Hid (Vi.unzz g.1 = ((g.1 / 2 : Nat) : Int)) := by show _ = _; unfold Vi.unzz; rw [if_pos h2]
    rw [h2] at ha
    have hx := xor_i64_nil _ hdv
    rw [← hcast] at hx HU
    clear hb hdv h2 hcast
    go_enter Tryd.func46, Tryd.ntmps46
    go_wp2_with fail
    refine HG.out.mono ?_
    rintro e w' ⟨rfl, n, rfl⟩
    generalize hE : errOf p g.2.2 = E at *
    have HE := hide hE
    clear hE
    go_wp2_with fail
    go_ret3
    exact ⟨ret3 (congrArg (Value.int .i64) HU.out.symm) rfl HE.out.symm, n, rfl⟩
  · have HU : Hid (Vi.unzz g.1 = -((g.1 / 2 : Nat) : Int) - 1) := by show _ = _; unfold Vi.unzz; rw [if_neg (by omega)]
    rw [h2] at ha
    have hx := xor_i64_all _ hdv
    rw [← hcast] at hx HU
    clear hb hdv h2 hcast
    go_enter Tryd.func46, Tryd.ntmps46
    go_wp2_with fail
    refine HG.out.mono ?_
    rintro e w' ⟨rfl, n, rfl⟩
    generalize hE : errOf p g.2.2 = E at *
    have HE := hide hE
    clear hE
    go_wp2_with fail
    go_ret3
    exact ⟨ret3 (congrArg (Value.int .i64) HU.out.symm) rfl HE.out.symm, n, rfl⟩
end Go.Proofs.YthemdcdgiccjkaaDoor
