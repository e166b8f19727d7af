/-
  The walk through package vint's Get.
  The walk through package vint's GetInt.
  Get and GetInt as the walks ask them; what they answer of what Put laid.
-/
import Derived.Test.YtoaioijgmbhhnaaDoorZig
import Derived.Test.YtoaioijgmbhhnaaDoorCuts
import Derived.Test.YtoaioijgmbhhnaaDoorErrors
import Derived.Deep.CutBlock
import Derived.Deep.DeepCutAuto
import Derived.BigQuiet
import Derived.Deep.QuietTactic
import Derived.IntWalk
import Derived.Test.YtoaioijgmbhhnaaDoorOwnArg
namespace Go.Proofs.YtoaioijgmbhhnaaDoor
open Go.RowKit

theorem ret3 {a b c a' b' c' : Value} (h1 : a = a') (h2 : b = b') (h3 : c = c') : Ending.returned (.tuple #[a, b, c]) = Ending.returned (.tuple #[a', b', c']) := by rw [h1, h2, h3]
theorem drewN_two (w : World) (a b : Nat) : ∃ n, (w.drewN a).drewN b = w.drewN n := ⟨a + b, by rw [World.drewN_drewN]⟩
/-- The error of a number. -/
def errOf (p : Nat → Addr) (c : Nat) : Value := if c = 0 then .nilIface else errV (p (c - 101))

theorem andNot128 (x : UInt8) : bits .andNot .u8 (B x) 128 = ((x.toNat % 128 : Nat) : Int) := by
  unfold B
  rw [show (128 : Int) = ((128 : Nat) : Int) from rfl, u8_andNot_nat _ _ x.toNat_lt (by omega)]
  congr 1
  exact Nat.and_two_pow_sub_one_eq_mod x.toNat 7
theorem or64 (n x i : Nat) (hn : n < 2 ^ (7 * i)) (hn2 : n < 18446744073709551616) (h : x * 2 ^ (7 * i) < 18446744073709551616) : bits .or .u64 (n : Int) (IntKind.u64.wrap ((x : Int) * 2 ^ (7 * i))) = ((n + x * 2 ^ (7 * i) : Nat) : Int) := by
  have e : IntKind.u64.wrap ((x : Int) * 2 ^ (7 * i)) = ((x * 2 ^ (7 * i) : Nat) : Int) := by
    have : ((x : Int) * 2 ^ (7 * i)) = ((x * 2 ^ (7 * i) : Nat) : Int) := by simp
    rw [IntKind.wrap_u64, this]; omega
  rw [e, u64_or_nat _ _ hn2 h, Nat.or_comm, nat_join (7 * i) _ _ (Nat.mul_mod_left _ _) hn, Nat.add_comm]
theorem pow63 (k : Nat) (h : k ≤ 9) : 2 ^ (7 * k) ≤ 9223372036854775808 := Nat.le_trans (Nat.pow_le_pow_right (by omega) (show 7 * k ≤ 63 by omega)) (by decide)
theorem pow56 (k : Nat) (h : k ≤ 8) : 2 ^ (7 * k) ≤ 72057594037927936 := Nat.le_trans (Nat.pow_le_pow_right (by omega) (show 7 * k ≤ 56 by omega)) (by decide)
theorem or_at (acc x k : Nat) (hk : k ≤ 9) (hacc : acc < 2 ^ (7 * k)) (hx : x < 128) (h : k ≤ 8 ∨ x ≤ 1) : bits .or .u64 (acc : Int) (IntKind.u64.wrap ((x : Int) * 2 ^ (7 * k))) = ((acc + x * 2 ^ (7 * k) : Nat) : Int) := by
  have h9 := pow63 k hk
  refine or64 acc x k hacc (by omega) ?_
  rcases h with h | h
  · have h1 := pow56 k h
    have : x * 2 ^ (7 * k) ≤ 127 * 72057594037927936 := Nat.mul_le_mul (by omega) h1
    omega
  · have : x * 2 ^ (7 * k) ≤ 1 * 9223372036854775808 := Nat.mul_le_mul h h9
    omega
theorem acc_next (acc x k : Nat) (hacc : acc < 2 ^ (7 * k)) (hx : x < 128) : acc + x * 2 ^ (7 * k) < 2 ^ (7 * (k + 1)) := by
  rw [Vi.pow7]
  have : x * 2 ^ (7 * k) ≤ 127 * 2 ^ (7 * k) := Nat.mul_le_mul_right _ (by omega)
  omega

set_option maxRecDepth 100000 in
set_option maxHeartbeats 1000000 in
theorem get_any (A : Option Addr) (cap : Nat) (l : List UInt8) (w : World) (p : Nat → Addr) (hl : l.length ≤ 1000000) (hc : l.length ≤ cap) (hr : Reads w A l) (hs : SentsV w p) :
    Calls Tryd.prog 89 #[.slice A l.length cap] w fun e w' => e = .returned (.tuple #[.int .u64 (Vi.get 0 0 l).1, .int .i64 (Vi.get 0 0 l).2.1, errOf p (Vi.get 0 0 l).2.2]) ∧ ∃ n, w' = w.drewN n := by
  have HR := hide hr
  have k1 := fun W q h => run_cut_h W A l.length cap q h
  have K1 := hide k1
  have c1 : w.cell? ⟨6, 0, none⟩ = some (.iface 201 (.pointer (some (p 0)))) := hs.cell 0 (by omega)
  have c2 : w.cell? ⟨4, 0, none⟩ = some (.iface 201 (.pointer (some (p 2)))) := hs.cell 2 (by omega)
  have C1 := hide c1
  have C2 := hide c2
  clear hr hs k1 c1 c2
  go_enter Tryd.func89, Tryd.ntmps89
  go_upto_region 2 with fail
  obtain ⟨m, hm⟩ : ∃ m, m = min l.length 10 := ⟨_, rfl⟩
  have k2 := fun W => K1.out W m (by omega)
  go_cut [12, 13, 14] (fun s n i wx => s = .slice A m cap ∧ n = .int .i64 m ∧ i = .int .i64 0 ∧ w = wx)
  case first =>
    go_wp2_with fail
    · go_meet
      obtain rfl : m = 10 := by omega
      exact ⟨rfl, rfl, rfl, rfl⟩
    · go_meet
      obtain rfl : m = l.length := by omega
      exact ⟨rfl, rfl, rfl, rfl⟩
  case rest =>
    obtain ⟨rfl, rfl, rfl, rfl⟩ := hcut
    have hm1 : m ≤ 10 := by omega
    have hm2 : m ≤ l.length := by omega
    have HM := hide hm
    clear hm k2
    go_wp2_with fail
    go_loopw [5, 14] (fun n i wr => ∃ (k : Nat) (v : Int) (acc : Nat), k ≤ m ∧ i = .int .i64 k ∧ n = .int .u64 v ∧ (k ≤ 9 → v = acc) ∧ acc < 2 ^ (7 * k) ∧ Vi.get k acc (l.drop k) = Vi.get 0 0 l ∧ ∃ q, wr = w.drewN q) (fun _ i _ => m - (intOf i).toNat)
    case atStart => exact ⟨0, 0, 0, Nat.zero_le _, rfl, rfl, fun _ => rfl, by omega, rfl, 0, rfl⟩
    case round =>
      obtain ⟨k, v, acc, hk, rfl, rfl, hv, hacc, hg, q, rfl⟩ := hrel
      by_cases hlt : k < m
      · have hv9 := hv (by omega)
        subst hv9
        have hkl : k < l.length := by omega
        rcases HR.out with rfl | ⟨b, off, rfl, hb, hcl⟩
        · simp at hkl
        have hcell := hcl k hkl
        have hd : l.drop k = l.getD k 0 :: l.drop (k + 1) := by
          rw [List.drop_eq_getElem_cons hkl]; simp [List.getD, hkl]
        rw [hd, Vi.get, if_neg (by omega)] at hg
        clear hcl hd hv
        generalize l.getD k 0 = c at *
        have ha := andNot128 c
        have hb1 := B_lo c
        have hb2 := B_hi c
        have hcB : B c = (c.toNat : Int) := rfl
        have HCB := hide hcB
        have hx : c.toNat % 128 < 128 := by omega
        by_cases h128 : 128 ≤ c.toNat
        · rw [if_pos h128] at hg
          have hB : 128 ≤ B c := by rw [hcB]; omega
          have HG := hide hg
          have HACC := hide (acc_next acc (c.toNat % 128) k hacc hx)
          have HOR := hide (fun h8 : k ≤ 8 => or_at acc (c.toNat % 128) k (by omega) hacc hx (.inl h8))
          clear hg hcB hacc
          generalize c.toNat % 128 = x at *
          go_wp2_with fail
          exact ⟨⟨k + 1, _, acc + x * 2 ^ (7 * k), by omega, by go_num, rfl, fun h9 => HOR.out (by omega), HACC.out, HG.out, _, rfl⟩, by simp [intOf]; omega⟩
        · rw [if_neg h128] at hg
          have hB : B c < 128 := by rw [hcB]; omega
          have hxc : c.toNat % 128 = c.toNat := by omega
          have HX := hide hxc
          have HOR := hide (fun h8 => or_at acc (c.toNat % 128) k (by omega) hacc hx h8)
          clear hacc hxc
          generalize c.toNat % 128 = x at *
          by_cases hs : (c.toNat = 0 ∧ 0 < k) ∨ (1 < c.toNat ∧ k = 9)
          · rw [if_pos hs] at hg
            have HG := hide hg
            have c2 := C2.out
            rcases hs with ⟨h1, h2⟩ | ⟨h1, h2⟩
            · have hz : (B c == 0) = true := by rw [hcB, h1]; rfl
              clear hg hcB h1 h128
              go_wp2_with fail
              go_quiet (fail)
              go_wp2_with fail
              go_ret3
              exact ⟨by rw [← HG.out]; rfl, drewN_two _ _ _⟩
            · have hz : (B c == 0) = false := by rw [beq_eq_false_iff_ne, hcB]; omega
              have h19 : 1 < B c := by rw [hcB]; omega
              have hk9 : ((k : Int) == 9) = true := by rw [h2]; rfl
              clear hg hcB h1 h2 h128
              go_wp2_with fail
              go_quiet (fail)
              go_wp2_with fail
              go_ret3
              exact ⟨by rw [← HG.out]; rfl, drewN_two _ _ _⟩
          · rw [if_neg hs] at hg
            have HG := hide hg
            have HOR8 := hide ((HOR.out (by have := HX.out; omega)).trans (show _ = ((acc + c.toNat * 2 ^ (7 * k) : Nat) : Int) by rw [HX.out]))
            by_cases h0 : c.toNat = 0
            · have hz : (B c == 0) = true := by rw [hcB, h0]; rfl
              have hk0 : k ≤ 0 := by omega
              have hcB0 : B c ≤ 1 := by rw [hcB]; omega
              clear hg hcB h0 h128 hs
              go_wp2_with fail
              go_ret3
              exact ⟨by rw [← HG.out]; exact ret3 (congrArg (Value.int .u64) HOR8.out) rfl rfl, q, rfl⟩
            · have hz : (B c == 0) = false := by rw [beq_eq_false_iff_ne, hcB]; omega
              by_cases h1 : 1 < c.toNat
              · have h19 : 1 < B c := by rw [hcB]; omega
                have hk9 : ((k : Int) == 9) = false := by rw [beq_eq_false_iff_ne]; omega
                clear hg hcB h0 h1 h128 hs
                go_wp2_with fail
                go_ret3
                exact ⟨by rw [← HG.out]; exact ret3 (congrArg (Value.int .u64) HOR8.out) rfl rfl, q, rfl⟩
              · have h19 : B c ≤ 1 := by rw [hcB]; omega
                clear hg hcB h0 h1 h128 hs
                go_wp2_with fail
                go_ret3
                exact ⟨by rw [← HG.out]; exact ret3 (congrArg (Value.int .u64) HOR8.out) rfl rfl, q, rfl⟩
      · obtain rfl : k = m := by omega
        have HG := hide hg
        have HMM := hide (HM.out)
        have c1 := C1.out
        have c2 := C2.out
        by_cases h10 : l.length < 10
        · obtain rfl : k = l.length := by have := HM.out; omega
          clear hg hv hacc
          go_wp2_with fail
          go_quiet (fail)
          go_wp2_with fail
          go_ret3
          exact ⟨by rw [← HG.out, List.drop_of_length_le (Nat.le_refl _), Vi.get, if_pos h10]; rfl, drewN_two _ _ _⟩
        · obtain rfl : k = 10 := by have := HM.out; omega
          clear hg hv hacc
          go_wp2_with fail
          go_quiet (fail)
          go_wp2_with fail
          go_ret3
          have hsh : Vi.get 10 acc (l.drop 10) = (0, 0, 103) := by
            cases l.drop 10 with
            | nil => rfl
            | cons c r => rw [Vi.get, if_pos (by omega)]
          exact ⟨by rw [← HG.out, hsh]; rfl, drewN_two _ _ _⟩
end Go.Proofs.YtoaioijgmbhhnaaDoor

namespace Go.Proofs.YtoaioijgmbhhnaaDoor
open Go.RowKit

theorem xor_i64_nil (a : Nat) (ha : a < 9223372036854775808) : bits .xor .i64 (a : Int) 0 = (a : Int) := by
  show IntKind.i64.wrap ((BitVec.ofInt 64 (a : Int) ^^^ BitVec.ofInt 64 (0 : Int)).toNat : Int) = _
  rw [BitVec.toNat_xor, ofInt_i64 a ha, show (BitVec.ofInt 64 (0 : Int)).toNat = 0 from by decide, Nat.xor_zero, IntKind.wrap_i64]
  omega
theorem xor_i64_all (a : Nat) (ha : a < 9223372036854775808) : bits .xor .i64 (a : Int) (-1) = -(a : Int) - 1 := by
  show IntKind.i64.wrap ((BitVec.ofInt 64 (a : Int) ^^^ BitVec.ofInt 64 (-1 : Int)).toNat : Int) = _
  rw [BitVec.toNat_xor, ofInt_i64 a ha, show (BitVec.ofInt 64 (-1 : Int)).toNat = 18446744073709551615 from by decide]
  have h := ofInt_all a (by omega)
  rw [show (18446744073709551615 : Int) = ((18446744073709551615 : Nat) : Int) from rfl, u64_xor_nat _ _ (by omega) (by omega)] at h
  rw [h, IntKind.wrap_i64]
  omega
theorem and1_u64 (a : Nat) (ha : a < 18446744073709551616) : bits .and .u64 (a : Int) 1 = ((a % 2 : Nat) : Int) := by
  rw [show (1 : Int) = ((1 : Nat) : Int) from rfl, u64_and_nat _ _ ha (by omega), nat_mask1]

set_option maxRecDepth 100000 in
set_option maxHeartbeats 400000 in
theorem getInt_any (A : Option Addr) (cap : Nat) (l : List UInt8) (w : World) (p : Nat → Addr) (hl : l.length ≤ 1000000) (hc : l.length ≤ cap) (hr : Reads w A l) (hs : SentsV w p) :
    Calls Tryd.prog 109 #[.slice A l.length cap] w fun e w' => e = .returned (.tuple #[.int .i64 (Vi.unzz (Vi.get 0 0 l).1), .int .i64 (Vi.get 0 0 l).2.1, errOf p (Vi.get 0 0 l).2.2]) ∧ ∃ n, w' = w.drewN n := by
  have HG := hide (get_any A cap l w p hl hc hr hs)
  obtain ⟨hb, -⟩ := Vi.get_lt l 0 0 (by omega) (by omega)
  clear hr hs hl hc
  generalize Vi.get 0 0 l = g at *
  have ha := and1_u64 g.1 hb
  have hdv : g.1 / 2 < 9223372036854775808 := by omega
  have hb2 : (g.1 : Int) / 2 ≤ 9223372036854775807 := by omega
  have hcast : (g.1 : Int) / 2 = ((g.1 / 2 : Nat) : Int) := by omega
  rcases Nat.mod_two_eq_zero_or_one g.1 with h2 | h2
  · have HU : Hid (Vi.unzz g.1 = ((g.1 / 2 : Nat) : Int)) := by show _ = _; unfold Vi.unzz; rw [if_pos h2]
    rw [h2] at ha
    have hx := xor_i64_nil _ hdv
    rw [← hcast] at hx HU
    clear hb hdv h2 hcast
    go_enter Tryd.func109, Tryd.ntmps109
    go_wp2_with fail
    refine HG.out.mono ?_
    rintro e w' ⟨rfl, n, rfl⟩
    generalize hE : errOf p g.2.2 = E at *
    have HE := hide hE
    clear hE
    go_wp2_with fail
    go_ret3
    exact ⟨ret3 (congrArg (Value.int .i64) HU.out.symm) rfl HE.out.symm, n, rfl⟩
  · have HU : Hid (Vi.unzz g.1 = -((g.1 / 2 : Nat) : Int) - 1) := by show _ = _; unfold Vi.unzz; rw [if_neg (by omega)]
    rw [h2] at ha
    have hx := xor_i64_all _ hdv
    rw [← hcast] at hx HU
    clear hb hdv h2 hcast
    go_enter Tryd.func109, Tryd.ntmps109
    go_wp2_with fail
    refine HG.out.mono ?_
    rintro e w' ⟨rfl, n, rfl⟩
    generalize hE : errOf p g.2.2 = E at *
    have HE := hide hE
    clear hE
    go_wp2_with fail
    go_ret3
    exact ⟨ret3 (congrArg (Value.int .i64) HU.out.symm) rfl HE.out.symm, n, rfl⟩
end Go.Proofs.YtoaioijgmbhhnaaDoor

namespace Go.Proofs.YtoaioijgmbhhnaaDoor
open Go.RowKit

theorem get_at (A : Option Addr) (cap n : Nat) (l : List UInt8) (w : World) (p : Nat → Addr) (a k c : Nat) (hn : l.length = n) (hg : Vi.get 0 0 l = (a, k, c)) (hl : n ≤ 1000000) (ha : Arg w A cap l) (hs : SentsV w p) :
    Calls Tryd.prog 89 #[.slice A n cap] w fun e w' => e = .returned (.tuple #[.int .u64 a, .int .i64 k, errOf p c]) ∧ ∃ n, w' = w.drewN n := by
  subst hn
  have h := get_any A cap l w p hl ha.le ha.reads hs
  rw [hg] at h; exact h
theorem getInt_at (A : Option Addr) (cap n : Nat) (l : List UInt8) (w : World) (p : Nat → Addr) (a : Int) (k c : Nat) (hn : l.length = n) (hg : (Vi.unzz (Vi.get 0 0 l).1, (Vi.get 0 0 l).2) = (a, k, c)) (hl : n ≤ 1000000) (ha : Arg w A cap l) (hs : SentsV w p) :
    Calls Tryd.prog 109 #[.slice A n cap] w fun e w' => e = .returned (.tuple #[.int .i64 a, .int .i64 k, errOf p c]) ∧ ∃ n, w' = w.drewN n := by
  subst hn
  have h := getInt_any A cap l w p hl ha.le ha.reads hs
  have e1 := congrArg Prod.fst hg
  have e2 := congrArg Prod.snd hg
  simp only at e1 e2
  rw [e1, e2] at h; exact h
theorem get_of_put (u : Nat) (r : List UInt8) (hu : u < 18446744073709551616) : Vi.get 0 0 (Vi.put u ++ r) = (u, Vi.size u, 0) := by
  have h := Vi.get_put u 0 0 r (fun h => absurd h (Nat.lt_irrefl 0)) (by simpa using hu)
  simpa using h
theorem get_of_cut (u : Nat) (hu : u < 18446744073709551616) : Vi.get 0 0 ((Vi.put u).take (Vi.size u - 1)) = (0, 0, 101) := by
  have h := Vi.get_cut u 0 0 (by have := Vi.size_le10 hu; omega)
  rwa [List.dropLast_eq_take] at h
end Go.Proofs.YtoaioijgmbhhnaaDoor
