/-
  The walks through package crc's sums: More, Of, the products and Join do what the plain words say. By contract, callees first.
-/
import Derived.Test.YtdiplknlkmealaaDoorRows
import Derived.Test.YtdiplknlkmealaaDoorBits
import Derived.WalkKit
import Derived.ProofKit
import Derived.Below
import Derived.BigQuiet
import Derived.Deep.QuietTactic
import Derived.Outline
import Derived.Deep.LoopGhost
import Derived.Outline
import Derived.LoopTactic
import Derived.Laws.BitsAllLaws
namespace Go.Proofs.YtdiplknlkmealaaDoor
open Go.RowKit Crc

attribute [local go_sem] BtoNat x32 n32 x8 and8_15 mod256 wrap8 xs32 Bd16toNat

/-- The two tables, as the program lays them. -/
structure Tabs (w : World) : Prop where
  lo : ∀ y : UInt8, w.cell? ⟨2, idx (y &&& 15), none⟩ = some (.int .u32 (U (low y)))
  hi : ∀ y : UInt8, w.cell? ⟨3, idx (y >>> 4), none⟩ = some (.int .u32 (U (high y)))

theorem take_snoc (l : List UInt8) (k : Nat) (h : k < l.length) : l.take (k + 1) = l.take k ++ [l[k]] := List.take_succ_eq_append_getElem h

set_option maxHeartbeats 400000 in
theorem more_any (A : Option Addr) (cap : Nat) (l : List UInt8) (s : BitVec 32) (w : World)
   (hl : l.length ≤ 9223372036854775807) (hr : Reads w A l) (ht : Tabs w) :
    Calls Tryd.prog 19 #[.int .u32 (U s), .slice A l.length cap] w fun e w' => e = .returned (.int .u32 (U (more s l))) ∧ ∃ n, w' = w.drewN n := by
  have HR := hide hr
  have HT := hide ht
  clear hr ht
  go_enter Tryd.func19, Tryd.ntmps19
  go_wp2
  go_loopw [5, 12] (fun r i wr => ∃ k : Nat, k ≤ l.length ∧ i = .int .i64 k ∧ r = .int .u32 (U (feed (~~~s) (l.take k))) ∧ ∃ n, wr = w.drewN n) (fun _ i _ => l.length - (intOf i).toNat)
  case atStart => exact ⟨0, Nat.zero_le _, rfl, rfl, 0, rfl⟩
  case round =>
    obtain ⟨k, hk, rfl, rfl, n, rfl⟩ := hrel
    by_cases hlt : k < l.length
    · have hs : U (feed (~~~s) (l.take (k + 1))) = U (tab (feed (~~~s) (l.take k)) l[k]) := by rw [take_snoc l k hlt, feed_snoc, tab_eq]
      have HS := hide hs
      clear hs
      generalize feed (~~~s) (l.take k) = C at *
      rcases HR.out with rfl | ⟨b, off, rfl, hb, hc⟩
      · simp at hlt
      have hcell := hc k hlt
      clear hc
      have hlo := HT.out.lo (l[k] ^^^ u8 C)
      have hhi := HT.out.hi (l[k] ^^^ u8 C)
      have b1 := B_lo ((l[k] ^^^ u8 C) &&& 15)
      have b2 := B15 (l[k] ^^^ u8 C)
      have b3 := Bd16_lo (l[k] ^^^ u8 C)
      have b4 := Bd16_hi (l[k] ^^^ u8 C)
      go_wp2
      go_quiet (fail)
      go_wp2
      go_roundw
      case rel => exact ⟨k + 1, by omega, by go_num, by rw [HS.out]; rfl, _, rfl⟩
      case measure => simp [intOf]; omega
    · have : k = l.length := by omega
      subst this
      go_wp2
      go_ret
      exact ⟨by rw [List.take_length]; rfl, n, rfl⟩

theorem prod_step (g : Nat) (x : BitVec 32) (hx : x <<< g = 0#32) (h0 : ¬ x = 0#32) : ∃ g', g = g' + 1 ∧ (x <<< 1) <<< g' = 0#32 := by
  cases g with
  | zero => exact absurd (by simpa using hx) h0
  | succ g => exact ⟨g, rfl, by rw [← BitVec.shiftLeft_add, Nat.add_comm]; exact hx⟩

set_option maxHeartbeats 400000 in
theorem product_any (a b : BitVec 32) (w : World) :
    Calls Tryd.prog 56 #[.int .u32 (U a), .int .u32 (U b)] w fun e w' => e = .returned (.int .u32 (U (prod a b))) ∧ w = w' := by
  go_enter Tryd.func56, Tryd.ntmps56
  go_wp2
  go_loopg [0, 1, 5] 32 (fun g a' b' p wr => ∃ x y z : BitVec 32, a' = .int .u32 (U x) ∧ b' = .int .u32 (U y) ∧ p = .int .u32 (U z) ∧ prodL g x y z = prod a b ∧ x <<< g = 0#32 ∧ wr = w)
  case atStart => exact ⟨a, b, 0#32, rfl, rfl, rfl, rfl, by simp, rfl⟩
  case round =>
    obtain ⟨x, y, z, rfl, rfl, rfl, hp, hx, rfl⟩ := hrel
    by_cases h0 : x = 0#32
    · subst h0
      rw [prodL_zero] at hp
      subst hp
      clear hx
      have e1 := U_zero
      go_wp2
      go_ret
      exact ⟨rfl, rfl⟩
    · have e1 := beqU x h0
      have e2 := bneU x h0
      obtain ⟨g', hg, hx'⟩ := prod_step gk x hx h0
      have hp' : prodL g' (x <<< 1) (st y) (if x.getLsbD 31 then z ^^^ y else z) = prod a b := by rw [← hp, hg]; rfl
      have HG := hide hg
      have HX := hide hx'
      have HP := hide hp'
      clear h0 hg hx' hp hp' hx
      rcases Bool.eq_false_or_eq_true (x.getLsbD 31) with h31 | h31 <;> rcases Bool.eq_false_or_eq_true (y.getLsbD 0) with hy | hy
      · have t1 := and_top x
        rw [h31, if_pos rfl] at t1
        have t2 := and_low y
        rw [hy, if_pos rfl] at t2
        have t3 := st_one y hy
        have H31 := hide h31
        clear h31 hy
        go_wp2
        go_roundg g'
        case measure => have := HG.out; omega
        case rel => exact ⟨x <<< 1, st y, z ^^^ y, by rw [mul2], rfl, rfl, by have := HP.out; rwa [H31.out, if_pos rfl] at this, HX.out, rfl⟩
      · have t1 := and_top x
        rw [h31, if_pos rfl] at t1
        have t2 := and_low y
        rw [hy, if_neg (by decide)] at t2
        have t3 := st_nil y hy
        have H31 := hide h31
        clear h31 hy
        go_wp2
        go_roundg g'
        case measure => have := HG.out; omega
        case rel => exact ⟨x <<< 1, st y, z ^^^ y, by rw [mul2], rfl, rfl, by have := HP.out; rwa [H31.out, if_pos rfl] at this, HX.out, rfl⟩
      · have t1 := and_top x
        rw [h31, if_neg (by decide)] at t1
        have t2 := and_low y
        rw [hy, if_pos rfl] at t2
        have t3 := st_one y hy
        have H31 := hide h31
        clear h31 hy
        go_wp2
        go_roundg g'
        case measure => have := HG.out; omega
        case rel => exact ⟨x <<< 1, st y, z, by rw [mul2], rfl, rfl, by have := HP.out; rwa [H31.out, if_neg (by decide)] at this, HX.out, rfl⟩
      · have t1 := and_top x
        rw [h31, if_neg (by decide)] at t1
        have t2 := and_low y
        rw [hy, if_neg (by decide)] at t2
        have t3 := st_nil y hy
        have H31 := hide h31
        clear h31 hy
        go_wp2
        go_roundg g'
        case measure => have := HG.out; omega
        case rel => exact ⟨x <<< 1, st y, z, by rw [mul2], rfl, rfl, by have := HP.out; rwa [H31.out, if_neg (by decide)] at this, HX.out, rfl⟩

theorem on_step (m p s : Nat) (c : BitVec 32) (hc : sts (p + s * m) unit = c) : (m % 2 = 1 → sts (p + s + (s + s) * (m / 2)) unit = c) ∧ (m % 2 = 0 → sts (p + (s + s) * (m / 2)) unit = c) := by
  subst hc
  have hm := Nat.div_add_mod m 2
  constructor
  · intro h
    rw [h] at hm
    have : p + s + (s + s) * (m / 2) = p + s * m := by
      have e : s * m = s * (2 * (m / 2) + 1) := by rw [hm]
      rw [e, Nat.mul_add, Nat.mul_one, ← Nat.mul_assoc, Nat.add_mul, Nat.mul_two, Nat.add_mul]; omega
    rw [this]
  · intro h
    rw [h] at hm
    have : p + (s + s) * (m / 2) = p + s * m := by
      have e : s * m = s * (2 * (m / 2) + 0) := by rw [hm]
      rw [e, Nat.add_zero, ← Nat.mul_assoc, Nat.mul_two]
    rw [this]
theorem sq (p s : Nat) : prod (sts p unit) (sts s unit) = sts (p + s) unit := by rw [prod_moved, sts_add]

set_option maxHeartbeats 400000 in
theorem bytesOn_any (n : Nat) (w : World) (hn : n ≤ 1048576) :
    Calls Tryd.prog 57 #[.int .i64 n] w fun e w' => e = .returned (.int .u32 (U (sts (8 * n) unit))) ∧ w = w' := by
  go_enter Tryd.func57, Tryd.ntmps57
  go_wp2
  go_loop [0, 3, 4] (fun a p s => ∃ m i j : Nat, m ≤ 1048576 ∧ a = .int .i64 m ∧ p = .int .u32 (U (sts i unit)) ∧ s = .int .u32 (U (sts j unit)) ∧ sts (i + j * m) unit = sts (8 * n) unit) (fun a _ _ => (intOf a).toNat)
  case atStart => exact ⟨n, 0, 8, hn, rfl, rfl, rfl, by rw [Nat.zero_add]⟩
  case round =>
    obtain ⟨m, i, j, hm, rfl, rfl, rfl, hs⟩ := hrel
    by_cases h0 : 0 < m
    · obtain ⟨s1, s2⟩ := on_step m i j _ hs
      have S1 := hide s1
      have S2 := hide s2
      have t1 := i64_and1 m (by omega)
      clear s1 s2 hs
      rcases Nat.mod_two_eq_zero_or_one m with e | e
      · rw [e] at t1
        have S := hide (S2.out e)
        clear S1 S2 e
        go_wp2_with (go_at_call 56; refine (product_any _ _ _).mono ?_; rintro e w' ⟨rfl, rfl⟩)
        go_round
        case rel => exact ⟨m / 2, i, j + j, by omega, by go_num, rfl, by rw [sq], S.out⟩
        case measure => simp [intOf]; omega
      · rw [e] at t1
        have S := hide (S1.out e)
        clear S1 S2 e
        go_wp2_with (go_at_call 56; refine (product_any _ _ _).mono ?_; rintro e w' ⟨rfl, rfl⟩)
        go_round
        case rel => exact ⟨m / 2, i + j, j + j, by omega, by go_num, by rw [sq], by rw [sq], S.out⟩
        case measure => simp [intOf]; omega
    · obtain rfl : m = 0 := by omega
      have S := hide hs
      clear hs
      go_wp2
      go_ret
      exact ⟨by have := S.out; rw [Nat.mul_zero, Nat.add_zero] at this; rw [this]; rfl, rfl⟩

set_option maxHeartbeats 400000 in
theorem join_any (a b : BitVec 32) (n : Nat) (w : World) (hn : n ≤ 1048576) :
    Calls Tryd.prog 26 #[.int .u32 (U a), .int .u32 (U b), .int .i64 n] w fun e w' => e = .returned (.int .u32 (U (prod a (sts (8 * n) unit) ^^^ b))) ∧ w = w' := by
  go_enter Tryd.func26, Tryd.ntmps26
  go_wp2_with (first | (go_at_call 56; refine (product_any _ _ _).mono ?_; rintro e w' ⟨rfl, rfl⟩) | (go_at_call 57; refine (bytesOn_any n _ hn).mono ?_; rintro e w' ⟨rfl, rfl⟩))
  go_ret
  exact ⟨rfl, rfl⟩

end Go.Proofs.YtdiplknlkmealaaDoor
