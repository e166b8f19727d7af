/-
  The reference's sums, bit by bit, and what stands on them: the same plain answers.
-/
import Derived.Test.YtegaahcelogmlaaDoorB2
import Derived.Test.YtegaahcelogmlaaDoorT1
namespace Go.Proofs.YtegaahcelogmlaaDoor
open Go.RowKit Crc

theorem xB32 (a : BitVec 32) (x : UInt8) : bits .xor .u32 (U a) (B x) = U (a ^^^ w8 x) := by
  rw [← x32]
  congr 1
theorem sts_succ (n : Nat) (c : BitVec 32) : sts (n + 1) c = st (sts n c) := by rw [sts_add]; rfl
attribute [local go_sem] BtoNat x32 n32 x8 and8_15 mod256 wrap8 xs32 Bd16toNat mul2 cv8 xB32

set_option maxHeartbeats 1000000 in
theorem refMore_at (A : Option Addr) (cap n : Nat) (l : List UInt8) (S : Int) (s : BitVec 32) (w : World) (hS : S = U s) (hn : l.length = n) (hl : n ≤ 1000000) (hr : Reads w A l) :
    Calls Tryd.prog 29 #[.int .u32 S, .slice A n cap] w fun e w' => e = .returned (.int .u32 (U (more s l))) ∧ w = w' := by
  subst hS hn
  have HR := hide hr
  clear hr
  go_enter Tryd.func29, Tryd.ntmps29
  go_wp2
  go_loop [5, 6] (fun c i => ∃ k : Nat, k ≤ l.length ∧ i = .int .i64 k ∧ c = .int .u32 (U (feed (~~~s) (l.take k)))) (fun _ i => l.length - (intOf i).toNat)
  case atStart => exact ⟨0, Nat.zero_le _, rfl, rfl⟩
  case round =>
    obtain ⟨k, hk, rfl, rfl⟩ := hrel
    by_cases hlt : k < l.length
    · have HS : Hid (feed (~~~s) (l.take (k + 1)) = sts 8 (feed (~~~s) (l.take k) ^^^ w8 (l.getD k 0))) := by
        show _ = _
        rw [take_snoc l k hlt, feed_snoc]
        unfold one w8
        simp [List.getD, hlt]
      rcases HR.out with rfl | ⟨b, off, rfl, hb, hc⟩
      · simp at hlt
      have hcell := hc k hlt
      clear hc
      generalize l.getD k 0 = x at *
      generalize feed (~~~s) (l.take k) = C at *
      go_wp2
      go_loop [5, 7] (fun c j => ∃ i : Nat, i ≤ 8 ∧ j = .int .i64 i ∧ c = .int .u32 (U (sts i (C ^^^ w8 x)))) (fun _ j => 8 - (intOf j).toNat)
      case atStart => exact ⟨0, Nat.zero_le _, rfl, rfl⟩
      case round =>
        obtain ⟨i, hi, rfl, rfl⟩ := hrel
        by_cases hi8 : i < 8
        · have HT := hide (sts_succ i (C ^^^ w8 x))
          generalize sts i (C ^^^ w8 x) = y at *
          rcases Bool.eq_false_or_eq_true (y.getLsbD 0) with hy | hy
          · have t2 := and_low y
            rw [hy, if_pos rfl] at t2
            have t3 := st_one y hy
            clear hy
            go_wp2
            go_round
            case rel => exact ⟨i + 1, by omega, by go_num, by rw [HT.out]⟩
            case measure => simp [intOf]; omega
          · have t2 := and_low y
            rw [hy, if_neg (by decide)] at t2
            have t3 := st_nil' y hy
            have T3 := hide t3
            clear hy t3
            go_wp2
            go_round
            case rel => exact ⟨i + 1, by omega, by go_num, by rw [HT.out, T3.out]⟩
            case measure => simp [intOf]; omega
        · obtain rfl : i = 8 := by omega
          rw [← HS.out]
          go_wp2
          go_round
          case rel => exact ⟨k + 1, by omega, by go_num, rfl⟩
          case measure => simp [intOf]; omega
    · have : k = l.length := by omega
      subst this
      go_wp2
      go_ret
      exact ⟨by first | rfl | (rw [List.take_length]; rfl), rfl⟩

theorem refSum_any (A : Option Addr) (cap n : Nat) (l : List UInt8) (w : World) (hn : l.length = n) (hl : n ≤ 1000000) (hr : Reads w A l) :
    Calls Tryd.prog 12 #[.slice A n cap] w fun e w' => e = .returned (.int .u32 (U (sum l))) ∧ w = w' := by
  have HM := hide (refMore_at A cap n l 0 0#32 w U_zero.symm hn hl hr)
  rw [more_zero] at HM
  clear hr hn
  go_enter Tryd.func12, Tryd.ntmps12
  go_wp2_with fail
  refine HM.out.mono ?_
  rintro e w' ⟨rfl, rfl⟩
  go_wp2_with fail
  go_ret
  exact ⟨rfl, rfl⟩

end Go.Proofs.YtegaahcelogmlaaDoor
