/-
  The walks through the reference's numbers as bytes: the same plain answers.
  The reference's sums, bit by bit, and what stands on them: the same plain answers.
-/
import Derived.Test.YtcmgppacipdnaaaGreatDoorQVi
import Derived.Test.YtcmgppacipdnaaaGreatDoorQVFixed
import Derived.Test.YtcmgppacipdnaaaGreatDoorQTable
namespace Go.Proofs.YtcmgppacipdnaaaGreatDoor
open Go.RowKit

set_option maxRecDepth 100000 in
set_option maxHeartbeats 400000 in
theorem refPut_any (n : Nat) (w : World) (hn : n < 18446744073709551616) :
    Calls Tryz.prog 84 #[.int .u64 n] w fun e w' => ∃ v, e = .returned v ∧ Own w' w.heap.size v (Vi.put n) ∧ Below w.heap.size w w' := by
  have hsz := Vi.size_le10 hn
  clear hn
  go_enter Tryz.func84, Tryz.ntmps84
  go_wp2_with fail
  go_loopw [0, 3] (fun a v wr => ∃ (m : Nat) (pre : List UInt8), a = .int .u64 m ∧ Own wr w.heap.size v pre ∧ pre ++ Vi.put m = Vi.put n ∧ Below w.heap.size w wr) (fun a _ _ => (intOf a).toNat)
  case atStart => exact ⟨n, [], rfl, Own.nil _ _, rfl, Below.refl _ _⟩
  case round =>
    obtain ⟨m, pre, rfl, hown, hpre, hb⟩ := hrel
    have hpl : pre.length < 10 := by
      have h1 := congrArg List.length hpre
      rw [List.length_append] at h1
      have h2 := Vi.size_pos m
      unfold Vi.size at h2 hsz
      omega
    have HO := hide hown
    have HP := hide hpre
    have HB := hide hb
    have HZ : Hid (w.heap.size ≤ wr.heap.size) := hb.size
    clear hown hpre hb
    by_cases h : 128 ≤ m
    · have ho := or128 m
      have HPG := hide (Vi.put_ge h)
      generalize UInt8.ofNat (m % 128 + 128) = c at *
      go_wp2_with (at_builtin; refine wpList_app (w := wr.alloc _) rfl (.tmp 6) (.tmp 10) rfl w.heap.size _ pre [c] rfl (HO.out.alloc _) _ 1 1 rfl rfl (Reads.made _ _ _ _ _ _ rfl rfl) (by simp; omega) (by have := HZ.out; simp; omega) ?_; intro v w3 hown3 hg3 hv3)
      go_roundw
      case rel =>
        refine ⟨m / 128, pre ++ [c], by go_num, hown3, ?_, ?_⟩
        · rw [List.append_assoc, List.singleton_append, ← HPG.out]; exact HP.out
        · exact (HB.out.alloc HZ.out _).grown hg3 (by have := HZ.out; simp; omega) (fun g hg => (HO.out.lt g hg).1)
      case measure => simp [intOf]; omega
    · have HC : Hid ((cells [UInt8.ofNat m]).toArray = #[.int .u8 m]) := by
        show (cells [UInt8.ofNat m]).toArray = #[.int .u8 m]
        simp only [cells, List.map_cons, List.map_nil, byteV, ← mod256n]
        rw [show (m : Int) % 256 = m by omega]
      have HPL := hide (Vi.put_lt (show m < 128 by omega))
      generalize UInt8.ofNat m = c at *
      go_wp2_with (at_builtin; refine wpList_app (w := wr.alloc _) rfl (.tmp 14) (.tmp 17) rfl w.heap.size _ pre [c] rfl (HO.out.alloc _) _ 1 1 rfl rfl (Reads.made _ _ _ _ _ _ rfl HC.out) (by simp; omega) (by have := HZ.out; simp; omega) ?_; intro v w3 hown3 hg3 hv3)
      go_ret
      refine ⟨v, rfl, ?_, ?_⟩
      · rw [← HP.out, HPL.out]; exact hown3
      · exact (HB.out.alloc HZ.out _).grown hg3 (by have := HZ.out; simp; omega) (fun g hg => (HO.out.lt g hg).1)

set_option maxRecDepth 100000 in
set_option maxHeartbeats 400000 in
theorem refPutInt_any (n : Int) (w : World) (h1 : -9223372036854775808 ≤ n) (h2 : n ≤ 9223372036854775807) :
    Calls Tryz.prog 83 #[.int .i64 n] w fun e w' => ∃ v, e = .returned v ∧ Own w' w.heap.size v (Vi.put (Vi.zz n)) ∧ Below w.heap.size w w' := by
  have HP := hide (refPut_any (Vi.zz n) w (Vi.zz_lt n h1 h2))
  by_cases h0 : 0 ≤ n
  · have HZ := hide (zig_pos n h0 h2)
    go_enter Tryz.func83, Tryz.ntmps83
    go_wp2_with fail
    rw [HZ.out]
    refine HP.out.mono ?_
    rintro e w1 ⟨v, rfl, ho, hb⟩
    go_wp2_with fail
    go_ret
    exact ⟨v, rfl, ho, hb⟩
  · have HZ := hide (zig_neg n h1 h0)
    go_enter Tryz.func83, Tryz.ntmps83
    go_wp2_with fail
    rw [HZ.out]
    refine HP.out.mono ?_
    rintro e w1 ⟨v, rfl, ho, hb⟩
    go_wp2_with fail
    go_ret
    exact ⟨v, rfl, ho, hb⟩

end Go.Proofs.YtcmgppacipdnaaaGreatDoor

namespace Go.Proofs.YtcmgppacipdnaaaGreatDoor
open Go.RowKit Crc

theorem xB32 (a : BitVec 32) (x : UInt8) : bits .xor .u32 (U a) (B x) = U (a ^^^ w8 x) := by
  rw [← x32]
  congr 1
theorem sts_succ (n : Nat) (c : BitVec 32) : sts (n + 1) c = st (sts n c) := by rw [sts_add]; rfl
attribute [local go_sem] BtoNat x32 n32 x8 and8_15 mod256 wrap8 xs32 Bd16toNat mul2 cv8 xB32

set_option maxHeartbeats 1000000 in
theorem refMore_at (A : Option Addr) (cap n : Nat) (l : List UInt8) (S : Int) (s : BitVec 32) (w : World) (hS : S = U s) (hn : l.length = n) (hl : n ≤ 1000000) (hr : Reads w A l) :
    Calls Tryz.prog 130 #[.int .u32 S, .slice A n cap] w fun e w' => e = .returned (.int .u32 (U (more s l))) ∧ w = w' := by
  subst hS hn
  have HR := hide hr
  clear hr
  go_enter Tryz.func130, Tryz.ntmps130
  go_wp2
  go_loop [5, 6] (fun c i => ∃ k : Nat, k ≤ l.length ∧ i = .int .i64 k ∧ c = .int .u32 (U (feed (~~~s) (l.take k)))) (fun _ i => l.length - (intOf i).toNat)
  case atStart => exact ⟨0, Nat.zero_le _, rfl, rfl⟩
  case round =>
    obtain ⟨k, hk, rfl, rfl⟩ := hrel
    by_cases hlt : k < l.length
    · have HS : Hid (feed (~~~s) (l.take (k + 1)) = sts 8 (feed (~~~s) (l.take k) ^^^ w8 (l.getD k 0))) := by
        show _ = _
        rw [take_snoc l k hlt, feed_snoc]
        unfold one w8
        simp [List.getD, hlt]
      rcases HR.out with rfl | ⟨b, off, rfl, hb, hc⟩
      · simp at hlt
      have hcell := hc k hlt
      clear hc
      generalize l.getD k 0 = x at *
      generalize feed (~~~s) (l.take k) = C at *
      go_wp2
      go_loop [5, 7] (fun c j => ∃ i : Nat, i ≤ 8 ∧ j = .int .i64 i ∧ c = .int .u32 (U (sts i (C ^^^ w8 x)))) (fun _ j => 8 - (intOf j).toNat)
      case atStart => exact ⟨0, Nat.zero_le _, rfl, rfl⟩
      case round =>
        obtain ⟨i, hi, rfl, rfl⟩ := hrel
        by_cases hi8 : i < 8
        · have HT := hide (sts_succ i (C ^^^ w8 x))
          generalize sts i (C ^^^ w8 x) = y at *
          rcases Bool.eq_false_or_eq_true (y.getLsbD 0) with hy | hy
          · have t2 := and_low y
            rw [hy, if_pos rfl] at t2
            have t3 := st_one y hy
            clear hy
            go_wp2
            go_round
            case rel => exact ⟨i + 1, by omega, by go_num, by rw [HT.out]⟩
            case measure => simp [intOf]; omega
          · have t2 := and_low y
            rw [hy, if_neg (by decide)] at t2
            have t3 := st_nil' y hy
            have T3 := hide t3
            clear hy t3
            go_wp2
            go_round
            case rel => exact ⟨i + 1, by omega, by go_num, by rw [HT.out, T3.out]⟩
            case measure => simp [intOf]; omega
        · obtain rfl : i = 8 := by omega
          rw [← HS.out]
          go_wp2
          go_round
          case rel => exact ⟨k + 1, by omega, by go_num, rfl⟩
          case measure => simp [intOf]; omega
    · have : k = l.length := by omega
      subst this
      go_wp2
      go_ret
      exact ⟨by first | rfl | (rw [List.take_length]; rfl), rfl⟩

theorem refSum_any (A : Option Addr) (cap n : Nat) (l : List UInt8) (w : World) (hn : l.length = n) (hl : n ≤ 1000000) (hr : Reads w A l) :
    Calls Tryz.prog 85 #[.slice A n cap] w fun e w' => e = .returned (.int .u32 (U (sum l))) ∧ w = w' := by
  have HM := hide (refMore_at A cap n l 0 0#32 w U_zero.symm hn hl hr)
  rw [more_zero] at HM
  clear hr hn
  go_enter Tryz.func85, Tryz.ntmps85
  go_wp2_with fail
  refine HM.out.mono ?_
  rintro e w' ⟨rfl, rfl⟩
  go_wp2_with fail
  go_ret
  exact ⟨rfl, rfl⟩

end Go.Proofs.YtcmgppacipdnaaaGreatDoor
