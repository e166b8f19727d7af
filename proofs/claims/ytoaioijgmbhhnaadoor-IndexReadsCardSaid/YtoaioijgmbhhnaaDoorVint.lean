/-
  The walks through package vint's Size, Put and PutInt, and through the statements' own small helpers.
  The walk through package vint's PutInt.
  The walk through the chapter's example: Put of 300.
-/
import Derived.Test.YtoaioijgmbhhnaaDoorOwnB
import Derived.Test.YtoaioijgmbhhnaaDoorVi
import Derived.WalkKit
import Derived.ProofKit
import Derived.Below
import Derived.BigQuiet
import Derived.Deep.QuietTactic
import Derived.Outline
import Derived.LoopTactic
import Derived.IntWalk
import Derived.Test.YtoaioijgmbhhnaaDoorZig
import Derived.Test.YtoaioijgmbhhnaaDoorHSame
import Derived.Test.YtoaioijgmbhhnaaDoorOwnArg
namespace Go.Proofs.YtoaioijgmbhhnaaDoor
open Go.RowKit

set_option maxRecDepth 100000 in
set_option maxHeartbeats 400000 in
theorem size_any (n : Nat) (w : World) (hn : n < 18446744073709551616) :
    Calls Tryd.prog 98 #[.int .u64 n] w fun e w' => e = .returned (.int .i64 (Vi.size n)) ∧ w = w' := by
  have HS := hide (Vi.size_le10 hn)
  clear hn
  go_enter Tryd.func98, Tryd.ntmps98
  go_wp2
  go_loop [0, 3] (fun a s => ∃ m k : Nat, a = .int .u64 m ∧ s = .int .i64 k ∧ k ≤ 10 ∧ k + Vi.size m = Vi.size n + 1) (fun a _ => (intOf a).toNat)
  case atStart => exact ⟨n, 1, rfl, rfl, by omega, by omega⟩
  case round =>
    obtain ⟨m, k, rfl, rfl, hk, hs⟩ := hrel
    have HR := hide hs
    clear hs
    by_cases h : 128 ≤ m
    · have HG := hide (Vi.size_ge h)
      go_wp2
      go_round
      case rel => exact ⟨m / 128, k + 1, by go_num, by go_num, by have := HR.out; have := HG.out; have := HS.out; have := Vi.size_pos (m / 128); omega, by have := HR.out; have := HG.out; omega⟩
      case measure => simp [intOf]; omega
    · have HL := hide (Vi.size_lt (show m < 128 by omega))
      go_wp2
      go_ret
      exact ⟨by have h1 := HR.out; have h2 := HL.out; rw [show Vi.size n = k by omega]; rfl, rfl⟩

theorem or128 (n : Nat) : bits .or .u8 ((n : Int) % (256 : Int)) 128 = B (UInt8.ofNat (n % 128 + 128)) := by
  unfold B
  rw [UInt8.toNat_ofNat', show (n : Int) % 256 = ((n % 256 : Nat) : Int) from by omega, show (128 : Int) = ((128 : Nat) : Int) from rfl, u8_or_nat _ _ (by omega) (by omega)]
  have h : ∀ x, x < 256 → x ||| 128 = x % 128 + 128 := by decide +kernel
  rw [h _ (by omega)]
  congr 1; omega
theorem mod256n (n : Nat) : (n : Int) % (256 : Int) = B (UInt8.ofNat n) := by
  unfold B
  rw [UInt8.toNat_ofNat']; omega

set_option maxRecDepth 100000 in
set_option maxHeartbeats 400000 in
theorem put_any (A : Option Addr) (cap : Nat) (l : List UInt8) (n : Nat) (w : World) (hn : n < 18446744073709551616) (hl : l.length ≤ 1000000) (hr : Reads w A l) :
    Calls Tryd.prog 68 #[.slice A l.length cap, .int .u64 n] w fun e w' => ∃ v, e = .returned v ∧ Own w' w.heap.size v (l ++ Vi.put n) ∧ Below w.heap.size w w' := by
  have HR := hide hr
  have HS := hide (Vi.size_le10 hn)
  have HSZ := hide (fun W => size_any n W hn)
  have hsz := Vi.size_le10 hn
  have hsp := Vi.size_pos n
  clear hr hn
  go_enter Tryd.func68, Tryd.ntmps68
  go_wp2_with (first
    | (go_at_call 98; refine (HSZ.out _).mono ?_; rintro e w' ⟨rfl, rfl⟩)
    | (at_make; refine wpList_mk rfl (.tmp 7) (.tmp 12) rfl l.length (l.length + Vi.size n) _ _ rfl rfl rfl (by omega) (by omega) (by omega) ?_; intro w1 hown1 hb1 hs1)
    | (refine wpList_cp (o := ⟨some 16, _, _, _, _, _⟩) rfl (.tmp 14) (.tmp 15) rfl w.heap.size _ l _ _ _ rfl hown1 A l.length cap rfl rfl (HR.out.below hb1 (Nat.le_refl _)) ?_; intro w2 hown2 hg2 hs2))
  have hb2 : Below w.heap.size w w2 := hb1.grown hg2 (by omega) (by intro k hk; simp [Value.ownBlock] at hk; omega)
  have hown2' : Own w2 w.heap.size (.slice (some ⟨w.heap.size, 0, none⟩) l.length (l.length + Vi.size n)) l := by
    have e1 : l.take (List.replicate l.length (0 : UInt8)).length = l := by rw [List.length_replicate, List.take_length]
    have e2 : (List.replicate l.length (0 : UInt8)).drop l.length = [] := by simp
    have := hown2
    rwa [e1, e2, List.append_nil] at this
  have HB2 := hide hb2
  have HO2 := hide hown2'
  clear hown1 hown2 hown2' hs1 hs2 hg2 hb2 hb1
  simp only [Act.put, List.setIfInBounds_toArray, List.set_cons_succ, List.set_cons_zero, goInt, List.length_replicate, show Nat.min l.length l.length = l.length from Nat.min_self _]
  go_loopw [1, 5] (fun a v wr => ∃ (m : Nat) (pre : List UInt8), a = .int .u64 m ∧ Own wr w.heap.size v (l ++ pre) ∧ pre ++ Vi.put m = Vi.put n ∧ Below w.heap.size w wr) (fun a _ _ => (intOf a).toNat)
  case atStart => exact ⟨n, [], rfl, by rw [List.append_nil]; exact HO2.out, rfl, HB2.out⟩
  case round =>
    obtain ⟨m, pre, rfl, hown, hpre, hb⟩ := hrel
    have hpl : pre.length < 10 := by
      have h1 := congrArg List.length hpre
      rw [List.length_append] at h1
      have h2 := Vi.size_pos m
      unfold Vi.size at h2 hsz
      omega
    have HO := hide hown
    have HP := hide hpre
    have HB := hide hb
    have HZ : Hid (w.heap.size ≤ wr.heap.size) := hb.size
    clear hown hpre hb
    by_cases h : 128 ≤ m
    · have ho := or128 m
      have HPG := hide (Vi.put_ge h)
      generalize UInt8.ofNat (m % 128 + 128) = c at *
      go_wp2_with (at_builtin; refine wpList_app (w := wr.alloc _) rfl (.tmp 21) (.tmp 25) rfl w.heap.size _ (l ++ pre) [c] rfl (HO.out.alloc _) _ 1 1 rfl rfl (Reads.made _ _ _ _ _ _ rfl rfl) (by simp; omega) (by have := HZ.out; simp; omega) ?_; intro v w3 hown3 hg3 hv3)
      go_roundw
      case rel =>
        refine ⟨m / 128, pre ++ [c], by go_num, ?_, ?_, ?_⟩
        · rw [← List.append_assoc]; exact hown3
        · rw [List.append_assoc, List.singleton_append, ← HPG.out]; exact HP.out
        · exact (HB.out.alloc HZ.out _).grown hg3 (by have := HZ.out; simp; omega) (fun g hg => (HO.out.lt g hg).1)
      case measure => simp [intOf]; omega
    · have HC : Hid ((cells [UInt8.ofNat m]).toArray = #[.int .u8 m]) := by
        show (cells [UInt8.ofNat m]).toArray = #[.int .u8 m]
        simp only [cells, List.map_cons, List.map_nil, byteV, ← mod256n]
        rw [show (m : Int) % 256 = m by omega]
      have HPL := hide (Vi.put_lt (show m < 128 by omega))
      generalize UInt8.ofNat m = c at *
      go_wp2_with (at_builtin; refine wpList_app (w := wr.alloc _) rfl (.tmp 27) (.tmp 30) rfl w.heap.size _ (l ++ pre) [c] rfl (HO.out.alloc _) _ 1 1 rfl rfl (Reads.made _ _ _ _ _ _ rfl HC.out) (by simp; omega) (by have := HZ.out; simp; omega) ?_; intro v w3 hown3 hg3 hv3)
      go_ret
      refine ⟨v, rfl, ?_, ?_⟩
      · rw [← HP.out, HPL.out, ← List.append_assoc]; exact hown3
      · exact (HB.out.alloc HZ.out _).grown hg3 (by have := HZ.out; simp; omega) (fun g hg => (HO.out.lt g hg).1)
end Go.Proofs.YtoaioijgmbhhnaaDoor

namespace Go.Proofs.YtoaioijgmbhhnaaDoor
open Go.RowKit

theorem zig_pos (n : Int) (h0 : 0 ≤ n) (h2 : n ≤ 9223372036854775807) : bits .xor .u64 (n * 2) (n / 9223372036854775808) = (Vi.zz n : Nat) := by
  rw [show n / 9223372036854775808 = 0 by omega, show n * 2 = ((2 * n.toNat : Nat) : Int) by omega, xor_nil _ (by omega)]
  unfold Vi.zz; rw [if_pos h0]; omega
theorem zig_neg (n : Int) (h1 : -9223372036854775808 ≤ n) (h0 : ¬ 0 ≤ n) : bits .xor .u64 (IntKind.u64.wrap (IntKind.u64.wrap n * 2)) (IntKind.u64.wrap (n / 9223372036854775808)) = (Vi.zz n : Nat) := by
  rw [IntKind.wrap_u64, IntKind.wrap_u64, IntKind.wrap_u64, show n / 9223372036854775808 % 18446744073709551616 = 18446744073709551615 by omega,
    show n % 18446744073709551616 * 2 % 18446744073709551616 = ((18446744073709551616 - 2 * (-n).toNat : Nat) : Int) by omega, ofInt_all _ (by omega)]
  unfold Vi.zz; rw [if_neg h0]; omega

set_option maxRecDepth 100000 in
set_option maxHeartbeats 400000 in
theorem putInt_any (A : Option Addr) (cap : Nat) (l : List UInt8) (n : Int) (w : World) (h1 : -9223372036854775808 ≤ n) (h2 : n ≤ 9223372036854775807) (hl : l.length ≤ 1000000) (hr : Reads w A l) :
    Calls Tryd.prog 69 #[.slice A l.length cap, .int .i64 n] w fun e w' => ∃ v, e = .returned v ∧ Own w' w.heap.size v (l ++ Vi.put (Vi.zz n)) ∧ Below w.heap.size w w' := by
  have HP := hide (put_any A cap l (Vi.zz n) w (Vi.zz_lt n h1 h2) hl hr)
  clear hr
  by_cases h0 : 0 ≤ n
  · have HZ := hide (zig_pos n h0 h2)
    go_enter Tryd.func69, Tryd.ntmps69
    go_wp2_with fail
    rw [HZ.out]
    refine HP.out.mono ?_
    rintro e w1 ⟨v, rfl, ho, hb⟩
    go_wp2_with fail
    go_ret
    exact ⟨v, rfl, ho, hb⟩
  · have HZ := hide (zig_neg n h1 h0)
    go_enter Tryd.func69, Tryd.ntmps69
    go_wp2_with fail
    rw [HZ.out]
    refine HP.out.mono ?_
    rintro e w1 ⟨v, rfl, ho, hb⟩
    go_wp2_with fail
    go_ret
    exact ⟨v, rfl, ho, hb⟩
end Go.Proofs.YtoaioijgmbhhnaaDoor

namespace Go.Proofs.YtoaioijgmbhhnaaDoor
open Go.RowKit

theorem put_at (A : Option Addr) (cap k : Nat) (l : List UInt8) (n : Nat) (w : World) (hk : l.length = k) (hn : n < 18446744073709551616) (hl : k ≤ 1000000) (hr : Reads w A l) :
    Calls Tryd.prog 68 #[.slice A k cap, .int .u64 n] w fun e w' => ∃ v, e = .returned v ∧ Own w' w.heap.size v (l ++ Vi.put n) ∧ Below w.heap.size w w' := by
  subst hk; exact put_any A cap l n w hn hl hr
theorem putInt_at (A : Option Addr) (cap k : Nat) (l : List UInt8) (n : Int) (w : World) (hk : l.length = k) (h1 : -9223372036854775808 ≤ n) (h2 : n ≤ 9223372036854775807) (hl : k ≤ 1000000) (hr : Reads w A l) :
    Calls Tryd.prog 69 #[.slice A k cap, .int .i64 n] w fun e w' => ∃ v, e = .returned v ∧ Own w' w.heap.size v (l ++ Vi.put (Vi.zz n)) ∧ Below w.heap.size w w' := by
  subst hk; exact putInt_any A cap l n w h1 h2 hl hr
/-- Put of nothing ahead. -/
theorem put_nil (n : Nat) (w : World) (hn : n < 18446744073709551616) :
    Calls Tryd.prog 68 #[.slice none 0 0, .int .u64 n] w fun e w' => ∃ A c, e = .returned (.slice A (Vi.size n) c) ∧ Own w' w.heap.size (.slice A (Vi.size n) c) (Vi.put n) ∧ Arg w' A c (Vi.put n) ∧ Below w.heap.size w w' :=
  (put_at none 0 0 [] n w rfl hn (by omega) (.inl rfl)).mono fun e w' ⟨v, he, ho, hb⟩ => by
    obtain ⟨A, c, hv, hr⟩ := ho.arg
    subst hv
    exact ⟨A, c, he, ho, hr, hb⟩
theorem putInt_nil (n : Int) (w : World) (h1 : -9223372036854775808 ≤ n) (h2 : n ≤ 9223372036854775807) :
    Calls Tryd.prog 69 #[.slice none 0 0, .int .i64 n] w fun e w' => ∃ A c, e = .returned (.slice A (Vi.size (Vi.zz n)) c) ∧ Own w' w.heap.size (.slice A (Vi.size (Vi.zz n)) c) (Vi.put (Vi.zz n)) ∧ Arg w' A c (Vi.put (Vi.zz n)) ∧ Below w.heap.size w w' :=
  (putInt_at none 0 0 [] n w rfl h1 h2 (by omega) (.inl rfl)).mono fun e w' ⟨v, he, ho, hb⟩ => by
    obtain ⟨A, c, hv, hr⟩ := ho.arg
    subst hv
    exact ⟨A, c, he, ho, hr, hb⟩

theorem put_300 : Vi.put 300 = [172, 2] := by
  rw [Vi.put_ge (by omega), Vi.put_lt (by omega)]; decide
theorem size_300 : Vi.size 300 = 2 := by unfold Vi.size; rw [put_300]; rfl
end Go.Proofs.YtoaioijgmbhhnaaDoor
