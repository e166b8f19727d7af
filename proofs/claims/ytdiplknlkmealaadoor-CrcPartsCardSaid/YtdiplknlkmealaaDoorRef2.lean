/-
  The reference's Little, Fixed, Seal and Open: the same plain answers.
-/
import Derived.Test.YtdiplknlkmealaaDoorRef
namespace Go.Proofs.YtdiplknlkmealaaDoor
open Go.RowKit Crc

theorem lb0 (c : BitVec 32) : U c % (256 : Int) = B (u8 c) := mod256 c
theorem lb1 (c : BitVec 32) : U c / (256 : Int) % (256 : Int) = B (u8 (c >>> 8)) := by rw [div256, mod256]
theorem lb2 (c : BitVec 32) : U c / (65536 : Int) % (256 : Int) = B (u8 (c >>> 16)) := by rw [div16b, mod256]
theorem lb3 (c : BitVec 32) : U c / (16777216 : Int) % (256 : Int) = B (u8 (c >>> 24)) := by rw [div24b, mod256]
theorem or64 (p : BitVec 32) (x : UInt8) (k : Nat) (hk : k ≤ 24) : bits .or .u64 (U p) (B x * (2 : Int) ^ k) = U (p ||| w8 x <<< k) := by
  have h1 : (B x * (2 : Int) ^ k) = (((w8 x <<< k).toNat : Nat) : Int) := by
    have h2 : (w8 x <<< k).toNat = x.toNat * 2 ^ k := by
      have hx := x.toNat_lt
      have : x.toNat * 2 ^ k < 4294967296 := by
        have h3 : 2 ^ k ≤ 2 ^ 24 := Nat.pow_le_pow_right (by omega) hk
        calc x.toNat * 2 ^ k ≤ 255 * 2 ^ 24 := Nat.mul_le_mul (by omega) h3
          _ < 4294967296 := by omega
      rw [BitVec.toNat_shiftLeft, Nat.shiftLeft_eq]
      have hw : (w8 x).toNat = x.toNat := by unfold w8; simp
      rw [hw, Nat.mod_eq_of_lt this]
    rw [h2]; unfold B; simp
  rw [h1]
  unfold U
  rw [u64_or_nat _ _ (by have := p.isLt; omega) (by have := (w8 x <<< k).isLt; omega)]
  simp
theorem or64_0 (p : BitVec 32) (x : UInt8) : bits .or .u64 (U p) (B x) = U (p ||| w8 x) := by
  have := or64 p x 0 (by omega)
  simpa using this
theorem or64_1 (p : BitVec 32) (x : UInt8) : bits .or .u64 (U p) (B x * (256 : Int)) = U (p ||| w8 x <<< 8) := or64 p x 8 (by omega)
theorem or64_2 (p : BitVec 32) (x : UInt8) : bits .or .u64 (U p) (B x * (65536 : Int)) = U (p ||| w8 x <<< 16) := or64 p x 16 (by omega)
theorem or64_3 (p : BitVec 32) (x : UInt8) : bits .or .u64 (U p) (B x * (16777216 : Int)) = U (p ||| w8 x <<< 24) := or64 p x 24 (by omega)
attribute [local go_sem] lb0 lb1 lb2 lb3 or64_0 or64_1 or64_2 or64_3

set_option maxHeartbeats 1000000 in
theorem little_any (c : BitVec 32) (w : World) :
    Calls Tryd.prog 54 #[.int .u64 (U c), .int .i64 4] w fun e w' => ∃ v, e = .returned v ∧ Own w' w.heap.size v (little c) ∧ Below w.heap.size w w' := by
  go_enter Tryd.func54, Tryd.ntmps54
  go_wp2
  go_loopw [5, 6] (fun v i wr => ∃ k : Nat, k ≤ 4 ∧ i = .int .i64 k ∧ Own wr w.heap.size v ((little c).take k) ∧ Below w.heap.size w wr) (fun _ i _ => 4 - (intOf i).toNat)
  case atStart => exact ⟨0, Nat.zero_le _, rfl, Own.nil _ _, Below.refl _ _⟩
  case round =>
    obtain ⟨k, hk, rfl, ho, hb⟩ := hrel
    have HOK := hide ho
    have HBK := hide hb
    have HBS : Hid (w.heap.size ≤ wr.heap.size) := hb.size
    clear ho hb
    match k, hk with
    | 0, _ =>
      go_wp2_with (at_builtin; refine wpList_app (w := wr.alloc _) rfl (.tmp 12) (.tmp 19) rfl w.heap.size u5 ((little c).take 0) [Crc.u8 c] rfl (HOK.out.alloc _) _ 1 1 rfl rfl (Reads.made _ _ _ _ _ _ (by simp) rfl) (by simp [little]) (by simp; exact Nat.le_succ_of_le HBS.out) ?_; intro v5 w5 hown5 hg5 hv5)
      have hbn : Below w.heap.size w w5 := (balloc HBK.out _).grown hg5 (by simp; exact Nat.le_succ_of_le HBS.out) (fun g hg => (HOK.out.lt g hg).1)
      have HOW := hide hown5
      have HBN := hide hbn
      clear hown5 hg5 hv5 hbn
      go_wp2_with fail
      go_roundw
      case rel => exact ⟨1, by omega, rfl, HOW.out, HBN.out⟩
      case measure => simp [intOf]
    | 1, _ =>
      go_wp2_with (at_builtin; refine wpList_app (w := wr.alloc _) rfl (.tmp 12) (.tmp 19) rfl w.heap.size u5 ((little c).take 1) [Crc.u8 (c >>> 8)] rfl (HOK.out.alloc _) _ 1 1 rfl rfl (Reads.made _ _ _ _ _ _ (by simp) rfl) (by simp [little]) (by simp; exact Nat.le_succ_of_le HBS.out) ?_; intro v5 w5 hown5 hg5 hv5)
      have hbn : Below w.heap.size w w5 := (balloc HBK.out _).grown hg5 (by simp; exact Nat.le_succ_of_le HBS.out) (fun g hg => (HOK.out.lt g hg).1)
      have HOW := hide hown5
      have HBN := hide hbn
      clear hown5 hg5 hv5 hbn
      go_wp2_with fail
      go_roundw
      case rel => exact ⟨2, by omega, rfl, HOW.out, HBN.out⟩
      case measure => simp [intOf]
    | 2, _ =>
      go_wp2_with (at_builtin; refine wpList_app (w := wr.alloc _) rfl (.tmp 12) (.tmp 19) rfl w.heap.size u5 ((little c).take 2) [Crc.u8 (c >>> 16)] rfl (HOK.out.alloc _) _ 1 1 rfl rfl (Reads.made _ _ _ _ _ _ (by simp) rfl) (by simp [little]) (by simp; exact Nat.le_succ_of_le HBS.out) ?_; intro v5 w5 hown5 hg5 hv5)
      have hbn : Below w.heap.size w w5 := (balloc HBK.out _).grown hg5 (by simp; exact Nat.le_succ_of_le HBS.out) (fun g hg => (HOK.out.lt g hg).1)
      have HOW := hide hown5
      have HBN := hide hbn
      clear hown5 hg5 hv5 hbn
      go_wp2_with fail
      go_roundw
      case rel => exact ⟨3, by omega, rfl, HOW.out, HBN.out⟩
      case measure => simp [intOf]
    | 3, _ =>
      go_wp2_with (at_builtin; refine wpList_app (w := wr.alloc _) rfl (.tmp 12) (.tmp 19) rfl w.heap.size u5 ((little c).take 3) [Crc.u8 (c >>> 24)] rfl (HOK.out.alloc _) _ 1 1 rfl rfl (Reads.made _ _ _ _ _ _ (by simp) rfl) (by simp [little]) (by simp; exact Nat.le_succ_of_le HBS.out) ?_; intro v5 w5 hown5 hg5 hv5)
      have hbn : Below w.heap.size w w5 := (balloc HBK.out _).grown hg5 (by simp; exact Nat.le_succ_of_le HBS.out) (fun g hg => (HOK.out.lt g hg).1)
      have HOW := hide hown5
      have HBN := hide hbn
      clear hown5 hg5 hv5 hbn
      go_wp2_with fail
      go_roundw
      case rel => exact ⟨4, by omega, rfl, HOW.out, HBN.out⟩
      case measure => simp [intOf]
    | 4, _ =>
      go_wp2_with fail
      go_ret
      exact ⟨_, rfl, HOK.out, HBK.out⟩
    | k + 5, h => omega

/-- So far read. -/
def pre (a b c d : UInt8) : Nat → BitVec 32
  | 0 => 0#32
  | 1 => w8 a
  | 2 => w8 a ||| w8 b <<< 8
  | 3 => (w8 a ||| w8 b <<< 8) ||| w8 c <<< 16
  | _ => w4 a b c d
theorem zero_or (x : BitVec 32) : 0#32 ||| x = x := by simp

set_option maxHeartbeats 1000000 in
theorem fixed_four (A : Option Addr) (cap : Nat) (a b c d : UInt8) (w : World) (hr : Reads w A [a, b, c, d]) :
    Calls Tryd.prog 52 #[.slice A 4 cap] w fun e w' => e = .returned (.int .u64 (U (w4 a b c d))) ∧ w = w' := by
  rcases hr with h | ⟨g, off, rfl, hb, hc⟩
  · cases h
  have c0 : w.cell? ⟨g, off, none⟩ = some (.int .u8 (B a)) := hc 0 (by simp)
  have c1 : w.cell? ⟨g, off + 1, none⟩ = some (.int .u8 (B b)) := hc 1 (by simp)
  have c2 : w.cell? ⟨g, off + 2, none⟩ = some (.int .u8 (B c)) := hc 2 (by simp)
  have c3 : w.cell? ⟨g, off + 3, none⟩ = some (.int .u8 (B d)) := hc 3 (by simp)
  have l0 := B_lo a
  have l1 := B_lo b
  have l2 := B_lo c
  have l3 := B_lo d
  have h0 := B_hi a
  have h1 := B_hi b
  have h2 := B_hi c
  have h3 := B_hi d
  clear hc hb
  go_enter Tryd.func52, Tryd.ntmps52
  go_wp2
  go_loop [3, 4] (fun n i => ∃ k : Nat, k ≤ 4 ∧ i = .int .i64 k ∧ n = .int .u64 (U (pre a b c d k))) (fun _ i => 4 - (intOf i).toNat)
  case atStart => exact ⟨0, Nat.zero_le _, rfl, by rw [← U_zero]; rfl⟩
  case round =>
    obtain ⟨k, hk, rfl, rfl⟩ := hrel
    match k, hk with
    | 0, _ =>
      go_wp2
      go_round
      case rel => exact ⟨1, by omega, rfl, by first | rfl | simp [pre, w4]⟩
      case measure => simp [intOf]
    | 1, _ =>
      go_wp2
      go_round
      case rel => exact ⟨2, by omega, rfl, by first | rfl | simp [pre, w4]⟩
      case measure => simp [intOf]
    | 2, _ =>
      go_wp2
      go_round
      case rel => exact ⟨3, by omega, rfl, by first | rfl | simp [pre, w4]⟩
      case measure => simp [intOf]
    | 3, _ =>
      go_wp2
      go_round
      case rel => exact ⟨4, by omega, rfl, by first | rfl | simp [pre, w4]⟩
      case measure => simp [intOf]
    | 4, _ =>
      go_wp2
      go_ret
      exact ⟨rfl, rfl⟩
    | k + 5, h => omega
end Go.Proofs.YtdiplknlkmealaaDoor
