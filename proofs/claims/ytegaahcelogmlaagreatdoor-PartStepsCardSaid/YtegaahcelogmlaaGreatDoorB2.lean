/-
  Words for the walks: bytes and 32 bit words as the numbers that they are, and what the operations on them come to. Nothing of any program is named here.
  The walk through package crc's More.
  The walks through package crc's Of, Number and the chapter's example.
  First.
  The two tables of sums, where memory of the call's own is made.
-/
import Derived.Test.YtegaahcelogmlaaGreatDoorTable
import Derived.Test.YtegaahcelogmlaaGreatDoorT1
import Derived.WalkKit
import Derived.ProofKit
import Derived.Below
import Derived.Deep.Draws
import Derived.Test.YtegaahcelogmlaaGreatDoorRows
import Derived.BigQuiet
import Derived.Deep.QuietTactic
import Derived.Outline
import Derived.Deep.LoopGhost
import Derived.LoopTactic
import Derived.Laws.BitsAllLaws
import Derived.Lib.SlBytesConst
namespace Go.Proofs.YtegaahcelogmlaaGreatDoor
open Go.RowKit Crc

/-- A word of 32 bits as the number that it is. -/
def U (c : BitVec 32) : Int := (c.toNat : Int)
theorem U_lo (c : BitVec 32) : 0 ≤ U c := by unfold U; omega
theorem U_hi (c : BitVec 32) : U c < 4294967296 := by unfold U; have := c.isLt; omega
theorem U_inj {a b : BitVec 32} (h : U a = U b) : a = b := by unfold U at h; exact BitVec.eq_of_toNat_eq (by omega)
theorem U_of (n : Int) (h : 0 ≤ n) (h1 : n < 4294967296) : ∃ c, n = U c := ⟨BitVec.ofNat 32 n.toNat, by unfold U; rw [BitVec.toNat_ofNat]; omega⟩
theorem x32 (a b : BitVec 32) : bits .xor .u32 (U a) (U b) = U (a ^^^ b) := by
  unfold U
  rw [u32_xor_nat _ _ a.isLt b.isLt]; simp
theorem n32 (a : BitVec 32) : bits .xor .u32 IntKind.u32.max (U a) = U (~~~a) := by
  have := x32 (~~~0#32) a
  rw [show U (~~~0#32 : BitVec 32) = IntKind.u32.max from by decide] at this
  rw [this]; congr 1
theorem mod256 (c : BitVec 32) : U c % (256 : Int) = B (u8 c) := by
  unfold U B u8
  simp
theorem wrap8 (c : BitVec 32) : IntKind.u8.wrap (U c) = B (u8 c) := by
  rw [IntKind.wrap_u8, mod256]
theorem div256 (c : BitVec 32) : U c / (256 : Int) = U (c >>> 8) := by
  unfold U
  rw [BitVec.toNat_ushiftRight, Nat.shiftRight_eq_div_pow]; simp
theorem div16 (c : UInt8) : B c / (16 : Int) = B (c >>> 4) := by
  unfold B
  rw [shr4]; simp
theorem xs32 (a b : BitVec 32) : bits .xor .u32 (U a / (256 : Int)) (U b) = U (a >>> 8 ^^^ b) := by rw [div256, x32]
theorem Bd16toNat (c : UInt8) : (B c / (16 : Int)).toNat = idx (c >>> 4) := by rw [div16, BtoNat]
theorem Bd16_lo (c : UInt8) : 0 ≤ B c / 16 := by have := B_lo c; omega
theorem Bd16_hi (c : UInt8) : B c / 16 < 16 := by have := B_hi c; omega
theorem B15 (y : UInt8) : B (y &&& 15) < 16 := by unfold B; rw [and15]; omega
theorem B4 (y : UInt8) : B (y >>> 4) < 16 := by unfold B; rw [shr4]; have := y.toNat_lt; omega

theorem beqU (a : BitVec 32) (h : a ≠ 0#32) : (U a == 0) = false := by
  simp only [beq_eq_false_iff_ne]; intro e; exact h (U_inj (e.trans (by decide)))
theorem bneU (a : BitVec 32) (h : a ≠ 0#32) : (U a != 0) = true := by
  simp only [bne, beqU a h]; rfl
theorem U_zero : U 0#32 = 0 := by decide
theorem and_top (a : BitVec 32) : bits .and .u32 (U a) 2147483648 = if a.getLsbD 31 then 2147483648 else 0 := by
  unfold U
  rw [show (2147483648 : Int) = ((2147483648 : Nat) : Int) from rfl, u32_and_nat _ _ a.isLt (by omega)]
  have h := nat_bit 31 a.toNat
  rw [show (2 : Nat) ^ 31 = 2147483648 from rfl] at h
  rw [h, BitVec.getLsbD, Nat.testBit_eq_decide_div_mod_eq]
  rw [show (2 : Nat) ^ 31 = 2147483648 from rfl]
  rcases Nat.mod_two_eq_zero_or_one (a.toNat / 2147483648) with e | e <;> simp [e]
theorem and_low (a : BitVec 32) : bits .and .u32 (U a) 1 = if a.getLsbD 0 then 1 else 0 := by
  unfold U
  rw [show (1 : Int) = ((1 : Nat) : Int) from rfl, u32_and_nat _ _ a.isLt (by omega)]
  rw [nat_mask1, BitVec.getLsbD, Nat.testBit_eq_decide_div_mod_eq]
  rcases Nat.mod_two_eq_zero_or_one a.toNat with e | e <;> simp [e]
theorem div2 (c : BitVec 32) : U c / (2 : Int) = U (c >>> 1) := by
  unfold U
  rw [BitVec.toNat_ushiftRight, Nat.shiftRight_eq_div_pow]; simp
theorem mul2 (c : BitVec 32) : U c * (2 : Int) % (4294967296 : Int) = U (c <<< 1) := by
  unfold U
  rw [BitVec.toNat_shiftLeft, Nat.shiftLeft_eq]; simp
theorem st_one (c : BitVec 32) (h : c.getLsbD 0 = true) : bits .xor .u32 (U c / (2 : Int)) 2197175160 = U (st c) := by
  rw [div2, show (2197175160 : Int) = U poly from by decide, x32]
  unfold st; rw [h]; simp
theorem st_nil (c : BitVec 32) (h : c.getLsbD 0 = false) : bits .xor .u32 (U c / (2 : Int)) 0 = U (st c) := by
  rw [div2, show (0 : Int) = U 0#32 from by decide, x32]
  unfold st; rw [h]; simp
theorem st_nil' (c : BitVec 32) (h : c.getLsbD 0 = false) : U c / (2 : Int) = U (st c) := by
  rw [div2]
  unfold st; rw [h]; simp

/-- A byte as a word. -/
def w8 (x : UInt8) : BitVec 32 := x.toBitVec.setWidth 32
theorem cv8 (x : UInt8) : IntKind.u32.wrap (B x) = U (w8 x) := by
  have h1 := B_lo x
  have h2 := B_hi x
  rw [IntKind.wrap_u32, Int.emod_eq_of_lt h1 (by omega)]
  unfold B U w8
  simp
end Go.Proofs.YtegaahcelogmlaaGreatDoor

namespace Go.Proofs.YtegaahcelogmlaaGreatDoor
open Go.RowKit Crc

attribute [local go_sem] BtoNat x32 n32 x8 and8_15 mod256 wrap8 xs32 Bd16toNat

/-
  The walk through package crc's More.
-/
structure Tabs (w : World) : Prop where
  lo : ∀ y : UInt8, w.cell? ⟨4, idx (y &&& 15), none⟩ = some (.int .u32 (U (low y)))
  hi : ∀ y : UInt8, w.cell? ⟨5, idx (y >>> 4), none⟩ = some (.int .u32 (U (high y)))

theorem cell_lt {w : World} {b o : Nat} {v : Value} (h : w.cell? ⟨b, o, none⟩ = some v) : b < w.heap.size := by
  rcases Nat.lt_or_ge b w.heap.size with h1 | h1
  · exact h1
  · exfalso
    simp [World.cell?, Array.getElem?_eq_none h1] at h
theorem Tabs.lt {w : World} (h : Tabs w) : 4 < w.heap.size ∧ 5 < w.heap.size := ⟨cell_lt (h.lo 0), cell_lt (h.hi 0)⟩
theorem take_snoc (l : List UInt8) (k : Nat) (h : k < l.length) : l.take (k + 1) = l.take k ++ [l[k]] := List.take_succ_eq_append_getElem h

set_option maxHeartbeats 400000 in
theorem more_any (A : Option Addr) (cap : Nat) (l : List UInt8) (s : BitVec 32) (w : World)
   (hl : l.length ≤ 9223372036854775807) (hr : Reads w A l) (ht : Tabs w) :
    Calls Tryz.prog 27 #[.int .u32 (U s), .slice A l.length cap] w fun e w' => e = .returned (.int .u32 (U (more s l))) ∧ ∃ n, w' = w.drewN n := by
  have HR := hide hr
  have HT := hide ht
  clear hr ht
  go_enter Tryz.func27, Tryz.ntmps27
  go_wp2
  go_loopw [5, 12] (fun r i wr => ∃ k : Nat, k ≤ l.length ∧ i = .int .i64 k ∧ r = .int .u32 (U (feed (~~~s) (l.take k))) ∧ ∃ n, wr = w.drewN n) (fun _ i _ => l.length - (intOf i).toNat)
  case atStart => exact ⟨0, Nat.zero_le _, rfl, rfl, 0, rfl⟩
  case round =>
    obtain ⟨k, hk, rfl, rfl, n, rfl⟩ := hrel
    by_cases hlt : k < l.length
    · have hs : U (feed (~~~s) (l.take (k + 1))) = U (tab (feed (~~~s) (l.take k)) l[k]) := by rw [take_snoc l k hlt, feed_snoc, tab_eq]
      have HS := hide hs
      clear hs
      generalize feed (~~~s) (l.take k) = C at *
      rcases HR.out with rfl | ⟨b, off, rfl, hb, hc⟩
      · simp at hlt
      have hcell := hc k hlt
      clear hc
      have hlo := HT.out.lo (l[k] ^^^ u8 C)
      have hhi := HT.out.hi (l[k] ^^^ u8 C)
      have b1 := B_lo ((l[k] ^^^ u8 C) &&& 15)
      have b2 := B15 (l[k] ^^^ u8 C)
      have b3 := Bd16_lo (l[k] ^^^ u8 C)
      have b4 := Bd16_hi (l[k] ^^^ u8 C)
      go_wp2
      go_quiet (fail)
      go_wp2
      go_roundw
      case rel => exact ⟨k + 1, by omega, by go_num, by rw [HS.out]; rfl, _, rfl⟩
      case measure => simp [intOf]; omega
    · have : k = l.length := by omega
      subst this
      go_wp2
      go_ret
      exact ⟨by rw [List.take_length]; rfl, n, rfl⟩
end Go.Proofs.YtegaahcelogmlaaGreatDoor

namespace Go.Proofs.YtegaahcelogmlaaGreatDoor
open Go.RowKit Crc
attribute [local go_sem] BtoNat x32 n32 x8 and8_15 mod256 wrap8 xs32 Bd16toNat mul2

theorem more_drewN {w : World} {n : Nat} (h : Tabs w) : Tabs (w.drewN n) := ⟨h.lo, h.hi⟩
theorem flat_snoc (ps : List Part) (k : Nat) (h : k < ps.length) : flat (ps.take (k + 1)) = flat (ps.take k) ++ ps[k].l := by
  unfold flat; rw [List.take_succ_eq_append_getElem h]; simp only [List.flatMap_append, List.flatMap_cons, List.flatMap_nil, List.append_nil]

set_option maxHeartbeats 400000 in
theorem of_any (A : Option Addr) (cap : Nat) (ps : List Part) (w : World) (hl : ps.length ≤ 9223372036854775807) (hr : ReadsAll w A ps) (ht : Tabs w) :
    Calls Tryz.prog 18 #[.slice A ps.length cap] w fun e w' => e = .returned (.int .u32 (U (sum (flat ps)))) ∧ ∃ n, w' = w.drewN n := by
  have HR := hide hr
  have HT := hide ht
  clear hr ht
  go_enter Tryz.func18, Tryz.ntmps18
  go_wp2
  go_loopw [3, 8] (fun s i wr => ∃ k : Nat, k ≤ ps.length ∧ i = .int .i64 k ∧ s = .int .u32 (U (sum (flat (ps.take k)))) ∧ ∃ n, wr = w.drewN n) (fun _ i _ => ps.length - (intOf i).toNat)
  case atStart => exact ⟨0, Nat.zero_le _, rfl, by show _ = Value.int _ (U (sum [])); rw [sum_nil, U_zero], 0, rfl⟩
  case round =>
    obtain ⟨k, hk, rfl, rfl, n, rfl⟩ := hrel
    by_cases hlt : k < ps.length
    · have hs : sum (flat (ps.take (k + 1))) = more (sum (flat (ps.take k))) ps[k].l := by rw [flat_snoc ps k hlt, more_sum]
      have HS := hide hs
      clear hs
      generalize sum (flat (ps.take k)) = C at *
      rcases HR.out with rfl | ⟨b, off, rfl, hb, hc⟩
      · simp at hlt
      obtain ⟨hcell, hlen, hread⟩ := hc k hlt
      have HC := more_any ps[k].a ps[k].cap ps[k].l C (w.drewN n) hlen (hread.drewN n) (more_drewN HT.out)
      have HCC := hide HC
      unfold Part.val at hcell
      generalize ps[k].a = A' at *
      generalize ps[k].l = L at *
      generalize ps[k].cap = c' at *
      clear hc HC hread
      go_wp2_with (go_at_call 27; refine HCC.out.mono ?_; rintro e w' ⟨rfl, m, rfl⟩)
      go_roundw
      case rel => exact ⟨k + 1, by omega, by go_num, by rw [HS.out], n + m, rfl⟩
      case measure => simp [intOf]; omega
    · have : k = ps.length := by omega
      subst this
      go_wp2
      go_ret
      exact ⟨by rw [List.take_length]; rfl, n, rfl⟩

end Go.Proofs.YtegaahcelogmlaaGreatDoor

namespace Go.Proofs.YtegaahcelogmlaaGreatDoor
open Go.RowKit Crc

theorem Tabs.alloc {w : World} (h : Tabs w) (_ : 4 ≤ w.heap.size) (o : Obj) : Tabs (w.alloc o) :=
  ⟨fun y => (World.cell?_alloc_lt w o _ h.lt.1).trans (h.lo y), fun y => (World.cell?_alloc_lt w o _ h.lt.2).trans (h.hi y)⟩
def digits : List UInt8 := [49, 50, 51, 52, 53, 54, 55, 56, 57]
theorem sum_digits : sum digits = 3808858755#32 := by decide +kernel
theorem of_at (A : Option Addr) (cap n : Nat) (ps : List Part) (w : World) (hn : ps.length = n) (hl : n ≤ 9223372036854775807) (hr : ReadsAll w A ps) (ht : Tabs w) :
    Calls Tryz.prog 18 #[.slice A n cap] w fun e w' => e = .returned (.int .u32 (U (sum (flat ps)))) ∧ ∃ n, w' = w.drewN n := by
  subst hn; exact of_any A cap ps w hl hr ht
theorem digits_cells : (digits.map fun x => Value.int .u8 (B x)).toArray = #[Value.int .u8 49, Value.int .u8 50, Value.int .u8 51, Value.int .u8 52, Value.int .u8 53, Value.int .u8 54, Value.int .u8 55, Value.int .u8 56, Value.int .u8 57] := by
  simp [digits, B]
theorem U_digits : U 3808858755#32 = 3808858755 := by decide

end Go.Proofs.YtegaahcelogmlaaGreatDoor

namespace Go.Proofs.YtegaahcelogmlaaGreatDoor
open Go.RowKit Crc

/-- (Till round 2 it asked '4 ≤ C': where the tables lay in that seat.) -/
theorem Tabs.below {w w' : World} {C : Nat} (h : Tabs w) (hb : Below C w w') (hC : w.heap.size ≤ C) : Tabs w' :=
  ⟨fun y => (hb.cell (Nat.lt_of_lt_of_le h.lt.1 hC)).trans (h.lo y), fun y => (hb.cell (Nat.lt_of_lt_of_le h.lt.2 hC)).trans (h.hi y)⟩
end Go.Proofs.YtegaahcelogmlaaGreatDoor
