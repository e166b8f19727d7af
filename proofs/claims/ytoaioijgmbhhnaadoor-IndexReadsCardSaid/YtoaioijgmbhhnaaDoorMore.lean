/-
  The walk through package crc's More.
-/
import Derived.Test.YtoaioijgmbhhnaaDoorRows
import Derived.Test.YtoaioijgmbhhnaaDoorBits
import Derived.WalkKit
import Derived.ProofKit
import Derived.Below
import Derived.BigQuiet
import Derived.Deep.QuietTactic
import Derived.Outline
import Derived.Deep.LoopGhost
import Derived.Outline
import Derived.LoopTactic
import Derived.Laws.BitsAllLaws
namespace Go.Proofs.YtoaioijgmbhhnaaDoor
open Go.RowKit Crc

attribute [local go_sem] BtoNat x32 n32 x8 and8_15 mod256 wrap8 xs32 Bd16toNat

/-
  The walk through package crc's More.
-/
structure Tabs (w : World) : Prop where
  lo : ∀ y : UInt8, w.cell? ⟨9, idx (y &&& 15), none⟩ = some (.int .u32 (U (low y)))
  hi : ∀ y : UInt8, w.cell? ⟨10, idx (y >>> 4), none⟩ = some (.int .u32 (U (high y)))

theorem cell_lt {w : World} {b o : Nat} {v : Value} (h : w.cell? ⟨b, o, none⟩ = some v) : b < w.heap.size := by
  rcases Nat.lt_or_ge b w.heap.size with h1 | h1
  · exact h1
  · exfalso
    simp [World.cell?, Array.getElem?_eq_none h1] at h
theorem Tabs.lt {w : World} (h : Tabs w) : 9 < w.heap.size ∧ 10 < w.heap.size := ⟨cell_lt (h.lo 0), cell_lt (h.hi 0)⟩
theorem take_snoc (l : List UInt8) (k : Nat) (h : k < l.length) : l.take (k + 1) = l.take k ++ [l[k]] := List.take_succ_eq_append_getElem h

set_option maxHeartbeats 400000 in
theorem more_any (A : Option Addr) (cap : Nat) (l : List UInt8) (s : BitVec 32) (w : World)
   (hl : l.length ≤ 9223372036854775807) (hr : Reads w A l) (ht : Tabs w) :
    Calls Tryd.prog 106 #[.int .u32 (U s), .slice A l.length cap] w fun e w' => e = .returned (.int .u32 (U (more s l))) ∧ ∃ n, w' = w.drewN n := by
  have HR := hide hr
  have HT := hide ht
  clear hr ht
  go_enter Tryd.func106, Tryd.ntmps106
  go_wp2
  go_loopw [5, 12] (fun r i wr => ∃ k : Nat, k ≤ l.length ∧ i = .int .i64 k ∧ r = .int .u32 (U (feed (~~~s) (l.take k))) ∧ ∃ n, wr = w.drewN n) (fun _ i _ => l.length - (intOf i).toNat)
  case atStart => exact ⟨0, Nat.zero_le _, rfl, rfl, 0, rfl⟩
  case round =>
    obtain ⟨k, hk, rfl, rfl, n, rfl⟩ := hrel
    by_cases hlt : k < l.length
    · have hs : U (feed (~~~s) (l.take (k + 1))) = U (tab (feed (~~~s) (l.take k)) l[k]) := by rw [take_snoc l k hlt, feed_snoc, tab_eq]
      have HS := hide hs
      clear hs
      generalize feed (~~~s) (l.take k) = C at *
      rcases HR.out with rfl | ⟨b, off, rfl, hb, hc⟩
      · simp at hlt
      have hcell := hc k hlt
      clear hc
      have hlo := HT.out.lo (l[k] ^^^ u8 C)
      have hhi := HT.out.hi (l[k] ^^^ u8 C)
      have b1 := B_lo ((l[k] ^^^ u8 C) &&& 15)
      have b2 := B15 (l[k] ^^^ u8 C)
      have b3 := Bd16_lo (l[k] ^^^ u8 C)
      have b4 := Bd16_hi (l[k] ^^^ u8 C)
      go_wp2
      go_quiet (fail)
      go_wp2
      go_roundw
      case rel => exact ⟨k + 1, by omega, by go_num, by rw [HS.out]; rfl, _, rfl⟩
      case measure => simp [intOf]; omega
    · have : k = l.length := by omega
      subst this
      go_wp2
      go_ret
      exact ⟨by rw [List.take_length]; rfl, n, rfl⟩
end Go.Proofs.YtoaioijgmbhhnaaDoor
