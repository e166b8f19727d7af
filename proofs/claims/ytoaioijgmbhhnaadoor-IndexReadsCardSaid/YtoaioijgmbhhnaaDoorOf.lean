/-
  The walks through package crc's Of, Number and the chapter's example.
  First.
  The two tables of sums, where memory of the call's own is made.
-/
import Derived.Test.YtoaioijgmbhhnaaDoorMore
import Derived.Test.YtoaioijgmbhhnaaDoorHSame
import Derived.Lib.SlBytesConst
import Derived.Outline
import Derived.Test.YtoaioijgmbhhnaaDoorOwnB
namespace Go.Proofs.YtoaioijgmbhhnaaDoor
open Go.RowKit Crc
attribute [local go_sem] BtoNat x32 n32 x8 and8_15 mod256 wrap8 xs32 Bd16toNat mul2

theorem more_drewN {w : World} {n : Nat} (h : Tabs w) : Tabs (w.drewN n) := ⟨h.lo, h.hi⟩
theorem flat_snoc (ps : List Part) (k : Nat) (h : k < ps.length) : flat (ps.take (k + 1)) = flat (ps.take k) ++ ps[k].l := by
  unfold flat; rw [List.take_succ_eq_append_getElem h]; simp only [List.flatMap_append, List.flatMap_cons, List.flatMap_nil, List.append_nil]

set_option maxHeartbeats 400000 in
theorem of_any (A : Option Addr) (cap : Nat) (ps : List Part) (w : World) (hl : ps.length ≤ 9223372036854775807) (hr : ReadsAll w A ps) (ht : Tabs w) :
    Calls Tryd.prog 87 #[.slice A ps.length cap] w fun e w' => e = .returned (.int .u32 (U (sum (flat ps)))) ∧ ∃ n, w' = w.drewN n := by
  have HR := hide hr
  have HT := hide ht
  clear hr ht
  go_enter Tryd.func87, Tryd.ntmps87
  go_wp2
  go_loopw [3, 8] (fun s i wr => ∃ k : Nat, k ≤ ps.length ∧ i = .int .i64 k ∧ s = .int .u32 (U (sum (flat (ps.take k)))) ∧ ∃ n, wr = w.drewN n) (fun _ i _ => ps.length - (intOf i).toNat)
  case atStart => exact ⟨0, Nat.zero_le _, rfl, by show _ = Value.int _ (U (sum [])); rw [sum_nil, U_zero], 0, rfl⟩
  case round =>
    obtain ⟨k, hk, rfl, rfl, n, rfl⟩ := hrel
    by_cases hlt : k < ps.length
    · have hs : sum (flat (ps.take (k + 1))) = more (sum (flat (ps.take k))) ps[k].l := by rw [flat_snoc ps k hlt, more_sum]
      have HS := hide hs
      clear hs
      generalize sum (flat (ps.take k)) = C at *
      rcases HR.out with rfl | ⟨b, off, rfl, hb, hc⟩
      · simp at hlt
      obtain ⟨hcell, hlen, hread⟩ := hc k hlt
      have HC := more_any ps[k].a ps[k].cap ps[k].l C (w.drewN n) hlen (hread.drewN n) (more_drewN HT.out)
      have HCC := hide HC
      unfold Part.val at hcell
      generalize ps[k].a = A' at *
      generalize ps[k].l = L at *
      generalize ps[k].cap = c' at *
      clear hc HC hread
      go_wp2_with (go_at_call 106; refine HCC.out.mono ?_; rintro e w' ⟨rfl, m, rfl⟩)
      go_roundw
      case rel => exact ⟨k + 1, by omega, by go_num, by rw [HS.out], n + m, rfl⟩
      case measure => simp [intOf]; omega
    · have : k = ps.length := by omega
      subst this
      go_wp2
      go_ret
      exact ⟨by rw [List.take_length]; rfl, n, rfl⟩

end Go.Proofs.YtoaioijgmbhhnaaDoor

namespace Go.Proofs.YtoaioijgmbhhnaaDoor
open Go.RowKit Crc

theorem Tabs.alloc {w : World} (h : Tabs w) (_ : 4 ≤ w.heap.size) (o : Obj) : Tabs (w.alloc o) :=
  ⟨fun y => (World.cell?_alloc_lt w o _ h.lt.1).trans (h.lo y), fun y => (World.cell?_alloc_lt w o _ h.lt.2).trans (h.hi y)⟩
def digits : List UInt8 := [49, 50, 51, 52, 53, 54, 55, 56, 57]
theorem sum_digits : sum digits = 3808858755#32 := by decide +kernel
theorem of_at (A : Option Addr) (cap n : Nat) (ps : List Part) (w : World) (hn : ps.length = n) (hl : n ≤ 9223372036854775807) (hr : ReadsAll w A ps) (ht : Tabs w) :
    Calls Tryd.prog 87 #[.slice A n cap] w fun e w' => e = .returned (.int .u32 (U (sum (flat ps)))) ∧ ∃ n, w' = w.drewN n := by
  subst hn; exact of_any A cap ps w hl hr ht
theorem digits_cells : (digits.map fun x => Value.int .u8 (B x)).toArray = #[Value.int .u8 49, Value.int .u8 50, Value.int .u8 51, Value.int .u8 52, Value.int .u8 53, Value.int .u8 54, Value.int .u8 55, Value.int .u8 56, Value.int .u8 57] := by
  simp [digits, B]
theorem U_digits : U 3808858755#32 = 3808858755 := by decide

end Go.Proofs.YtoaioijgmbhhnaaDoor

namespace Go.Proofs.YtoaioijgmbhhnaaDoor
open Go.RowKit Crc

/-- (Till round 2 it asked '4 ≤ C': where the tables lay in that seat.) -/
theorem Tabs.below {w w' : World} {C : Nat} (h : Tabs w) (hb : Below C w w') (hC : w.heap.size ≤ C) : Tabs w' :=
  ⟨fun y => (hb.cell (Nat.lt_of_lt_of_le h.lt.1 hC)).trans (h.lo y), fun y => (hb.cell (Nat.lt_of_lt_of_le h.lt.2 hC)).trans (h.hi y)⟩
end Go.Proofs.YtoaioijgmbhhnaaDoor
