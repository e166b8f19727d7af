/-
  The walks through package crc's Of, Number and the chapter's example.
-/
import Derived.Test.YthemdcdgiccjkaaDoorMore
import Derived.Test.YthemdcdgiccjkaaDoorHNum
namespace Go.Proofs.YthemdcdgiccjkaaDoor
open Go.RowKit Crc
attribute [local go_sem] BtoNat x32 n32 x8 and8_15 mod256 wrap8 xs32 Bd16toNat mul2

theorem more_drewN {w : World} {n : Nat} (h : Tabs w) : Tabs (w.drewN n) := ⟨h.lo, h.hi⟩
theorem flat_snoc (ps : List Part) (k : Nat) (h : k < ps.length) : flat (ps.take (k + 1)) = flat (ps.take k) ++ ps[k].l := by
  unfold flat; rw [List.take_succ_eq_append_getElem h]; simp only [List.flatMap_append, List.flatMap_cons, List.flatMap_nil, List.append_nil]

set_option maxHeartbeats 400000 in
theorem of_any (A : Option Addr) (cap : Nat) (ps : List Part) (w : World) (hl : ps.length ≤ 9223372036854775807) (hr : ReadsAll w A ps) (ht : Tabs w) :
    Calls Tryd.prog 36 #[.slice A ps.length cap] w fun e w' => e = .returned (.int .u32 (U (sum (flat ps)))) ∧ ∃ n, w' = w.drewN n := by
  have HR := hide hr
  have HT := hide ht
  clear hr ht
  go_enter Tryd.func36, Tryd.ntmps36
  go_wp2
  go_loopw [3, 8] (fun s i wr => ∃ k : Nat, k ≤ ps.length ∧ i = .int .i64 k ∧ s = .int .u32 (U (sum (flat (ps.take k)))) ∧ ∃ n, wr = w.drewN n) (fun _ i _ => ps.length - (intOf i).toNat)
  case atStart => exact ⟨0, Nat.zero_le _, rfl, by show _ = Value.int _ (U (sum [])); rw [sum_nil, U_zero], 0, rfl⟩
  case round =>
    obtain ⟨k, hk, rfl, rfl, n, rfl⟩ := hrel
    by_cases hlt : k < ps.length
    · have hs : sum (flat (ps.take (k + 1))) = more (sum (flat (ps.take k))) ps[k].l := by rw [flat_snoc ps k hlt, more_sum]
      have HS := hide hs
      clear hs
      generalize sum (flat (ps.take k)) = C at *
      rcases HR.out with rfl | ⟨b, off, rfl, hb, hc⟩
      · simp at hlt
      obtain ⟨hcell, hlen, hread⟩ := hc k hlt
      have HC := more_any ps[k].a ps[k].cap ps[k].l C (w.drewN n) hlen (hread.drewN n) (more_drewN HT.out)
      have HCC := hide HC
      unfold Part.val at hcell
      generalize ps[k].a = A' at *
      generalize ps[k].l = L at *
      generalize ps[k].cap = c' at *
      clear hc HC hread
      go_wp2_with (go_at_call 78; refine HCC.out.mono ?_; rintro e w' ⟨rfl, m, rfl⟩)
      go_roundw
      case rel => exact ⟨k + 1, by omega, by go_num, by rw [HS.out], n + m, rfl⟩
      case measure => simp [intOf]; omega
    · have : k = ps.length := by omega
      subst this
      go_wp2
      go_ret
      exact ⟨by rw [List.take_length]; rfl, n, rfl⟩

end Go.Proofs.YthemdcdgiccjkaaDoor
