/-
  The statements' own helper Number.
  The statements' own copy of bytes.
  The statements' own equality of bytes.
  The walks through package crc's Of, Number and the chapter's example.
  First.
  The two tables of sums, where memory of the call's own is made.
-/
import Derived.Test.YtcmgppacipdnaaaGreatDoorQ0
import Derived.WalkKit
import Derived.ProofKit
import Derived.Below
import Derived.BigQuiet
import Derived.Deep.QuietTactic
import Derived.Outline
import Derived.LoopTactic
import Derived.Deep.LoopGhost
import Derived.Lib.SlBytesConst
namespace Go.Proofs.YtcmgppacipdnaaaGreatDoor
open Go.RowKit
attribute [local go_sem] BtoNat x8 and8_15

theorem tmod_up (n b : Int) (hb : 0 < b) (hn : n < 0) (hm : n % b ≠ 0) : n.tmod b = n % b - b := by
  rw [Int.tmod_eq_emod]
  rw [if_neg]
  · simp; omega
  · rintro (h | h)
    · omega
    · exact hm (Int.emod_eq_zero_of_dvd h)
theorem tmod_nil (n b : Int) (hm : n % b = 0) : n.tmod b = 0 := Int.tmod_eq_zero_of_dvd (Int.dvd_of_emod_eq_zero hm)

theorem number_any (n b : Int) (w : World) (hb : 0 < b) (hb1 : b ≤ 9223372036854775807) (h1 : -9223372036854775808 ≤ n) (h2 : n ≤ 9223372036854775807) :
    Calls Tryz.prog 13 #[.int .i64 n, .int .i64 b] w fun e w' => e = .returned (.int .i64 (n % b)) ∧ w = w' := by
  have m1 := Int.emod_nonneg n (show b ≠ 0 by omega)
  have m2 := Int.emod_lt_of_pos n hb
  by_cases h0 : 0 ≤ n
  · go_enter Tryz.func13, Tryz.ntmps13
    go_wp2
    go_ret
    exact ⟨rfl, rfl⟩
  · by_cases hm : n % b = 0
    · have t := tmod_nil n b hm
      rw [hm]
      clear hm m1 m2
      go_enter Tryz.func13, Tryz.ntmps13
      go_wp2
      go_ret
      exact ⟨rfl, rfl⟩
    · have t := tmod_up n b hb (by omega) hm
      have e : n % b - b + b = n % b := by omega
      generalize n % b = r at *
      go_enter Tryz.func13, Tryz.ntmps13
      go_wp2
      go_ret
      exact ⟨rfl, rfl⟩

def num (n : Int) (b : Nat) : Nat := (n % (b : Int)).toNat
theorem num_lt (n : Int) (b : Nat) (h : 0 < b) : num n b < b := by
  unfold num
  have m1 := Int.emod_nonneg n (show (b : Int) ≠ 0 by omega)
  have m2 := Int.emod_lt_of_pos n (show 0 < (b : Int) by omega)
  omega
theorem num_at (n c : Int) (b : Nat) (w : World) (hc : c = b) (hb : 0 < b) (hb1 : b ≤ 9223372036854775807) (h1 : -9223372036854775808 ≤ n) (h2 : n ≤ 9223372036854775807) :
    Calls Tryz.prog 13 #[.int .i64 n, .int .i64 c] w fun e w' => e = .returned (.int .i64 (num n b : Nat)) ∧ w = w' := by
  subst hc
  have m1 := Int.emod_nonneg n (show (b : Int) ≠ 0 by omega)
  refine (number_any n b w (by omega) (by omega) h1 h2).mono fun e w' ⟨he, hw⟩ => ⟨?_, hw⟩
  rw [he]; unfold num; rw [Int.toNat_of_nonneg m1]
end Go.Proofs.YtcmgppacipdnaaaGreatDoor

namespace Go.Proofs.YtcmgppacipdnaaaGreatDoor
open Go.RowKit
attribute [local go_sem] BtoNat x8 and8_15

end Go.Proofs.YtcmgppacipdnaaaGreatDoor

namespace Go.Proofs.YtcmgppacipdnaaaGreatDoor
open Go.RowKit
attribute [local go_sem] BtoNat x8 and8_15

set_option maxHeartbeats 400000 in
theorem sameBytes_any (A A' : Option Addr) (cap cap' n n' : Nat) (l m : List UInt8) (w : World) (hn : l.length = n) (hn' : m.length = n') (hl : n ≤ 1000000) (hl' : n' ≤ 1000000) (hr : Reads w A l) (hr' : Reads w A' m) :
    Calls Tryz.prog 44 #[.slice A n cap, .slice A' n' cap'] w fun e w' => e = .returned (.bool (decide (l = m))) ∧ ∃ k, w' = w.drewN k := by
  by_cases hlen : n = n'
  · subst hlen
    have HR := hide hr
    have HR' := hide hr'
    have HN := hide hn
    have HN' := hide hn'
    clear hr hr' hn hn'
    go_enter Tryz.func44, Tryz.ntmps44
    go_wp2
    go_loopw [5] (fun i wr => ∃ k : Nat, k ≤ n ∧ i = .int .i64 k ∧ l.take k = m.take k ∧ ∃ q, wr = w.drewN q) (fun i _ => n - (intOf i).toNat)
    case atStart => exact ⟨0, Nat.zero_le _, rfl, by simp, 0, rfl⟩
    case round =>
      obtain ⟨k, hk, rfl, htk, q, rfl⟩ := hrel
      have HTK := hide htk
      clear htk
      by_cases hlt : k < n
      · have hkl : k < l.length := by rw [HN.out]; exact hlt
        have hkm : k < m.length := by rw [HN'.out]; exact hlt
        rcases HR.out with rfl | ⟨b, off, rfl, hb, hc⟩
        · simp at hkl
        rcases HR'.out with rfl | ⟨b', off', rfl, hb', hc'⟩
        · simp at hkm
        have hcell := hc k hkl
        have hcell' := hc' k hkm
        have HL : Hid (l.take (k + 1) = l.take k ++ [l.getD k 0]) := by
          show _ = _; rw [List.take_succ_eq_append_getElem hkl]; simp [List.getD, hkl]
        have HM : Hid (m.take (k + 1) = m.take k ++ [m.getD k 0]) := by
          show _ = _; rw [List.take_succ_eq_append_getElem hkm]; simp [List.getD, hkm]
        clear hc hc' hkl hkm
        generalize l.getD k 0 = x at *
        generalize m.getD k 0 = y at *
        by_cases hxy : x = y
        · subst hxy
          go_wp2
          go_quiet (fail)
          go_wp2
          go_roundw
          case rel => exact ⟨k + 1, by omega, by go_num, by rw [HL.out, HM.out, HTK.out], _, rfl⟩
          case measure => simp [intOf]; omega
        · have hne : (B x == B y) = false := by
            rw [beq_eq_false_iff_ne]; intro e; exact hxy (B_inj e)
          have HD : Hid (decide (l = m) = false) := by
            show _ = _
            rw [decide_eq_false_iff_not]
            intro e
            have h2 := HM.out
            rw [← e, HL.out, e] at h2
            have h3 := List.append_cancel_left h2
            simp at h3
            exact hxy h3
          clear hxy
          go_wp2
          go_quiet (fail)
          go_wp2
          go_ret
          exact ⟨by rw [HD.out]; rfl, _, rfl⟩
      · have HE : Hid (decide (l = m) = true) := by
          show _ = _
          rw [decide_eq_true_iff]
          have h1 := HTK.out
          have hkn : k = n := by omega
          rw [hkn, ← HN.out, List.take_length, HN.out, ← HN'.out, List.take_length] at h1
          exact h1
        go_wp2
        go_ret
        exact ⟨by rw [HE.out]; rfl, q, rfl⟩
  · have HD : Hid (decide (l = m) = false) := by
      show _ = _
      rw [decide_eq_false_iff_not]
      intro e; apply hlen; rw [← hn, ← hn', e]
    have hne : ((n : Int) == (n' : Int)) = false := by rw [beq_eq_false_iff_ne]; omega
    have hne2 : ((n : Int) != (n' : Int)) = true := by rw [bne_iff_ne]; omega
    clear hr hr' hn hn' hlen
    go_enter Tryz.func44, Tryz.ntmps44
    go_wp2
    go_ret
    exact ⟨by rw [HD.out]; rfl, 0, rfl⟩
end Go.Proofs.YtcmgppacipdnaaaGreatDoor

namespace Go.Proofs.YtcmgppacipdnaaaGreatDoor
open Go.RowKit Crc
attribute [local go_sem] BtoNat x32 n32 x8 and8_15 mod256 wrap8 xs32 Bd16toNat mul2

theorem more_drewN {w : World} {n : Nat} (h : Tabs w) : Tabs (w.drewN n) := ⟨h.lo, h.hi⟩
theorem flat_snoc (ps : List Part) (k : Nat) (h : k < ps.length) : flat (ps.take (k + 1)) = flat (ps.take k) ++ ps[k].l := by
  unfold flat; rw [List.take_succ_eq_append_getElem h]; simp only [List.flatMap_append, List.flatMap_cons, List.flatMap_nil, List.append_nil]

set_option maxHeartbeats 400000 in
theorem of_any (A : Option Addr) (cap : Nat) (ps : List Part) (w : World) (hl : ps.length ≤ 9223372036854775807) (hr : ReadsAll w A ps) (ht : Tabs w) :
    Calls Tryz.prog 144 #[.slice A ps.length cap] w fun e w' => e = .returned (.int .u32 (U (sum (flat ps)))) ∧ ∃ n, w' = w.drewN n := by
  have HR := hide hr
  have HT := hide ht
  clear hr ht
  go_enter Tryz.func144, Tryz.ntmps144
  go_wp2
  go_loopw [3, 8] (fun s i wr => ∃ k : Nat, k ≤ ps.length ∧ i = .int .i64 k ∧ s = .int .u32 (U (sum (flat (ps.take k)))) ∧ ∃ n, wr = w.drewN n) (fun _ i _ => ps.length - (intOf i).toNat)
  case atStart => exact ⟨0, Nat.zero_le _, rfl, by show _ = Value.int _ (U (sum [])); rw [sum_nil, U_zero], 0, rfl⟩
  case round =>
    obtain ⟨k, hk, rfl, rfl, n, rfl⟩ := hrel
    by_cases hlt : k < ps.length
    · have hs : sum (flat (ps.take (k + 1))) = more (sum (flat (ps.take k))) ps[k].l := by rw [flat_snoc ps k hlt, more_sum]
      have HS := hide hs
      clear hs
      generalize sum (flat (ps.take k)) = C at *
      rcases HR.out with rfl | ⟨b, off, rfl, hb, hc⟩
      · simp at hlt
      obtain ⟨hcell, hlen, hread⟩ := hc k hlt
      have HC := more_any ps[k].a ps[k].cap ps[k].l C (w.drewN n) hlen (hread.drewN n) (more_drewN HT.out)
      have HCC := hide HC
      unfold Part.val at hcell
      generalize ps[k].a = A' at *
      generalize ps[k].l = L at *
      generalize ps[k].cap = c' at *
      clear hc HC hread
      go_wp2_with (go_at_call 175; refine HCC.out.mono ?_; rintro e w' ⟨rfl, m, rfl⟩)
      go_roundw
      case rel => exact ⟨k + 1, by omega, by go_num, by rw [HS.out], n + m, rfl⟩
      case measure => simp [intOf]; omega
    · have : k = ps.length := by omega
      subst this
      go_wp2
      go_ret
      exact ⟨by rw [List.take_length]; rfl, n, rfl⟩

end Go.Proofs.YtcmgppacipdnaaaGreatDoor

namespace Go.Proofs.YtcmgppacipdnaaaGreatDoor
open Go.RowKit Crc

theorem Tabs.alloc {w : World} (h : Tabs w) (_ : 4 ≤ w.heap.size) (o : Obj) : Tabs (w.alloc o) :=
  ⟨fun y => (World.cell?_alloc_lt w o _ h.lt.1).trans (h.lo y), fun y => (World.cell?_alloc_lt w o _ h.lt.2).trans (h.hi y)⟩
def digits : List UInt8 := [49, 50, 51, 52, 53, 54, 55, 56, 57]
theorem of_at (A : Option Addr) (cap n : Nat) (ps : List Part) (w : World) (hn : ps.length = n) (hl : n ≤ 9223372036854775807) (hr : ReadsAll w A ps) (ht : Tabs w) :
    Calls Tryz.prog 144 #[.slice A n cap] w fun e w' => e = .returned (.int .u32 (U (sum (flat ps)))) ∧ ∃ n, w' = w.drewN n := by
  subst hn; exact of_any A cap ps w hl hr ht
end Go.Proofs.YtcmgppacipdnaaaGreatDoor

namespace Go.Proofs.YtcmgppacipdnaaaGreatDoor
open Go.RowKit Crc

/-- (Till round 2 it asked '4 ≤ C': where the tables lay in that seat.) -/
theorem Tabs.below {w w' : World} {C : Nat} (h : Tabs w) (hb : Below C w w') (hC : w.heap.size ≤ C) : Tabs w' :=
  ⟨fun y => (hb.cell (Nat.lt_of_lt_of_le h.lt.1 hC)).trans (h.lo y), fun y => (hb.cell (Nat.lt_of_lt_of_le h.lt.2 hC)).trans (h.hi y)⟩
end Go.Proofs.YtcmgppacipdnaaaGreatDoor
