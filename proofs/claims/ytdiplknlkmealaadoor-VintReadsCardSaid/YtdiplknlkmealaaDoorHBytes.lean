/-
  The statements' own copy of bytes.
-/
import Derived.Test.YtdiplknlkmealaaDoorOwnB
import Derived.WalkKit
import Derived.ProofKit
import Derived.Below
import Derived.BigQuiet
import Derived.Deep.QuietTactic
import Derived.Outline
import Derived.LoopTactic
import Derived.Deep.LoopGhost
namespace Go.Proofs.YtdiplknlkmealaaDoor
open Go.RowKit
attribute [local go_sem] BtoNat x8 and8_15

set_option maxHeartbeats 400000 in
theorem bytes_any (A : Option Addr) (cap n : Nat) (l : List UInt8) (w : World) (hn : l.length = n) (hl : n ≤ 1000000) (hr : Reads w A l) :
    Calls Tryd.prog 25 #[.slice A n cap] w fun e w' => ∃ v, e = .returned v ∧ Own w' w.heap.size v l ∧ Below w.heap.size w w' := by
  have HR := hide hr
  have HN := hide hn
  clear hr hn
  go_enter Tryd.func25, Tryd.ntmps25
  go_wp2_with (at_make; refine wpList_mk rfl (.const (.int .i64 0)) (.tmp 6) rfl 0 n _ _ rfl rfl rfl rfl (by omega) (by omega) ?_; intro w1 hown1 hb1 hs1)
  have HO := hide hown1
  have HB := hide hb1
  clear hown1 hb1 hs1
  go_loopw [3, 4] (fun v i wr => ∃ k : Nat, k ≤ n ∧ i = .int .i64 k ∧ Own wr w.heap.size v (l.take k) ∧ Below w.heap.size w wr) (fun _ i _ => n - (intOf i).toNat)
  case atStart => exact ⟨0, Nat.zero_le _, rfl, HO.out, HB.out⟩
  case round =>
    obtain ⟨k, hk, rfl, ho, hb⟩ := hrel
    have HOK := hide ho
    have HBK := hide hb
    have HLK : Hid ((l.take k).length = k) := by show _ = _; rw [List.length_take, HN.out]; omega
    clear ho hb
    by_cases hlt : k < n
    · have hkl : k < l.length := by rw [HN.out]; exact hlt
      have hA := HR.out
      rcases hA with rfl | ⟨b, off, rfl, hb0, hc0⟩
      · simp at hkl
      have hcell : wr.cell? ⟨b, off + k, none⟩ = some (.int .u8 (B (l.getD k 0))) := (HBK.out.cell (p := ⟨b, off + k, none⟩) hb0).trans (hc0 k hkl)
      have HT : Hid (l.take (k + 1) = l.take k ++ [l.getD k 0]) := by
        show _ = _
        rw [List.take_succ_eq_append_getElem hkl]
        simp [List.getD, hkl]
      clear hc0 hkl
      generalize l.getD k 0 = x at *
      have HBS : Hid (w.heap.size ≤ wr.heap.size) := HBK.out.size
      go_wp2_with (at_builtin; refine wpList_app (w := wr.alloc _) rfl (.tmp 14) (.tmp 19) rfl w.heap.size u3 (l.take k) [x] rfl (HOK.out.alloc _) _ 1 1 rfl rfl (Reads.made _ _ _ _ _ _ (by simp) rfl) (by rw [HLK.out]; omega) (by simp; exact Nat.le_succ_of_le HBS.out) ?_; intro v5 w5 hown5 hg5 hv5)
      have hbn : Below w.heap.size w w5 := (balloc HBK.out _).grown hg5 (by simp; exact Nat.le_succ_of_le HBS.out) (fun g hg => (HOK.out.lt g hg).1)
      have HOW := hide hown5
      have HBN := hide hbn
      clear hown5 hg5 hv5 hbn
      go_wp2_with fail
      go_roundw
      case rel => exact ⟨k + 1, by omega, by go_num, by rw [HT.out]; exact HOW.out, HBN.out⟩
      case measure => simp [intOf]; omega
    · have hkn : k = n := by omega
      have HE : Hid (l.take k = l) := by show _ = _; rw [hkn, ← HN.out, List.take_length]
      clear hkn
      go_wp2_with fail
      go_ret
      exact ⟨_, rfl, by rw [← HE.out]; exact HOK.out, HBK.out⟩
end Go.Proofs.YtdiplknlkmealaaDoor
