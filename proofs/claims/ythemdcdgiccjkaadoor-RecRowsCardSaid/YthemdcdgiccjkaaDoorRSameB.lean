/-
  The statements' own equality of lists of batches, where they are the same.
-/
import Derived.Test.YthemdcdgiccjkaaDoorRcA
import Derived.Test.YthemdcdgiccjkaaDoorRSame
namespace Go.Proofs.YthemdcdgiccjkaaDoor
open Go.RowKit

set_option maxRecDepth 100000 in
set_option maxHeartbeats 2000000 in
theorem sameBatches_eq (A A' : Option Addr) (ca cb n : Nat) (rs : List Rc.Bat) (w : World) (hn : rs.length = n) (hl : n ≤ 1000000) (hr : Bats w A rs) (hr' : Bats w A' rs) (hs : ∀ b ∈ rs, b.recs.length ≤ 1000000 ∧ ∀ r ∈ b.recs, r.k.length ≤ 1000000 ∧ r.v.length ≤ 1000000) :
    Calls Tryd.prog 22 #[.slice A n ca, .slice A' n cb] w fun e w' => e = .returned (.bool true) ∧ Below w.heap.size w w' := by
  subst hn
  have HR := hide hr
  have HR' := hide hr'
  have HS := hide hs
  have u1 : ((rs.length : Int) != rs.length) = false := by simp
  clear hr hr' hs
  go_enter Tryd.func22, Tryd.ntmps22
  go_wp2_with fail
  go_loopw [5] (fun i wr => ∃ k : Nat, k ≤ rs.length ∧ i = .int .i64 k ∧ Below w.heap.size w wr) (fun i _ => rs.length - (intOf i).toNat)
  case atStart => exact ⟨0, Nat.zero_le _, rfl, Below.refl _ _⟩
  case round =>
    obtain ⟨k, hk, rfl, hb⟩ := hrel
    have HBK := hide hb
    clear hb
    by_cases hlt : k < rs.length
    · rcases HR.out with h0 | ⟨b, off, rfl, hb0, hcl⟩
      · rw [h0] at hlt; simp at hlt
      rcases HR'.out with h0 | ⟨b', off', rfl, hb0', hcl'⟩
      · rw [h0] at hlt; simp at hlt
      obtain ⟨Av, cv, c0, c1, c2, hv⟩ := (hcl k hlt).ex
      obtain ⟨Av', cv', c0', c1', c2', hv'⟩ := (hcl' k hlt).ex
      have d0 := (HBK.out.cell (p := ⟨b, off + k * 3, none⟩) hb0).trans c0
      have d1 := (HBK.out.cell (p := ⟨b, off + k * 3 + 1, none⟩) hb0).trans c1
      have d2 := (HBK.out.cell (p := ⟨b, off + k * 3 + 2, none⟩) hb0).trans c2
      have d0' := (HBK.out.cell (p := ⟨b', off' + k * 3, none⟩) hb0').trans c0'
      have d1' := (HBK.out.cell (p := ⟨b', off' + k * 3 + 1, none⟩) hb0').trans c1'
      have d2' := (HBK.out.cell (p := ⟨b', off' + k * 3 + 2, none⟩) hb0').trans c2'
      have hzl := HBK.out.size
      have hsz := HS.out rs[k] (List.getElem_mem hlt)
      clear hcl hcl' c0 c1 c2 c0' c1' c2'
      generalize rs[k] = x at *
      have HC := hide (fun W (hw : Below wr.heap.size wr W) => sameBatch_eq x Av Av' cv cv' x.recs.length W rfl hsz.1 (hv.below (HBK.out.trans (hw.mono hzl)) (Nat.le_refl _)).recs (hv'.below (HBK.out.trans (hw.mono hzl)) (Nat.le_refl _)).recs hsz.2)
      have hbl : b < wr.heap.size := by omega
      have hbl' : b' < wr.heap.size := by omega
      clear hv hv' hsz
      go_upto_region 6 with fail
      go_wp2_with fail
      refine wp_region_made [18, 19, 20, 21, 22, 23, 24, 25, 26] (fun d => match d with
        | 18 => .is (.slice (some ⟨b, off, none⟩) rs.length ca) | 19 => .is (.int .i64 k) | 20 => .is (.pointer (some ⟨b, off + k * 3, none⟩)) | 21 => .is (batV x.base x.epoch Av x.recs.length cv)
        | 22 => .is (.slice (some ⟨b', off', none⟩) rs.length cb) | 23 => .is (.int .i64 k) | 24 => .is (.pointer (some ⟨b', off' + k * 3, none⟩)) | 25 => .is (batV x.base x.epoch Av' x.recs.length cv')
        | 26 => .is (.bool true) | _ => .any) _ (by kernel_rfl) (by kernel_rfl) rfl (by kernel_rfl) ?_ ?_
      · simp only [List.size_toArray, List.length_cons, List.length_nil, List.take_succ_cons, List.take_zero, StepsOk]
        refine ⟨?_, ?_, ?_, ?_, ?_, ?_, ?_, ?_, ?_, trivial⟩
        all_goals
          intro ev w2 hb hev hd
          have ev0 : ev (.tmp 0) = .slice (some ⟨b, off, none⟩) rs.length ca := hev _ (by simp)
          have ev1 : ev (.tmp 1) = .slice (some ⟨b', off', none⟩) rs.length cb := hev _ (by simp)
          have ev5 : ev (.tmp 5) = .int .i64 k := hev _ (by simp)
          have evf : ∀ f, ev (.func f) = .func (.func f) #[] #[] := fun f => hev _ (by simp)
          have f0 := (hb.cell (p := ⟨b, off + k * 3, none⟩) hbl).trans d0
          have f1 := (hb.cell (p := ⟨b, off + k * 3 + 1, none⟩) hbl).trans d1
          have f2 := (hb.cell (p := ⟨b, off + k * 3 + 2, none⟩) hbl).trans d2
          have f0' := (hb.cell (p := ⟨b', off' + k * 3, none⟩) hbl').trans d0'
          have f1' := (hb.cell (p := ⟨b', off' + k * 3 + 1, none⟩) hbl').trans d1'
          have f2' := (hb.cell (p := ⟨b', off' + k * 3 + 2, none⟩) hbl').trans d2'
          have HB := hide hb
          clear hev hb
          simp [DepsOk, Known.is] at hd
          try simp [OpRuns, execOp, go_sem, Known.is, Below.refl, *]
        · exact HC.out w2 HB.out
      · intro f w2 hb hf
        have e26 : f 26 = .bool true := hf 26 (by simp)
        have HB2 := hide (HBK.out.trans (hb.mono hzl))
        clear hf hb
        simp only [puts]
        go_wp2_with fail
        refine ⟨⟨k + 1, by omega, by go_num, HB2.out⟩, by simp [intOf]; omega⟩
    · obtain rfl : k = rs.length := by omega
      go_wp2_with fail
      go_ret
      exact ⟨rfl, HBK.out⟩
end Go.Proofs.YthemdcdgiccjkaaDoor
