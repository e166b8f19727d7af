/-
  The statements' own equality of records and batches, where they are the same.
-/
import Derived.Test.YtomnkgppldgpkaaDoorRcU
import Derived.Test.YtomnkgppldgpkaaDoorHSame
import Derived.Test.YtomnkgppldgpkaaDoorRegion
namespace Go.Proofs.YtomnkgppldgpkaaDoor
open Go.RowKit

theorem sameBytes_eq (A A' : Option Addr) (cap cap' n : Nat) (l : List UInt8) (w : World) (hn : l.length = n) (hl : n ≤ 1000000) (hr : Reads w A l) (hr' : Reads w A' l) :
    Calls Tryd.prog 26 #[.slice A n cap, .slice A' n cap'] w fun e w' => e = .returned (.bool true) ∧ ∃ k, w' = w.drewN k :=
  (sameBytes_any A A' cap cap' n n l l w hn hn hl hl hr hr').mono fun e w' ⟨he, hw⟩ => ⟨by rw [he]; simp, hw⟩

abbrev recV (t : Int) (A : Option Addr) (n c : Nat) (A' : Option Addr) (n' c' : Nat) : Value := .agg #[.int .i64 t, .slice A n c, .slice A' n' c']

set_option maxRecDepth 100000 in
set_option maxHeartbeats 1000000 in
theorem sameRecord_eq (t : Int) (k v : List UInt8) (A B_ A' B' : Option Addr) (ca cb ca' cb' nk nv : Nat) (w : World) (hk : k.length = nk) (hv : v.length = nv) (hkl : nk ≤ 1000000) (hvl : nv ≤ 1000000) (h1 : Reads w A k) (h2 : Reads w B_ v) (h3 : Reads w A' k) (h4 : Reads w B' v) :
    Calls Tryd.prog 15 #[recV t A nk ca B_ nv cb, recV t A' nk ca' B' nv cb'] w fun e w' => e = .returned (.bool true) ∧ Below w.heap.size w w' := by
  obtain ⟨W1, hW1⟩ : ∃ W1, W1 = w.alloc (.cells #[.int .i64 t, .slice A nk ca, .slice B_ nv cb] 48) := ⟨_, rfl⟩
  obtain ⟨m0, m1, m2⟩ := made3 w (.int .i64 t) (.slice A nk ca) (.slice B_ nv cb) 48
  obtain ⟨W2, hW2⟩ : ∃ W2, W2 = W1.alloc (.cells #[.int .i64 t, .slice A' nk ca', .slice B' nv cb'] 48) := ⟨_, rfl⟩
  obtain ⟨n0, n1, n2⟩ := made3 W1 (.int .i64 t) (.slice A' nk ca') (.slice B' nv cb') 48
  rw [← hW1] at m0 m1 m2
  rw [← hW2] at n0 n1 n2
  have b1 : Below w.heap.size w W1 := hW1 ▸ balloc (Below.refl _ _) _
  have b2 : Below W1.heap.size W1 W2 := hW2 ▸ balloc (Below.refl _ _) _
  have z1 : W1.heap.size = w.heap.size + 1 := by rw [hW1]; simp
  have o0 := (b2.cell (p := ⟨w.heap.size, 0, none⟩) (by show w.heap.size < _; omega)).trans m0
  have o1 := (b2.cell (p := ⟨w.heap.size, 1, none⟩) (by show w.heap.size < _; omega)).trans m1
  have o2 := (b2.cell (p := ⟨w.heap.size, 2, none⟩) (by show w.heap.size < _; omega)).trans m2
  rw [z1] at n0 n1 n2
  have hb := b1.trans (b2.mono b1.size)
  have HB := hide hb
  have HK := hide (fun q => sameBytes_eq A A' ca ca' nk k (W2.drewN q) hk hkl ((h1.below hb (Nat.le_refl _)).drewN q) ((h3.below hb (Nat.le_refl _)).drewN q))
  have HV := hide (fun q => sameBytes_eq B_ B' cb cb' nv v (W2.drewN q) hv hvl ((h2.below hb (Nat.le_refl _)).drewN q) ((h4.below hb (Nat.le_refl _)).drewN q))
  have u1 : ((t : Int) == t) = true := by simp
  have hW12 : W2 = (w.alloc (.cells #[.int .i64 t, .slice A nk ca, .slice B_ nv cb] 48)).alloc (.cells #[.int .i64 t, .slice A' nk ca', .slice B' nv cb'] 48) := by rw [hW2, hW1]
  have HW := hide hW12
  clear h1 h2 h3 h4 hk hv m0 m1 m2 b1 b2 z1 hb hW1 hW2 hW12
  go_enter Tryd.func15, Tryd.ntmps15
  go_upto_region 1 with fail
  rw [← HW.out]
  clear HW
  go_wp2_with fail
  refine (HK.out 0).mono ?_
  rintro e w3 ⟨rfl, q, rfl⟩
  rw [World.drewN_zero]
  go_wp2_with fail
  refine (HV.out q).mono ?_
  rintro e w4 ⟨rfl, q2, rfl⟩
  clear HK HV
  go_wp2_with fail
  go_ret
  exact ⟨rfl, below_drewN HB.out _⟩

set_option maxRecDepth 100000 in
set_option maxHeartbeats 2000000 in
theorem sameRecords_eq (A A' : Option Addr) (ca cb n : Nat) (rs : List Rc.Rec) (w : World) (hn : rs.length = n) (hl : n ≤ 1000000) (hr : Recs w A rs) (hr' : Recs w A' rs) (hs : ∀ r ∈ rs, r.k.length ≤ 1000000 ∧ r.v.length ≤ 1000000) :
    Calls Tryd.prog 28 #[.slice A n ca, .slice A' n cb] w fun e w' => e = .returned (.bool true) ∧ Below w.heap.size w w' := by
  subst hn
  have HR := hide hr
  have HR' := hide hr'
  have HS := hide hs
  have u1 : ((rs.length : Int) != rs.length) = false := by simp
  clear hr hr' hs
  go_enter Tryd.func28, Tryd.ntmps28
  go_wp2_with fail
  go_loopw [5] (fun i wr => ∃ k : Nat, k ≤ rs.length ∧ i = .int .i64 k ∧ Below w.heap.size w wr) (fun i _ => rs.length - (intOf i).toNat)
  case atStart => exact ⟨0, Nat.zero_le _, rfl, Below.refl _ _⟩
  case round =>
    obtain ⟨k, hk, rfl, hb⟩ := hrel
    have HBK := hide hb
    clear hb
    by_cases hlt : k < rs.length
    · rcases HR.out with h0 | ⟨b, off, rfl, hb0, hcl⟩
      · rw [h0] at hlt; simp at hlt
      rcases HR'.out with h0 | ⟨b', off', rfl, hb0', hcl'⟩
      · rw [h0] at hlt; simp at hlt
      obtain ⟨Ak, ck, Av, cv, c0, c1, c2, ha, hv⟩ := (hcl k hlt).ex
      obtain ⟨Ak', ck', Av', cv', c0', c1', c2', ha', hv'⟩ := (hcl' k hlt).ex
      have d0 := (HBK.out.cell (p := ⟨b, off + k * 3, none⟩) hb0).trans c0
      have d1 := (HBK.out.cell (p := ⟨b, off + k * 3 + 1, none⟩) hb0).trans c1
      have d2 := (HBK.out.cell (p := ⟨b, off + k * 3 + 2, none⟩) hb0).trans c2
      have d0' := (HBK.out.cell (p := ⟨b', off' + k * 3, none⟩) hb0').trans c0'
      have d1' := (HBK.out.cell (p := ⟨b', off' + k * 3 + 1, none⟩) hb0').trans c1'
      have d2' := (HBK.out.cell (p := ⟨b', off' + k * 3 + 2, none⟩) hb0').trans c2'
      have hzl := HBK.out.size
      have hsz := HS.out (rs.getD k default) (by rw [show rs.getD k default = rs[k] from by simp [List.getD, hlt]]; exact List.getElem_mem hlt)
      clear hcl hcl' c0 c1 c2 c0' c1' c2'
      generalize rs.getD k default = x at *
      obtain ⟨t, ky, vl⟩ := x
      simp only at d0 d1 d2 d0' d1' d2' ha hv ha' hv' hsz
      have HC := hide (fun W (hw : Below wr.heap.size wr W) => sameRecord_eq t ky vl Ak Av Ak' Av' ck cv ck' cv' ky.length vl.length W rfl rfl hsz.1 hsz.2 (ha.reads.below (HBK.out.trans (hw.mono hzl)) (Nat.le_refl _)) (hv.reads.below (HBK.out.trans (hw.mono hzl)) (Nat.le_refl _)) (ha'.reads.below (HBK.out.trans (hw.mono hzl)) (Nat.le_refl _)) (hv'.reads.below (HBK.out.trans (hw.mono hzl)) (Nat.le_refl _)))
      have hbl : b < wr.heap.size := by omega
      have hbl' : b' < wr.heap.size := by omega
      clear ha hv ha' hv' hsz
      go_upto_region 6 with fail
      go_wp2_with fail
      refine wp_region_made [18, 19, 20, 21, 22, 23, 24, 25, 26] (fun d => match d with
        | 18 => .is (.slice (some ⟨b, off, none⟩) rs.length ca) | 19 => .is (.int .i64 k) | 20 => .is (.pointer (some ⟨b, off + k * 3, none⟩)) | 21 => .is (recV t Ak ky.length ck Av vl.length cv)
        | 22 => .is (.slice (some ⟨b', off', none⟩) rs.length cb) | 23 => .is (.int .i64 k) | 24 => .is (.pointer (some ⟨b', off' + k * 3, none⟩)) | 25 => .is (recV t Ak' ky.length ck' Av' vl.length cv')
        | 26 => .is (.bool true) | _ => .any) _ (by kernel_rfl) (by kernel_rfl) rfl (by kernel_rfl) ?_ ?_
      · simp only [List.size_toArray, List.length_cons, List.length_nil, List.take_succ_cons, List.take_zero, StepsOk]
        refine ⟨?_, ?_, ?_, ?_, ?_, ?_, ?_, ?_, ?_, trivial⟩
        all_goals
          intro ev w2 hb hev hd
          have ev0 : ev (.tmp 0) = .slice (some ⟨b, off, none⟩) rs.length ca := hev _ (by simp)
          have ev1 : ev (.tmp 1) = .slice (some ⟨b', off', none⟩) rs.length cb := hev _ (by simp)
          have ev5 : ev (.tmp 5) = .int .i64 k := hev _ (by simp)
          have evf : ∀ f, ev (.func f) = .func (.func f) #[] #[] := fun f => hev _ (by simp)
          have f0 := (hb.cell (p := ⟨b, off + k * 3, none⟩) hbl).trans d0
          have f1 := (hb.cell (p := ⟨b, off + k * 3 + 1, none⟩) hbl).trans d1
          have f2 := (hb.cell (p := ⟨b, off + k * 3 + 2, none⟩) hbl).trans d2
          have f0' := (hb.cell (p := ⟨b', off' + k * 3, none⟩) hbl').trans d0'
          have f1' := (hb.cell (p := ⟨b', off' + k * 3 + 1, none⟩) hbl').trans d1'
          have f2' := (hb.cell (p := ⟨b', off' + k * 3 + 2, none⟩) hbl').trans d2'
          have HB := hide hb
          clear hev hb
          simp [DepsOk, Known.is] at hd
          try simp [OpRuns, execOp, go_sem, Known.is, Below.refl, *]
        · exact HC.out w2 HB.out
      · intro f w2 hb hf
        have e26 : f 26 = .bool true := hf 26 (by simp)
        have HB2 := hide (HBK.out.trans (hb.mono hzl))
        clear hf hb
        simp only [puts]
        go_wp2_with fail
        refine ⟨⟨k + 1, by omega, by go_num, HB2.out⟩, by simp [intOf]; omega⟩
    · obtain rfl : k = rs.length := by omega
      go_wp2_with fail
      go_ret
      exact ⟨rfl, HBK.out⟩

set_option maxRecDepth 100000 in
set_option maxHeartbeats 1000000 in
theorem sameBatch_eq (b : Rc.Bat) (A A' : Option Addr) (ca cb n : Nat) (w : World) (hn : b.recs.length = n) (hl : n ≤ 1000000) (hr : Recs w A b.recs) (hr' : Recs w A' b.recs) (hs : ∀ r ∈ b.recs, r.k.length ≤ 1000000 ∧ r.v.length ≤ 1000000) :
    Calls Tryd.prog 10 #[batV b.base b.epoch A n ca, batV b.base b.epoch A' n cb] w fun e w' => e = .returned (.bool true) ∧ Below w.heap.size w w' := by
  obtain ⟨W1, hW1⟩ : ∃ W1, W1 = w.alloc (.cells #[.int .i64 b.base, .int .i64 b.epoch, .slice A n ca] 26) := ⟨_, rfl⟩
  obtain ⟨m0, m1, m2⟩ := made3 w (.int .i64 b.base) (.int .i64 b.epoch) (.slice A n ca) 26
  obtain ⟨W2, hW2⟩ : ∃ W2, W2 = W1.alloc (.cells #[.int .i64 b.base, .int .i64 b.epoch, .slice A' n cb] 26) := ⟨_, rfl⟩
  obtain ⟨n0, n1, n2⟩ := made3 W1 (.int .i64 b.base) (.int .i64 b.epoch) (.slice A' n cb) 26
  rw [← hW1] at m0 m1 m2
  rw [← hW2] at n0 n1 n2
  have b1 : Below w.heap.size w W1 := hW1 ▸ balloc (Below.refl _ _) _
  have b2 : Below W1.heap.size W1 W2 := hW2 ▸ balloc (Below.refl _ _) _
  have z1 : W1.heap.size = w.heap.size + 1 := by rw [hW1]; simp
  have z2 : W2.heap.size = w.heap.size + 2 := by rw [hW2]; simp; omega
  have o0 := (b2.cell (p := ⟨w.heap.size, 0, none⟩) (by show w.heap.size < _; omega)).trans m0
  have o1 := (b2.cell (p := ⟨w.heap.size, 1, none⟩) (by show w.heap.size < _; omega)).trans m1
  have o2 := (b2.cell (p := ⟨w.heap.size, 2, none⟩) (by show w.heap.size < _; omega)).trans m2
  rw [z1] at n0 n1 n2
  have hb := b1.trans (b2.mono b1.size)
  have HB := hide hb
  have HK := hide (sameRecords_eq A A' ca cb n b.recs W2 hn hl (hr.below hb (Nat.le_refl _)) (hr'.below hb (Nat.le_refl _)) hs)
  have hW12 : W2 = (w.alloc (.cells #[.int .i64 b.base, .int .i64 b.epoch, .slice A n ca] 26)).alloc (.cells #[.int .i64 b.base, .int .i64 b.epoch, .slice A' n cb] 26) := by rw [hW2, hW1]
  have HW := hide hW12
  clear hr hr' hn m0 m1 m2 b1 b2 z1 hb hW1 hW2 hW12 hs
  generalize b.base = ba at *
  generalize b.epoch = ep at *
  have u1 : ((ba : Int) == ba) = true := by simp
  have u2 : ((ep : Int) == ep) = true := by simp
  go_enter Tryd.func10, Tryd.ntmps10
  go_upto_region 1 with fail
  rw [← HW.out]
  clear HW
  go_wp2_with fail
  refine HK.out.mono ?_
  rintro e w3 ⟨rfl, hb3⟩
  have c0 := (hb3.cell (p := ⟨w.heap.size, 0, none⟩) (by show w.heap.size < _; omega)).trans o0
  have c1 := (hb3.cell (p := ⟨w.heap.size, 1, none⟩) (by show w.heap.size < _; omega)).trans o1
  have c2 := (hb3.cell (p := ⟨w.heap.size + 1, 0, none⟩) (by show w.heap.size + 1 < _; omega)).trans n0
  have c3 := (hb3.cell (p := ⟨w.heap.size + 1, 1, none⟩) (by show w.heap.size + 1 < _; omega)).trans n1
  have HB3 := hide (HB.out.trans (hb3.mono (by omega)))
  clear hb3 HK o0 o1 o2 n0 n1 n2
  go_wp2_with fail
  go_ret
  exact ⟨rfl, HB3.out⟩
end Go.Proofs.YtomnkgppldgpkaaDoor
