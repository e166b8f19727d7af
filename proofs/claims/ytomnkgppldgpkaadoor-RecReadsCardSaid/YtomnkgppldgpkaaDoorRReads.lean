/-
  The walk through the statement RecReads.
-/
import Derived.Test.YtomnkgppldgpkaaDoorRfR
import Derived.Test.YtomnkgppldgpkaaDoorRcAll
import Derived.Test.YtomnkgppldgpkaaDoorRcC
import Derived.Test.YtomnkgppldgpkaaDoorRcA
import Derived.Test.YtomnkgppldgpkaaDoorIs
namespace Go.Proofs.YtomnkgppldgpkaaDoor
open Go.RowKit

namespace Rc
theorem rcode_cases (l : List UInt8) : rcode l = 0 ∨ (101 ≤ rcode l ∧ rcode l ≤ 104) := by
  unfold rcode
  split
  · omega
  · split
    · omega
    · split
      · omega
      · split
        · omega
        · split
          · omega
          · omega
theorem rcode_good (l : List UInt8) (h : rcode l = 0) : Good (parse (rbody l)) := by
  unfold rcode at h
  split at h
  · omega
  · split at h
    · omega
    · split at h
      · omega
      · split at h
        · omega
        · split at h
          · rename_i hok
            exact (okay_canon hok).1
          · omega
theorem allGo_good (l : List UInt8) : ∀ (f at_ : Nat) (acc : List Bat), (∀ b ∈ acc, Good b) → (∀ b ∈ (allGo l f at_ acc).1, Good b) ∧ ((allGo l f at_ acc).2.2 = 0 ∨ (101 ≤ (allGo l f at_ acc).2.2 ∧ (allGo l f at_ acc).2.2 ≤ 104)) ∧ (allGo l f at_ acc).1.length ≤ acc.length + f
  | 0, _, acc, h => ⟨h, .inl rfl, Nat.le_refl _⟩
  | f + 1, at_, acc, h => by
    rw [allGo]
    by_cases h1 : at_ < l.length
    · rw [if_pos h1]
      by_cases h2 : rcode (l.drop at_) = 0
      · rw [if_pos h2]
        obtain ⟨i1, i2, i3⟩ := allGo_good l f (at_ + rsize (l.drop at_)) (acc ++ [parse (rbody (l.drop at_))]) (fun b hb => by
          rcases List.mem_append.1 hb with hb | hb
          · exact h b hb
          · obtain rfl := List.mem_singleton.1 hb
            exact rcode_good _ h2)
        refine ⟨i1, i2, ?_⟩
        rw [List.length_append] at i3
        simp at i3
        omega
      · rw [if_neg h2]
        exact ⟨h, (rcode_cases _).imp (fun e => e) (fun e => e), by simp⟩
    · rw [if_neg h1]
      exact ⟨h, .inl rfl, by simp⟩
/-- The batch that is read, or an empty one. -/
def got (l : List UInt8) : Bat := if rcode l = 0 then parse (rbody l) else ⟨0, 0, []⟩
theorem got_small (l : List UInt8) : (got l).recs.length ≤ 64 ∧ ∀ r ∈ (got l).recs, r.k.length ≤ 1000000 ∧ r.v.length ≤ 1000000 := by
  unfold got
  by_cases h : rcode l = 0
  · rw [if_pos h]
    have g := rcode_good l h
    exact ⟨g.n1, fun r hr => by have := g.recs r hr; omega⟩
  · rw [if_neg h]; exact ⟨by simp, fun r hr => by simp at hr⟩
end Rc

theorem read_got (A : Option Addr) (cap n : Nat) (l : List UInt8) (w : World) (p : Nat → Addr) (hn : l.length = n) (hl : n ≤ 900000) (ha : Arg w A cap l) (hs : Sents5 w p) (ht : Tabs w) :
    Calls Tryd.prog 6 #[.slice A n cap] w fun e w' => ∃ A' c, e = .returned (.tuple #[batV (Rc.got l).base (Rc.got l).epoch A' (Rc.got l).recs.length c, .int .i64 (Rc.rsize l : Nat), errOf p (Rc.rcode l)]) ∧ NewBat w.heap.size w' A' c (Rc.got l) ∧ Below w.heap.size w w' := by
  refine (read_any A cap n l w p hn (by omega) ha hs ht).mono fun e w' ⟨⟨val, he, hy, hno⟩, hb⟩ => ?_
  unfold Rc.got
  by_cases h : Rc.rcode l = 0
  · obtain ⟨A', c, hv, hnb⟩ := hy h
    rw [if_pos h]
    exact ⟨A', c, by rw [he, hv], hnb, hb⟩
  · rw [if_neg h]
    exact ⟨none, 0, by rw [he, hno h]; rfl, NewBat.empty _ _, hb⟩
theorem rread_got (A : Option Addr) (cap n : Nat) (l : List UInt8) (w : World) (hn : l.length = n) (hl : n ≤ 900000) (ha : Arg w A cap l) :
    Calls Tryd.prog 7 #[.slice A n cap] w fun e w' => ∃ A' c, e = .returned (.tuple #[batV (Rc.got l).base (Rc.got l).epoch A' (Rc.got l).recs.length c, .int .i64 (Rc.rsize l : Nat), .int .i64 (Rc.rcode l : Nat)]) ∧ NewBat w.heap.size w' A' c (Rc.got l) ∧ Below w.heap.size w w' := by
  refine (rread_any A cap n l w hn hl ha).mono fun e w' ⟨⟨val, he, hy, hno⟩, hb⟩ => ?_
  unfold Rc.got
  by_cases h : Rc.rcode l = 0
  · obtain ⟨A', c, hv, hnb⟩ := hy h
    rw [if_pos h]
    exact ⟨A', c, by rw [he, hv], hnb, hb⟩
  · rw [if_neg h]
    exact ⟨none, 0, by rw [he, hno h]; rfl, NewBat.empty _ _, hb⟩
theorem is_code (w : World) (p : Nat → Addr) (h : Sents w p) (c : Nat) (hc : c = 0 ∨ (101 ≤ c ∧ c ≤ 104)) :
    Calls Tryd.prog 11 #[errOf p c, .int .i64 c] w fun e w' => e = .returned (.bool true) ∧ Below w.heap.size w w' := by
  rcases hc with rfl | ⟨h1, h2⟩
  · refine (is_nil 0 w).mono fun e w' ⟨he, hb⟩ => ⟨by rw [he]; rfl, hb⟩
  · have e : errOf p c = errV (p (c - 101)) := by unfold errOf; rw [if_neg (by omega)]
    rw [e]
    refine (is_sent w p h (c - 101) (by omega) c).mono fun e w' ⟨he, hb⟩ => ⟨?_, hb⟩
    rw [he, decide_eq_true (by omega)]

set_option maxRecDepth 100000 in
set_option maxHeartbeats 2000000 in
theorem rreads_far (A : Option Addr) (cap n : Nat) (w : World) (p : Nat → Addr) (hs : Sents w p) (ht : Tabs w) (hn : 2000 < n) (hm : n ≤ 9223372036854775807) :
    Calls Tryd.prog 3 #[.slice A n cap] w fun e w' => e = .returned (.bool true) ∧ Below w.heap.size w w' := by
  have HF := hide (rfirst_any w p hs.five.two ht)
  have hd : decide ((2000 : Int) < (n : Int)) = true := by simp; omega
  clear hs ht
  go_enter Tryd.func3, Tryd.ntmps3
  go_wp2_with fail
  refine HF.out.mono ?_
  rintro e w1 ⟨rfl, hb1⟩
  go_wp2_with fail
  go_ret
  exact ⟨rfl, hb1⟩

set_option maxRecDepth 100000 in
set_option maxHeartbeats 2000000 in
theorem rreads_near (A : Option Addr) (cap n : Nat) (l : List UInt8) (w : World) (p : Nat → Addr) (hs : Sents w p) (ht : Tabs w) (hn : l.length = n) (ha : Arg w A cap l) (hl : n ≤ 2000) :
    Calls Tryd.prog 3 #[.slice A n cap] w fun e w' => e = .returned (.bool true) ∧ Below w.heap.size w w' := by
  have HF := hide (rfirst_any w p hs.five.two ht)
  have hd : decide ((2000 : Int) < (n : Int)) = false := by simp; omega
  have HS := hide hs
  have HRD := hide (fun W (hb : Below w.heap.size w W) => read_got A cap n l W p hn (by omega) (ha.below hb (Nat.le_refl _)) (hs.below hb).five (ht.below hb (Nat.le_refl _)))
  have HRR := hide (fun W (hb : Below w.heap.size w W) => rread_got A cap n l W hn (by omega) (ha.below hb (Nat.le_refl _)))
  have HAL := hide (fun W (hb : Below w.heap.size w W) => all_any A cap n l W p hn (by omega) (ha.below hb (Nat.le_refl _)) (hs.below hb).five (ht.below hb (Nat.le_refl _)))
  have HRA := hide (fun W (hb : Below w.heap.size w W) => rall_any A cap n l W hn (by omega) (ha.below hb (Nat.le_refl _)))
  have HRC := hide (Rc.rcode_cases l)
  obtain ⟨ga, gc, gl⟩ := Rc.allGo_good l l.length 0 [] (fun b hb => by simp at hb)
  change (∀ b ∈ (Rc.all l).1, Rc.Good b) at ga
  change (Rc.all l).2.2 = 0 ∨ (101 ≤ (Rc.all l).2.2 ∧ (Rc.all l).2.2 ≤ 104) at gc
  have HGA := hide ga
  have HGC := hide gc
  have hlen : (Rc.all l).1.length ≤ 2000 := by
    change (Rc.all l).1.length ≤ _ at gl
    simp at gl
    omega
  have HGS := hide (Rc.got_small l)
  clear hs ht ha ga gc gl hn
  go_enter Tryd.func3, Tryd.ntmps3
  go_wp2_with fail
  refine HF.out.mono ?_
  rintro e w1 ⟨rfl, hb1⟩
  have HB1 := hide hb1
  clear hb1 HF
  go_wp2_with fail
  refine (HRD.out _ HB1.out).mono ?_
  rintro e w2 ⟨A2, c2, rfl, hn2, hb2⟩
  have HN2 := hide hn2
  have HB2 := hide (HB1.out.trans (hb2.mono HB1.out.size))
  clear hn2 hb2 HRD HB1
  unfold RAll at HRA
  unfold AllPost at HAL
  generalize Rc.rcode l = rc at *
  generalize Rc.rsize l = rz at *
  generalize Rc.got l = b at *
  generalize hal : Rc.all l = al at *
  obtain ⟨bs, at_, ac⟩ := al
  simp only at HRA HAL hlen HGA HGC
  clear hal
  go_upto_region 7 with fail
  have px : Res3 (w2.alloc (.cells #[.int .i64 b.base, .int .i64 b.epoch, .slice A2 b.recs.length c2] 26)) w2.heap.size (.int .i64 b.base) (.int .i64 b.epoch) (.slice A2 b.recs.length c2) := Res3.new w2 _ _ _ _
  have hax : Below w2.heap.size w2 (w2.alloc (.cells #[.int .i64 b.base, .int .i64 b.epoch, .slice A2 b.recs.length c2] 26)) := balloc (Below.refl _ _) _
  have hlx : w2.heap.size < (w2.alloc (.cells #[.int .i64 b.base, .int .i64 b.epoch, .slice A2 b.recs.length c2] 26)).heap.size := by simp
  have HPX := hide px
  have HN3 := hide (HN2.out.isBat.below hax (Nat.le_refl _))
  have HB3 := hide (HB2.out.trans (hax.mono HB2.out.size))
  obtain ⟨X, hX⟩ : ∃ X, X = w2.heap.size := ⟨_, rfl⟩
  rw [← hX] at HPX hlx ⊢
  clear px hax hX HN2 HB2
  generalize w2.alloc (.cells #[.int .i64 b.base, .int .i64 b.epoch, .slice A2 b.recs.length c2] 26) = w3 at *
  go_upto_region 8 with fail
  refine (HRR.out _ HB3.out).mono ?_
  rintro e w4 ⟨A4, c4, rfl, hn4, hb4⟩
  have HB4 := hide (HB3.out.trans (hb4.mono HB3.out.size))
  have HPX4 := hide (HPX.out.below hb4 hlx)
  have HN4 := hide (HN3.out.below hb4 (Nat.le_refl _))
  have HM4 := hide hn4
  have hz4 := hb4.size
  clear hn4 hb4 HRR HB3 HPX HN3
  go_upto_region 8 with fail
  have py : Res3 (w4.alloc (.cells #[.int .i64 b.base, .int .i64 b.epoch, .slice A4 b.recs.length c4] 26)) w4.heap.size (.int .i64 b.base) (.int .i64 b.epoch) (.slice A4 b.recs.length c4) := Res3.new w4 _ _ _ _
  have hay : Below w4.heap.size w4 (w4.alloc (.cells #[.int .i64 b.base, .int .i64 b.epoch, .slice A4 b.recs.length c4] 26)) := balloc (Below.refl _ _) _
  have hly : w4.heap.size < (w4.alloc (.cells #[.int .i64 b.base, .int .i64 b.epoch, .slice A4 b.recs.length c4] 26)).heap.size := by simp
  have HPY := hide py
  have HM5 := hide (HM4.out.isBat.below hay (Nat.le_refl _))
  have HN5 := hide (HN4.out.below hay (Nat.le_refl _))
  have HB5 := hide (HB4.out.trans (hay.mono HB4.out.size))
  have HPX5 := hide (HPX4.out.below hay (by omega))
  obtain ⟨Y, hY⟩ : ∃ Y, Y = w4.heap.size := ⟨_, rfl⟩
  rw [← hY] at HPY hly hz4 ⊢
  clear py hay hY HN4 HM4 HB4 HPX4
  generalize w4.alloc (.cells #[.int .i64 b.base, .int .i64 b.epoch, .slice A4 b.recs.length c4] 26) = w5 at *
  go_upto_region 9 with fail
  refine (HAL.out _ HB5.out).mono ?_
  rintro e w6 ⟨⟨A6, c6, rfl, -, -, hbt6⟩, hb6⟩
  have HB6 := hide (HB5.out.trans (hb6.mono HB5.out.size))
  have HPX6 := hide (HPX5.out.below hb6 (by omega))
  have HPY6 := hide (HPY.out.below hb6 hly)
  have HN6 := hide (HN5.out.below hb6 (Nat.le_refl _))
  have HM6 := hide (HM5.out.below hb6 (Nat.le_refl _))
  have HBT6 := hide hbt6
  have hz6 := hb6.size
  clear hbt6 hb6 HAL HB5 HPX5 HPY HN5 HM5
  go_upto_region 9 with fail
  go_upto_region 10 with fail
  refine (HRA.out _ HB6.out).mono ?_
  rintro e w7 ⟨⟨A7, c7, rfl, -, -, hbt7⟩, hb7⟩
  have HB7 := hide (HB6.out.trans (hb7.mono HB6.out.size))
  have hpx := HPX6.out.below hb7 (by omega)
  have hpy := HPY6.out.below hb7 (by omega)
  have x0 := hpx.c0
  have x1 := hpx.c1
  have x2 := hpx.c2
  have y0 := hpy.c0
  have y1 := hpy.c1
  have y2 := hpy.c2
  have HBT7 := hide hbt7
  have HBT6' := hide (HBT6.out.below hb7 (Nat.le_refl _))
  have HSB := hide (sameBatch_eq b A2 A4 c2 c4 b.recs.length w7 rfl (by have := HGS.out.1; omega) (HN6.out.below hb7 (Nat.le_refl _)).recs (HM6.out.below hb7 (Nat.le_refl _)).recs HGS.out.2)
  have HSBS := hide (fun W (hb : Below w7.heap.size w7 W) => sameBatches_eq A6 A7 c6 c7 bs.length bs W rfl (by omega) (HBT6'.out.below hb (Nat.le_refl _)) (HBT7.out.below hb (Nat.le_refl _)) (fun b hb => by have g := HGA.out b hb; exact ⟨by have := g.n1; omega, fun r hr => by have := g.recs r hr; omega⟩))
  clear hpx hpy hbt7 hb7 HRA HB6 HPX6 HPY6 HN6 HM6 HBT6 HBT6' HBT7 hz6 hz4 hlx hly
  go_upto_region 10 with fail
  have hz : ((rz : Int) == (rz : Int)) = true := by simp
  have ha : ((at_ : Int) == (at_ : Int)) = true := by simp
  have HIS := hide (fun W (hb : Below w.heap.size w W) (hc) => is_code W p (HS.out.below hb) rc hc)
  have HISA := hide (fun W (hb : Below w.heap.size w W) (hc) => is_code W p (HS.out.below hb) ac hc)
  generalize errOf p rc = E1 at *
  generalize errOf p ac = E2 at *
  go_wp2_with fail
  refine HSB.out.mono ?_
  rintro e w8 ⟨rfl, hb8⟩
  have HB8 := hide (HB7.out.trans (hb8.mono HB7.out.size))
  have HC8 := hide hb8
  clear hb8 HSB HB7 x0 x1 x2 y0 y1 y2
  go_wp2_with fail
  refine (HIS.out w8 HB8.out HRC.out).mono ?_
  rintro e w9 ⟨rfl, hb9⟩
  have HB9 := hide (HB8.out.trans (hb9.mono HB8.out.size))
  have HC9 := hide (HC8.out.trans (hb9.mono HC8.out.size))
  clear hb9 HIS HB8 HC8
  go_wp2_with fail
  refine (HSBS.out _ HC9.out).mono ?_
  rintro e wa ⟨rfl, hba⟩
  have HBA := hide (HB9.out.trans (hba.mono HB9.out.size))
  clear hba HSBS HB9 HC9
  go_wp2_with fail
  refine (HISA.out wa HBA.out HGC.out).mono ?_
  rintro e wb ⟨rfl, hbb⟩
  have HBB := hide (HBA.out.trans (hbb.mono HBA.out.size))
  go_wp2_with fail
  go_ret
  exact ⟨rfl, HBB.out⟩

theorem rreads_walk (A : Option Addr) (cap n : Nat) (l : List UInt8) (w : World) (p : Nat → Addr) (hs : Sents w p) (ht : Tabs w) (hn : l.length = n) (ha : Arg w A cap l) :
    Calls Tryd.prog 3 #[.slice A n cap] w fun e w' => e = .returned (.bool true) ∧ Below w.heap.size w w' := by
  by_cases h : n ≤ 2000
  · exact rreads_near A cap n l w p hs ht hn ha h
  · exact rreads_far A cap n w p hs ht (by omega) (by have := ha.le; have := ha.max; omega)
end Go.Proofs.YtomnkgppldgpkaaDoor
