/-
  The walk through RecBack: a batch's bytes are read as it, whatever stands behind; cut off they end too early; a byte turned is told.
-/
import Derived.Test.YthemdcdgiccjkaaDoorRSame
import Derived.Test.YthemdcdgiccjkaaDoorRTimes
import Derived.Test.YthemdcdgiccjkaaDoorIs
import Derived.Test.YthemdcdgiccjkaaDoorRcZ
namespace Go.Proofs.YthemdcdgiccjkaaDoor
open Go.RowKit Crc

def Rc.light (r : Rc.Rec) : Bool := decide (r.k.length ≤ 100 ∧ r.v.length ≤ 600)

set_option maxRecDepth 100000 in
set_option maxHeartbeats 1000000 in
theorem light_any (base epoch : Int) (rs : List Rc.Rec) (A : Option Addr) (cap n : Nat) (w : World) (hn : rs.length = n) (hm : n ≤ 9223372036854775807) (hr : Recs w A rs) :
    Calls Tryd.prog 23 #[batV base epoch A n cap] w fun e w' => e = .returned (.bool (decide (rs.length ≤ 70) && rs.all Rc.light)) ∧ Below w.heap.size w w' := by
  subst hn
  have hbb : Below w.heap.size w (w.alloc (.cells #[.int .i64 base, .int .i64 epoch, .slice A rs.length cap] 26)) := balloc (Below.refl _ _) _
  have HB0 := hide hbb
  by_cases h70 : 70 < rs.length
  · have hE : (decide (rs.length ≤ 70) && rs.all Rc.light) = false := by simp; omega
    rw [hE]
    clear hE
    go_enter Tryd.func23, Tryd.ntmps23
    go_wp2_with fail
    go_ret
    exact ⟨rfl, HB0.out⟩
  · have hE : (decide (rs.length ≤ 70) && rs.all Rc.light) = rs.all Rc.light := by simp; omega
    rw [hE]
    have HR := hide (hr.below hbb (Nat.le_refl _))
    obtain ⟨m0, m1, m2⟩ := made3 w (.int .i64 base) (.int .i64 epoch) (.slice A rs.length cap) 26
    generalize hV : rs.all Rc.light = V
    have HV := hide hV.symm
    clear hE hr hV hbb
    go_enter Tryd.func23, Tryd.ntmps23
    go_upto_block 0 with fail
    generalize hW1 : w.alloc (.cells #[.int .i64 base, .int .i64 epoch, .slice A rs.length cap] 26) = w1 at *
    clear hW1
    go_wp2_with fail
    go_loop [3] (fun i => ∃ k : Nat, k ≤ rs.length ∧ i = .int .i64 k ∧ (rs.take k).all Rc.light = true) (fun i => rs.length - (intOf i).toNat)
    case atStart => exact ⟨0, Nat.zero_le _, rfl, by simp⟩
    case round =>
      obtain ⟨k, hk, rfl, hok⟩ := hrel
      have HOK := hide hok
      clear hok
      by_cases hlt : k < rs.length
      · rcases HR.out with h0 | ⟨b, off, rfl, hb0, hcl⟩
        · rw [h0] at hlt; simp at hlt
        obtain ⟨Ak, ck, Av, cv, d0, d1, d2, ha, hv⟩ := (hcl k hlt).ex
        have HAS : Hid ((rs.take (k + 1)).all Rc.light = ((rs.take k).all Rc.light && Rc.light (rs.getD k default))) := by
          show _ = _
          rw [List.take_succ_eq_append_getElem hlt, List.all_append]
          simp [List.getD, hlt]
        have HMEM : Hid (rs.getD k default ∈ rs) := by
          show _ ∈ _
          rw [show rs.getD k default = rs[k] from by simp [List.getD, hlt]]; exact List.getElem_mem hlt
        have hmk := Nat.le_trans ha.le ha.max
        have hmv := Nat.le_trans hv.le hv.max
        clear hcl ha hv
        generalize rs.getD k default = x at *
        obtain ⟨t, ky, vl⟩ := x
        simp only at d0 d1 d2 hmk hmv
        by_cases hkl : 100 < ky.length
        · have HE : Hid (V = false) := by
            show _ = _
            rw [HV.out, List.all_eq_false]
            exact ⟨_, HMEM.out, by simp [Rc.light]; omega⟩
          have hd : decide ((100 : Int) < (ky.length : Int)) = true := by simp; omega
          go_wp2_with fail
          go_ret
          exact ⟨by rw [HE.out]; rfl, HB0.out⟩
        · have hd : decide ((100 : Int) < (ky.length : Int)) = false := by simp; omega
          by_cases hvl : 600 < vl.length
          · have HE : Hid (V = false) := by
              show _ = _
              rw [HV.out, List.all_eq_false]
              exact ⟨_, HMEM.out, by simp [Rc.light]; omega⟩
            have hd2 : decide ((600 : Int) < (vl.length : Int)) = true := by simp; omega
            go_wp2_with fail
            go_ret
            exact ⟨by rw [HE.out]; rfl, HB0.out⟩
          · have hd2 : decide ((600 : Int) < (vl.length : Int)) = false := by simp; omega
            have HN : Hid ((rs.take (k + 1)).all Rc.light = true) := by
              show _ = _
              rw [HAS.out, HOK.out]
              simp [Rc.light]; omega
            go_wp2_with fail
            go_round
            case rel => exact ⟨k + 1, by omega, by go_num, HN.out⟩
            case measure => simp [intOf]; omega
      · obtain rfl : k = rs.length := by omega
        have HE : Hid (V = true) := by
          show _ = _
          have := HOK.out
          rw [List.take_length] at this
          rw [HV.out, this]
        go_wp2_with fail
        go_ret
        exact ⟨by rw [HE.out]; rfl, HB0.out⟩

theorem read_bad (l : List UInt8) (c : Nat) (hc : Rc.rcode l = c) (h0 : c ≠ 0) (A : Option Addr) (cap n : Nat) (w : World) (p : Nat → Addr) (hn : l.length = n) (hl : n ≤ 1000000) (ha : Arg w A cap l) (hs : Sents5 w p) (ht : Tabs w) :
    Calls Tryd.prog 16 #[.slice A n cap] w fun e w' => e = .returned (.tuple #[batV 0 0 none 0 0, .int .i64 0, errV (p (c - 101))]) ∧ Below w.heap.size w w' := by
  refine (read_any A cap n l w p hn hl ha hs ht).mono fun e w' ⟨⟨val, he, _, hno⟩, hb⟩ => ⟨?_, hb⟩
  have hs0 : Rc.rsize l = 0 := by unfold Rc.rsize; rw [if_neg (by omega)]
  have hE : errOf p (Rc.rcode l) = errV (p (c - 101)) := by unfold errOf; rw [hc, if_neg h0]
  rw [he, hno (by omega), hs0, hE]; rfl
theorem read_good' (b : Rc.Bat) (g : Rc.Good b) (rest : List UInt8) (hr : rest.length ≤ 900000) (A : Option Addr) (cap n : Nat) (w : World) (p : Nat → Addr) (hn : (Rc.bytes b ++ rest).length = n) (ha : Arg w A cap (Rc.bytes b ++ rest)) (hs : Sents5 w p) (ht : Tabs w) :
    Calls Tryd.prog 16 #[.slice A n cap] w fun e w' => ∃ A' c', e = .returned (.tuple #[batV b.base b.epoch A' b.recs.length c', .int .i64 ((Rc.bytes b).length : Nat), .nilIface]) ∧ NewBat w.heap.size w' A' c' b ∧ Below w.heap.size w w' := by
  obtain ⟨h0, h1, h2⟩ := Rc.bytes_read b g rest
  have h3 := Rc.bytes_rsize b g rest
  have hbl := Rc.body_len b g
  have hn1 := g.n1
  have hl := Rc.bytes_len b
  have hll : (Rc.bytes b ++ rest).length = (Rc.bytes b).length + rest.length := List.length_append
  refine (read_any A cap n (Rc.bytes b ++ rest) w p hn (by omega) ha hs ht).mono fun e w' ⟨⟨val, he, hy, _⟩, hb⟩ => ?_
  obtain ⟨A', c', hv, hnb⟩ := hy h0
  rw [h2, (Rc.body_read b g).1] at hv hnb
  refine ⟨A', c', ?_, hnb, hb⟩
  rw [he, hv, h0, h3]; rfl

set_option maxRecDepth 100000 in
set_option maxHeartbeats 4000000 in
theorem rback_far (b : Rc.Bat) (A Ab : Option Addr) (cap cb nb : Nat) (cut at_ : Int) (by_ : Int) (w : World) (p : Nat → Addr) (hs : Sents5 w p) (ht : Tabs w) (hib : IsBat w A cap b) (hnb : nb ≤ 9223372036854775807) (hf : (decide (b.recs.length ≤ 70) && b.recs.all Rc.light) = false ∨ 100 < nb) :
    Calls Tryd.prog 4 #[batV b.base b.epoch A b.recs.length cap, .slice Ab nb cb, .int .i64 cut, .int .i64 at_, .int .u8 by_] w fun e w' => e = .returned (.bool true) ∧ Below w.heap.size w w' := by
  obtain ⟨m0, m1, m2⟩ := made3 w (.int .i64 b.base) (.int .i64 b.epoch) (.slice A b.recs.length cap) 26
  have hb0 : Below w.heap.size w (w.alloc (.cells #[.int .i64 b.base, .int .i64 b.epoch, .slice A b.recs.length cap] 26)) := balloc (Below.refl _ _) _
  have hlt : w.heap.size < (w.alloc (.cells #[.int .i64 b.base, .int .i64 b.epoch, .slice A b.recs.length cap] 26)).heap.size := by simp
  have HF := hide (rfirst_any _ p (hs.two.below hb0) (ht.below hb0 (Nat.le_refl _)))
  have HL := hide (fun W (hw : Below w.heap.size w W) => light_any b.base b.epoch b.recs A cap b.recs.length W rfl (Nat.le_trans hib.le hib.max) (hib.recs.below hw (Nat.le_refl _)))
  have HB0 := hide hb0
  have HLT := hide hlt
  generalize hW0 : w.alloc (.cells #[.int .i64 b.base, .int .i64 b.epoch, .slice A b.recs.length cap] 26) = W0 at *
  have HW0 := hide hW0
  clear hs ht hib hb0 hW0 hlt
  generalize (decide (b.recs.length ≤ 70) && b.recs.all Rc.light) = V at *
  go_enter Tryd.func4, Tryd.ntmps4
  go_upto_region 1 with fail
  rw [HW0.out]
  clear HW0
  go_wp2_with fail
  refine HF.out.mono ?_
  rintro e w1 ⟨rfl, hb1⟩
  have HB1 := hide (HB0.out.trans (hb1.mono HB0.out.size))
  have c0 := (hb1.cell (p := ⟨w.heap.size, 0, none⟩) HLT.out).trans m0
  have c1 := (hb1.cell (p := ⟨w.heap.size, 1, none⟩) HLT.out).trans m1
  have c2 := (hb1.cell (p := ⟨w.heap.size, 2, none⟩) HLT.out).trans m2
  clear hb1 m0 m1 m2 HF
  go_wp2_with fail
  refine (HL.out w1 HB1.out).mono ?_
  rintro e w2 ⟨rfl, hb2⟩
  have HB2 := hide (HB1.out.trans (hb2.mono HB1.out.size))
  clear hb2 c0 c1 c2
  cases V with
  | false =>
    go_wp2_with fail
    go_ret
    exact ⟨rfl, HB2.out⟩
  | true =>
    rcases hf with hf | hf
    · cases hf
    · have hd : decide ((100 : Int) < (nb : Int)) = true := by simp; omega
      go_wp2_with fail
      go_ret
      exact ⟨rfl, HB2.out⟩

attribute [local go_sem] x8
set_option maxRecDepth 100000 in
set_option maxHeartbeats 4000000 in
theorem rback_near (b : Rc.Bat) (A Ab : Option Addr) (cap cb nb : Nat) (behind : List UInt8) (cut at_ : Int) (by_ : UInt8) (w : World) (p : Nat → Addr) (hs : Sents w p) (ht : Tabs w) (hib : IsBat w A cap b) (hbl : behind.length = nb) (hab : Arg w Ab cb behind) (hv : (decide (b.recs.length ≤ 70) && b.recs.all Rc.light) = true) (hnb : nb ≤ 100)
    (hc1 : -9223372036854775808 ≤ cut) (hc2 : cut ≤ 9223372036854775807) (ha1 : -9223372036854775808 ≤ at_) (ha2 : at_ ≤ 9223372036854775807) :
    Calls Tryd.prog 4 #[batV b.base b.epoch A b.recs.length cap, .slice Ab nb cb, .int .i64 cut, .int .i64 at_, .int .u8 (B by_)] w fun e w' => e = .returned (.bool true) ∧ Below w.heap.size w w' := by
  have hv2 : b.recs.length ≤ 70 ∧ ∀ r ∈ b.recs, r.k.length ≤ 1000000 ∧ r.v.length ≤ 1000000 := by
    rw [Bool.and_eq_true, decide_eq_true_eq, List.all_eq_true] at hv
    refine ⟨hv.1, fun r hr => ?_⟩
    have := hv.2 r hr
    simp [Rc.light] at this
    omega
  obtain ⟨m0, m1, m2⟩ := made3 w (.int .i64 b.base) (.int .i64 b.epoch) (.slice A b.recs.length cap) 26
  have hb0 : Below w.heap.size w (w.alloc (.cells #[.int .i64 b.base, .int .i64 b.epoch, .slice A b.recs.length cap] 26)) := balloc (Below.refl _ _) _
  have hlt : w.heap.size < (w.alloc (.cells #[.int .i64 b.base, .int .i64 b.epoch, .slice A b.recs.length cap] 26)).heap.size := by simp
  have HF := hide (rfirst_any _ p (hs.five.two.below hb0) (ht.below hb0 (Nat.le_refl _)))
  have HL := hide (fun W (hw : Below w.heap.size w W) => light_any b.base b.epoch b.recs A cap b.recs.length W rfl (Nat.le_trans hib.le hib.max) (hib.recs.below hw (Nat.le_refl _)))
  rw [hv] at HL
  have HB0 := hide hb0
  have HST := hide (fun W (hw : Below (w.alloc (.cells #[.int .i64 b.base, .int .i64 b.epoch, .slice A b.recs.length cap] 26)).heap.size (w.alloc (.cells #[.int .i64 b.base, .int .i64 b.epoch, .slice A b.recs.length cap] 26)) W) => And.intro ((hw.cell (p := ⟨w.heap.size, 0, none⟩) hlt).trans m0) (And.intro ((hw.cell (p := ⟨w.heap.size, 1, none⟩) hlt).trans m1) ((hw.cell (p := ⟨w.heap.size, 2, none⟩) hlt).trans m2)))
  have HS := hide (fun W (hw : Below w.heap.size w W) => hs.below hw)
  have HT := hide (fun W (hw : Below w.heap.size w W) => ht.below hw (Nat.le_refl _))
  have HIB := hide (fun W (hw : Below w.heap.size w W) => hib.below hw (Nat.le_refl _))
  have HAB := hide (fun W (hw : Below w.heap.size w W) => hab.below hw (Nat.le_refl _))
  have HBL := hide hbl
  have HV2 := hide hv2
  generalize hW0 : w.alloc (.cells #[.int .i64 b.base, .int .i64 b.epoch, .slice A b.recs.length cap] 26) = W0 at *
  have HW0 := hide hW0
  have hz0 : W0.heap.size = w.heap.size + 1 := by rw [← hW0]; simp
  have HZ0 := hide hz0
  clear hs ht hib hb0 hW0 hlt m0 m1 m2 hv hv2 hab hbl hz0
  have hd : decide ((100 : Int) < (nb : Int)) = false := by simp; omega
  go_enter Tryd.func4, Tryd.ntmps4
  go_upto_region 1 with fail
  rw [HW0.out]
  clear HW0
  go_wp2_with fail
  refine HF.out.mono ?_
  rintro e w1 ⟨rfl, hb1⟩
  have HB1 := hide hb1
  obtain ⟨c0, c1, c2⟩ := HST.out w1 hb1
  clear hb1 HF
  go_wp2_with fail
  refine (HL.out w1 (HB0.out.trans (HB1.out.mono HB0.out.size))).mono ?_
  rintro e w2 ⟨rfl, hb2⟩
  have hb2' := HB1.out.trans (hb2.mono HB1.out.size)
  have HB2 := hide hb2'
  have HW2 := hide (HB0.out.trans (hb2'.mono HB0.out.size))
  obtain ⟨d0, d1, d2⟩ := HST.out w2 hb2'
  clear hb2 hb2' c0 c1 c2 HL
  by_cases hbad : Rc.bad b = 0
  · have hg := (Rc.bad_good b).1 hbad
    have HG := hide hg
    have HBY := hide (batBytes_any b A cap b.recs.length w2 p (HIB.out w2 HW2.out) (HS.out w2 HW2.out).five.two (HT.out w2 HW2.out) rfl hg)
    clear hbad hg
    go_wp2_with fail
    refine HBY.out.mono ?_
    rintro e w3 ⟨vx, rfl, hox, hbx⟩
    obtain ⟨A5, c5, rfl, ha5⟩ := hox.arg
    have hlen := Rc.bytes_len b
    have hbl2 := Rc.body_len b HG.out
    have hg1 := HG.out.n1
    have hbs : 20 ≤ (Rc.bytes b).length + 20 ∧ (Rc.bytes b).length ≤ 50000 ∧ 8 ≤ (Rc.bytes b).length := by omega
    have hb3 := HB2.out.trans (hbx.mono HB2.out.size)
    have HW3 := hide (HB0.out.trans (hb3.mono HB0.out.size))
    have HB3 := hide hb3
    have HA5 := hide ha5
    have HRG := hide (fun A cap n W h1 h2 h3 h4 => read_good' b HG.out behind (by rw [HBL.out]; omega) A cap n W p h1 h2 h3 h4)
    have HRC := hide (fun k (hk : k < (Rc.bytes b).length) A cap n W h1 h2 h3 h4 h5 => read_bad _ 101 (Rc.cut_short b HG.out k hk) (by omega) A cap n W p h1 h2 h3 h4 h5)
    have HRS := hide (fun i (hq4 : 4 ≤ i) (hi : i < (Rc.bytes b).length) (hy : by_ ≠ 0) A cap n W h1 h2 h3 h4 h5 => read_bad ((Rc.bytes b).set i ((Rc.bytes b).getD i 0 ^^^ by_)) 102 (by have := Rc.spoilt b HG.out [] i by_ hq4 hi hy; rwa [List.append_nil] at this) (by omega) A cap n W p h1 h2 h3 h4 h5)
    obtain ⟨hbs0, hbs1, hbs2⟩ := hbs
    clear hox hbx ha5 hlen hbl2 hg1 hb3 HBY d0 d1 d2 hbs0
    generalize Rc.bytes b = bs at *
    have HCP := hide (fun W (hw : Below w3.heap.size w3 W) => bytes_any A5 c5 bs.length bs W rfl (by omega) (HA5.out.below hw (Nat.le_refl _)).reads)
    go_wp2_with fail
    refine (HCP.out w3 (Below.refl _ _)).mono ?_
    rintro e w4 ⟨v4, rfl, ho4, hb4⟩
    have HO4 := hide ho4
    have HB4 := hide hb4
    have HAB4 := hide (HAB.out w4 (HW3.out.trans (hb4.mono HW3.out.size))).reads
    have hz4 := hb4.size
    clear ho4 hb4
    go_wp2_with (at_builtin; refine wpList_app (w := w4) rfl (.tmp 57) (.tmp 58) rfl w3.heap.size _ bs behind rfl HO4.out Ab nb cb rfl HBL.out HAB4.out (by omega) (by omega) ?_; intro v5 w5 hown5 hg5 hv5)
    obtain ⟨A6, c6, rfl, ha6⟩ := hown5.arg
    have hb5 := HB4.out.grown hg5 (by omega) (fun g hg => (HO4.out.lt g hg).1)
    have HB5 := hide hb5
    have HW5 := hide (HW3.out.trans (hb5.mono HW3.out.size))
    have HRD := hide (HRG.out A6 c6 _ w5 rfl ha6 (HS.out w5 (HW3.out.trans (hb5.mono HW3.out.size))).five (HT.out w5 (HW3.out.trans (hb5.mono HW3.out.size))))
    clear hown5 hg5 hv5 ha6 hb5 HO4 HB4 HAB4 hz4
    refine HRD.out.mono ?_
    rintro e w6 ⟨A7, c7, rfl, hnb6, hb6⟩
    have hb6' := HB5.out.trans (hb6.mono HB5.out.size)
    have HB6 := hide hb6'
    have HN6 := hide hnb6.isBat
    clear hnb6 hb6 hb6' HRD HB5 HW5
    go_upto_region 10 with fail
    obtain ⟨k0, k1, k2⟩ := made3 w6 (.int .i64 b.base) (.int .i64 b.epoch) (.slice A7 b.recs.length c7) 26
    have hal : Below w6.heap.size w6 (w6.alloc (.cells #[.int .i64 b.base, .int .i64 b.epoch, .slice A7 b.recs.length c7] 26)) := balloc (Below.refl _ _) _
    have hb7 := HB6.out.trans (hal.mono HB6.out.size)
    have HB7 := hide hb7
    have HN7 := hide (HN6.out.below hal (Nat.le_refl _))
    have hgt : w6.heap.size < (w6.alloc (.cells #[.int .i64 b.base, .int .i64 b.epoch, .slice A7 b.recs.length c7] 26)).heap.size := by simp
    obtain ⟨gy, hgy⟩ : ∃ gy, gy = w6.heap.size := ⟨_, rfl⟩
    rw [← hgy] at k0 k1 k2 hgt ⊢
    have HGT := hide hgt
    clear hgy hal hb7 HN6 HB6 hgt
    generalize w6.alloc (.cells #[.int .i64 b.base, .int .i64 b.epoch, .slice A7 b.recs.length c7] 26) = w7 at *
    have HSTY := hide (fun W (hw : Below w7.heap.size w7 W) => And.intro ((hw.cell (p := ⟨gy, 0, none⟩) HGT.out).trans k0) (And.intro ((hw.cell (p := ⟨gy, 1, none⟩) HGT.out).trans k1) ((hw.cell (p := ⟨gy, 2, none⟩) HGT.out).trans k2)))
    clear k0 k1 k2
    obtain ⟨q, hq⟩ : ∃ q, q = num cut bs.length := ⟨_, rfl⟩
    have hql : q < bs.length := by rw [hq]; exact num_lt _ _ (by omega)
    have HNM := hide (fun W => num_at cut (bs.length : Int) bs.length W rfl (by omega) (by omega) hc1 hc2)
    rw [← hq] at HNM
    have kcut : ∀ W, (Instr.sliceAt 22 (.slice A5 bs.length c5) none (some (.int .i64 (q : Int))) none).run Tryd.prog W = .ok (.slice A5 q c5) W := fun W => run_cut_h W A5 bs.length c5 q (by have := HA5.out.le; omega)
    have HRK := hide (HRC.out q hql A5 c5 q w7 (by rw [List.length_take]; omega) (by omega) ((HA5.out.below HB7.out (Nat.le_refl _)).first q) (HS.out w7 (HW3.out.trans (HB7.out.mono HW3.out.size))).five (HT.out w7 (HW3.out.trans (HB7.out.mono HW3.out.size))))
    unfold errV at HRK
    clear hq hc1 hc2 HRC
    go_wp2_with fail
    refine (HNM.out _).mono ?_
    rintro e w8 ⟨rfl, rfl⟩
    go_wp2_with fail
    refine HRK.out.mono ?_
    rintro e w9 ⟨rfl, hb9⟩
    have HB9 := hide hb9
    clear hb9 HRK kcut HNM
    go_upto_region 11 with fail
    have hal : Below w9.heap.size w9 (w9.alloc (.cells #[.int .i64 0, .int .i64 0, .slice none 0 0] 26)) := balloc (Below.refl _ _) _
    have hba := HB9.out.trans (hal.mono HB9.out.size)
    have HBA := hide hba
    have hwa := HB7.out.trans (hba.mono HB7.out.size)
    have HWA := hide hwa
    obtain ⟨k0, k1, k2⟩ := HSTY.out _ hba
    obtain ⟨d0, d1, d2⟩ := HST.out _ (HB3.out.trans (hwa.mono HB3.out.size))
    clear hal hba hwa
    generalize w9.alloc (.cells #[.int .i64 0, .int .i64 0, .slice none 0 0] 26) = wa at *
    have u1 : ((bs.length : Int) != bs.length) = false := by simp
    have HSB := hide (sameBatch_eq b A7 A c7 cap b.recs.length wa rfl (by have := HV2.out.1; omega) (HN7.out.below HBA.out (Nat.le_refl _)).recs (HIB.out wa (HW3.out.trans (HWA.out.mono HW3.out.size))).recs HV2.out.2)
    go_wp2_with fail
    refine HSB.out.mono ?_
    rintro e wb ⟨rfl, hbb⟩
    have hbb' := HWA.out.trans (hbb.mono HWA.out.size)
    have HBB := hide hbb'
    have HIS := hide (is_sent wb p (HS.out wb (HW3.out.trans (hbb'.mono HW3.out.size))) 0 (by omega) 101)
    unfold errV at HIS
    clear hbb hbb' HSB k0 k1 k2 d0 d1 d2 HSTY HN7 HBA HWA
    go_wp2_with fail
    refine HIS.out.mono ?_
    rintro e wc ⟨rfl, hbc⟩
    have HBC := hide (HBB.out.trans (hbc.mono HBB.out.size))
    clear hbc HIS HBB
    by_cases hby : by_ = 0
    · subst hby
      have hB : B (0 : UInt8) = 0 := rfl
      go_wp2_with fail
      go_ret
      exact ⟨rfl, HW3.out.trans (HBC.out.mono HW3.out.size)⟩
    · have hB : (B by_ == 0) = false := by
        rw [beq_eq_false_iff_ne]
        intro e
        exact hby (B_inj (a := by_) (b := 0) e)
      obtain ⟨r, hr⟩ : ∃ r, r = num at_ (bs.length - 4) := ⟨_, rfl⟩
      have hrl : r < bs.length - 4 := by rw [hr]; exact num_lt _ _ (by omega)
      have HNA := hide (fun W => num_at at_ ((bs.length : Int) - 4) (bs.length - 4) W (by omega) (by omega) (by omega) ha1 ha2)
      rw [← hr] at HNA
      have HCZ := hide (HCP.out wc HBC.out)
      have HRZ := hide (fun A cap n W h1 h2 h3 h4 h5 => HRS.out (4 + r) (by omega) (by omega) hby A cap n W h1 h2 h3 h4 h5)
      clear hr ha1 ha2 HCP
      go_wp2_with fail
      refine HCZ.out.mono ?_
      rintro e we ⟨v8, rfl, ho8, hb8⟩
      obtain ⟨g, c8, rfl, hg8, hl8, ha8, hfr8, hset8⟩ := ho8.open_ (by omega)
      have hcell := reads_cell ha8.reads (4 + r) (by omega)
      rw [Nat.zero_add] at hcell
      have hfr := hfr8 (4 + r)
      have hst := hset8 (4 + r) (bs.getD (4 + r) 0 ^^^ by_) (by omega)
      have HST8 := hide hst
      have hb9 := (HBC.out.trans (hb8.mono HBC.out.size)).setCell (p := ⟨g, 4 + r, none⟩) (by show w3.heap.size ≤ g; exact Nat.le_trans HBC.out.size hg8) (.int .u8 (B (bs.getD (4 + r) 0 ^^^ by_)))
      have HB9 := hide hb9
      have HMX := hide ha8.max
      have HLE := hide ha8.le
      clear ho8 hb8 hg8 ha8 hfr8 hset8 hst hb9 HCZ HRS
      generalize bs.getD (4 + r) 0 = y0 at *
      have HAZ : Hid (Arg (we.setCell ⟨g, 4 + r, none⟩ (.int .u8 (B (y0 ^^^ by_)))) (some ⟨g, 0, none⟩) c8 (bs.set (4 + r) (y0 ^^^ by_))) := hide ⟨by rw [List.length_set]; exact HLE.out, HMX.out, fun e => (by cases e), HST8.out⟩
      have HRDZ := hide (HRZ.out (some ⟨g, 0, none⟩) c8 bs.length _ (by rw [List.length_set]) (by omega) HAZ.out (HS.out _ (HW3.out.trans (HB9.out.mono HW3.out.size))).five (HT.out _ (HW3.out.trans (HB9.out.mono HW3.out.size))))
      unfold errV at HRDZ
      clear HST8 HMX HLE HAZ HRZ
      go_wp2_with fail
      refine (HNA.out _).mono ?_
      rintro e wf ⟨rfl, rfl⟩
      go_wp2_with fail
      refine HRDZ.out.mono ?_
      rintro e wg ⟨rfl, hbg⟩
      have HBG := hide (HB9.out.trans (hbg.mono HB9.out.size))
      clear hbg HRDZ hcell hfr HNA
      go_upto_region 18 with fail
      have hal : Below wg.heap.size wg (wg.alloc (.cells #[.int .i64 0, .int .i64 0, .slice none 0 0] 26)) := balloc (Below.refl _ _) _
      have hbh := HBG.out.trans (hal.mono HBG.out.size)
      have HBH := hide (HW3.out.trans (hbh.mono HW3.out.size))
      have HIZ := hide (is_sent _ p (HS.out _ (HW3.out.trans (hbh.mono HW3.out.size))) 1 (by omega) 102)
      unfold errV at HIZ
      clear hal hbh
      generalize wg.alloc (.cells #[.int .i64 0, .int .i64 0, .slice none 0 0] 26) = wh at *
      go_wp2_with fail
      refine HIZ.out.mono ?_
      rintro e wi ⟨rfl, hbi⟩
      have HBI := hide (HBH.out.trans (hbi.mono HBH.out.size))
      clear hbi
      go_wp2_with fail
      go_ret
      exact ⟨rfl, HBI.out⟩
  · have HBY := hide (batBytes_bad b A cap b.recs.length w2 p (HIB.out w2 HW2.out) (HS.out w2 HW2.out).five.two rfl hbad)
    have HVA := hide (fun W (hw : Below w.heap.size w W) => valid_any b A cap b.recs.length W p (HIB.out W hw) (HS.out W hw).five.two rfl)
    have hE : errOf p (Rc.bad b) = .iface 147 (.pointer (some (p (Rc.bad b - 101)))) := by unfold errOf; rw [if_neg hbad]; rfl
    rw [hE] at HVA
    unfold errV at HBY
    generalize (.pointer (some (p (Rc.bad b - 101))) : Value) = xe at *
    have k1 := neq_nil 147 xe
    clear hE hbad
    go_wp2_with fail
    refine HBY.out.mono ?_
    rintro e w3 ⟨rfl, hb3⟩
    have hb3' := HB2.out.trans (hb3.mono HB2.out.size)
    have HW3 := hide (HB0.out.trans (hb3'.mono HB0.out.size))
    obtain ⟨e0, e1, e2⟩ := HST.out w3 hb3'
    clear hb3 hb3' d0 d1 d2 HBY
    go_wp2_with fail
    refine (HVA.out w3 HW3.out).mono ?_
    rintro e w4 ⟨rfl, hb4⟩
    have HW4 := hide (HW3.out.trans (hb4.mono HW3.out.size))
    clear hb4 e0 e1 e2
    go_wp2_with fail
    go_ret
    exact ⟨rfl, HW4.out⟩

theorem rback_walk (b : Rc.Bat) (A Ab : Option Addr) (cap cb n nb : Nat) (behind : List UInt8) (cut at_ : Int) (by_ : UInt8) (w : World) (p : Nat → Addr) (hs : Sents w p) (ht : Tabs w) (hib : IsBat w A cap b) (hn : b.recs.length = n) (hbl : behind.length = nb) (hab : Arg w Ab cb behind)
    (hc1 : -9223372036854775808 ≤ cut) (hc2 : cut ≤ 9223372036854775807) (ha1 : -9223372036854775808 ≤ at_) (ha2 : at_ ≤ 9223372036854775807) :
    Calls Tryd.prog 4 #[batV b.base b.epoch A n cap, .slice Ab nb cb, .int .i64 cut, .int .i64 at_, .int .u8 (B by_)] w fun e w' => e = .returned (.bool true) ∧ Below w.heap.size w w' := by
  subst hn
  have hm := Nat.le_trans hab.le hab.max
  rw [hbl] at hm
  cases hv : (decide (b.recs.length ≤ 70) && b.recs.all Rc.light) with
  | false => exact rback_far b A Ab cap cb nb cut at_ (B by_) w p hs.five ht hib hm (.inl hv)
  | true =>
    by_cases h100 : 100 < nb
    · exact rback_far b A Ab cap cb nb cut at_ (B by_) w p hs.five ht hib hm (.inr h100)
    · exact rback_near b A Ab cap cb nb behind cut at_ by_ w p hs ht hib hbl hab hv (by omega) hc1 hc2 ha1 ha2
end Go.Proofs.YthemdcdgiccjkaaDoor
