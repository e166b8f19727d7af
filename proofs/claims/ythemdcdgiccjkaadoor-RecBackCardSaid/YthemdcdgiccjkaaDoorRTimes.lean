/-
  The walk through RecTimes: the greatest time of a batch, where it ends.
-/
import Derived.Test.YthemdcdgiccjkaaDoorRcQ
import Derived.Test.YthemdcdgiccjkaaDoorArgsI
namespace Go.Proofs.YthemdcdgiccjkaaDoor
open Go.RowKit Crc

/-- The record that a number of the argument makes. -/
def recOf (z : Int) : Rc.Rec := ⟨z % 2000 - 1000, [], []⟩
theorem recOf_ok (z : Int) : Rc.okR (recOf z) := by
  have h1 := Int.emod_nonneg z (show (2000 : Int) ≠ 0 by omega)
  have h2 := Int.emod_lt_of_pos z (show (0 : Int) < 2000 by omega)
  refine ⟨?_, ?_, by simp [recOf], by simp [recOf]⟩ <;> (show _ ≤ _; simp only [recOf]; omega)
theorem Rc.bytes_read0 (b : Rc.Bat) (g : Rc.Good b) : Rc.rcode (Rc.bytes b) = 0 ∧ Rc.rsize (Rc.bytes b) = (Rc.bytes b).length ∧ Rc.parse (Rc.rbody (Rc.bytes b)) = b := by
  have h := Rc.bytes_read b g []
  have h2 := Rc.bytes_rsize b g []
  rw [List.append_nil] at h h2
  exact ⟨h.1, h2, by rw [h.2.2]; exact (Rc.body_read b g).1⟩
/-- Read of a good batch's bytes. -/
theorem read_good (b : Rc.Bat) (g : Rc.Good b) (A : Option Addr) (cap n : Nat) (w : World) (p : Nat → Addr) (hn : (Rc.bytes b).length = n) (ha : Arg w A cap (Rc.bytes b)) (hs : Sents5 w p) (ht : Tabs w) :
    Calls Tryd.prog 16 #[.slice A n cap] w fun e w' => ∃ A' c', e = .returned (.tuple #[batV b.base b.epoch A' b.recs.length c', .int .i64 n, .nilIface]) ∧ NewBat w.heap.size w' A' c' b ∧ Below w.heap.size w w' := by
  obtain ⟨h0, h1, h2⟩ := Rc.bytes_read0 b g
  have hbl := Rc.body_len b g
  have hn1 := g.n1
  have hl := Rc.bytes_len b
  refine (read_any A cap n (Rc.bytes b) w p hn (by omega) ha hs ht).mono fun e w' ⟨⟨val, he, hy, _⟩, hb⟩ => ?_
  obtain ⟨A', c', hv, hnb⟩ := hy h0
  rw [h2] at hv hnb
  refine ⟨A', c', ?_, hnb, hb⟩
  rw [he, hv, h0, h1, hn]; rfl
theorem rtimes_good (zs : List Int) (base : Int) (h0 : zs ≠ []) (h1 : zs.length ≤ 64) : Rc.Good ⟨base % 549755813888, 0, zs.map recOf⟩ := by
  have m1 := Int.emod_nonneg base (show (549755813888 : Int) ≠ 0 by omega)
  have m2 := Int.emod_lt_of_pos base (show (0 : Int) < 549755813888 by omega)
  have hp := List.length_pos_iff.2 h0
  refine ⟨by simpa using hp, by simpa using h1, m1, ?_, by show (0 : Int) ≤ 0; omega, by show (0 : Int) ≤ _; omega, fun r hr => ?_⟩
  · show base % 549755813888 + ((zs.map recOf).length : Int) ≤ _
    rw [List.length_map]; omega
  · obtain ⟨z, _, rfl⟩ := List.mem_map.1 hr
    exact recOf_ok z

set_option maxRecDepth 100000 in
set_option maxHeartbeats 4000000 in
theorem rtimes_near (A : Option Addr) (cap : Nat) (zs : List Int) (base : Int) (w : World) (p : Nat → Addr) (hs : Sents5 w p) (ht : Tabs w) (hA : Ints w A zs) (_ : zs.length ≤ cap) (hz : ∀ k, k < zs.length → -9223372036854775808 ≤ zs.getD k 0 ∧ zs.getD k 0 ≤ 9223372036854775807) (hb1 : -9223372036854775808 ≤ base) (hb2 : base ≤ 9223372036854775807) (h0 : zs ≠ []) (h64 : zs.length ≤ 64) :
    Calls Tryd.prog 8 #[.slice A zs.length cap, .int .i64 base] w fun e w' => e = .returned (.bool true) ∧ Below w.heap.size w w' := by
  have HF := hide (rfirst_any w p hs.two ht)
  have HS := hide hs
  have HT := hide ht
  have HA := hide hA
  have HZ := hide hz
  have hg := rtimes_good zs base h0 h64
  have HG := hide hg
  have HLB := hide (fun W => long_any base 549755813888 W (by omega) (by omega) hb1 hb2)
  have m1 := Int.emod_nonneg base (show (549755813888 : Int) ≠ 0 by omega)
  have m2 := Int.emod_lt_of_pos base (show (0 : Int) < 549755813888 by omega)
  have q1 : ((zs.length : Int) == 0) = false := by rw [beq_eq_false_iff_ne]; have := List.length_pos_iff.2 h0; omega
  have q2 : decide ((64 : Int) < (zs.length : Int)) = false := by simp; omega
  clear hs ht hA hz hg
  generalize hbm : base % 549755813888 = bm at *
  go_enter Tryd.func8, Tryd.ntmps8
  go_wp2_with fail
  refine HF.out.mono ?_
  rintro e w1 ⟨rfl, hbw1⟩
  have HB1 := hide hbw1
  clear hbw1 HF
  go_wp2_with fail
  refine (HLB.out _).mono ?_
  rintro e w2 ⟨rfl, rfl⟩
  clear HLB
  go_upto_block 0 with fail
  have hbn := Bld.new HB1.out bm 0 26
  have HBN := hide hbn
  obtain ⟨B, hB⟩ : ∃ B, B = w1.heap.size := ⟨_, rfl⟩
  rw [← hB] at HBN ⊢
  clear hbn hB
  generalize w1.alloc (.cells #[.int .i64 bm, .int .i64 0, .slice none 0 0] 26) = w3 at *
  have hn := List.length_pos_iff.2 h0
  go_cut [7] (fun best wx => ∃ v qs, best = .int .i64 (Rc.maxT (zs.map recOf)) ∧ Bld w wx B (B + 1) bm 0 v qs ∧ qs.map (·.r) = zs.map recOf)
  case first =>
    go_wp2_with fail
    go_loopw [7, 8] (fun best i wr => ∃ (k : Nat) (v : Value) (qs : List PRec), k ≤ zs.length ∧ i = .int .i64 k ∧ best = .int .i64 (Rc.maxT ((zs.take k).map recOf)) ∧ Bld w wr B (B + 1) bm 0 v qs ∧ qs.map (·.r) = (zs.take k).map recOf) (fun _ i _ => zs.length - (intOf i).toNat)
    case atStart => exact ⟨0, _, [], Nat.zero_le _, rfl, rfl, HBN.out, by simp⟩
    case round =>
      obtain ⟨k, v, qs, hk, rfl, rfl, hbld, hqs⟩ := hrel
      have HBL := hide hbld
      have HQS := hide hqs
      have hql : qs.length = k := by
        have := congrArg List.length hqs
        rw [List.length_map, List.length_map, List.length_take] at this
        omega
      have HQL := hide hql
      clear hqs hql
      by_cases hlt : k < zs.length
      · rcases HA.out with e0 | ⟨b, off, rfl, hb0, hcl⟩
        · rw [e0] at hlt; simp at hlt
        have hcell : wr.cell? ⟨b, off + k, none⟩ = some (.int .i64 (zs.getD k 0)) := (hbld.below.cell (p := ⟨b, off + k, none⟩) hb0).trans (hcl k hlt)
        obtain ⟨bd1, bd2⟩ := HZ.out k hlt
        have HSU : Hid ((zs.take (k + 1)).map recOf = (zs.take k).map recOf ++ [recOf (zs.getD k 0)]) := by
          show _ = _
          rw [List.take_succ_eq_append_getElem hlt, List.map_append]; simp [List.getD, hlt]
        have HMS : Hid (Rc.maxT ((zs.take (k + 1)).map recOf) = if k = 0 then (recOf (zs.getD k 0)).t else max (Rc.maxT ((zs.take k).map recOf)) (recOf (zs.getD k 0)).t) := by
          show _ = _
          rw [HSU.out]
          by_cases hk0 : k = 0
          · subst hk0; simp [Rc.maxT]
          · rw [if_neg hk0, Rc.maxT_snoc _ _ (by intro h; have := congrArg List.length h; rw [List.length_map, List.length_take, List.length_nil] at this; omega)]
        clear hcl
        generalize zs.getD k 0 = z at *
        have n1 := Int.emod_nonneg z (show (2000 : Int) ≠ 0 by omega)
        have n2 := Int.emod_lt_of_pos z (show (0 : Int) < 2000 by omega)
        have HLZ := hide (fun W => long_any z 2000 W (by omega) (by omega) bd1 bd2)
        have HRT : Hid (recOf z = ⟨z % 2000 - 1000, [], []⟩) := hide rfl
        have HRT2 : Hid ((recOf z).t = z % 2000 - 1000) := hide rfl
        rw [HRT2.out] at HMS
        generalize z % 2000 = zm at *
        generalize Rc.maxT ((zs.take k).map recOf) = mk at *
        obtain ⟨i0, hi, hz, hs1, hby⟩ := info_parts record_info
        have hbal : Below wr.heap.size wr (wr.alloc (.cells #[.int .i64 (zm - 1000), .slice none 0 0, .slice none 0 0] 57)) := balloc (Below.refl _ _) _
        have HBAL := hide hbal
        obtain ⟨Av, cv, rfl, -, -, -⟩ := hbld.row.val
        have hos := hbld.os
        have y0 := hbld.c2
        have y1 := hbld.f 2
        clear hbal hbld
        go_upto_region 13 with fail
        refine (HLZ.out _).mono ?_
        rintro e w9 ⟨rfl, rfl⟩
        go_upto_region 13 with fail
        have hcases : ∃ (c1 c2 : Bool) (nb : Int), ((k : Int) == 0) = c1 ∧ decide (mk < zm - 1000) = c2 ∧ Rc.maxT ((zs.take (k + 1)).map recOf) = nb ∧ ((c1 = true ∧ nb = zm - 1000) ∨ (c1 = false ∧ c2 = true ∧ nb = zm - 1000) ∨ (c1 = false ∧ c2 = false ∧ nb = mk)) := by
          refine ⟨_, _, _, rfl, rfl, HMS.out, ?_⟩
          by_cases hk0 : k = 0
          · left
            rw [if_pos hk0]
            exact ⟨by subst hk0; rfl, rfl⟩
          · right
            rw [if_neg hk0]
            have e : ((k : Int) == 0) = false := by rw [beq_eq_false_iff_ne]; omega
            by_cases hm : mk < zm - 1000
            · left; exact ⟨e, by simp [hm], by omega⟩
            · right; exact ⟨e, by simp [hm], by omega⟩
        obtain ⟨c1, c2, nb, hc1, hc2, hnb, hcs⟩ := hcases
        have HNB := hide hnb
        clear hnb HMS
        rcases hcs with ⟨rfl, rfl⟩ | ⟨rfl, rfl, rfl⟩ | ⟨rfl, rfl, rfl⟩
        all_goals
          go_wp2_with (at_builtin; refine wpList_append_own_at (w := wr.alloc _) rfl (.tmp 56) (.tmp 59) 24 rfl (B + 1) 57 i0 _ 3 56 Tryd.underlying24 hi hz hs1 hby rfl (by omega) (.slice Av qs.length cv) qs.length (qs.flatMap PRec.cells) rfl (HBL.out.row.own.alloc _) ⟨wr.heap.size, 0, none⟩ 1 1 (PRec.cells ⟨⟨zm - 1000, [], []⟩, none, 0, none, 0⟩) rfl rfl (cells_three _ _ _ _ _) (PRec.cells_one _) (by have := HQL.out; simp only [maxLen]; omega) (by have := HQL.out; omega) (by simp; omega) ?_; intro v5 wd hown5 hg5 hnil5 hat5; obtain ⟨g5, c5, rfl⟩ := row_succ hown5; have ymid := HBL.out.mid HBAL.out hg5; have y2 := ymid.1; have y3 := ymid.2; have HPUSH := hide (HBL.out.push (q := ⟨⟨zm - 1000, [], []⟩, none, 0, none, 0⟩) (Txt.nil _ _ _) (Txt.nil _ _ _) HBAL.out hg5 hat5 hown5); clear hown5 hg5 hnil5 hat5 ymid)
          refine ⟨⟨k + 1, _, _, by omega, by go_num, by rw [HNB.out], HPUSH.out, ?_⟩, by simp [intOf]; omega⟩
          rw [HSU.out, List.map_append, HQS.out, HRT.out]; rfl
      · obtain rfl : k = zs.length := by omega
        have HTT : Hid (zs.take zs.length = zs) := hide (List.take_length)
        go_wp2_with fail
        go_meet
        refine ⟨_, qs, by rw [HTT.out], HBL.out, ?_⟩
        rw [HQS.out, HTT.out]
  case rest =>
    obtain ⟨v, qs, rfl, hbld, hqs⟩ := hcut
    have HBL := hide hbld
    have HQS := hide hqs
    obtain ⟨Av, cv, rfl, hqc, hqm, hrecs⟩ := hbld.row.val
    have hql : qs.length = zs.length := by
      have := congrArg List.length hqs
      rw [List.length_map, List.length_map] at this
      exact this
    have c0 := hbld.c0
    have c1 := hbld.c1
    have c2 := hbld.c2
    rw [hqs] at hrecs
    have hib : IsBat wc Av cv ⟨bm, 0, zs.map recOf⟩ := ⟨by simp; omega, hqm, hrecs, by show _ ≤ bm ∧ bm ≤ _; omega, by show (_ : Int) ≤ 0 ∧ (0 : Int) ≤ _; omega⟩
    rw [hql] at c2
    have hbelow := hbld.below
    have HBY := hide (batBytes_any ⟨bm, 0, zs.map recOf⟩ Av cv zs.length wc p hib (HS.out.below hbelow).two (HT.out.below hbelow (Nat.le_refl _)) (by simp) HG.out)
    have HWC := hide hbelow
    have HIB := hide hib
    have HRG := hide (fun A cap n W h1 h2 h3 h4 => read_good ⟨bm, 0, zs.map recOf⟩ HG.out A cap n W p h1 h2 h3 h4)
    have HTM := hide (fun n Av cv W (h : IsBat W Av cv ⟨bm, 0, zs.map recOf⟩) (hn : (zs.map recOf).length = n) => time_any bm 0 (zs.map recOf) Av cv n W hn (by rw [List.length_map] at hn; omega) h.recs)
    have HNX := hide (fun Av cv W => next_bat bm 0 Av zs.length cv W (by omega) (by omega))
    have HT0 := hide (fun W => time_any 0 0 [] none 0 0 W rfl (by omega) (.inl rfl))
    have HML : Hid ((zs.map recOf).length = zs.length) := hide (List.length_map _)
    have HQL2 := hide hql
    clear hbld hqs hql hrecs hib hbelow HQS
    generalize hmx : Rc.maxT (zs.map recOf) = mx at *
    generalize Rc.bytes ⟨bm, 0, zs.map recOf⟩ = bs at *
    generalize zs.map recOf = rs at *
    go_wp2_with fail
    refine HBY.out.mono ?_
    rintro e wd ⟨vx, rfl, hox, hbx⟩
    obtain ⟨A5, c5, rfl, ha5⟩ := hox.arg
    have HBX := hide (HWC.out.trans (hbx.mono HWC.out.size))
    have HBL2 := hide (HBL.out.quiet hbx)
    have HA5 := hide ha5
    have HIB2 := hide (HIB.out.below hbx (Nat.le_refl _))
    have HRD := hide (HRG.out A5 c5 bs.length wd rfl ha5 (HS.out.below HBX.out) (HT.out.below HBX.out (Nat.le_refl _)))
    clear hox hbx ha5 HBY c0 c1 c2
    go_wp2_with fail
    refine HRD.out.mono ?_
    rintro e we ⟨A6, c6, rfl, hnb, hbe⟩
    have HBE := hide (HBX.out.trans (hbe.mono HBX.out.size))
    have HBL3 := hide (HBL2.out.quiet hbe)
    have HNB := hide hnb
    have HIB3 := hide (HIB2.out.below hbe (Nat.le_refl _))
    have HIBY := hide (hnb.isBat)
    clear hnb hbe HRD HBL2
    go_upto_region 18 with fail
    obtain ⟨k0, k1, k2⟩ := made3 we (.int .i64 bm) (.int .i64 0) (.slice A6 rs.length c6) 26
    have hal : Below we.heap.size we (we.alloc (.cells #[.int .i64 bm, .int .i64 0, .slice A6 rs.length c6] 26)) := balloc (Below.refl _ _) _
    have HBF := hide (HBE.out.trans (hal.mono HBE.out.size))
    have HBL4 := hide (HBL3.out.quiet hal)
    have HIB4 := hide (HIB3.out.below hal (Nat.le_refl _))
    have HIBY4 := hide (HIBY.out.below hal (Nat.le_refl _))
    have hgt : we.heap.size < (we.alloc (.cells #[.int .i64 bm, .int .i64 0, .slice A6 rs.length c6] 26)).heap.size := by simp
    obtain ⟨gy, hgy⟩ : ∃ gy, gy = we.heap.size := ⟨_, rfl⟩
    clear hal
    rw [← hgy] at k0 k1 k2 hgt ⊢
    clear hgy
    generalize we.alloc (.cells #[.int .i64 bm, .int .i64 0, .slice A6 rs.length c6] 26) = wf at *
    have c0 := HBL4.out.c0
    have c1 := HBL4.out.c1
    have c2 := HBL4.out.c2
    rw [HQL2.out] at c2
    have e1 : ((mx : Int) == mx) = true := by simp
    have e2 : ((bm + (zs.length : Int)) == (bm + (zs.length : Int))) = true := by simp
    have hml : rs.length = zs.length := HML.out
    rw [hml] at k2
    have HT1 := hide (HTM.out zs.length Av cv wf HIB4.out hml)
    have HSTAY := hide (fun W (hw : Below wf.heap.size wf W) => And.intro (HBL4.out.quiet hw) (And.intro ((hw.cell (p := ⟨gy, 0, none⟩) hgt).trans k0) (And.intro ((hw.cell (p := ⟨gy, 1, none⟩) hgt).trans k1) ((hw.cell (p := ⟨gy, 2, none⟩) hgt).trans k2))))
    have HT2 := hide (fun W (hw : Below wf.heap.size wf W) => HTM.out zs.length A6 c6 W (HIBY4.out.below hw (Nat.le_refl _)) hml)
    have HNX2 := hide (fun W => HNX.out Av cv W)
    clear k0 k1 k2 hml HML hgt
    go_wp2_with fail
    refine HT1.out.mono ?_
    rintro e wg ⟨rfl, hbg⟩
    have HBG := hide hbg
    obtain ⟨-, k0, k1, k2⟩ := HSTAY.out wg hbg
    clear hbg c0 c1 c2
    go_wp2_with fail
    refine (HT2.out wg HBG.out).mono ?_
    rintro e wh ⟨rfl, hbh⟩
    have HBH := hide (HBG.out.trans (hbh.mono HBG.out.size))
    obtain ⟨hq, -, -, -⟩ := HSTAY.out wh HBH.out
    have c0 := hq.c0
    have c1 := hq.c1
    have c2 := hq.c2
    rw [HQL2.out] at c2
    clear hbh hq k0 k1 k2
    go_wp2_with fail
    refine (HNX2.out wh).mono ?_
    rintro e wi ⟨rfl, hbi⟩
    have HBI := hide (HBH.out.trans (hbi.mono HBH.out.size))
    clear hbi c0 c1 c2
    go_wp2_with fail
    refine (HT0.out wi).mono ?_
    rintro e wj ⟨rfl, hbj⟩
    have HBJ := hide (HBI.out.trans (hbj.mono HBI.out.size))
    clear hbj
    go_wp2_with fail
    go_ret
    exact ⟨rfl, HBF.out.trans (HBJ.out.mono HBF.out.size)⟩

set_option maxRecDepth 100000 in
theorem rtimes_far (A : Option Addr) (cap n : Nat) (base : Int) (w : World) (p : Nat → Addr) (hs : Sents5 w p) (ht : Tabs w) (hm : n ≤ 9223372036854775807) (hf : 64 < n ∨ n = 0) :
    Calls Tryd.prog 8 #[.slice A n cap, .int .i64 base] w fun e w' => e = .returned (.bool true) ∧ Below w.heap.size w w' := by
  have HF := hide (rfirst_any w p hs.two ht)
  clear hs ht
  rcases hf with hf | rfl
  · go_enter Tryd.func8, Tryd.ntmps8
    go_wp2_with fail
    refine HF.out.mono ?_
    rintro e w1 ⟨rfl, hb1⟩
    go_wp2_with fail
    go_ret
    exact ⟨rfl, hb1⟩
  · go_enter Tryd.func8, Tryd.ntmps8
    go_wp2_with fail
    refine HF.out.mono ?_
    rintro e w1 ⟨rfl, hb1⟩
    go_wp2_with fail
    go_ret
    exact ⟨rfl, hb1⟩
theorem rtimes_walk (A : Option Addr) (cap : Nat) (zs : List Int) (base : Int) (w : World) (p : Nat → Addr) (hs : Sents5 w p) (ht : Tabs w) (hA : Ints w A zs) (hc : zs.length ≤ cap) (hm : cap ≤ 9223372036854775807) (hz : ∀ k, k < zs.length → -9223372036854775808 ≤ zs.getD k 0 ∧ zs.getD k 0 ≤ 9223372036854775807) (hb1 : -9223372036854775808 ≤ base) (hb2 : base ≤ 9223372036854775807) :
    Calls Tryd.prog 8 #[.slice A zs.length cap, .int .i64 base] w fun e w' => e = .returned (.bool true) ∧ Below w.heap.size w w' := by
  by_cases h : 64 < zs.length ∨ zs.length = 0
  · exact rtimes_far A cap zs.length base w p hs ht (Nat.le_trans hc hm) h
  · exact rtimes_near A cap zs base w p hs ht hA hc hz hb1 hb2 (by intro e; subst e; simp at h) (by omega)
end Go.Proofs.YthemdcdgiccjkaaDoor
