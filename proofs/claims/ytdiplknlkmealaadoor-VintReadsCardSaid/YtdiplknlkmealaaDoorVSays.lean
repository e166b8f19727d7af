/-
  The walk through VintSays: any number's bytes, and any bytes' number, are what the chapter says.
-/
import Derived.Test.YtdiplknlkmealaaDoorVRef
import Derived.Test.YtdiplknlkmealaaDoorVBack
namespace Go.Proofs.YtdiplknlkmealaaDoor
open Go.RowKit

theorem refGet_at (A : Option Addr) (cap n : Nat) (l : List UInt8) (w : World) (a k c : Nat) (hn : l.length = n) (hg : Vi.get 0 0 l = (a, k, c)) (hl : n ≤ 1000000) (hr : Reads w A l) :
    Calls Tryd.prog 33 #[.slice A n cap] w fun e w' => e = .returned (.tuple #[.int .u64 a, .int .i64 k, .int .i64 c]) ∧ w = w' := by
  subst hn
  have h := refGet_any A cap l w hl hr
  rw [hg] at h; exact h
theorem refGetInt_at (A : Option Addr) (cap n : Nat) (l : List UInt8) (w : World) (a : Int) (k c : Nat) (hn : l.length = n) (hg : (Vi.unzz (Vi.get 0 0 l).1, (Vi.get 0 0 l).2) = (a, k, c)) (hl : n ≤ 1000000) (hr : Reads w A l) :
    Calls Tryd.prog 35 #[.slice A n cap] w fun e w' => e = .returned (.tuple #[.int .i64 a, .int .i64 k, .int .i64 c]) ∧ w = w' := by
  subst hn
  have h := refGetInt_any A cap l w hl hr
  have e1 := congrArg Prod.fst hg
  have e2 := congrArg Prod.snd hg
  simp only at e1 e2
  rw [e1, e2] at h; exact h
theorem is_errOf (w : World) (p : Nat → Addr) (h : Sents w p) (c : Nat) (hc : c = 0 ∨ c = 101 ∨ c = 103) :
    Calls Tryd.prog 23 #[errOf p c, .int .i64 c] w fun e w' => e = .returned (.bool true) ∧ Below w.heap.size w w' := by
  rcases hc with rfl | rfl | rfl
  · exact (is_nil 0 w).mono fun e w' ⟨he, hb⟩ => ⟨by rw [he]; rfl, hb⟩
  · exact (is_sent w p h 0 (by omega) 101).mono fun e w' ⟨he, hb⟩ => ⟨by rw [he]; rfl, hb⟩
  · exact (is_sent w p h 2 (by omega) 103).mono fun e w' ⟨he, hb⟩ => ⟨by rw [he]; rfl, hb⟩

theorem vsays_far (u n : Int) (A : Option Addr) (cap : Nat) (l : List UInt8) (w : World) (hl : 40 < l.length) (hm : l.length ≤ 9223372036854775807) :
    Calls Tryd.prog 8 #[.int .u64 u, .int .i64 n, .slice A l.length cap] w fun e w' => e = .returned (.bool true) ∧ Below w.heap.size w w' := by
  go_enter Tryd.func8, Tryd.ntmps8
  go_wp2_with (go_at_call 27; refine (vfirst_any _).mono ?_; rintro e w1 ⟨rfl, hb1⟩)
  go_ret
  exact ⟨rfl, hb1⟩

set_option maxRecDepth 100000 in
set_option maxHeartbeats 1000000 in
theorem vsays_near (u : Nat) (n : Int) (A : Option Addr) (cap : Nat) (l : List UInt8) (w : World) (p : Nat → Addr) (hu : u < 18446744073709551616) (h1 : -9223372036854775808 ≤ n) (h2 : n ≤ 9223372036854775807) (ha : Arg w A cap l) (hs : Sents w p) (hl : l.length ≤ 40)
    (a k c : Nat) (z : Int) (hg : Vi.get 0 0 l = (a, k, c)) (hz : Vi.unzz a = z) (hc : c = 0 ∨ c = 101 ∨ c = 103) (h0 : c ≠ 0 → a = 0 ∧ z = 0) (nb : Bool) (hnb : ((c : Int) != 0) = nb) (hnb2 : ((c : Int) == 0) = !nb) :
    Calls Tryd.prog 8 #[.int .u64 u, .int .i64 n, .slice A l.length cap] w fun e w' => e = .returned (.bool true) ∧ Below w.heap.size w w' := by
  have HA := hide ha
  have HS := hide hs
  have HPU := hide (fun W h => put_at A cap l.length l u W rfl hu (by omega) h)
  have HPZ := hide (fun W h => putInt_at A cap l.length l n W rfl h1 h2 (by omega) h)
  have HRU := hide (fun W => refPut_any u W hu)
  have HRZ := hide (fun W => refPutInt_any n W h1 h2)
  have HSU := hide (fun W => size_any u W hu)
  have hzl := Vi.zz_lt n h1 h2
  have s1 := Vi.size_le10 hu
  have s2 := Vi.size_le10 hzl
  have HL1 : Hid ((Vi.put u).length = Vi.size u) := hide rfl
  have HL2 : Hid ((Vi.put (Vi.zz n)).length = Vi.size (Vi.zz n)) := hide rfl
  have HG := hide hg
  have HGZ : Hid ((Vi.unzz (Vi.get 0 0 l).1, (Vi.get 0 0 l).2) = (z, k, c)) := by show _ = _; rw [hg]; exact congrArg (·, (k, c)) hz
  have HC := hide hc
  have HNB := hide hnb
  have HNB2 := hide hnb2
  have H0 := hide h0
  generalize Vi.zz n = zn at *
  generalize Vi.size u = su at *
  generalize Vi.size zn = sz at *
  generalize Vi.put u = pu at *
  generalize Vi.put zn = pz at *
  clear ha hs hu hzl hg hz hc hnb hnb2 h0
  go_enter Tryd.func8, Tryd.ntmps8
  go_wp2_with (go_at_call 27; refine (vfirst_any _).mono ?_; rintro e w1 ⟨rfl, hb1⟩)
  have HB1 := hide hb1
  clear hb1
  refine (HPU.out _ (HA.out.reads.below HB1.out (Nat.le_refl _))).mono ?_
  rintro e w2 ⟨v2, rfl, ho2, hb2⟩
  have HO2 := hide ho2
  have HB2 := hide (HB1.out.trans (hb2.mono HB1.out.size))
  clear ho2 hb2
  go_wp2_with fail
  refine (HPZ.out _ (HA.out.reads.below HB2.out (Nat.le_refl _))).mono ?_
  rintro e w3 ⟨v3, rfl, ho3, hb3⟩
  have HO3 := hide ho3
  have HO23 := hide (HO2.out.below hb3 (Nat.le_refl _))
  have HB3 := hide (HB2.out.trans (hb3.mono HB2.out.size))
  clear ho3 hb3 HO2 HPU HPZ
  go_wp2_with fail
  refine (bytes_any A cap l.length l w3 rfl (by omega) (HA.out.reads.below HB3.out (Nat.le_refl _))).mono ?_
  rintro e w4 ⟨v4, rfl, ho4, hb4⟩
  have HO4 := hide ho4
  have HB34 := hide hb4
  clear ho4 hb4
  go_wp2_with fail
  refine (HRU.out _).mono ?_
  rintro e w5 ⟨v5, rfl, ho5, hb5⟩
  have HO45 := hide (HO4.out.below hb5 (Nat.le_refl _))
  obtain ⟨A5, c5, rfl, ha5⟩ := ho5.arg
  rw [HL1.out]
  have HA5 := hide ha5
  have HB35 := hide (HB34.out.trans (hb5.mono HB34.out.size))
  have HZ35 := hide HB35.out.size
  clear ho5 hb5 ha5 HO4 HB34
  go_wp2_with (at_builtin; refine wpList_app rfl (.tmp 42) (.tmp 44) rfl w3.heap.size v4 l pu rfl HO45.out A5 su c5 rfl HL1.out HA5.out.reads (by omega) HZ35.out ?_; intro v6 w6 hown6 hg6 hv6)
  have hb6 := HB35.out.grown hg6 HZ35.out (fun g hg => (HO45.out.lt g hg).1)
  have HO6 := hide hown6
  have HO26 := hide (HO23.out.below hb6 (Nat.le_refl _))
  have HO36 := hide (HO3.out.below hb6 (Nat.le_refl _))
  have HB6 := hide (HB3.out.trans (hb6.mono HB3.out.size))
  clear hown6 hg6 hv6 hb6 HO45 HA5 HB35 HZ35 HO23 HO3 HB3
  go_wp2_with fail
  refine (bytes_any A cap l.length l w6 rfl (by omega) (HA.out.reads.below HB6.out (Nat.le_refl _))).mono ?_
  rintro e w7 ⟨v7, rfl, ho7, hb7⟩
  have HO7 := hide ho7
  have HB67 := hide hb7
  clear ho7 hb7
  go_wp2_with fail
  refine (HRZ.out _).mono ?_
  rintro e w8 ⟨v8, rfl, ho8, hb8⟩
  have HO78 := hide (HO7.out.below hb8 (Nat.le_refl _))
  obtain ⟨A8, c8, rfl, ha8⟩ := ho8.arg
  rw [HL2.out]
  have HA8 := hide ha8
  have HB68 := hide (HB67.out.trans (hb8.mono HB67.out.size))
  have HZ68 := hide HB68.out.size
  clear ho8 hb8 ha8 HO7 HB67
  go_wp2_with (at_builtin; refine wpList_app rfl (.tmp 47) (.tmp 49) rfl w6.heap.size v7 l pz rfl HO78.out A8 sz c8 rfl HL2.out HA8.out.reads (by omega) HZ68.out ?_; intro v9 w9 hown9 hg9 hv9)
  have hb9 := HB68.out.grown hg9 HZ68.out (fun g hg => (HO78.out.lt g hg).1)
  have HO9 := hide hown9
  have HO29 := hide (HO26.out.below hb9 (Nat.le_refl _))
  have HO39 := hide (HO36.out.below hb9 (Nat.le_refl _))
  have HO69 := hide (HO6.out.below hb9 (Nat.le_refl _))
  have HB9 := hide (HB6.out.trans (hb9.mono HB6.out.size))
  clear hown9 hg9 hv9 hb9 HO78 HA8 HB68 HZ68 HO26 HO36 HO6 HB6
  go_wp2_with fail
  refine (get_at A cap l.length l w9 p a k c rfl HG.out (by omega) (HA.out.below HB9.out (Nat.le_refl _)) (HS.out.below HB9.out)).mono ?_
  rintro e w10 ⟨rfl, n10, rfl⟩
  generalize hE : errOf p c = E at *
  have HE := hide hE
  clear hE
  go_wp2_with fail
  refine (refGet_at A cap l.length l _ a k c rfl HG.out (by omega) ((HA.out.below HB9.out (Nat.le_refl _)).drewN n10).reads).mono ?_
  rintro e w11 ⟨rfl, rfl⟩
  go_wp2_with fail
  refine (getInt_at A cap l.length l _ p z k c rfl HGZ.out (by omega) ((HA.out.below HB9.out (Nat.le_refl _)).drewN n10) (HS.out.below (below_drewN HB9.out n10))).mono ?_
  rintro e w12 ⟨rfl, n12, rfl⟩
  rw [HE.out]
  go_wp2_with fail
  refine (refGetInt_at A cap l.length l _ z k c rfl HGZ.out (by omega) ((HA.out.below HB9.out (Nat.le_refl _)).drewN (n10 + n12)).reads).mono ?_
  rintro e w13 ⟨rfl, rfl⟩
  have hb14 := below_drewN (Below.refl w9.heap.size w9) (n10 + n12)
  have HB14 := hide (below_drewN HB9.out (n10 + n12))
  have HO2' := hide (HO29.out.below hb14 (Nat.le_refl _))
  have HO3' := hide (HO39.out.below hb14 (Nat.le_refl _))
  have HO6' := hide (HO69.out.below hb14 (Nat.le_refl _))
  have HO9' := hide (HO9.out.below hb14 (Nat.le_refl _))
  clear hb14 HB9 HO29 HO39 HO69 HO9
  generalize w9.drewN (n10 + n12) = W at *
  go_upto_if 76 with fail
  go_cut [15, 21] (fun x y wx => x = .int .u64 a ∧ y = .int .i64 z ∧ W = wx)
  case first =>
    have hn1 := HNB.out
    have hn2 := HNB2.out
    cases nb
    · go_wp2_with fail
      go_meet
      exact ⟨rfl, rfl, rfl⟩
    · have HC0 : Hid (c ≠ 0) := by
        show c ≠ 0
        intro h; rw [h] at hn1; cases hn1
      go_wp2_with fail
      go_meet
      obtain ⟨ha0, hz0⟩ := H0.out HC0.out
      exact ⟨by rw [ha0]; rfl, by rw [hz0], rfl⟩
  case rest =>
    obtain ⟨rfl, rfl, rfl⟩ := hcut
    obtain ⟨A2, c2, rfl, ha2⟩ := HO2'.out.arg
    obtain ⟨A3, c3, rfl, ha3⟩ := HO3'.out.arg
    obtain ⟨A6, c6, rfl, ha6⟩ := HO6'.out.arg
    obtain ⟨A9, c9, rfl, ha9⟩ := HO9'.out.arg
    have HA2 := hide ha2
    have HA3 := hide ha3
    have HA6 := hide ha6
    have HA9 := hide ha9
    have hq1 : (l ++ pu).length = l.length + su := by rw [List.length_append, HL1.out]
    have hq2 : (l ++ pz).length = l.length + sz := by rw [List.length_append, HL2.out]
    have HQ1 := hide hq1
    have HQ2 := hide hq2
    rw [hq1, hq2]
    clear ha2 ha3 ha6 ha9 HO2' HO3' HO6' HO9' hq1 hq2
    have hua : (a == a) = true := by simp
    have huz : (z == z) = true := by simp
    go_wp2_with fail
    refine (sameBytes_any A2 A6 c2 c6 _ _ (l ++ pu) (l ++ pu) W HQ1.out HQ1.out (by omega) (by omega) HA2.out.reads HA6.out.reads).mono ?_
    rintro e w15 ⟨rfl, n15, rfl⟩
    rw [show decide (l ++ pu = l ++ pu) = true by simp]
    go_wp2_with fail
    refine (sameBytes_any A3 A9 c3 c9 _ _ (l ++ pz) (l ++ pz) _ HQ2.out HQ2.out (by omega) (by omega) (HA3.out.drewN n15).reads (HA9.out.drewN n15).reads).mono ?_
    rintro e w16 ⟨rfl, n16, rfl⟩
    rw [show decide (l ++ pz = l ++ pz) = true by simp]
    go_wp2_with fail
    refine (HSU.out _).mono ?_
    rintro e w17 ⟨rfl, rfl⟩
    go_wp2_with fail
    refine (HRU.out _).mono ?_
    rintro e w18 ⟨v18, rfl, ho18, hb18⟩
    obtain ⟨A18, c18, rfl, -⟩ := ho18.arg
    rw [HL1.out]
    have HB18 := hide ((below_drewN HB14.out (n15 + n16)).trans (hb18.mono HB14.out.size))
    clear ho18 hb18
    go_wp2_with fail
    have hi1 := is_errOf w18 p (HS.out.below HB18.out) c HC.out
    rw [HE.out] at hi1
    refine hi1.mono ?_
    rintro e w19 ⟨rfl, hb19⟩
    have HB19 := hide (HB18.out.trans (hb19.mono HB18.out.size))
    clear hb19 hi1
    go_wp2_with fail
    have hi2 := is_errOf w19 p (HS.out.below HB19.out) c HC.out
    rw [HE.out] at hi2
    refine hi2.mono ?_
    rintro e w20 ⟨rfl, hb20⟩
    have HB20 := hide (HB19.out.trans (hb20.mono HB19.out.size))
    clear hb20 hi2
    go_wp2_with fail
    go_ret
    exact ⟨rfl, HB20.out⟩

theorem vsays_walk (u : Nat) (n : Int) (A : Option Addr) (cap : Nat) (l : List UInt8) (w : World) (p : Nat → Addr) (ha : Arg w A cap l) (hs : Sents w p) (hu : u < 18446744073709551616) (h1 : -9223372036854775808 ≤ n) (h2 : n ≤ 9223372036854775807) :
    Calls Tryd.prog 8 #[.int .u64 u, .int .i64 n, .slice A l.length cap] w fun e w' => e = .returned (.bool true) ∧ Below w.heap.size w w' := by
  rcases Nat.lt_or_ge 40 l.length with h | h
  · exact vsays_far u n A cap l w h (Nat.le_trans ha.le ha.max)
  · obtain ⟨g1, g2, g3, g4, g5, g6⟩ := Vi.get_lt l 0 0 (by omega) (by omega)
    refine vsays_near u n A cap l w p hu h1 h2 ha hs h (Vi.get 0 0 l).1 (Vi.get 0 0 l).2.1 (Vi.get 0 0 l).2.2 _ rfl rfl g4 (fun h => ⟨(g5 h).1, by rw [(g5 h).1]; rfl⟩) _ rfl (by simp [bne])
end Go.Proofs.YtdiplknlkmealaaDoor
