/-
  The walk through VintTexts: a text longer than it may be, or than what is there, is told, and is not read.
-/
import Derived.Test.YtdiplknlkmealaaDoorVRanges
import Derived.Test.YtdiplknlkmealaaDoorHSame
namespace Go.Proofs.YtdiplknlkmealaaDoor
open Go.RowKit

theorem text_hi (l r : List UInt8) (u most : Nat) (hu : u < 18446744073709551616) (h : l = Vi.put u ++ r) (hm : most < u) : Vi.text l (fine 0) most = ([], bad 0 105) := by
  unfold Vi.text
  simp only [peek_at l r 0 u most hu (by simpa using h), if_pos hm]
  rw [if_pos (by simp [bad])]
theorem text_lo (l b r : List UInt8) (most : Nat) (hu : b.length < 18446744073709551616) (h : l = Vi.put b.length ++ (b ++ r)) (hm : b.length ≤ most) : Vi.text l (fine 0) most = (b, fine (Vi.size b.length + b.length)) := by
  unfold Vi.text
  simp only [peek_at l (b ++ r) 0 b.length most hu (by simpa using h), if_neg (show ¬ most < b.length by omega)]
  have hl : l.length = Vi.size b.length + (b.length + r.length) := by rw [h, List.length_append, List.length_append]; rfl
  rw [if_neg (by simp [fine]), if_neg (by simp only [fine]; omega)]
  have hd : l.drop (0 + Vi.size b.length) = b ++ r := by rw [h, Nat.zero_add]; exact drop_pad _ _ _ rfl
  simp only [fine] at hd ⊢
  rw [hd]
  simp [Vi.Rs.on]
theorem text_cut (l b : List UInt8) (k most : Nat) (hu : b.length < 18446744073709551616) (hl : l = (Vi.put b.length ++ b).take k) (hk : k < Vi.size b.length + b.length) (hm : b.length ≤ most) : Vi.text l (fine 0) most = ([], ⟨0, 101, none⟩) := by
  have hpl : (Vi.put b.length).length = Vi.size b.length := rfl
  by_cases h : Vi.size b.length ≤ k
  · have hl2 : l = Vi.put b.length ++ b.take (k - Vi.size b.length) := by
      rw [hl, List.take_append, hpl, List.take_of_length_le (by rw [hpl]; exact h)]
    unfold Vi.text
    simp only [peek_at l (b.take (k - Vi.size b.length)) 0 b.length most hu (by simpa using hl2), if_neg (show ¬ most < b.length by omega)]
    have hll : l.length = k := by rw [hl, List.length_take, List.length_append, hpl]; omega
    rw [if_neg (by simp [fine]), if_pos (by simp only [fine]; omega)]
    rfl
  · have hl2 : l = (Vi.put b.length).take k := by rw [hl, List.take_append_of_le_length (by rw [hpl]; omega)]
    have hg : ∀ (j m i a : Nat), j < Vi.size m → i + Vi.size m ≤ 10 → Vi.get i a ((Vi.put m).take j) = (0, 0, 101) := by
      intro j
      induction j with
      | zero => intro m i a h1 h2; rw [List.take_zero, Vi.get, if_pos (by omega)]
      | succ j ih =>
        intro m i a h1 h2
        by_cases hm : m < 128
        · rw [Vi.size_lt hm] at h1; omega
        · rw [Vi.size_ge (by omega)] at h1 h2
          rw [Vi.put_ge (by omega), List.take_succ_cons, Vi.get, Vi.byte_toNat (by omega), if_neg (by have := Vi.size_pos (m / 128); omega), if_pos (by omega)]
          exact ih (m / 128) (i + 1) _ (by omega) (by omega)
    have hp : Vi.peek l (fine 0) most = (0, 0, ⟨0, 101, none⟩) := by
      unfold Vi.peek
      rw [if_neg (by simp [fine])]
      simp only [fine, List.drop_zero, hl2, hg k b.length 0 0 (by omega) (by have := Vi.size_le10 hu; omega)]
      rw [if_pos (by simp)]
      rfl
    unfold Vi.text
    simp only [hp]
    rw [if_pos (by simp)]

theorem ErrIs.ends {w : World} {p : Nat → Addr} {g : Nat} {E : Value} {s : Vi.Rs} (h : ErrIs w p g E s) (hc : s.code = 101) : E = errV (p 0) := by
  rcases h with ⟨h, _⟩ | ⟨_, _, h⟩ | ⟨a, q, h, _⟩
  · omega
  · exact h
  · omega

theorem texts_far (most cut : Int) (A : Option Addr) (cap : Nat) (l : List UInt8) (w : World) (hl : 60 < l.length) (hm : l.length ≤ 9223372036854775807) :
    Calls Tryd.prog 13 #[.slice A l.length cap, .int .i64 most, .int .i64 cut] w fun e w' => e = .returned (.bool true) ∧ Below w.heap.size w w' := by
  go_enter Tryd.func13, Tryd.ntmps13
  go_wp2_with (go_at_call 27; refine (vfirst_any _).mono ?_; rintro e w1 ⟨rfl, hb1⟩)
  go_ret
  exact ⟨rfl, hb1⟩

set_option maxRecDepth 100000 in
set_option maxHeartbeats 1000000 in
theorem texts_near (most cut : Int) (A : Option Addr) (cap : Nat) (l : List UInt8) (w : World) (p : Nat → Addr) (h1 : -9223372036854775808 ≤ most) (h2 : most ≤ 9223372036854775807) (h3 : -9223372036854775808 ≤ cut) (h4 : cut ≤ 9223372036854775807) (ha : Arg w A cap l) (hs : Sents w p) (hl : l.length ≤ 60) :
    Calls Tryd.prog 13 #[.slice A l.length cap, .int .i64 most, .int .i64 cut] w fun e w' => e = .returned (.bool true) ∧ Below w.heap.size w w' := by
  have HA := hide ha
  have HS := hide hs
  have hu : l.length < 18446744073709551616 := by omega
  have s1 := Vi.size_le10 hu
  have s0 := Vi.size_pos l.length
  have HPU := hide (fun W => put_nil l.length W hu)
  have HNM := hide (fun W => num_at most 80 80 W rfl (by omega) (by omega) h1 h2)
  have hM := num_lt most 80 (by omega)
  have HPL : Hid ((Vi.put l.length).length = Vi.size l.length) := hide rfl
  have HTH := hide (fun h => text_hi (Vi.put l.length ++ l) l l.length (num most 80) hu rfl h)
  have HTL := hide (fun h => text_lo (Vi.put l.length ++ l) l [] (num most 80) hu (by simp) h)
  have HTC := hide (fun k h h' => text_cut ((Vi.put l.length ++ l).take k) l k (num most 80) hu rfl h h')
  have hL : (Vi.put l.length ++ l).length = Vi.size l.length + l.length := by rw [List.length_append]; rfl
  have HL := hide hL
  clear ha hs hu hL
  generalize num most 80 = M at *
  generalize hpu : Vi.put l.length = pu at *
  generalize Vi.size l.length = su at *
  clear hpu
  go_enter Tryd.func13, Tryd.ntmps13
  go_wp2_with (go_at_call 27; refine (vfirst_any _).mono ?_; rintro e w1 ⟨rfl, hb1⟩)
  have HB1 := hide hb1
  clear hb1
  refine (HNM.out _).mono ?_
  rintro e w' ⟨rfl, rfl⟩
  go_wp2_with fail
  refine (HPU.out _).mono ?_
  rintro e w2 ⟨A2, c2, rfl, ho2, -, hb2⟩
  have HO2 := hide ho2
  have HB2 := hide (HB1.out.trans (hb2.mono HB1.out.size))
  have HB12 := hide hb2
  have HZ12 := hide hb2.size
  clear ho2 hb2 HPU HNM
  go_wp2_with (at_builtin; refine wpList_app rfl (.tmp 30) (.tmp 31) rfl w1.heap.size _ pu l rfl HO2.out A l.length cap rfl rfl (HA.out.reads.below HB2.out (Nat.le_refl _)) (by rw [HPL.out]; omega) HZ12.out ?_; intro v3 w3 hown3 hg3 hv3)
  have hb3 := HB12.out.grown hg3 HZ12.out (fun g hg => (HO2.out.lt g hg).1)
  have HB3 := hide (HB1.out.trans (hb3.mono HB1.out.size))
  obtain ⟨A3, c3, rfl, ha3⟩ := hown3.arg
  rw [HL.out]
  have HA3 := hide ha3
  clear hown3 hg3 hv3 hb3 ha3 HB12 HZ12 HO2 HB2
  go_wp2_with fail
  refine (newReader_any A3 c3 _ (pu ++ l) w3 p HL.out (by omega) HA3.out).mono ?_
  rintro e w4 ⟨g, rfl, hg, hr4, hb4⟩
  have HB4 := hide (HB3.out.trans (hb4.mono HB3.out.size))
  have HR4 : Hid (Rdr w4 p g (pu ++ l) (fine 0)) := hide hr4
  have hg0 : w.heap.size ≤ g := Nat.le_trans HB3.out.size hg
  have HA34 := hide (HA3.out.below hb4 (Nat.le_refl _))
  have HNE3 : Hid (∀ b off, A3 = some ⟨b, off, none⟩ → b ≠ g) := hide (fun b off h => by
    rcases HA3.out.reads with h0 | ⟨b', off', h', hlt, _⟩
    · have := HL.out; rw [h0] at this; simp at this; omega
    · rw [h] at h'; injection h' with h'; injection h' with h'; omega)
  have HBUT := hide (fun W W' (h : Below w.heap.size w W) (hb : But g W W') => h.grown hb h.size (fun k hk => by injection hk with hk; omega))
  clear hr4 hb4 hg HA3
  have hLL : (pu ++ l).length ≤ 1000000 := by rw [HL.out]; omega
  go_wp2_with fail
  refine (rbytes_any w4 p g (pu ++ l) (fine 0) (M : Int) (by omega) (by omega) HR4.out (HS.out.below HB4.out) (fun W hW => HS.out.below (HBUT.out _ _ HB4.out hW)) hLL).mono ?_
  rintro e w5 ⟨v5, rfl, hv5, hr5, hb5⟩
  rw [Int.toNat_natCast] at hv5 hr5
  have HB5 := hide (HBUT.out _ _ HB4.out hb5)
  have HA35 := hide (HA34.out.but hb5 HNE3.out)
  clear hb5 HA34
  by_cases hm : M < l.length
  · rw [HTH.out hm] at hv5 hr5
    obtain ⟨A5, c5, rfl, -, -⟩ := hv5
    have HR5 : Hid (Rdr w5 p g (pu ++ l) (bad 0 105)) := hide hr5
    clear hr5 HTL HTC HTH
    rw [show (([] : List UInt8), bad 0 105).1.length = 0 from rfl]
    go_wp2_with fail
    refine (rerr_any w5 p g _ _ HR5.out).mono ?_
    rintro e w6 ⟨⟨E, rfl, hE⟩, rfl⟩
    have HE := hide hE
    clear hE
    go_wp2_with fail
    refine (placed_any 105 0 w5 (by omega)).mono ?_
    rintro e w7 ⟨rfl, hb7⟩
    have HB7 := hide (HB5.out.trans (hb7.mono HB5.out.size))
    have HR7 := hide (HR5.out.below hb7)
    have HSB : Hid (Calls Tryd.prog 48 #[E, faultV 105 true 0] w7 fun e w' => e = .returned (.bool true) ∧ Below w7.heap.size w7 w') := hide (same_bad w7 p (HS.out.below HB7.out) g 0 E (HE.out.but (g' := g) (But.of_below hb7)))
    clear hb7
    go_wp2_with fail
    refine HSB.out.mono ?_
    rintro e w8 ⟨rfl, hb8⟩
    have HB8 := hide (HB7.out.trans (hb8.mono HB7.out.size))
    have HR8 := hide (HR7.out.below hb8)
    clear hb8
    go_wp2_with fail
    refine (rat_any w8 p g _ _ HR8.out).mono ?_
    rintro e w9 ⟨rfl, rfl⟩
    go_wp2_with fail
    go_ret
    exact ⟨rfl, HB8.out⟩
  · rw [HTL.out (by omega)] at hv5 hr5
    obtain ⟨A5, c5, rfl, ha5, -⟩ := hv5
    have HR5 : Hid (Rdr w5 p g (pu ++ l) (fine (su + l.length))) := hide hr5
    have HA5 : Hid (Arg w5 A5 c5 l) := hide ha5
    clear hr5 ha5 HTL HTH
    rw [show (l, fine (su + l.length)).1.length = l.length from rfl]
    go_wp2_with fail
    refine (rerr_any w5 p g _ _ HR5.out).mono ?_
    rintro e w6 ⟨⟨E, rfl, hE⟩, rfl⟩
    obtain rfl := hE.good rfl
    clear hE
    go_wp2_with fail
    refine (sameBytes_any A5 A c5 cap l.length l.length l l w5 rfl rfl (by omega) (by omega) HA5.out.reads (HA.out.reads.below HB5.out (Nat.le_refl _))).mono ?_
    rintro e w6 ⟨rfl, n6, rfl⟩
    rw [show decide (l = l) = true by simp]
    have HLE : Hid ((pu ++ l).length - (fine (su + l.length)).at_ = 0) := by show _ = _; rw [HL.out]; simp [fine]
    go_wp2_with fail
    refine (rleft_any _ p g _ _ (HR5.out.below (below_drewN (Below.refl _ _) n6)) hLL).mono ?_
    rintro e w7 ⟨rfl, n7, rfl⟩
    rw [HLE.out]
    have HB7 := hide (below_drewN HB5.out (n6 + n7))
    have HA37 := hide (HA35.out.drewN (n6 + n7))
    clear HA5 HR5 HLE HA35 HB5
    have hk := num_lt cut (su + l.length) (by omega)
    have HNM := hide (fun W => num_at cut ((su : Int) + (l.length : Int)) (su + l.length) W (by omega) (by omega) (by omega) h3 h4)
    generalize num cut (su + l.length) = k at *
    have k1 := fun W => run_cut_h W A3 (su + l.length) c3 k (by have := HA37.out.le; rw [HL.out] at this; omega)
    go_wp2_with fail
    refine (HNM.out _).mono ?_
    rintro e w8 ⟨rfl, rfl⟩
    go_wp2_with fail
    generalize w5.drewN (n6 + n7) = W at *
    have hlk : ((pu ++ l).take k).length = k := by rw [List.length_take, HL.out]; omega
    have HTK := hide (HTC.out k hk (by omega))
    have HLK := hide hlk
    refine (newReader_any A3 c3 k ((pu ++ l).take k) _ p hlk (by omega) (HA37.out.first k)).mono ?_
    rintro e w9 ⟨g2, rfl, hg2, hr9, hb9⟩
    have HB9 := hide (HB7.out.trans (hb9.mono HB7.out.size))
    have HR9 : Hid (Rdr w9 p g2 ((pu ++ l).take k) (fine 0)) := hide hr9
    have hg20 : w.heap.size ≤ g2 := Nat.le_trans HB7.out.size hg2
    have HBUT2 := hide (fun W W' (h : Below w.heap.size w W) (hb : But g2 W W') => h.grown hb h.size (fun k hk => by injection hk with hk; omega))
    have hLK : ((pu ++ l).take k).length ≤ 1000000 := by rw [hlk]; omega
    clear hr9 hb9 hlk k1 HTC HNM
    generalize (pu ++ l).take k = Lk at *
    go_wp2_with fail
    refine (rbytes_any w9 p g2 Lk (fine 0) (M : Int) (by omega) (by omega) HR9.out (HS.out.below HB9.out) (fun W hW => HS.out.below (HBUT2.out _ _ HB9.out hW)) hLK).mono ?_
    rintro e w10 ⟨v10, rfl, hv10, hr10, hb10⟩
    rw [Int.toNat_natCast, HTK.out] at hv10 hr10
    have HB10 := hide (HBUT2.out _ _ HB9.out hb10)
    obtain ⟨A10, c10, rfl, -, -⟩ := hv10
    have HR10 : Hid (Rdr w10 p g2 Lk ⟨0, 101, none⟩) := hide hr10
    clear hr10 hb10
    rw [show (([] : List UInt8), (⟨0, 101, none⟩ : Vi.Rs)).1.length = 0 from rfl]
    go_wp2_with fail
    refine (rerr_any w10 p g2 _ _ HR10.out).mono ?_
    rintro e w11 ⟨⟨E, rfl, hE⟩, rfl⟩
    obtain rfl := hE.ends rfl
    have hsq := is_sent w10 p (HS.out.below HB10.out) 0 (by omega) 101
    have HSQ := hide hsq
    clear hE hsq
    unfold errV at *
    go_wp2_with fail
    refine HSQ.out.mono ?_
    rintro e w12 ⟨rfl, hb12⟩
    have HB12 := hide (HB10.out.trans (hb12.mono HB10.out.size))
    have HR12 := hide (HR10.out.below hb12)
    clear hb12
    go_wp2_with fail
    refine (rat_any w12 p g2 _ _ HR12.out).mono ?_
    rintro e w13 ⟨rfl, rfl⟩
    go_wp2_with fail
    go_ret
    exact ⟨rfl, HB12.out⟩

theorem texts_walk (most cut : Int) (A : Option Addr) (cap : Nat) (l : List UInt8) (w : World) (p : Nat → Addr) (ha : Arg w A cap l) (hs : Sents w p) (h1 : -9223372036854775808 ≤ most) (h2 : most ≤ 9223372036854775807) (h3 : -9223372036854775808 ≤ cut) (h4 : cut ≤ 9223372036854775807) :
    Calls Tryd.prog 13 #[.slice A l.length cap, .int .i64 most, .int .i64 cut] w fun e w' => e = .returned (.bool true) ∧ Below w.heap.size w w' := by
  rcases Nat.lt_or_ge 60 l.length with h | h
  · exact texts_far most cut A cap l w h (Nat.le_trans ha.le ha.max)
  · exact texts_near most cut A cap l w p h1 h2 h3 h4 ha hs h
end Go.Proofs.YtdiplknlkmealaaDoor
