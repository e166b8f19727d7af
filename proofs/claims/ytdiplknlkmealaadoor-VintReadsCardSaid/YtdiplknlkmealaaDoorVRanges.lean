/-
  The walk through VintRanges: a number out of its range is told, with its place.
-/
import Derived.Test.YtdiplknlkmealaaDoorVFixed
import Derived.Test.YtdiplknlkmealaaDoorVFault
import Derived.Test.YtdiplknlkmealaaDoorVFirst
import Derived.Test.YtdiplknlkmealaaDoorHNum
namespace Go.Proofs.YtdiplknlkmealaaDoor
open Go.RowKit

/-- A reader that has met nothing amiss. -/
def fine (k : Nat) : Vi.Rs := ⟨k, 0, none⟩
def bad (k c : Nat) : Vi.Rs := ⟨k, c, some k⟩
theorem drop_pad (a b : List UInt8) (n : Nat) (h : a.length = n) : (a ++ b).drop n = b := by subst h; simp
theorem peek_at (l r : List UInt8) (k u most : Nat) (hu : u < 18446744073709551616) (h : l.drop k = Vi.put u ++ r) : Vi.peek l (fine k) most = if most < u then (0, 0, bad k 105) else (u, Vi.size u, fine k) := by
  unfold Vi.peek
  rw [if_neg (by simp [fine])]
  simp only [fine, h, get_of_put u r hu]
  rw [if_neg (by simp)]
  rfl
theorem num_at_hi (l r : List UInt8) (k u most : Nat) (hu : u < 18446744073709551616) (h : l.drop k = Vi.put u ++ r) (hm : most < u) : Vi.num l (fine k) most = (0, bad k 105) := by
  unfold Vi.num; rw [peek_at l r k u most hu h, if_pos hm]; rfl
theorem num_at_lo (l r : List UInt8) (k u most : Nat) (hu : u < 18446744073709551616) (h : l.drop k = Vi.put u ++ r) (hm : u ≤ most) : Vi.num l (fine k) most = (u, fine (k + Vi.size u)) := by
  unfold Vi.num; rw [peek_at l r k u most hu h, if_neg (by omega)]; rfl
theorem int_at (l r : List UInt8) (k : Nat) (n lo hi : Int) (h1 : -9223372036854775808 ≤ n) (h2 : n ≤ 9223372036854775807) (h : l.drop k = Vi.put (Vi.zz n) ++ r) : Vi.int l (fine k) lo hi = if n < lo ∨ hi < n then (0, bad k 105) else (n, fine (k + Vi.size (Vi.zz n))) := by
  unfold Vi.int Vi.peekI
  rw [if_neg (by simp [fine])]
  simp only [fine, h, get_of_put (Vi.zz n) r (Vi.zz_lt n h1 h2), Vi.unzz_zz]
  rw [if_neg (by simp)]
  by_cases hc : n < lo ∨ hi < n
  · rw [if_pos hc, if_pos hc]; rfl
  · rw [if_neg hc, if_neg hc]; rfl
theorem int_bad (l : List UInt8) (k c : Nat) (hc : c ≠ 0) (lo hi : Int) : Vi.int l (bad k c) lo hi = (0, bad k c) := by
  unfold Vi.int Vi.peekI
  rw [if_pos (by simpa [bad] using hc)]; rfl
theorem fixed_one (l : List UInt8) (k : Nat) (h : k < l.length) : (Vi.fixed l (fine k) 1).2 = fine (k + 1) := by
  unfold Vi.fixed
  rw [if_neg (by simp [fine]), if_neg (by simp only [fine]; omega)]; rfl

theorem same_bad (w : World) (p : Nat → Addr) (hs : Sents w p) (g k : Nat) (E : Value) (he : ErrIs w p g E (bad k 105)) :
    Calls Tryd.prog 48 #[E, faultV 105 true (k : Int)] w fun e w' => e = .returned (.bool true) ∧ Below w.heap.size w w' := same_err w p hs g E (bad k 105) he

theorem ranges_far (u most n lo hi : Int) (A : Option Addr) (cap : Nat) (l : List UInt8) (w : World) (hl : 20 < l.length) (hm : l.length ≤ 9223372036854775807) :
    Calls Tryd.prog 12 #[.int .u64 u, .int .u64 most, .int .i64 n, .int .i64 lo, .int .i64 hi, .slice A l.length cap] w fun e w' => e = .returned (.bool true) ∧ Below w.heap.size w w' := by
  go_enter Tryd.func12, Tryd.ntmps12
  go_wp2_with (go_at_call 27; refine (vfirst_any _).mono ?_; rintro e w1 ⟨rfl, hb1⟩)
  go_ret
  exact ⟨rfl, hb1⟩

set_option maxRecDepth 100000 in
set_option maxHeartbeats 1000000 in
theorem ranges_near (u most : Nat) (n lo hi : Int) (A : Option Addr) (cap : Nat) (l : List UInt8) (w : World) (p : Nat → Addr) (hu : u < 18446744073709551616) (hmo : most < 18446744073709551616) (h1 : -9223372036854775808 ≤ n) (h2 : n ≤ 9223372036854775807) (ha : Arg w A cap l) (hs : Sents w p) (hl : l.length ≤ 20) :
    Calls Tryd.prog 12 #[.int .u64 u, .int .u64 most, .int .i64 n, .int .i64 lo, .int .i64 hi, .slice A l.length cap] w fun e w' => e = .returned (.bool true) ∧ Below w.heap.size w w' := by
  have HA := hide ha
  have HS := hide hs
  have HPU := hide (fun W h => put_at A cap l.length l u W rfl hu (by omega) h)
  have HSU := hide (fun W => size_any u W hu)
  have hzl := Vi.zz_lt n h1 h2
  have s1 := Vi.size_le10 hu
  have s2 := Vi.size_le10 hzl
  have hL1 : (l ++ Vi.put u).length = l.length + Vi.size u := by rw [List.length_append]; rfl
  have hL2 : ((l ++ Vi.put u) ++ Vi.put (Vi.zz n)).length = l.length + Vi.size u + Vi.size (Vi.zz n) := by rw [List.length_append, hL1]; rfl
  have HPZ := hide (fun A' c' W h => putInt_at A' c' (l.length + Vi.size u) (l ++ Vi.put u) n W hL1 h1 h2 (by omega) h)
  have hd1 : ((l ++ Vi.put u) ++ Vi.put (Vi.zz n)).drop l.length = Vi.put u ++ Vi.put (Vi.zz n) := by rw [List.append_assoc]; exact drop_pad _ _ _ rfl
  have hd2 : ((l ++ Vi.put u) ++ Vi.put (Vi.zz n)).drop (l.length + Vi.size u) = Vi.put (Vi.zz n) ++ [] := by rw [List.append_nil]; exact drop_pad _ _ _ hL1
  have HNH := hide (fun h => num_at_hi _ _ l.length u most hu hd1 h)
  have HNL := hide (fun h => num_at_lo _ _ l.length u most hu hd1 h)
  have HIA := hide (int_at _ _ (l.length + Vi.size u) n lo hi h1 h2 hd2)
  have HF1 := hide (fun k (h : k < l.length) => fixed_one ((l ++ Vi.put u) ++ Vi.put (Vi.zz n)) k (by omega))
  have HL1 := hide hL1
  have HL2 := hide hL2
  have hll : l.length + Vi.size u + Vi.size (Vi.zz n) ≤ 40 := by omega
  clear ha hs hzl hL1 hL2 hd1 hd2 hu
  generalize (l ++ Vi.put u) ++ Vi.put (Vi.zz n) = L at *
  generalize l ++ Vi.put u = L1 at *
  generalize Vi.size (Vi.zz n) = sz at *
  generalize Vi.size u = su at *
  go_enter Tryd.func12, Tryd.ntmps12
  go_wp2_with (go_at_call 27; refine (vfirst_any _).mono ?_; rintro e w1 ⟨rfl, hb1⟩)
  have HB1 := hide hb1
  clear hb1
  refine (HPU.out _ (HA.out.reads.below HB1.out (Nat.le_refl _))).mono ?_
  rintro e w2 ⟨v2, rfl, ho2, hb2⟩
  obtain ⟨A2, c2, rfl, ha2⟩ := ho2.arg
  rw [HL1.out]
  have HA2 := hide ha2
  have HB2 := hide (HB1.out.trans (hb2.mono HB1.out.size))
  clear ho2 ha2 hb2 HPU
  go_wp2_with fail
  refine (HPZ.out A2 c2 _ HA2.out.reads).mono ?_
  rintro e w3 ⟨v3, rfl, ho3, hb3⟩
  obtain ⟨A3, c3, rfl, ha3⟩ := ho3.arg
  rw [HL2.out]
  have HA3 := hide ha3
  have HB3 := hide (HB2.out.trans (hb3.mono HB2.out.size))
  clear ho3 ha3 hb3 HPZ HA2
  go_wp2_with fail
  refine (newReader_any A3 c3 _ L w3 p HL2.out (by omega) HA3.out).mono ?_
  rintro e w4 ⟨g, rfl, hg, hr4, hb4⟩
  have HB4 := hide (HB3.out.trans (hb4.mono HB3.out.size))
  have HR4 : Hid (Rdr w4 p g L (fine 0)) := hide hr4
  have hg0 : w.heap.size ≤ g := Nat.le_trans HB3.out.size hg
  have HBUT := hide (fun W W' (h : Below w.heap.size w W) (hb : But g W W') => h.grown hb h.size (fun k hk => by injection hk with hk; omega))
  clear hr4 hb4 hg
  have hLL : L.length ≤ 1000000 := by rw [HL2.out]; omega
  go_wp2_with fail
  go_loopw [16] (fun i wr => ∃ k : Nat, k ≤ l.length ∧ i = .int .i64 k ∧ Rdr wr p g L (fine k) ∧ Below w.heap.size w wr) (fun i _ => l.length - (intOf i).toNat)
  case atStart => exact ⟨0, Nat.zero_le _, rfl, HR4.out, HB4.out⟩
  case round =>
    obtain ⟨k, hk, rfl, hr, hb⟩ := hrel
    have HR := hide hr
    have HB := hide hb
    clear hr hb
    by_cases hlt : k < l.length
    · go_wp2_with fail
      refine (fixed_any wr p g L (fine k) 1 (by omega) (by omega) HR.out (HS.out.below HB.out) hLL).mono ?_
      rintro e w5 ⟨rfl, hr5, hb5⟩
      rw [HF1.out k hlt] at hr5
      have HR5 := hide hr5
      have HB5 := hide (HBUT.out _ _ HB.out hb5)
      clear hr5 hb5
      go_wp2_with fail
      exact ⟨⟨k + 1, by omega, by go_num, HR5.out, HB5.out⟩, by simp [intOf]; omega⟩
    · obtain rfl : k = l.length := by omega
      go_wp2_with fail
      refine (num_any wr p g L (fine l.length) most HR.out (HS.out.below HB.out) hLL).mono ?_
      rintro e w5 ⟨rfl, hr5, hb5⟩
      have HB5 := hide (HBUT.out _ _ HB.out hb5)
      clear hb5
      by_cases hm : most < u
      · rw [HNH.out hm] at hr5 ⊢
        have HR5 := hide hr5
        have hm' : (most : Int) < (u : Int) := by omega
        clear hr5 HNL HNH hm
        go_wp2_with fail
        refine (rerr_any w5 p g L _ HR5.out).mono ?_
        rintro e w6 ⟨⟨E, rfl, hE⟩, rfl⟩
        have HE := hide hE
        clear hE
        go_wp2_with fail
        refine (placed_any 105 _ w5 (by omega)).mono ?_
        rintro e w7 ⟨rfl, hb7⟩
        have HB7 := hide (HB5.out.trans (hb7.mono HB5.out.size))
        have HR7 := hide (HR5.out.below hb7)
        have HE7 := hide (HE.out.but (g' := g) (But.of_below hb7))
        clear hb7
        go_wp2_with fail
        refine (same_bad w7 p (HS.out.below HB7.out) g l.length E HE7.out).mono ?_
        rintro e w8 ⟨rfl, hb8⟩
        have HB8 := hide (HB7.out.trans (hb8.mono HB7.out.size))
        have HR8 := hide (HR7.out.below hb8)
        clear hb8
        go_wp2_with fail
        refine (int_any w8 p g L _ lo hi HR8.out (HS.out.below HB8.out) hLL).mono ?_
        rintro e w9 ⟨rfl, hr9, hb9⟩
        rw [int_bad L l.length 105 (by omega)] at hr9 ⊢
        have HR9 := hide hr9
        have HB9 := hide (HBUT.out _ _ HB8.out hb9)
        clear hr9 hb9
        go_wp2_with fail
        refine (rat_any w9 p g L _ HR9.out).mono ?_
        rintro e w10 ⟨rfl, rfl⟩
        go_wp2_with fail
        go_ret
        exact ⟨congrArg (fun b => Ending.returned (Value.bool b)) (show (((bad l.length 105).at_ : Int) == (l.length : Int)) = true by simp [bad]), HB9.out⟩
      · rw [HNL.out (by omega)] at hr5 ⊢
        have HR5 := hide hr5
        have hm' : ¬ (most : Int) < (u : Int) := by omega
        clear hr5 HNL HNH hm
        go_wp2_with fail
        refine (int_any w5 p g L _ lo hi HR5.out (HS.out.below HB5.out) hLL).mono ?_
        rintro e w6 ⟨rfl, hr6, hb6⟩
        rw [HIA.out] at hr6 ⊢
        have HB6 := hide (HBUT.out _ _ HB5.out hb6)
        have huu : ((u : Int) != u) = false := by simp
        clear hb6 HIA
        by_cases hc : n < lo ∨ hi < n
        · rw [if_pos hc] at hr6 ⊢
          have HR6 := hide hr6
          clear hr6
          by_cases hcl : n < lo
          · have hc' : decide (n < lo) = true := by simp [hcl]
            clear hc
            go_wp2_with fail
            refine (rerr_any w6 p g L _ HR6.out).mono ?_
            rintro e w7 ⟨⟨E, rfl, hE⟩, rfl⟩
            have HE := hide hE
            clear hE
            go_wp2_with fail
            refine (HSU.out _).mono ?_
            rintro e w7 ⟨rfl, rfl⟩
            go_wp2_with fail
            refine (placed_any 105 _ w6 (by omega)).mono ?_
            rintro e w7 ⟨rfl, hb7⟩
            have HB7 := hide (HB6.out.trans (hb7.mono HB6.out.size))
            have hsb := same_bad w7 p (HS.out.below HB7.out) g (l.length + su) E (HE.out.but (g' := g) (But.of_below hb7))
            rw [Int.natCast_add] at hsb
            have HSB := hide hsb
            clear hb7 hsb
            go_wp2_with fail
            refine HSB.out.mono ?_
            rintro e w8 ⟨rfl, hb8⟩
            go_wp2_with fail
            go_ret
            exact ⟨rfl, HB7.out.trans (hb8.mono HB7.out.size)⟩
          · have hc' : decide (hi < n) = true := by simp; omega
            have hc0 : decide (n < lo) = false := by simp; omega
            clear hc
            go_wp2_with fail
            refine (rerr_any w6 p g L _ HR6.out).mono ?_
            rintro e w7 ⟨⟨E, rfl, hE⟩, rfl⟩
            have HE := hide hE
            clear hE
            go_wp2_with fail
            refine (HSU.out _).mono ?_
            rintro e w7 ⟨rfl, rfl⟩
            go_wp2_with fail
            refine (placed_any 105 _ w6 (by omega)).mono ?_
            rintro e w7 ⟨rfl, hb7⟩
            have HB7 := hide (HB6.out.trans (hb7.mono HB6.out.size))
            have hsb := same_bad w7 p (HS.out.below HB7.out) g (l.length + su) E (HE.out.but (g' := g) (But.of_below hb7))
            rw [Int.natCast_add] at hsb
            have HSB := hide hsb
            clear hb7 hsb
            go_wp2_with fail
            refine HSB.out.mono ?_
            rintro e w8 ⟨rfl, hb8⟩
            go_wp2_with fail
            go_ret
            exact ⟨rfl, HB7.out.trans (hb8.mono HB7.out.size)⟩
        · rw [if_neg hc] at hr6 ⊢
          have HR6 := hide hr6
          clear hr6
          have hc1 : decide (n < lo) = false := by simp; omega
          have hc2 : decide (hi < n) = false := by simp; omega
          clear hc
          go_wp2_with fail
          refine (rerr_any w6 p g L _ HR6.out).mono ?_
          rintro e w7 ⟨⟨E, rfl, hE⟩, rfl⟩
          obtain rfl := hE.good rfl
          clear hE
          have hnn : (n == n) = true := by simp
          have HLE : Hid (L.length - (fine (l.length + su + sz)).at_ = 0) := by show _ = _; rw [HL2.out]; simp [fine]
          go_wp2_with fail
          refine (rleft_any w6 p g L _ HR6.out hLL).mono ?_
          rintro e w7 ⟨rfl, m7, rfl⟩
          rw [show L.length - (n, fine (l.length + su + sz)).2.at_ = 0 from HLE.out]
          go_wp2_with fail
          go_ret
          exact ⟨rfl, below_drewN HB6.out m7⟩

theorem ranges_walk (u most : Nat) (n lo hi : Int) (A : Option Addr) (cap : Nat) (l : List UInt8) (w : World) (p : Nat → Addr) (ha : Arg w A cap l) (hs : Sents w p) (hu : u < 18446744073709551616) (hmo : most < 18446744073709551616) (h1 : -9223372036854775808 ≤ n) (h2 : n ≤ 9223372036854775807) :
    Calls Tryd.prog 12 #[.int .u64 u, .int .u64 most, .int .i64 n, .int .i64 lo, .int .i64 hi, .slice A l.length cap] w fun e w' => e = .returned (.bool true) ∧ Below w.heap.size w w' := by
  rcases Nat.lt_or_ge 20 l.length with h | h
  · exact ranges_far u most n lo hi A cap l w h (Nat.le_trans ha.le ha.max)
  · exact ranges_near u most n lo hi A cap l w p hu hmo h1 h2 ha hs h
end Go.Proofs.YtdiplknlkmealaaDoor
