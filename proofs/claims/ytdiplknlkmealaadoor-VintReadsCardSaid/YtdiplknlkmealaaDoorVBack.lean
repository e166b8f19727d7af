/-
  The walk through VintBack: a number's bytes are read as it, whatever stands behind; cut off they end too early.
-/
import Derived.Test.YtdiplknlkmealaaDoorVGetI
import Derived.Test.YtdiplknlkmealaaDoorVFirst
import Derived.Test.YtdiplknlkmealaaDoorHBytes
import Derived.Test.YtdiplknlkmealaaDoorIs
import Derived.Test.YtdiplknlkmealaaDoorArgs
namespace Go.Proofs.YtdiplknlkmealaaDoor
open Go.RowKit

theorem get_at (A : Option Addr) (cap n : Nat) (l : List UInt8) (w : World) (p : Nat → Addr) (a k c : Nat) (hn : l.length = n) (hg : Vi.get 0 0 l = (a, k, c)) (hl : n ≤ 1000000) (ha : Arg w A cap l) (hs : Sents w p) :
    Calls Tryd.prog 32 #[.slice A n cap] w fun e w' => e = .returned (.tuple #[.int .u64 a, .int .i64 k, errOf p c]) ∧ ∃ n, w' = w.drewN n := by
  subst hn
  have h := get_any A cap l w p hl ha.le ha.reads hs
  rw [hg] at h; exact h
theorem getInt_at (A : Option Addr) (cap n : Nat) (l : List UInt8) (w : World) (p : Nat → Addr) (a : Int) (k c : Nat) (hn : l.length = n) (hg : (Vi.unzz (Vi.get 0 0 l).1, (Vi.get 0 0 l).2) = (a, k, c)) (hl : n ≤ 1000000) (ha : Arg w A cap l) (hs : Sents w p) :
    Calls Tryd.prog 34 #[.slice A n cap] w fun e w' => e = .returned (.tuple #[.int .i64 a, .int .i64 k, errOf p c]) ∧ ∃ n, w' = w.drewN n := by
  subst hn
  have h := getInt_any A cap l w p hl ha.le ha.reads hs
  have e1 := congrArg Prod.fst hg
  have e2 := congrArg Prod.snd hg
  simp only at e1 e2
  rw [e1, e2] at h; exact h
theorem get_of_put (u : Nat) (r : List UInt8) (hu : u < 18446744073709551616) : Vi.get 0 0 (Vi.put u ++ r) = (u, Vi.size u, 0) := by
  have h := Vi.get_put u 0 0 r (fun h => absurd h (Nat.lt_irrefl 0)) (by simpa using hu)
  simpa using h
theorem get_of_cut (u : Nat) (hu : u < 18446744073709551616) : Vi.get 0 0 ((Vi.put u).take (Vi.size u - 1)) = (0, 0, 101) := by
  have h := Vi.get_cut u 0 0 (by have := Vi.size_le10 hu; omega)
  rwa [List.dropLast_eq_take] at h

theorem back_far (u n : Int) (A : Option Addr) (cap : Nat) (l : List UInt8) (w : World) (hl : 40 < l.length) (hm : l.length ≤ 9223372036854775807) :
    Calls Tryd.prog 9 #[.int .u64 u, .int .i64 n, .slice A l.length cap] w fun e w' => e = .returned (.bool true) ∧ Below w.heap.size w w' := by
  go_enter Tryd.func9, Tryd.ntmps9
  go_wp2_with (go_at_call 27; refine (vfirst_any _).mono ?_; rintro e w1 ⟨rfl, hb1⟩)
  go_ret
  exact ⟨rfl, hb1⟩

set_option maxRecDepth 100000 in
set_option maxHeartbeats 1000000 in
theorem back_near (u : Nat) (n : Int) (A : Option Addr) (cap : Nat) (l : List UInt8) (w : World) (p : Nat → Addr) (hu : u < 18446744073709551616) (h1 : -9223372036854775808 ≤ n) (h2 : n ≤ 9223372036854775807) (ha : Arg w A cap l) (hs : Sents w p) (hl : l.length ≤ 40) :
    Calls Tryd.prog 9 #[.int .u64 u, .int .i64 n, .slice A l.length cap] w fun e w' => e = .returned (.bool true) ∧ Below w.heap.size w w' := by
  have HA := hide ha
  have HS := hide hs
  have HPU := hide (fun W => put_nil u W hu)
  have HPZ := hide (fun W => putInt_nil n W h1 h2)
  have HSU := hide (fun W => size_any u W hu)
  have hzl := Vi.zz_lt n h1 h2
  have HG1 := hide (get_of_put u l hu)
  have HG2 := hide (get_of_put (Vi.zz n) l hzl)
  have HG3 := hide (get_of_cut u hu)
  have HG4 := hide (get_of_cut (Vi.zz n) hzl)
  have HUZ := hide (Vi.unzz_zz n)
  have s1 := Vi.size_le10 hu
  have s2 := Vi.size_le10 hzl
  have s3 := Vi.size_pos u
  have s4 := Vi.size_pos (Vi.zz n)
  have HL1 : Hid ((Vi.put u).length = Vi.size u) := hide rfl
  have HL2 : Hid ((Vi.put (Vi.zz n)).length = Vi.size (Vi.zz n)) := hide rfl
  generalize Vi.zz n = z at *
  generalize Vi.size u = su at *
  generalize Vi.size z = sz at *
  generalize Vi.put u = pu at *
  generalize Vi.put z = pz at *
  clear ha hs hu hzl
  go_enter Tryd.func9, Tryd.ntmps9
  go_wp2_with (go_at_call 27; refine (vfirst_any _).mono ?_; rintro e w1 ⟨rfl, hb1⟩)
  have HB1 := hide hb1
  clear hb1
  refine (HPU.out _).mono ?_
  rintro e w2 ⟨A2, c2, rfl, -, ha2, hb2⟩
  have HA2 := hide ha2
  have HB2 := hide (HB1.out.trans (hb2.mono HB1.out.size))
  clear ha2 hb2
  go_wp2_with fail
  refine (HPZ.out _).mono ?_
  rintro e w3 ⟨A3, c3, rfl, -, ha3, hb3⟩
  have HA3 := hide ha3
  have HA23 := hide (HA2.out.below hb3 (Nat.le_refl _))
  have HB3 := hide (HB2.out.trans (hb3.mono HB2.out.size))
  clear ha3 hb3 HA2 HPU HPZ
  go_wp2_with fail
  refine (bytes_any A2 c2 su pu w3 HL1.out (by omega) HA23.out.reads).mono ?_
  rintro e w4 ⟨v4, rfl, ho4, hb4⟩
  have HO4 := hide ho4
  have HB4 := hide (HB3.out.trans (hb4.mono HB3.out.size))
  have HB34 := hide hb4
  have HZ34 := hide hb4.size
  clear ho4 hb4
  go_wp2_with (at_builtin; refine wpList_app rfl (.tmp 39) (.tmp 40) rfl w3.heap.size v4 pu l rfl HO4.out A l.length cap rfl rfl (HA.out.reads.below HB4.out (Nat.le_refl _)) (by rw [HL1.out]; omega) HZ34.out ?_; intro v5 w5 hown5 hg5 hv5)
  have hb5 := HB34.out.grown hg5 HZ34.out (fun g hg => (HO4.out.lt g hg).1)
  obtain ⟨A5, c5, rfl, ha5⟩ := hown5.arg
  have e5 : (pu ++ l).length = su + l.length := by rw [List.length_append, HL1.out]
  rw [e5]
  have HA5 := hide ha5
  have HE5 := hide e5
  have HA25 := hide (HA23.out.below hb5 (Nat.le_refl _))
  have HA35 := hide (HA3.out.below hb5 (Nat.le_refl _))
  have HB5 := hide (HB3.out.trans (hb5.mono HB3.out.size))
  clear hown5 hg5 hv5 hb5 ha5 HA23 HA3 HB34 HO4 HB4 e5
  refine (get_at A5 c5 _ _ w5 p u su 0 HE5.out HG1.out (by omega) HA5.out (HS.out.below HB5.out)).mono ?_
  rintro e w6 ⟨rfl, n6, rfl⟩
  rw [show errOf p 0 = .nilIface from rfl]
  clear HA5 HG1
  go_wp2_with fail
  refine (bytes_any A3 c3 sz pz _ HL2.out (by omega) (HA35.out.drewN n6).reads).mono ?_
  rintro e w7 ⟨v7, rfl, ho7, hb7⟩
  have HB57 := hide ((below_drewN (Below.refl w5.heap.size w5) n6).trans hb7)
  have HO7 := hide ho7
  have HB7 := hide (HB5.out.trans (HB57.out.mono HB5.out.size))
  have HZ57 := hide HB57.out.size
  clear ho7 hb7
  go_wp2_with (at_builtin; refine wpList_app rfl (.tmp 48) (.tmp 49) rfl w5.heap.size v7 pz l rfl HO7.out A l.length cap rfl rfl (HA.out.reads.below HB7.out (Nat.le_refl _)) (by rw [HL2.out]; omega) HZ57.out ?_; intro v8 w8 hown8 hg8 hv8)
  have hb8 := HB57.out.grown hg8 HZ57.out (fun g hg => (HO7.out.lt g hg).1)
  obtain ⟨A8, c8, rfl, ha8⟩ := hown8.arg
  have e8 : (pz ++ l).length = sz + l.length := by rw [List.length_append, HL2.out]
  rw [e8]
  have HA8 := hide ha8
  have HE8 := hide e8
  have HA28 := hide (HA25.out.below hb8 (Nat.le_refl _))
  have HA38 := hide (HA35.out.below hb8 (Nat.le_refl _))
  have HB8 := hide (HB5.out.trans (hb8.mono HB5.out.size))
  clear hown8 hg8 hv8 hb8 ha8 HA25 HA35 HB57 HO7 HB7 e8
  refine (getInt_at A8 c8 _ _ w8 p n sz 0 HE8.out (by rw [HG2.out]; exact congrArg (·, (sz, 0)) HUZ.out) (by omega) HA8.out (HS.out.below HB8.out)).mono ?_
  rintro e w9 ⟨rfl, n9, rfl⟩
  rw [show errOf p 0 = .nilIface from rfl]
  clear HA8 HG2
  have k1 := fun W => run_cut_h W A2 su c2 (su - 1) (by have := HA28.out.le; have := HL1.out; omega)
  have k2 := fun W => run_cut_h W A3 sz c3 (sz - 1) (by have := HA38.out.le; have := HL2.out; omega)
  have e1 : (su : Int) - 1 = ((su - 1 : Nat) : Int) := by omega
  have e2 : (sz : Int) - 1 = ((sz - 1 : Nat) : Int) := by omega
  have e3 : (pu.take (su - 1)).length = su - 1 := by rw [List.length_take, HL1.out]; omega
  have e4 : (pz.take (sz - 1)).length = sz - 1 := by rw [List.length_take, HL2.out]; omega
  have HE3 := hide e3
  have HE4 := hide e4
  clear e3 e4
  go_wp2_with fail
  refine (get_at A2 c2 (su - 1) (pu.take (su - 1)) _ p 0 0 101 HE3.out HG3.out (by omega) ((HA28.out.drewN n9).first _) (HS.out.below (below_drewN HB8.out n9))).mono ?_
  rintro e w10 ⟨rfl, n10, rfl⟩
  rw [show errOf p 101 = errV (p 0) from rfl]
  unfold errV
  go_wp2_with fail
  refine (getInt_at A3 c3 (sz - 1) (pz.take (sz - 1)) _ p 0 0 101 HE4.out (by rw [HG4.out]; rfl) (by omega) ((HA38.out.drewN (n9 + n10)).first _) (HS.out.below (below_drewN HB8.out (n9 + n10)))).mono ?_
  rintro e w11 ⟨rfl, n11, rfl⟩
  rw [show errOf p 101 = errV (p 0) from rfl]
  unfold errV
  have HB11 := hide (below_drewN HB8.out (n9 + n10 + n11))
  have HSE := hide (fun W hb => is_sent W p (HS.out.below hb) 0 (by omega) 101)
  unfold errV at HSE
  clear k1 k2 e1 e2
  have h11 : (u == u) = true := by simp
  have h12 : (n == n) = true := by simp
  go_wp2_with fail
  refine (HSE.out _ (by exact HB11.out)).mono ?_
  rintro e w12 ⟨rfl, hb12⟩
  have HB12 := hide (HB11.out.trans (hb12.mono HB11.out.size))
  clear hb12
  go_wp2_with fail
  refine (HSE.out _ HB12.out).mono ?_
  rintro e w13 ⟨rfl, hb13⟩
  have HB13 := hide (HB12.out.trans (hb13.mono HB12.out.size))
  clear hb13
  go_wp2_with fail
  refine (HSU.out _).mono ?_
  rintro e w14 ⟨rfl, rfl⟩
  go_wp2_with fail
  go_ret
  exact ⟨rfl, HB13.out⟩

theorem back_walk (u : Nat) (n : Int) (A : Option Addr) (cap : Nat) (l : List UInt8) (w : World) (p : Nat → Addr) (ha : Arg w A cap l) (hs : Sents w p) (hu : u < 18446744073709551616) (h1 : -9223372036854775808 ≤ n) (h2 : n ≤ 9223372036854775807) :
    Calls Tryd.prog 9 #[.int .u64 u, .int .i64 n, .slice A l.length cap] w fun e w' => e = .returned (.bool true) ∧ Below w.heap.size w w' := by
  rcases Nat.lt_or_ge 40 l.length with h | h
  · exact back_far u n A cap l w h (Nat.le_trans ha.le ha.max)
  · exact back_near u n A cap l w p hu h1 h2 ha hs h
end Go.Proofs.YtdiplknlkmealaaDoor
