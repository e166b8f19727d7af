/-
  Chapter 13's examples, walked; PartMakes, walked.
-/
import Derived.Test.YtegaahcelogmlaaDoorV2
import Derived.Test.YtegaahcelogmlaaDoorV0
import Derived.Test.YtegaahcelogmlaaDoorRef
import Derived.Test.YtegaahcelogmlaaDoorT4
namespace Go.Proofs.YtegaahcelogmlaaDoor
open Go.RowKit Go.Maps

set_option maxRecDepth 100000 in
set_option maxHeartbeats 1000000 in
theorem paFirst_any (w : World) (ht : Tabs w) : Calls Tryd.prog 8 #[] w fun e w' => e = .returned (.bool true) ∧ Below w.heap.size w w' := by
  have HT := hide ht
  clear ht
  have kc := fun (w : World) (C : Array Value) (n c : Nat) => Lib.run_convert_bytes_const (P := Tryd.prog) w 22 5 C n c Tryd.underlying22 Tryd.underlying5
  have hcnt : St.cnt 5 2 = 3 := by decide
  go_enter Tryd.func8, Tryd.ntmps8
  go_wp2_with (first
    | (go_at_call 9; refine (paMake_any [97] (by decide) (some ⟨w.heap.size, 0, none⟩) 5 5 [49, 50, 51, 52, 53] 2 _ (Arg.made w [49, 50, 51, 52, 53] _ _ _ 5 rfl rfl (by omega)) rfl (by omega) (by omega) (by rw [hcnt]; omega) (HT.out.below (balloc (Below.refl _ _) _) (Nat.le_refl _))).mono ?_; rw [hcnt]; rintro e w2 ⟨rfl, hb⟩; have HB := hide ((balloc (Below.refl w.heap.size w) _).trans (hb.mono (by simp))); clear hb)
    | fail)
  go_ret
  exact ⟨rfl, balloc HB.out _⟩
set_option maxRecDepth 100000 in
set_option maxHeartbeats 2000000 in
theorem partMakes_bad (w : World) (p : Nat → Addr) (hs : Sents w p) (ht : Tabs w) (nm : List UInt8) (A : Option Addr) (c L : Nat) (e n : Int) (hnl : nm.length ≤ 100) (hL : L ≤ 500) (he1 : -9223372036854775808 ≤ e) (he2 : e ≤ 9223372036854775807) (j : Nat)
    (hj : (Dk.valid nm = false ∧ j = 5) ∨ (Dk.valid nm = true ∧ ((j = 4 ∧ (e < 1 ∨ 1048576 < e)) ∨ (j = 3 ∧ 1 ≤ e ∧ e ≤ 1048576 ∧ 256 < St.cnt L e.toNat)))) :
    Calls Tryd.prog 3 #[encStr nm, .slice A L c, .int .i64 e, .int .i64 n] w fun x w' => x = .returned (.bool true) ∧ Below w.heap.size w w' := by
  have hj19 : j < 19 := by omega
  have HS := hide (fun (W : World) (hW : Below w.heap.size w W) => hs.below hW)
  have HF := hide (paFirst_any w ht)
  have HM := hide (fun (W : World) (hW : Below w.heap.size w W) => paMake_bad (E := fun j => j < 19) nm A c L e W (by omega) (hs.below hW) (by omega) (by omega) (by omega) j hj)
  have HV := hide (fun W => valid1_any nm W)
  rw [validN_eq] at HV
  have hsz : (⟨nm.toArray⟩ : ByteArray).size = nm.length := by show nm.toArray.size = _; simp
  have h1 : ¬ ((100 : Int) < (nm.length : Int)) := by omega
  have h2 : ¬ ((500 : Int) < (L : Int)) := by omega
  clear hs ht
  rcases hj with ⟨hv, rfl⟩ | ⟨hv, ⟨rfl, he⟩ | ⟨rfl, he3, he4, hc⟩⟩
  · rw [hv] at HV
    unfold errR at HM
    go_enter Tryd.func3, Tryd.ntmps3
    go_wp2_with (first
      | (go_at_call 8; refine HF.out.mono ?_; rintro x w1 ⟨rfl, hb⟩; have HB1 := hide hb; clear hb)
      | (go_at_call 9; refine (HM.out _ HB1.out).mono ?_; rintro x w2 ⟨rfl, hb⟩; have HB2 := hide (HB1.out.trans (hb.mono HB1.out.size)); clear hb)
      | (go_at_call 10; refine (HV.out _).mono ?_; rintro x w3 ⟨rfl, rfl⟩)
      | (go_at_call 11; have hbx := balloc HB2.out (.cells #[encStr [], .int .i64 0, .int .u32 0, .int .i64 0, .int .i64 0] 26); refine (is_sent _ p (HS.out _ hbx) 5 (by omega) 106).mono ?_; rintro x w4 ⟨rfl, hb⟩; obtain ⟨c0, c1, c2, c3, c4, hb⟩ := blk5 hb; have HB4 := hide (HB2.out.trans (hb.mono HB2.out.size)); clear hb hbx)
      | fail)
    go_ret
    exact ⟨rfl, HB4.out⟩
  · by_cases he0 : e < 1
    · rw [hv] at HV
      unfold errR at HM
      clear he
      go_enter Tryd.func3, Tryd.ntmps3
      go_wp2_with (first
        | (go_at_call 8; refine HF.out.mono ?_; rintro x w1 ⟨rfl, hb⟩; have HB1 := hide hb; clear hb)
        | (go_at_call 9; refine (HM.out _ HB1.out).mono ?_; rintro x w2 ⟨rfl, hb⟩; have HB2 := hide (HB1.out.trans (hb.mono HB1.out.size)); clear hb)
        | (go_at_call 10; refine (HV.out _).mono ?_; rintro x w3 ⟨rfl, rfl⟩)
        | (go_at_call 11; have hbx := balloc HB2.out (.cells #[encStr [], .int .i64 0, .int .u32 0, .int .i64 0, .int .i64 0] 26); refine (is_sent _ p (HS.out _ hbx) 4 (by omega) 105).mono ?_; rintro x w4 ⟨rfl, hb⟩; obtain ⟨c0, c1, c2, c3, c4, hb⟩ := blk5 hb; have HB4 := hide (HB2.out.trans (hb.mono HB2.out.size)); clear hb hbx)
        | fail)
      go_ret
      exact ⟨rfl, HB4.out⟩
    · rw [hv] at HV
      unfold errR at HM
      have he5 : (1048576 : Int) < e := by omega
      clear he
      go_enter Tryd.func3, Tryd.ntmps3
      go_wp2_with (first
        | (go_at_call 8; refine HF.out.mono ?_; rintro x w1 ⟨rfl, hb⟩; have HB1 := hide hb; clear hb)
        | (go_at_call 9; refine (HM.out _ HB1.out).mono ?_; rintro x w2 ⟨rfl, hb⟩; have HB2 := hide (HB1.out.trans (hb.mono HB1.out.size)); clear hb)
        | (go_at_call 10; refine (HV.out _).mono ?_; rintro x w3 ⟨rfl, rfl⟩)
        | (go_at_call 11; have hbx := balloc HB2.out (.cells #[encStr [], .int .i64 0, .int .u32 0, .int .i64 0, .int .i64 0] 26); refine (is_sent _ p (HS.out _ hbx) 4 (by omega) 105).mono ?_; rintro x w4 ⟨rfl, hb⟩; obtain ⟨c0, c1, c2, c3, c4, hb⟩ := blk5 hb; have HB4 := hide (HB2.out.trans (hb.mono HB2.out.size)); clear hb hbx)
        | fail)
      go_ret
      exact ⟨rfl, HB4.out⟩
  · rw [hv] at HV
    unfold errR at HM
    have hE : (e : Int) = ((e.toNat : Nat) : Int) := by omega
    obtain ⟨en, hen⟩ : ∃ en, en = e.toNat := ⟨_, rfl⟩
    rw [← hen] at hc hE
    have h3 : ¬ (e < 1) := by omega
    have h4 : ¬ ((1048576 : Int) < e) := by omega
    have h0 : e ≠ 0 := by omega
    have w1 : IntKind.i64.wrap ((L : Int) + e) = (L : Int) + e := IntWalk.i64_in _ (by omega)
    have w2 : IntKind.i64.wrap ((L : Int) + e - 1) = (L : Int) + e - 1 := IntWalk.i64_in _ (by omega)
    have hq : ((L : Int) + e - 1).tdiv e = ((St.cnt L en : Nat) : Int) := by
      rw [← St.cnt_ceil L en (by omega), hE]
      have : ((L : Int) + (en : Int) - 1) = ((L + en - 1 : Nat) : Int) := by omega
      rw [this]; rfl
    have hcl := St.cnt_le L en (by omega)
    generalize St.cnt L en = m at *
    have wm := wrap_nat m (by omega)
    have hm : (256 : Int) < (m : Int) := by omega
    clear hE hen hc hcl
    go_enter Tryd.func3, Tryd.ntmps3
    go_wp2_with (first
      | (go_at_call 8; refine HF.out.mono ?_; rintro x w1 ⟨rfl, hb⟩; have HB1 := hide hb; clear hb)
      | (go_at_call 9; refine (HM.out _ HB1.out).mono ?_; rintro x w2 ⟨rfl, hb⟩; have HB2 := hide (HB1.out.trans (hb.mono HB1.out.size)); clear hb)
      | (go_at_call 10; refine (HV.out _).mono ?_; rintro x w3 ⟨rfl, rfl⟩)
      | (go_at_call 11; have hbx := balloc HB2.out (.cells #[encStr [], .int .i64 0, .int .u32 0, .int .i64 0, .int .i64 0] 26); refine (is_sent _ p (HS.out _ hbx) 3 (by omega) 104).mono ?_; rintro x w4 ⟨rfl, hb⟩; obtain ⟨c0, c1, c2, c3, c4, hb⟩ := blk5 hb; have HB4 := hide (HB2.out.trans (hb.mono HB2.out.size)); clear hb hbx)
      | fail)
    go_ret
    exact ⟨rfl, HB4.out⟩
end Go.Proofs.YtegaahcelogmlaaDoor
