/-
  PartMakes, walked.
  PartMakes, proved.
-/
import Derived.Test.YtegaahcelogmlaaDoorV3
import Derived.Test.YtegaahcelogmlaaDoorT2
import Derived.ShutString
import Derived.ChangeMaps5
namespace Go.Proofs.YtegaahcelogmlaaDoor
open Go.RowKit Go.Maps

theorem lastEnd (n e : Nat) (he : 0 < e) : min n (St.cnt n e * e) = n := Nat.min_eq_left (St.cnt_cover n e he)

set_option maxRecDepth 100000 in
set_option maxHeartbeats 4000000 in
theorem partMakes_good (w : World) (ht : Tabs w) (nm : List UInt8) (A : Option Addr) (c L : Nat) (b : List UInt8) (ha : Arg w A c b) (hL : b.length = L) (e : Nat) (n : Int) (hn1 : -9223372036854775808 ≤ n) (hn2 : n ≤ 9223372036854775807) (hnl : nm.length ≤ 100) (hL2 : L ≤ 500) (hv : Dk.valid nm = true) (he : 1 ≤ e ∧ e ≤ 1048576) (hc : St.cnt L e ≤ 256) :
    Calls Tryd.prog 3 #[encStr nm, .slice A L c, .int .i64 e, .int .i64 n] w fun x w' => x = .returned (.bool true) ∧ Below w.heap.size w w' := by
  have HF := hide (paFirst_any w ht)
  have HM := hide (fun (W : World) (hW : Below w.heap.size w W) => paMake_any nm hv A c L b e W (ha.below hW (Nat.le_refl _)) hL (by omega) he hc (ht.below hW (Nat.le_refl _)))
  have HV := hide (fun W => valid1_any nm W)
  rw [validN_eq, hv] at HV
  have HSU := hide (fun (W : World) (hW : Below w.heap.size w W) => refSum_any A c L b W hL (by omega) (ha.reads.below hW (Nat.le_refl _)))
  have HRI := hide (fun (j : Nat) (hj : j < St.cnt L e) W => range_in nm L e j (U (Crc.sum b)) (by omega) he hc hj W)
  have HRO := hide (fun (j : Int) (hj : j < 0 ∨ (St.cnt L e : Int) ≤ j) W => range_out nm L e (U (Crc.sum b)) j hj W)
  have hsz : (⟨nm.toArray⟩ : ByteArray).size = nm.length := by show nm.toArray.size = _; simp
  have h1 : ¬ ((100 : Int) < (nm.length : Int)) := by omega
  have h2 : ¬ ((500 : Int) < (L : Int)) := by omega
  have h3 : ¬ ((e : Int) < 1) := by omega
  have h4 : ¬ ((1048576 : Int) < (e : Int)) := by omega
  have h0 : (e : Int) ≠ 0 := by omega
  have w1 : IntKind.i64.wrap ((L : Int) + e) = (L : Int) + e := IntWalk.i64_in _ (by omega)
  have w2 : IntKind.i64.wrap ((L : Int) + e - 1) = (L : Int) + e - 1 := IntWalk.i64_in _ (by omega)
  have hq : ((L : Int) + e - 1).tdiv e = ((St.cnt L e : Nat) : Int) := by
    rw [← St.cnt_ceil L e (by omega)]
    have : ((L : Int) + (e : Int) - 1) = ((L + e - 1 : Nat) : Int) := by omega
    rw [this]; rfl
  have HCV := hide (lastEnd L e (by omega))
  have HST := hide (fun (j : Nat) (hj : j < St.cnt L e) => St.cnt_below (show 0 < e by omega) hj)
  have HE := hide he
  generalize St.cnt L e = m at *
  have wm := wrap_nat m (by omega)
  have hm : ¬ ((256 : Int) < (m : Int)) := by omega
  generalize U (Crc.sum b) = sm at *
  have b1 : (nm != nm) = false := by simp
  have b2 : ((L : Int) != (L : Int)) = false := by simp
  have b3 : (sm != sm) = false := by simp
  have b4 : ((e : Int) != (e : Int)) = false := by simp
  have b5 : ((m : Int) != (m : Int)) = false := by simp
  clear ht ha hv hL
  go_enter Tryd.func3, Tryd.ntmps3
  go_upto_region 18 with (first
    | (go_at_call 8; refine HF.out.mono ?_; rintro x w1 ⟨rfl, hb⟩; have HB1 := hide hb; clear hb)
    | (go_at_call 9; refine (HM.out _ HB1.out).mono ?_; rintro x w2 ⟨rfl, hb⟩; have HB2 := hide (HB1.out.trans (hb.mono HB1.out.size)); clear hb)
    | (go_at_call 10; refine (HV.out _).mono ?_; rintro x w3 ⟨rfl, rfl⟩)
    | fail)
  have hR : (w2.alloc (.cells #[encStr nm, .int .i64 (L : Int), .int .u32 sm, .int .i64 (e : Int), .int .i64 (m : Int)] 26)).heap[w2.heap.size]? = some (.cells #[encStr nm, .int .i64 (L : Int), .int .u32 sm, .int .i64 (e : Int), .int .i64 (m : Int)] 26 (0, 0)) := heap_alloc_new _ _
  have HB4 := hide (balloc HB2.out (.cells #[encStr nm, .int .i64 (L : Int), .int .u32 sm, .int .i64 (e : Int), .int .i64 (m : Int)] 26))
  have HR := hide hR
  clear hR
  generalize w2.alloc (.cells #[encStr nm, .int .i64 (L : Int), .int .u32 sm, .int .i64 (e : Int), .int .i64 (m : Int)] 26) = w4 at *
  generalize w2.heap.size = Bp at *
  have c0 := box_cell HR.out 0
  have c1 := box_cell HR.out 1
  have c2 := box_cell HR.out 2
  have c3 := box_cell HR.out 3
  have c4 := box_cell HR.out 4
  simp at c0 c1 c2 c3 c4
  go_quiet (first | (go_at_call 12; exact Calls.quiet_of_same ((HSU.out _ (below_drewN HB4.out _)).mono fun _ _ ⟨h1, h2⟩ => ⟨h1, h2.symm⟩)))
  have HB5 := hide (below_drewN HB4.out nq)
  have HR5 : Hid ((w4.drewN nq).heap[Bp]? = some (.cells #[encStr nm, .int .i64 (L : Int), .int .u32 sm, .int .i64 (e : Int), .int .i64 (m : Int)] 26 (0, 0))) := HR
  generalize w4.drewN nq = w5 at *
  clear c0 c1 c2 c3 c4 HR HB4
  go_wp2_with fail
  go_loopw [14, 15] (fun at_ i wr => ∃ j : Nat, j ≤ m ∧ at_ = .int .i64 (min L (j * e) : Nat) ∧ i = .int .i64 (j : Nat) ∧ wr.heap[Bp]? = some (.cells #[encStr nm, .int .i64 (L : Int), .int .u32 sm, .int .i64 (e : Int), .int .i64 (m : Int)] 26 (0, 0)) ∧ Below w.heap.size w wr) (fun _ i _ => m - (intOf i).toNat)
  case atStart => exact ⟨0, Nat.zero_le _, by simp, rfl, HR5.out, HB5.out⟩
  case round =>
    obtain ⟨j, hj, rfl, rfl, hR, hB⟩ := hrel
    have HBj := hide hB
    have HRj := hide hR
    have c0 := box_cell hR 0
    have c1 := box_cell hR 1
    have c2 := box_cell hR 2
    have c3 := box_cell hR 3
    have c4 := box_cell hR 4
    simp at c0 c1 c2 c3 c4
    clear hR hB
    by_cases hlt : j < m
    · have hje := HST.out j hlt
      have hat : min L (j * e) = j * e := by omega
      have hnx : (j + 1) * e = j * e + e := by rw [Nat.add_mul, Nat.one_mul]
      have HI := hide (HRI.out j hlt)
      have HNX : Hid (min L ((j + 1) * e) = min (j * e + e) L) := hide (by rw [hnx]; omega)
      rw [hat]
      clear hat hnx
      generalize j * e = je at *
      have ww : IntKind.i64.wrap ((je : Int) + (e : Int)) = ((je + e : Nat) : Int) := by have := HE.out; rw [IntWalk.i64_in _ (by omega)]; omega
      have hmn : (if je + e < L then ((je + e : Nat) : Int) else (L : Int)) = ((min (je + e) L : Nat) : Int) := by split <;> omega
      generalize je + e = je2 at *
      generalize min je2 L = mn at *
      have b6 : ((je : Int) != (je : Int)) = false := by simp
      have b7 : ((mn : Int) != (mn : Int)) = false := by simp
      have wj : IntKind.i64.wrap ((j : Int) + 1) = (j : Int) + 1 := IntWalk.i64_in _ (by omega)
      go_wp2_with (first
        | (go_at_call 13; refine (HI.out _).mono ?_; rintro x w6 ⟨rfl, hb⟩; have HR6 := hide ((hb.block Bp (Array.getElem?_eq_some_iff.1 HRj.out).1).trans HRj.out); have HB6 := hide (HBj.out.trans (hb.mono HBj.out.size)); clear hb)
        | fail)
      exact ⟨⟨j + 1, by omega, by rw [HNX.out], by push_cast; rfl, HR6.out, HB6.out⟩, by simp [intOf]; omega⟩
    · obtain rfl : j = m := by omega
      rw [HCV.out]
      clear hlt
      by_cases hn0 : 0 ≤ n
      · by_cases hnm : n < j
        · obtain ⟨k, rfl⟩ := Int.eq_ofNat_of_zero_le hn0
          have hk : k < j := by omega
          have HI := hide (HRI.out k hk)
          go_wp2_with (first
            | (have := HB8.out; clear this; go_at_call 13; refine (HI.out _).mono ?_; rintro x w9 ⟨rfl, hb⟩; have HB9 := hide (HB8.out.trans (hb.mono HB8.out.size)); clear hb)
            | (have := HB7.out; clear this; go_at_call 13; refine (HRO.out (j : Int) (.inr (Int.le_refl _)) _).mono ?_; rintro x w8 ⟨rfl, hb⟩; have hR8 := (hb.block Bp (Array.getElem?_eq_some_iff.1 HR7.out).1).trans HR7.out; have HB8 := hide (HB7.out.trans (hb.mono HB7.out.size)); have d0 := box_cell hR8 0; have d1 := box_cell hR8 1; have d2 := box_cell hR8 2; have d3 := box_cell hR8 3; have d4 := box_cell hR8 4; simp at d0 d1 d2 d3 d4; have HR8 := hide hR8; clear hb hR8)
            | (go_at_call 13; refine (HRO.out (-1) (.inl (by omega)) _).mono ?_; rintro x w7 ⟨rfl, hb⟩; have hR7 := (hb.block Bp (Array.getElem?_eq_some_iff.1 HRj.out).1).trans HRj.out; have HB7 := hide (HBj.out.trans (hb.mono HBj.out.size)); have e0 := box_cell hR7 0; have e1 := box_cell hR7 1; have e2 := box_cell hR7 2; have e3 := box_cell hR7 3; have e4 := box_cell hR7 4; simp at e0 e1 e2 e3 e4; have HR7 := hide hR7; clear hb hR7)
            | fail)
          go_ret
          exact ⟨rfl, HB9.out⟩
        · have hnm2 : ¬ (n < (j : Int)) := hnm
          have HI := hide (HRO.out n (.inr (by omega)))
          go_wp2_with (first
            | (have := HB8.out; clear this; go_at_call 13; refine (HI.out _).mono ?_; rintro x w9 ⟨rfl, hb⟩; have HB9 := hide (HB8.out.trans (hb.mono HB8.out.size)); clear hb)
            | (have := HB7.out; clear this; go_at_call 13; refine (HRO.out (j : Int) (.inr (Int.le_refl _)) _).mono ?_; rintro x w8 ⟨rfl, hb⟩; have hR8 := (hb.block Bp (Array.getElem?_eq_some_iff.1 HR7.out).1).trans HR7.out; have HB8 := hide (HB7.out.trans (hb.mono HB7.out.size)); have d0 := box_cell hR8 0; have d1 := box_cell hR8 1; have d2 := box_cell hR8 2; have d3 := box_cell hR8 3; have d4 := box_cell hR8 4; simp at d0 d1 d2 d3 d4; have HR8 := hide hR8; clear hb hR8)
            | (go_at_call 13; refine (HRO.out (-1) (.inl (by omega)) _).mono ?_; rintro x w7 ⟨rfl, hb⟩; have hR7 := (hb.block Bp (Array.getElem?_eq_some_iff.1 HRj.out).1).trans HRj.out; have HB7 := hide (HBj.out.trans (hb.mono HBj.out.size)); have e0 := box_cell hR7 0; have e1 := box_cell hR7 1; have e2 := box_cell hR7 2; have e3 := box_cell hR7 3; have e4 := box_cell hR7 4; simp at e0 e1 e2 e3 e4; have HR7 := hide hR7; clear hb hR7)
            | fail)
          go_ret
          have hd : decide (n < (j : Int)) = false := by simp; omega
          rw [hd]
          exact ⟨rfl, HB9.out⟩
      · have hneg : n < 0 := by omega
        have HI := hide (HRO.out n (.inl (by omega)))
        go_wp2_with (first
          | (have := HB8.out; clear this; go_at_call 13; refine (HI.out _).mono ?_; rintro x w9 ⟨rfl, hb⟩; have HB9 := hide (HB8.out.trans (hb.mono HB8.out.size)); clear hb)
          | (have := HB7.out; clear this; go_at_call 13; refine (HRO.out (j : Int) (.inr (Int.le_refl _)) _).mono ?_; rintro x w8 ⟨rfl, hb⟩; have hR8 := (hb.block Bp (Array.getElem?_eq_some_iff.1 HR7.out).1).trans HR7.out; have HB8 := hide (HB7.out.trans (hb.mono HB7.out.size)); have d0 := box_cell hR8 0; have d1 := box_cell hR8 1; have d2 := box_cell hR8 2; have d3 := box_cell hR8 3; have d4 := box_cell hR8 4; simp at d0 d1 d2 d3 d4; have HR8 := hide hR8; clear hb hR8)
          | (go_at_call 13; refine (HRO.out (-1) (.inl (by omega)) _).mono ?_; rintro x w7 ⟨rfl, hb⟩; have hR7 := (hb.block Bp (Array.getElem?_eq_some_iff.1 HRj.out).1).trans HRj.out; have HB7 := hide (HBj.out.trans (hb.mono HBj.out.size)); have e0 := box_cell hR7 0; have e1 := box_cell hR7 1; have e2 := box_cell hR7 2; have e3 := box_cell hR7 3; have e4 := box_cell hR7 4; simp at e0 e1 e2 e3 e4; have HR7 := hide hR7; clear hb hR7)
          | fail)
        go_ret
        exact ⟨rfl, HB9.out⟩
set_option maxRecDepth 100000 in
theorem partMakes_walk (w : World) (p : Nat → Addr) (hs : Sents w p) (ht : Tabs w) (nm : List UInt8) (hnl : nm.length ≤ 9223372036854775807) (A : Option Addr) (c L : Nat) (b : List UInt8) (ha : Arg w A c b) (hL : b.length = L) (e n : Int) (he1 : -9223372036854775808 ≤ e) (he2 : e ≤ 9223372036854775807) (hn1 : -9223372036854775808 ≤ n) (hn2 : n ≤ 9223372036854775807) :
    Calls Tryd.prog 3 #[encStr nm, .slice A L c, .int .i64 e, .int .i64 n] w fun x w' => x = .returned (.bool true) ∧ Below w.heap.size w w' := by
  by_cases h1 : nm.length ≤ 100 ∧ L ≤ 500
  · cases hv : Dk.valid nm
    · exact partMakes_bad w p hs ht nm A c L e n h1.1 h1.2 he1 he2 5 (.inl ⟨hv, rfl⟩)
    · by_cases h2 : e < 1 ∨ 1048576 < e
      · exact partMakes_bad w p hs ht nm A c L e n h1.1 h1.2 he1 he2 4 (.inr ⟨hv, .inl ⟨rfl, h2⟩⟩)
      · obtain ⟨k, rfl⟩ := Int.eq_ofNat_of_zero_le (show 0 ≤ e by omega)
        by_cases h3 : St.cnt L k ≤ 256
        · exact partMakes_good w ht nm A c L b ha hL k n hn1 hn2 h1.1 h1.2 hv (by omega) h3
        · exact partMakes_bad w p hs ht nm A c L k n h1.1 h1.2 he1 he2 3 (.inr ⟨hv, .inr ⟨rfl, by omega, by omega, by rw [Int.toNat_natCast]; omega⟩⟩)
  · have HF := hide (paFirst_any w ht)
    have hsz : (⟨nm.toArray⟩ : ByteArray).size = nm.length := by show nm.toArray.size = _; simp
    clear hs ht ha hL
    by_cases h2 : 100 < nm.length
    · have h3 : (100 : Int) < (nm.length : Int) := by omega
      clear h1
      go_enter Tryd.func3, Tryd.ntmps3
      go_wp2_with (first
        | (go_at_call 8; refine HF.out.mono ?_; rintro x w1 ⟨rfl, hb⟩; have HB1 := hide hb; clear hb)
        | fail)
      go_ret
      exact ⟨rfl, HB1.out⟩
    · have h3 : ¬ ((100 : Int) < (nm.length : Int)) := by omega
      have h4 : (500 : Int) < (L : Int) := by omega
      clear h1
      go_enter Tryd.func3, Tryd.ntmps3
      go_wp2_with (first
        | (go_at_call 8; refine HF.out.mono ?_; rintro x w1 ⟨rfl, hb⟩; have HB1 := hide hb; clear hb)
        | fail)
      go_ret
      exact ⟨rfl, HB1.out⟩
theorem partMakes_str (w : World) (p : Nat → Addr) (hs : Sents w p) (ht : Tabs w) (s : ByteArray) (hnl : s.size ≤ 9223372036854775807) (A : Option Addr) (c L : Nat) (b : List UInt8) (ha : Arg w A c b) (hL : b.length = L) (e n : Int) (he1 : -9223372036854775808 ≤ e) (he2 : e ≤ 9223372036854775807) (hn1 : -9223372036854775808 ≤ n) (hn2 : n ≤ 9223372036854775807) :
    Calls Tryd.prog 3 #[.string s, .slice A L c, .int .i64 e, .int .i64 n] w fun x w' => x = .returned (.bool true) ∧ Below w.heap.size w w' := by
  have h := partMakes_walk w p hs ht s.data.toList (by have : s.data.toList.length = s.size := by show s.data.toList.length = s.data.size; simp
                                                       omega) A c L b ha hL e n he1 he2 hn1 hn2
  rwa [show encStr s.data.toList = .string s by cases s; simp] at h
end Go.Proofs.YtegaahcelogmlaaDoor

namespace Go.Proofs.YtegaahcelogmlaaDoor.PartMakesLaw
open Go.Proofs.YtegaahcelogmlaaDoor
open Go.RowKit Go.ChangeShapes Go.WideShapes Go.ChangeAt Go.ChangeMaps

set_option maxRecDepth 100000 in
set_option maxHeartbeats 8000000 in
theorem lifted (os : Os) (started : os.Started) (H : Type) (enc : TypeId × Value → H) :
    ReturnsInHanded {} Tryd.checked os 3 .any (fun w args => (Rows.partMakesSpec.pre enc Tryd.prog Tryd.f3 [] false w args ∧ laidMetH Tryd.prog laidN w) ∧ sizedMet enc Tryd.prog Tryd.f3 (OpenSpec.ofChange Rows.partMakesSpec) false w args)
      (Rows.partMakesSpec.post enc Tryd.prog Tryd.f3 false true false false) := by
  refine returnsInHanded_both (C := Tryd.checked) (X := fun w _ => laidMetH Tryd.prog laidN w) (fun _ _ _ hh h => h.of_heap hh) own started (by kernel_rfl) Tryd.func3
    (ChangeSpec.witness_shaped (enc := enc) (C := Tryd.checked) (os := os) (X := fun w _ => laidMetH Tryd.prog laidN w) false (World.laidAll Tryd.prog os laidN) #[.string ⟨#[]⟩, .slice none 0 0, .int .i64 0, .int .i64 0] 8 (World.laidAll_os _ _ _) (World.shaped_of_ZipB (by kernel_rfl) (by kernel_rfl)) (by kernel_rfl) (by kernel_rfl) (by kernel_rfl) (by rw [MakeChecks.laidMetH_plain _ _ _ (by kernel_rfl)]; exact laidMet_laidAll _ (by kernel_rfl) (by kernel_rfl))) ?_
  intro W base args ds gs before hval0 hW hL _
  have hval : ∀ (j : Nat) t v, Tryd.f3.params[j]? = some t → args[j]? = some v → Value.okWide Tryd.prog W .any base t v := hval0
  have hW' := hW
  obtain ⟨p, q, hA0, hV, rfl, hfz, hnd⟩ := hW
  have hA : DataW.TrodAll enc Tryd.prog W 0 (fun _ => true) true Tryd.f3.params.toList args.toList ds p := hA0
  rw [Tryd.params3] at hA hval
  obtain ⟨v0, vs0, d0, ds0, p0, q0, hargs, rfl, rfl, h0, r0⟩ := trodAll_cons hA
  obtain ⟨v1, vs1, d1, ds1, p1, q1, rfl, rfl, rfl, h1, r1⟩ := trodAll_cons r0
  obtain ⟨v2, vs2, d2, ds2, p2, q2, rfl, rfl, rfl, h2, r2⟩ := trodAll_cons r1
  obtain ⟨v3, vs3, d3, ds3, p3, q3, rfl, rfl, rfl, h3, r3⟩ := trodAll_cons r2
  obtain ⟨rfl, rfl, rfl⟩ := trodAll_nil r3
  obtain rfl : args = #[v0, v1, v2, v3] := by cases args; simp_all
  obtain ⟨rfl, rfl⟩ := trodVars_none hV
  obtain ⟨s0, rfl, rfl, rfl, w0⟩ := open_string Tryd.underlying9 (hval 0 9 v0 rfl rfl) h0
  obtain ⟨a1, len1, cap1, rfl⟩ := okWide_slice Tryd.underlying22 (hval 1 22 v1 rfl rfl)
  have k1 := h1
  have lt1 : ∀ x ∈ p1, x.block < W.heap.size := by obtain ⟨m, hm⟩ := k1; exact DataW.trod_lt m _ _ _ hm
  obtain ⟨l1, rfl, w1⟩ := arg_of h1
  obtain ⟨a2, rfl, rfl, rfl, w2⟩ := open_int Tryd.underlying3 (hval 2 3 v2 rfl rfl) h2
  have hb2 := bounds_i64 w2
  obtain ⟨a3, rfl, rfl, rfl, w3⟩ := open_int Tryd.underlying3 (hval 3 3 v3 rfl rfl) h3
  have hb3 := bounds_i64 w3
  clear hA0 hval0
  have htab := tabs_of_n hL
  obtain ⟨ps, hsent⟩ := sents_of_n hL
  refine (partMakes_str W ps hsent htab s0 (by unfold maxLen at w0; omega) a1 cap1 _ l1 w1 rfl a2 a3 hb2.1 hb2.2 hb3.1 hb3.2).mono fun e W' ⟨he, bel⟩ => ?_
  subst he
  exact ⟨_, rfl, _, _, _, [], _, [], hW', trodAll_mk1 (shut_bool Tryd.underlying4 _), (trodAll_cons_mk (shut_string Tryd.underlying9 w0) (trodAll_cons_mk (Below.trod laidOut (by kernel_rfl) (of_decide_eq_true (by kernel_rfl)) k1 bel lt1) (trodAll_cons_mk (shut_int Tryd.underlying3 w2) (trodAll_cons_mk (shut_int Tryd.underlying3 w3) trodAll_mk0)))), rfl, bel.frame _, fun h => by cases h⟩

theorem row : Rows.PartMakesSaid :=
  OpenClaim.holds_of_wide 3 Tryd.f3 rfl rfl rfl rfl rfl rfl rfl ⟨rfl, rfl, rfl, rfl, rfl⟩ rfl rfl rfl rfl rfl (by kernel_rfl) Tryd.func3 (by kernel_rfl)
    (of_decide_eq_true (by kernel_rfl)) (by unfold Func.isWrapper; first | (rw [if_pos (by decide +kernel)]; kernel_rfl) | (rw [if_neg (by decide +kernel)]; exact ⟨rfl, rfl⟩))
    (fun os started H enc _ => lifted os started H enc)

theorem proved : Rows.PartMakesCardSaid :=
  Claim7.holds_tied_plain_at .later [] _ true _ true
    row (fun _ h => by cases h) (by kernel_rfl) (fun _ h => by cases h) partMakes_row_tie rfl ⟨rfl, rfl⟩ (by kernel_rfl) rfl
    (fun f fn hf hfn => by
      obtain rfl : f = 3 := Option.some.inj ((show Tryd.prog.funcNamed "cordwood/cordwoodlaw13.PartMakes" = some 3 by kernel_rfl).symm.trans hf) |>.symm
      obtain rfl : fn = Tryd.f3 := (Option.some.inj (Tryd.func3.symm.trans hfn)).symm
      exact ⟨by kernel_rfl, fun j t ht => by
        rw [Tryd.params3] at ht
        have hm : t ∈ [9, 22, 3, 3] := by simpa using Array.mem_of_getElem? ht
        have hall : ([9, 22, 3, 3].all fun u => !Tryd.prog.wantsStandIn u) = true := by kernel_rfl
        exact (show Tryd.prog.wantsStandIn t = false by simpa using List.all_eq_true.1 hall t hm)⟩)
    (by kernel_rfl)
end Go.Proofs.YtegaahcelogmlaaDoor.PartMakesLaw
