/-
  PointFull walked.
  PointFull, proved: a disk that has no room for what is new keeps what was there.
-/
import Derived.Test.YtfjanenooembkaaDoorQ8
import Derived.Test.YtfjanenooembkaaDoorQ8b
namespace Go.Proofs.YtfjanenooembkaaDoor
open Go.RowKit Go.Maps Go.Sort

set_option maxRecDepth 100000 in
set_option maxHeartbeats 4000000 in
theorem pointFull_any (w : World) (p : Nat → Addr) (hs : SentsP w p) (ht : Tabs w) (Aa Ab : Option Addr) (ca cb na nb : Nat) (a b : List UInt8) (rm : Int) (hna : a.length = na) (hnb : b.length = nb)
    (ha : Arg w Aa ca a) (hb : Arg w Ab cb b) (hrm : -9223372036854775808 ≤ rm ∧ rm ≤ 9223372036854775807) :
    Calls Tryd.prog 8 #[.slice Aa na ca, .slice Ab nb cb, .int .i64 rm] w fun e w' => e = .returned (.bool true) ∧ Below w.heap.size w w' := by
  have HFI := hide (ptFirst_any w)
  have HS := hide hs
  have HT := hide ht
  have HW4 : Hid (4 ≤ w.heap.size) := hide ht.size
  have HA := hide ha
  have HB := hide hb
  have HNA := hide hna
  have HNB := hide hnb
  clear hs ht ha hb hna hnb
  by_cases la : 200 < na
  · go_enter Tryd.func8, Tryd.ntmps8
    go_wp2_with (first | (go_at_call 9; refine HFI.out.mono ?_; rintro e w1 ⟨rfl, hb1⟩; have HB1 := hide hb1; clear hb1) | fail)
    go_ret
    exact ⟨rfl, HB1.out⟩
  by_cases lb : 200 < nb
  · go_enter Tryd.func8, Tryd.ntmps8
    go_wp2_with (first | (go_at_call 9; refine HFI.out.mono ?_; rintro e w1 ⟨rfl, hb1⟩; have HB1 := hide hb1; clear hb1) | fail)
    go_ret
    exact ⟨rfl, HB1.out⟩
  have hltN : num rm 500 < 500 := num_lt rm 500 (by omega)
  obtain ⟨N, hN⟩ : ∃ N, num rm 500 = N := ⟨_, rfl⟩
  rw [hN] at hltN
  have HNN := hide hN
  clear hN
  have HNW := hide (fun W => new_sessS ((N : Int) + (na : Int) + 4) W W (Below.refl _ _) (by omega) (by omega))
  have hst := fun i => Dk.point_full a b ((N : Int) + (na : Int) + 4) (by have := HNA.out; omega) i
  rw [HNA.out, HNB.out] at hst
  have HST := hide hst
  clear hst
  go_enter Tryd.func8, Tryd.ntmps8
  go_wp2_with (first
    | (go_at_call 9; refine HFI.out.mono ?_; rintro e w1 ⟨rfl, hb1⟩; have HB1 := hide hb1; have HAA := hide (HA.out.below hb1 (Nat.le_refl _)); have HAB := hide (HB.out.below hb1 (Nat.le_refl _)); have HS1 := hide (HS.out.below hb1); have HT1 := hide (HT.out.below hb1 (Nat.le_refl _)); have HW1 : Hid (4 ≤ w1.heap.size) := hide (Nat.le_trans HW4.out hb1.size); clear hb1)
    | (go_at_call 14; refine (num_at rm 500 500 w1 (by omega) (by omega) (by omega) hrm.1 hrm.2).mono ?_; rintro e w1' ⟨rfl, rfl⟩; rw [HNN.out])
    | (go_at_call 10; refine (HNW.out w1).mono ?_; rintro e w2 ⟨Bd, rfl, h2, -⟩; have H2 := hide h2; clear h2)
    | (have _t := H2; go_at_call 11; refine (ptWrite_ok H2.out p HS1.out HT1.out HW1.out (by omega) [112] (by decide) (by decide) (by decide) Aa ca na a (HAA.out.below H2.out.below (Nat.le_refl _)) HNA.out (by omega) (H2.out.clear HAA.out)).mono ?_; rintro e w3 ⟨id1, -, rfl, h3⟩; obtain ⟨sA, e1, st1⟩ := HST.out id1; rw [e1] at h3 ⊢; obtain ⟨S3, h3, -⟩ := h3; have H3 := hide h3; have ST1 := hide st1; clear h3 e1 st1 H2; simp only [errR])
    | fail)
  clear HST HNW
  refine (ptWrite_ok H3.out p HS1.out HT1.out HW1.out (by omega) [112] (by decide) (by decide) (by decide) Ab cb nb b (HAB.out.below H3.out.below (Nat.le_refl _)) HNB.out (by omega) (H3.out.clear HAB.out)).mono ?_
  rintro e w7 ⟨id2, hid2, rfl, h7⟩
  obtain ⟨r, sB, e2, hr⟩ := ST1.out id2 hid2
  rw [e2] at h7 ⊢
  obtain ⟨S7, h7, -⟩ := h7
  have H7 := hide h7
  clear h7 e2 ST1 hid2 H3
  rcases hr with ⟨rfl, hle, hk, hu⟩ | ⟨rfl, hlt, hk⟩
  · have HK := hide hk
    have HU := hide hu
    clear hk hu
    simp only [errR]
    go_wp2_with (first
      | (go_at_call 12; refine (ptRead_kept H7.out p HS1.out HT1.out (by omega) [112] (by decide) b nb HNB.out (by omega) HK.out).mono ?_; rintro e w10 ⟨A10, c10, rfl, ha10, hb10⟩; have HA10 := hide ha10; have H10 := hide (H7.out.grow hb10); clear ha10 hb10)
      | (go_at_call 13; refine (sameBytes_any A10 Ab c10 cb nb nb b b w10 HNB.out HNB.out (by omega) (by omega) HA10.out.reads (HAB.out.below H10.out.below (Nat.le_refl _)).reads).mono ?_; rintro e w11 ⟨he, q, hq⟩; rw [decide_eq_true (rfl : b = b)] at he; subst he; have H11 := hide (H10.out.grow (show Below w10.heap.size w10 w11 by rw [hq]; exact below_drewN (Below.refl _ _) q)); clear hq)
      | (go_at_call 37; refine H11.out.usedS.mono ?_; rintro e wv ⟨rfl, hwv⟩; obtain rfl : w11 = wv := hwv.symm; rw [HU.out])
      | fail)
    go_ret
    exact ⟨rfl, HB1.out.trans (H11.out.below.mono HB1.out.size)⟩
  · have HK := hide hk
    clear hk
    have hne := fun W => neq_nilD (p 8) W
    unfold errV at hne
    simp only [errR]
    unfold errV
    go_wp2_with (first
      | (go_at_call 12; refine (ptRead_kept H7.out p HS1.out HT1.out (by omega) [112] (by decide) a na HNA.out (by omega) HK.out).mono ?_; rintro e w10 ⟨A10, c10, rfl, ha10, hb10⟩; have HA10 := hide ha10; have H10 := hide (H7.out.grow hb10); clear ha10 hb10)
      | (go_at_call 13; refine (sameBytes_any A10 Aa c10 ca na na a a w10 HNA.out HNA.out (by omega) (by omega) HA10.out.reads (HAA.out.below H10.out.below (Nat.le_refl _)).reads).mono ?_; rintro e w11 ⟨he, q, hq⟩; rw [decide_eq_true (rfl : a = a)] at he; subst he; have H11 := hide (H10.out.grow (show Below w10.heap.size w10 w11 by rw [hq]; exact below_drewN (Below.refl _ _) q)); clear hq)
      | fail)
    go_ret
    exact ⟨rfl, HB1.out.trans (H11.out.below.mono HB1.out.size)⟩
end Go.Proofs.YtfjanenooembkaaDoor

namespace Go.Proofs.YtfjanenooembkaaDoor.PFullLaw
open Go.Proofs.YtfjanenooembkaaDoor
open Go.RowKit Go.ChangeShapes Go.WideShapes Go.ChangeAt

set_option maxRecDepth 100000 in
theorem lifted (os : Os) (started : os.Started) (H : Type) (enc : TypeId × Value → H) :
    ReturnsInHanded {} Tryd.checked os 8 .any (fun w args => (Rows.pointFullSpec.pre enc Tryd.prog Tryd.f8 [] false w args ∧ laidMetH Tryd.prog laidP w) ∧ sizedMet enc Tryd.prog Tryd.f8 (OpenSpec.ofChange Rows.pointFullSpec) false w args)
      (Rows.pointFullSpec.post enc Tryd.prog Tryd.f8 false true false false) := by
  refine returnsInHanded_of_change_and (C := Tryd.checked) (X := fun w _ => laidMetH Tryd.prog laidP w) (fun _ _ _ hh h => h.of_heap hh) own started (by kernel_rfl) Tryd.func8
    (ChangeSpec.witness_shaped (enc := enc) (C := Tryd.checked) (os := os) (X := fun w _ => laidMetH Tryd.prog laidP w) false (World.doorLaid Tryd.prog 400 os) #[.slice none 0 0, .slice none 0 0, .int .i64 0] 8 rfl (World.shaped_of_RefB (by kernel_rfl) (by kernel_rfl)) (by kernel_rfl) (by kernel_rfl) (by kernel_rfl) (door_met_p os _)) ?_
  intro W base args ds gs before hval0 hW _ _ hL _
  have hval : ∀ (j : Nat) t v, Tryd.f8.params[j]? = some t → args[j]? = some v → Value.okWide Tryd.prog W .any base t v := hval0
  have hW' := hW
  obtain ⟨p, q, hA0, hV, rfl, hfz, hnd⟩ := hW
  have hA : DataW.TrodAll enc Tryd.prog W 0 (fun _ => true) true Tryd.f8.params.toList args.toList ds p := hA0
  rw [Tryd.params8] at hA hval
  obtain ⟨v0, vs0, d0, ds0, p0, q0, hargs, rfl, rfl, h0, r0⟩ := trodAll_cons hA
  obtain ⟨v1, vs1, d1, ds1, p1, q1, rfl, rfl, rfl, h1, r1⟩ := trodAll_cons r0
  obtain ⟨v2, vs2, d2, ds2, p2, q2, rfl, rfl, rfl, h2, r2⟩ := trodAll_cons r1
  obtain ⟨rfl, rfl, rfl⟩ := trodAll_nil r2
  obtain rfl : args = #[v0, v1, v2] := by cases args; simp_all
  obtain ⟨rfl, rfl⟩ := trodVars_none hV
  obtain ⟨a0, len0, cap0, rfl⟩ := okWide_slice Tryd.underlying22 (hval 0 22 v0 rfl rfl)
  have k0 := h0
  have lt0 : ∀ x ∈ p0, x.block < W.heap.size := by obtain ⟨m, hm⟩ := k0; exact DataW.trod_lt m _ _ _ hm
  obtain ⟨l0, rfl, w0⟩ := arg_of h0
  obtain ⟨a1, len1, cap1, rfl⟩ := okWide_slice Tryd.underlying22 (hval 1 22 v1 rfl rfl)
  have k1 := h1
  have lt1 : ∀ x ∈ p1, x.block < W.heap.size := by obtain ⟨m, hm⟩ := k1; exact DataW.trod_lt m _ _ _ hm
  obtain ⟨l1, rfl, w1⟩ := arg_of h1
  obtain ⟨a2, rfl, rfl, rfl, w2⟩ := open_int Tryd.underlying3 (hval 2 3 v2 rfl rfl) h2
  have hb2 := bounds_i64 w2
  clear hA0 hval0
  have htab := tabs_of_p hL
  obtain ⟨ps, hsent⟩ := sents_of_p hL
  refine (pointFull_any W ps hsent htab a0 a1 cap0 cap1 _ _ l0 l1 a2 rfl rfl w0 w1 hb2).mono fun e W' ⟨he, bel⟩ => ?_
  subst he
  exact ⟨_, rfl, _, _, _, [], _, [], hW', trodAll_mk1 (shut_bool Tryd.underlying4 _), (trodAll_cons_mk (Below.trod laidOut (by kernel_rfl) (of_decide_eq_true (by kernel_rfl)) k0 bel lt0) (trodAll_cons_mk (Below.trod laidOut (by kernel_rfl) (of_decide_eq_true (by kernel_rfl)) k1 bel lt1) (trodAll_cons_mk (shut_int Tryd.underlying3 w2) trodAll_mk0))), rfl, bel.frame _, fun h => by cases h⟩

theorem row : Rows.PointFullSaid :=
  OpenClaim.holds_of_wide 8 Tryd.f8 rfl rfl rfl rfl rfl rfl rfl ⟨rfl, rfl, rfl, rfl, rfl⟩ rfl rfl rfl rfl rfl (by kernel_rfl) Tryd.func8 (by kernel_rfl)
    (of_decide_eq_true (by kernel_rfl)) (by unfold Func.isWrapper; first | (rw [if_pos (by decide +kernel)]; kernel_rfl) | (rw [if_neg (by decide +kernel)]; exact ⟨rfl, rfl⟩))
    (fun os started H enc _ => lifted os started H enc)

theorem proved : Rows.PointFullCardSaid :=
  Claim7.holds_tied_plain_at .later [] _ true _ true
    row (fun _ h => by cases h) (by kernel_rfl) (fun _ h => by cases h) pointFull_row_tie rfl ⟨rfl, rfl⟩ (by kernel_rfl) rfl
    (fun f fn hf hfn => by
      obtain rfl : f = 8 := Option.some.inj ((show Tryd.prog.funcNamed "cordwood/cordwoodlaw8.PointFull" = some 8 by kernel_rfl).symm.trans hf) |>.symm
      obtain rfl : fn = Tryd.f8 := (Option.some.inj (Tryd.func8.symm.trans hfn)).symm
      exact ⟨by kernel_rfl, fun j t ht => by
        rw [Tryd.params8] at ht
        have hm : t ∈ [22, 22, 3] := by simpa using Array.mem_of_getElem? ht
        have hall : ([22, 22, 3].all fun u => !Tryd.prog.wantsStandIn u) = true := by kernel_rfl
        exact (show Tryd.prog.wantsStandIn t = false by simpa using List.all_eq_true.1 hall t hm)⟩)
    (by kernel_rfl)
end Go.Proofs.YtfjanenooembkaaDoor.PFullLaw
